import PyProof.Rows.All
import Wide.All
import OpenK.AllK
import Wide.FinOn
import Lean
import PyProof.EqAt
import PyProof.EqKinds
import PyProof.TupleCall
import PyProof.ConsumeS
import PySem.Challenge.RW_cordbook_k20_whole_sum_of_many
set_option Elab.async false
set_option linter.all false
set_option maxRecDepth 100000
set_option genSizeOf false
set_option compiler.extract_closed false
set_option bootstrap.genMatcherCode false
noncomputable section
theorem gV:type_of% @Bool.false_eq_true:=@Bool.false_eq_true
theorem bf:type_of% @PySem.wpAny_bind:=@PySem.wpAny_bind
theorem dz:type_of% @List.length_map:=@List.length_map
theorem gm:type_of% @List.length_cons:=@List.length_cons
theorem jw:type_of% @Bool.false_ne_true:=@Bool.false_ne_true
theorem fu:type_of% @List.map_cons:=@List.map_cons
theorem az:type_of% @if_neg:=@if_neg
theorem b_:type_of% @if_true:=@if_true
theorem bp:type_of% @if_pos:=@if_pos
theorem qa:type_of% @PySem.Heap.get?_push_of_some:=@PySem.Heap.get?_push_of_some
theorem fg:type_of% @PySem.wpAny_pure:=@PySem.wpAny_pure
theorem o_:type_of% @List.mem_cons_of_mem:=@List.mem_cons_of_mem
theorem fm:type_of% @Nat.le_refl:=@Nat.le_refl
theorem df:type_of% @if_false:=@if_false
theorem uc:type_of% @List.getElem?_eq_getElem:=@List.getElem?_eq_getElem
theorem ny:type_of% @List.length_nil:=@List.length_nil
theorem rj:type_of% @List.length_append:=@List.length_append
theorem kc:type_of% @PySem.Heap.lt_size:=@PySem.Heap.lt_size
theorem qc:type_of% @Bool.and_eq_true:=@Bool.and_eq_true
theorem si:type_of% @List.mem_cons_self:=@List.mem_cons_self
theorem rz:type_of% @List.size_toArray:=@List.size_toArray
theorem oz:type_of% @List.mem_cons:=@List.mem_cons
theorem ud:type_of% @Option.some.inj:=@Option.some.inj
theorem Ab:type_of% @PySem.Heap.get?_push_size:=@PySem.Heap.get?_push_size
theorem qb:type_of% @Nat.zero_add:=@Nat.zero_add
theorem qe:type_of% @Nat.le_trans:=@Nat.le_trans
theorem AW:type_of% @List.getElem?_set_ne:=@List.getElem?_set_ne
theorem yn:type_of% @List.getElem_mem:=@List.getElem_mem
theorem D4:type_of% @List.take_succ_eq_append_getElem:=@List.take_succ_eq_append_getElem
theorem Dd:type_of% @List.getElem?_append_right:=@List.getElem?_append_right
theorem Bh:type_of% @List.map_congr_left:=@List.map_congr_left
theorem Cg:type_of% @List.getElem?_set_self:=@List.getElem?_set_self
theorem AA:type_of% @List.getElem?_map:=@List.getElem?_map
theorem De:type_of% @List.getElem?_append_left:=@List.getElem?_append_left
theorem Bi:type_of% @Nat.lt_of_lt_of_le:=@Nat.lt_of_lt_of_le
theorem Ac:type_of% @List.map_append:=@List.map_append
theorem Al:type_of% @decide_eq_false:=@decide_eq_false
theorem jt:type_of% @Ne.symm:=@Ne.symm
theorem vj:type_of% @List.map_map:=@List.map_map
theorem CL:type_of% @List.mem_append_right:=@List.mem_append_right
theorem Ad:type_of% @decide_eq_true:=@decide_eq_true
theorem Bj:type_of% @List.length_take:=@List.length_take
theorem Bk:type_of% @List.take_length:=@List.take_length
theorem Bs:type_of% @List.lookup_cons:=@List.lookup_cons
theorem yv:type_of% @Nat.ne_of_lt:=@Nat.ne_of_lt
theorem Bt:type_of% @List.find?_cons:=@List.find?_cons
theorem Bu:type_of% @List.mem_append:=@List.mem_append
theorem Bv:type_of% @List.nodup_nil:=@List.nodup_nil
theorem CM:type_of% @PySem.wpAny_call_entry:=@PySem.wpAny_call_entry
theorem Ci:type_of% @List.append_nil:=@List.append_nil
theorem DL:type_of% @List.set_cons_succ:=@List.set_cons_succ
theorem Am:type_of% @PySem.wpAny_field:=@PySem.wpAny_field
theorem FP:type_of% @List.mem_of_getElem?:=@List.mem_of_getElem?
theorem Bl:type_of% @List.map_nil:=@List.map_nil
theorem DM:type_of% @PySem.wpAny_newObj_type:=@PySem.wpAny_newObj_type
theorem Ge:type_of% @PySem.Heap.get?_update_other:=@PySem.Heap.get?_update_other
theorem DN:type_of% @decide_eq_true_eq:=@decide_eq_true_eq
theorem Ae:type_of% @PySem.wpAny_mono:=@PySem.wpAny_mono
theorem D5:type_of% @List.set_cons_zero:=@List.set_cons_zero
theorem Df:type_of% @List.range_succ:=@List.range_succ
theorem I0:type_of% @PySem.wpAny_callSpecial?_slot:=@PySem.wpAny_callSpecial?_slot
theorem DO:type_of% @List.not_mem_nil:=@List.not_mem_nil
theorem DP:type_of% @Option.bind_some:=@Option.bind_some
theorem Cj:type_of% @Nat.lt_irrefl:=@Nat.lt_irrefl
theorem D6:type_of% @Int.toNat_natCast:=@Int.toNat_natCast
theorem FQ:type_of% @PySem.wpAny_setField_rec:=@PySem.wpAny_setField_rec
theorem Gf:type_of% @PySem.mem_of_lookup:=@PySem.mem_of_lookup
theorem Gg:type_of% @List.flatten_append:=@List.flatten_append
theorem I_:type_of% @List.getElem?_eq_none:=@List.getElem?_eq_none
theorem Ck:type_of% @List.mem_map:=@List.mem_map
theorem Gh:type_of% @List.mem_singleton:=@List.mem_singleton
theorem Kc:type_of% @List.take_of_length_le:=@List.take_of_length_le
theorem MW:type_of% @List.drop_eq_getElem_cons:=@List.drop_eq_getElem_cons
theorem Kd:type_of% @List.length_replicate:=@List.length_replicate
theorem Ke:type_of% @List.perm_append_comm:=@List.perm_append_comm
theorem Qd:type_of% @PySem.F.slot_dict_itemiterator_next:=@PySem.F.slot_dict_itemiterator_next
theorem Dg:type_of% @Nat.ne_of_gt:=@Nat.ne_of_gt
theorem Ja:type_of% @Nat.lt_of_le_of_lt:=@Nat.lt_of_le_of_lt
theorem MX:type_of% @List.getElem?_replicate:=@List.getElem?_replicate
theorem Gi:type_of% @List.mem_flatMap:=@List.mem_flatMap
theorem D7:type_of% @List.any_cons:=@List.any_cons
theorem Jb:type_of% @List.flatMap_cons:=@List.flatMap_cons
theorem Jc:type_of% @Function.comp_def:=@Function.comp_def
theorem FR:type_of% @List.mem_range:=@List.mem_range
theorem Jd:type_of% @List.append_assoc:=@List.append_assoc
theorem Kf:type_of% @Option.some_ne_none:=@Option.some_ne_none
theorem Kg:type_of% @Nat.add_le_add_left:=@Nat.add_le_add_left
theorem Kh:type_of% @List.flatMap_append:=@List.flatMap_append
theorem Nz:type_of% @Classical.byContradiction:=@Classical.byContradiction
theorem MY:type_of% @PySem.Heap.get?_update_self:=@PySem.Heap.get?_update_self
theorem Je:type_of% @List.cons_append:=@List.cons_append
theorem Jf:type_of% @List.length_drop:=@List.length_drop
theorem Jg:type_of% @Nat.lt_succ_self:=@Nat.lt_succ_self
theorem Ki:type_of% @PySem.Obj.data_mapFields:=@PySem.Obj.data_mapFields
theorem Kj:type_of% @List.pairwise_cons:=@List.pairwise_cons
theorem FU:type_of% @PySem.wpAny_holding:=@PySem.wpAny_holding
theorem D8:type_of% @decide_false:=@decide_false
theorem DQ:type_of% @Nat.zero_le:=@Nat.zero_le
theorem Jh:type_of% @List.length_set:=@List.length_set
theorem Ji:type_of% @Nat.not_lt_zero:=@Nat.not_lt_zero
theorem Jj:type_of% @List.nodup_cons:=@List.nodup_cons
theorem D9:type_of% @Sum.inl.inj:=@Sum.inl.inj
theorem Gj:type_of% @PySem.Paired.length:=@PySem.Paired.length
theorem D_:type_of% @PySem.sizeLine_eq:=@PySem.sizeLine_eq
theorem Kk:type_of% @List.cons.injEq:=@List.cons.injEq
theorem Kl:type_of% @List.foldl_cons:=@List.foldl_cons
namespace L2
open PySem PySem.Spec PyProof.Rows
def qx(s:Stmt):Arguments:=match s with
 |.FunctionDef _ a _ _ _ _ _ _ _ _=>a
 |_=>{posonlyargs:=[],args:=[],vararg:=none,kwonlyargs:=[],kw_defaults:=[],kwarg:=none,defaults:=[]}
def l_(s:Stmt):List Stmt:=match s with
 |.FunctionDef _ _ b _ _ _ _ _ _ _=>b
 |_=>[]
def de(s:Stmt):Scope:=match s with
 |.FunctionDef _ _ _ _ _ _ sc _ _ _=>sc
 |_=>{kind:=.function,names:=[],isGenerator:=false,isCoroutine:=false}
end L2
namespace L
open PySem PySem.Spec PyProof.Rows L2
def ta:Nat->Nat×Str×Nat×List Str
 |0=>(5,"ends",2,["sheet","line","places","at","crossing","end"])
 |1=>(6,"split",3,["sheet","at","way","crossing","pairs"])
 |2=>(7,"crossing_at",2,["sheet","at"])
 |3=>(8,"line_at",2,["crossings","place"])
 |4=>(9,"opposite",1,["place"])
 |5=>(10,"numbered",2,["crossings","rings","numbers","told","crossing","line"])
 |6=>(11,"without",2,["crossings","gone"])
 |7=>(12,"joined",3,["crossings","rings","pairs","left","waiting","kept","lost"])
 |8=>(13,"renamed",3,["rows","old","new"])
 |9=>(16,"rounds",1,["sheet","walked","told","line","lines","each"])
 |10=>(17,"strands",1,["sheet"])
 |11=>(18,"twist",1,["sheet"])
 |12=>(19,"round_of",2,["sheet","least","start","lines","place"])
 |13=>(20,"turn",2,["sheet","at","place"])
 |14=>(21,"onward",2,["sheet","place"])
 |15=>(22,"along",2,["sheet","place","places"])
 |16=>(26,"total",1,["sheet","powers"])
 |17=>(27,"straight",1,["sheet","turns","sign"])
 |18=>(28,"split_up",1,["sheet","counts","crossing"])
 |19=>(29,"split_once",1,["counts","found","state","number","way"])
 |20=>(30,"sums_by_rings",1,["counts","found","state","number"])
 |21=>(31,"summed",1,["by_rings","powers","rings","added","power","number"])
 |22=>(32,"times_ring",1,["powers","found","power","number","more"])
 |23=>(33,"add_to",3,["counts","key","number"])
 |24=>(35,"_law_cell_at",2,["script","k"])
 |25=>(36,"_law_pick",2,["script","k"])
 |26=>(37,"_law_rows",4,["script","start","many","fixed","owner","k","left","name","at"])
 |27=>(38,"_law_numbered",1,["rows","names","row","name","found"])
 |28=>(39,"_law_whole",1,["x"])
 |29=>(40,"_law_mate",2,["rows","place","line","k","e"])
 |30=>(41,"_law_twist",1,["rows","found","at","place"])
 |31=>(42,"_law_rings",1,["pairs","left","found","two","other","e"])
 |32=>(43,"_law_ways",1,["many","ways","k"])
 |33=>(44,"_law_choices",1,["rings","row","k","more","e"])
 |34=>(45,"_law_add",3,["found","power","rings","row","e","at"])
 |35=>(46,"_law_total",2,["rows","rings","found","way","pairs","k","row"])
 |36=>(47,"_law_listed",3,["found","shift","sign"])
 |37=>(48,"_law_second",2,["rows","line","found","k","e"])
 |38=>(49,"_law_put",3,["rows","place","line","row"])
 |39=>(50,"_law_curl",4,["way","line","new","loop"])
 |40=>(51,"_law_laid",4,["rows","upper","lower","way","new","due","pair"])
 |41=>(52,"_law_grown",3,["rows","cell","room","many","line","other","due"])
 |42=>(53,"_law_alike",2,["found","due","k"])
 |43=>(54,"law",1,["script","rows","rings","w","due","pairs","row","count","step","found","raised"])
 |_=>(0,"",0,[])
abbrev nm(i:Nat):Str:=(ta i).2.1
abbrev Nn(i:Nat):List Str:=(ta i).2.2.2
abbrev Ps(i:Nat):List Str:=(Nn i).take (ta i).2.2.1
abbrev sT(i:Nat):Stmt:=PySem.Challenge.pw_cordbook_k20_whole_sum_of_many.main.body.getD (ta i).1 (.Pass ⟨0,0,0,0⟩)
abbrev Ta:List Value:=[.type "ValueError",.type "Exception",.type "BaseException",.type "object"]
def bl:List Str:=["bool","enumerate","int","isinstance","len","list","max","range","sorted","sum","tuple"]
abbrev FH(K:W.Frag)(i:Nat):Prop:=∃(f:Addr)(oc kV dc pm cd ct:Value)(od an:Option Addr)(sl:Array (Option Value)),W.nsIn K mainGlobals (nm i)=some (some (.ref f))/\K.lookup f=some ⟨oc,od,.func (W.fnOf (nm i) (nm i) (qx (sT i)) (l_ (sT i)) (de (sT i)) .none kV dc pm an cd ct),sl⟩/\W.codeIn K cd (nm i)=true/\W.keepIn K (.ref f)=true
abbrev UR(K:W.Frag)(C:Addr):Prop:=(W.findIn K (.ref C) "__getattribute__"=some (some (.builtin "BaseException.__getattribute__"))/\W.findIn K (.ref C) "__getattr__"=some none)/\W.findIn K (.ref C) "__class__"=some (some (.builtin "object.__class__"))/\W.mroIn K C (.type "object")=some true/\W.mroIn K C (.type "BaseException")=some true
abbrev qq:Program:=W.view PySem.Challenge.pw_cordbook_k20_whole_sum_of_many [1,2,4,5,6,7,8,9,10,11,12,13,15,16,17,18,19,20,21,22,24,25,26,27,28,29,30,31,32,33,35,36,37,38,39,40,41,42,43,44,45,46,47,48,49,50,51,52,53,54]
def Fx(K:W.Frag):Prop:=∃(C0:Addr)(NA:ClassData),specOf qq "NoPlace"=some ("ValueError.__new__",Ta)/\(∀i,i<44->FH K i)/\(∀i,i<11->W.nsIn K mainGlobals (bl.getD i "")=some none)/\(W.nsIn K mainGlobals "NoPlace"=some (some (.ref C0))/\W.specialIn K (.builtin "object.__class__") "__get__"=some (some (.builtin "getset_descriptor.__get__"))/\W.takesIn K (.builtin "object.__class__")=some true/\UR K C0/\W.clsIn K C0=some NA/\W.typeIn K (.ref C0)=some (.type "type")/\W.subIn K (.ref C0) (.ref C0)=some true)/\(∃(kz:Addr)(qf:Option Addr)(qg:Array (Option Value))(qh:Nat)(jl jm:Tok),W.nsIn K mainGlobals "RING_POWERS"=some (some (.ref kz))/\K.lookup kz=some ⟨.type "tuple",qf,.seq #[.int (2) jl,.int (-2) jm] qh,qg⟩)/\(∃(vk:Addr)(AB:Option Addr)(AD:Array (Option Value))(AE:Nat)(qj qk:Tok),W.nsIn K mainGlobals "SHIFTS"=some (some (.ref vk))/\K.lookup vk=some ⟨.type "tuple",AB,.seq #[.int (1) qj,.int (-1) qk] AE,AD⟩)/\(∃(ql:Addr)(wm:Option Addr)(wq:Array (Option Value))(wt:Nat)(mf:Addr)(wu:Option Addr)(wx:Array (Option Value))(wz:Nat)(mh:Addr)(w_:Option Addr)(xa:Array (Option Value))(xb:Nat)(xf:Tok)(xg:Tok)(mi:Addr)(xh:Option Addr)(xi:Array (Option Value))(xj:Nat)(xk:Tok)(xl:Tok)(mj:Addr)(xm:Option Addr)(xo:Array (Option Value))(xp:Nat)(mq:Addr)(xq:Option Addr)(xr:Array (Option Value))(xt:Nat)(ue:Tok)(uf:Tok)(kq:Addr)(ug:Option Addr)(uh:Array (Option Value))(ui:Nat)(uj:Tok)(uk:Tok),W.nsIn K mainGlobals "SPLITS"=some (some (.ref ql))/\K.lookup ql=some ⟨.type "tuple",wm,.seq #[.ref mf,.ref mj] wt,wq⟩/\K.lookup mf=some ⟨.type "tuple",wu,.seq #[.ref mh,.ref mi] wz,wx⟩/\K.lookup mh=some ⟨.type "tuple",w_,.seq #[.int (0) xf,.int (1) xg] xb,xa⟩/\K.lookup mi=some ⟨.type "tuple",xh,.seq #[.int (2) xk,.int (3) xl] xj,xi⟩/\K.lookup mj=some ⟨.type "tuple",xm,.seq #[.ref mq,.ref kq] xp,xo⟩/\K.lookup mq=some ⟨.type "tuple",xq,.seq #[.int (0) ue,.int (3) uf] xt,xr⟩/\K.lookup kq=some ⟨.type "tuple",ug,.seq #[.int (1) uj,.int (2) uk] ui,uh⟩)/\(∃(yw:Addr)(Bw:Option Addr)(Bx:Array (Option Value))(By:Nat)(sj sk sr sv:Tok),W.nsIn K mainGlobals "TURNS"=some (some (.ref yw))/\K.lookup yw=some ⟨.type "tuple",Bw,.seq #[.int (0) sj,.int (-1) sk,.int (0) sr,.int (1) sv] By,Bx⟩)
end L
section
open PySem PySem.W PyProof.Rows
set_option hygiene false in
local macro_rules | `(tactic| o_head $H) => `(tactic| (refine holds_open (N := 6000) (loose := []) (q := (view PySem.Challenge.pw_cordbook_k20_whole_sum_of_many [1, 2, 4, 5, 6, 7, 8, 9, 10, 11, 12, 13, 15, 16, 17, 18, 19, 20, 21, 22, 24, 25, 26, 27, 28, 29, 30, 31, 32, 33, 35, 36, 37, 38, 39, 40, 41, 42, 43, 44, 45, 46, 47, 48, 49, 50, 51, 52, 53, 54])) (XP := XL (view PySem.Challenge.pw_cordbook_k20_whole_sum_of_many [1, 2, 4, 5, 6, 7, 8, 9, 10, 11, 12, 13, 15, 16, 17, 18, 19, 20, 21, 22, 24, 25, 26, 27, 28, 29, 30, 31, 32, 33, 35, 36, 37, 38, 39, 40, 41, 42, 43, 44, 45, 46, 47, 48, 49, 50, 51, 52, 53, 54]) []) (YP := Hook.says $H) (Yf := Hook.obs $H) (Ya := Hook.val $H) (Xt := fun s => xlAt (view PySem.Challenge.pw_cordbook_k20_whole_sum_of_many [1, 2, 4, 5, 6, 7, 8, 9, 10, 11, 12, 13, 15, 16, 17, 18, 19, 20, 21, 22, 24, 25, 26, 27, 28, 29, 30, 31, 32, 33, 35, 36, 37, 38, 39, 40, 41, 42, 43, 44, 45, 46, 47, 48, 49, 50, 51, 52, 53, 54]) [] s && recOk (RowW.records (OpenRow.toRowW (OpenLaw.row PySem.Challenge.rw_cordbook_k20_whole_sum_of_many))) s) ?hl (Hook.of $H) (Hook.keeps $H) (fun s e => xl_of s (Bool.and_eq_true_iff.mp e).1) XL.keeps (by rfl) (by rfl) (by rfl) (fun s e => recFacts_of (Bool.and_eq_true_iff.mp e).2) (by rfl) (by first | assumption | decide +kernel) (by decide +kernel) ⟨rfl, rfl, rfl, rfl, rfl, by decide +kernel⟩ ?hw ?hc; case hl => (intro w; kernel_rfl)))
set_option maxRecDepth 100000 in
set_option maxHeartbeats 0 in
theorem L.beg (call : ∀ {XP : (Str → Option Value) → Heap → Prop} {YP : World → Heap → Prop} {d : DefRec} {K : Params → W.Frag}, d.name = "law" → d.params.defaults = [] → (∀ (w : World) (h : Heap), YP w h → (K w.params).In h) → (∀ p, L.Fx (K p)) →
  W.WalkO L.qq [] XP YP PySem.Challenge.rw_cordbook_k20_whole_sum_of_many.row.toRowW d [] fun f vs => PySem.call f vs) : PySem.Challenge.rw_cordbook_k20_whole_sum_of_many.Holds := by
 w_on; (refine holds_law ?_ fun said => ?_); (unfold OpenLaw.wellSaid OpenRow.wellSaid OpenRow.partSaid looksOpen; (repeat' (with_reducible refine look_both ?_ ?_)) <;> decide +kernel); k_head; (case hw => w_witness2)
 k_fill
 refine call rfl rfl (fun w h Y => W.kIn_of Y) fun p => ?_
 refine ⟨_, _, by first | rfl | decide +kernel, ?hF, ?hB, ⟨by k_is, by k_is, by k_is, ⟨⟨by k_is, by k_is⟩, by k_is, by k_is, by k_is⟩, by k_is, by k_is, by k_is⟩, ⟨_, _, _, _, _, _, by k_is, by k_is⟩, ⟨_, _, _, _, _, _, by k_is, by k_is⟩, ⟨_, _, _, _, _, _, _, _, _, _, _, _, _, _, _, _, _, _, _, _, _, _, _, _, _, _, _, _, _, _, _, _, _, _, _, _, by k_is, by k_is, by k_is, by k_is, by k_is, by k_is, by k_is, by k_is⟩, ⟨_, _, _, _, _, _, _, _, by k_is, by k_is⟩⟩
 case hF =>
  intro i hi
  match i, hi with
  | 0, _ | 1, _ | 2, _ | 3, _ | 4, _ | 5, _ | 6, _ | 7, _ | 8, _ | 9, _ | 10, _ | 11, _ | 12, _ | 13, _ | 14, _ | 15, _ | 16, _ | 17, _ | 18, _ | 19, _ | 20, _ | 21, _ | 22, _ | 23, _ | 24, _ | 25, _ | 26, _ | 27, _ | 28, _ | 29, _ | 30, _ | 31, _ | 32, _ | 33, _ | 34, _ | 35, _ | 36, _ | 37, _ | 38, _ | 39, _ | 40, _ | 41, _ | 42, _ | 43, _ =>
   exact ⟨_, _, _, _, _, _, _, _, _, _, by k_is, by k_is, by k_is, by k_is⟩
  | n + 44, h => exact absurd h (by omega)
 case hB =>
  intro i hi
  match i, hi with
  | 0, _ | 1, _ | 2, _ | 3, _ | 4, _ | 5, _ | 6, _ | 7, _ | 8, _ | 9, _ | 10, _ => show _ = _; k_is
  | n + 11, h => exact absurd h (by omega)
end
namespace PySem
open Sem (wp)
inductive NK where
 |int (i:Int)
 |tup (l:List NK)
noncomputable instance:DecidableEq NK:=λa b=>Classical.propDecidable (a=b)
mutual
inductive qm(h:Heap):NK->Value->Prop
 |int (i:Int) (t:Tok):qm h (.int i) (.int i t)
 |tup {l:List NK} {a:Addr} {o:Obj} {items:Array Value} {n} (ho:h.get? a=some o) (hc:o.cls=.type "tuple") (hd:o.data=.seq items n) (hl:jx h l items.toList):qm h (.tup l) (.ref a)
inductive jx(h:Heap):List NK->List Value->Prop
 |nil:jx h [] []
 |cons {k:NK} {v:Value} {ks:List NK} {vs:List Value} (h1:qm h k v) (h2:jx h ks vs):jx h (k::ks) (v::vs)
end
mutual
theorem qm.inj:∀{x y:NK}{v:Value},qm h x v->qm h y v->x=y
 |_,_,_,.int i t,q=>by cases q;rfl
 |_,_,_,.tup ho hc hd hl,q=>by
  cases q with
  |tup An Km Qe Jk=>
   rw[ho] at An;cases An;rw[hd] at Qe;cases Qe;rw[jx.inj hl Jk]
theorem jx.inj:∀{x y:List NK}{v:List Value},jx h x v->jx h y v->x=y
 |_,_,_,.nil,q=>by cases q;rfl
 |_,_,_,.cons h1 h2,q=>by
  cases q with
  |cons QV Kn=>rw[qm.inj h1 QV,jx.inj h2 Kn]
end
variable{prog:Program}{w:World}
mutual
noncomputable def vm(prog:Program)(w:World):NK->Int
 |.int i=>(intKind prog w).hash i
 |.tup l=>reduceHash (Builtin.Tuple.tupleHashOf (k_ prog w l))
noncomputable def k_(prog:Program)(w:World):List NK->List Int
 |[]=>[]
 |k::ks=>vm prog w k::k_ prog w ks
end
mutual
noncomputable def qy:NK->Nat
 |.int _=>1
 |.tup l=>gn l+1
noncomputable def gn:List NK->Nat
 |[]=>0
 |k::ks=>qy k+gn ks
end
mutual
noncomputable def gz:NK->Nat
 |.int _=>0
 |.tup l=>kr l+1
noncomputable def kr:List NK->Nat
 |[]=>0
 |k::ks=>max (gz k) (kr ks)
end
theorem fQ(h:k∈l):gz k<=kr l:=by
 induction l with
 |nil=>cases h
 |cons x l ih=>
  rw[kr];rcases List.mem_cons.mp h with rfl|h
  ·omega
  ·have:=ih h;omega
variable{E:Value->Shared->Prop}
theorem fR{P:NK->Prop}(h1:∀i,P (.int i))(h2:∀l,(∀k∈l,P k)->P (.tup l))(k:NK):P k:=
 NK.rec (motive_1:=P) (motive_2:=λl=>∀k∈l,P k) h1 (λl ih=>h2 l ih) (λk hk=>nomatch hk) (λk l US UT x hx=>by
  rcases List.mem_cons.mp hx with rfl|hx
  ·exact US
  ·exact UT x hx) k
theorem eK(l:List NK):k_ prog w l=l.map (vm prog w):=by
 induction l with
 |nil=>rfl
 |cons k l ih=>rw[k_,ih];rfl
theorem kP(l:List NK)(k:NK):gn (l++[k])=gn l+qy k:=by
 induction l with
 |nil=>simp[gn]
 |cons x l ih=>rw[Je,gn,ih,gn];omega
theorem qP(i:Int)(t:Tok):(intKind prog w).is i (.int i t)=true:=by simp[intKind,Value.isInt]
end PySem
namespace PySem
open Sem (wp)
variable{prog:Program}{w:World}{E:Value->Shared->Prop}
theorem qm.Qf{s:Shared}(q:qm s.heap (.tup l) v):s.TypeIs v "tuple":=by
 cases q with
 |tup ho hc hd hl=>exact⟨_,ho,hc⟩
theorem Gk(k:NK):∀{A:Around}{s:Shared}{v:Value}{Q:Int->Shared->Prop},A.units+gz k<cLine->qm s.heap k v->Q (vm prog w k) {s with toks:=s.toks+qy k}->
  wpAny (model prog w) A (pyHash v) Q E s:=by
 induction k using fR with
 |h1 i=>
  intro A s v Q _ q h;cases q;exact(intKind prog w).pyHash (k:=i) (qP i _) h
 |h2 l ih=>
  intro A s v Q room q h;have ty:=q.Qf;rw[gz] at room
  cases q with
  | @tup _ a o its n ho hc hd hl=>
  unfold pyHash
  first|unfold pyHashByItsType|skip
  first|refine bf (wpAny_cRoomFor_or (.inr (by omega)) ?_)|skip
  refine bf (wpAny_specialOf ty F.slot_tuple_hash.lookup ?_);show wpAny _ _ (if(some (Value.builtin "tuple.__hash__")==some Value.none)=true then _ else _) Q E s;rw[az (by rw[beq_builtin_none];decide)];refine bf (wpAny_specialOf ty F.slot_tuple_hash.lookup ?_);show wpAny _ _ (callSpecialIfBoundUnlessNone? (.ref a) "__hash__" _>>=_) Q E s;refine bf (wpAny_callSpecialIfBoundUnlessNone?_slot ty F.slot_tuple_hash (CM F.slot_tuple_hash ty F.entry_tuple_hash ?_ (F.args_tuple_hash_1 _)));show wpAny _ _ (Builtin.Tuple.tupleItemsOf (.ref a)>>=_) _ _ s;refine bf (wpAny_tupleItemsOf ho hd ?_);refine bf ?_;rw[←Array.forIn_toList];refine wpAny_forIn_list _ (λrest (b:Array Int) s'=>∃pre post,l=pre++post/\jx s.heap post rest/\b.toList=k_ prog w pre/\s'={s with toks:=s.toks+gn pre}) _ ?_ ?_ _ _ ⟨[],l,rfl,hl,rfl,rfl⟩
  ·rintro x rest b s' ⟨pre,post,e,hp,hb,rfl⟩
   cases hp with
   | @cons k _ ks _ q1 q2=>
    have mk:k∈l:=by rw[e];simp
    have Tb:=fQ mk;have step:∃Ko Jl,l=Ko++Jl/\jx s.heap Jl rest/\(b.push (vm prog w k)).toList=k_ prog w Ko/\({s with toks:=s.toks+gn pre+qy k}:Shared)={s with toks:=s.toks+gn Ko}:=
     ⟨pre++[k],ks,by rw[e];simp,q2,by rw[Array.toList_push,hb,eK,eK];simp,by rw[kP,Nat.add_assoc]⟩
    refine bf (ih k mk (s:={s with toks:=s.toks+gn pre}) (by show A.units+1+gz k<cLine;omega) q1 ?_)
    first
     |exact fg step
     |exact bf (fg (fg step))
  ·rintro b s' ⟨pre,post,e,hp,hb,rfl⟩
   cases hp;rw[Ci] at e;subst e;show wpAny _ _ (retInt (Builtin.Tuple.tupleHashOf b.toList)) _ _ _;rw[hb];refine wpAny_ret_mkInt ?_;rw[vm,qy] at h;unfold reduceHash at h;generalize Builtin.Tuple.tupleHashOf (k_ prog w l)=z at h⊢;show wpAny _ _ (if(decide (-(2:Int)^63<=z)&&decide (z<2^63))=true then _ else _) Q E _;by_cases hr:(decide (-(2:Int)^63<=z)&&decide (z<2^63))=true
   ·rw[bp hr] at h⊢
    exact fg (by simpa[Nat.add_assoc] using h)
   ·rw[az hr] at h⊢
    exact bf (wpAny_rule (fg (by simpa[Nat.add_assoc] using h)))
theorem wX(k:NK):∀{A:Around}{s:Shared}{v:Value}{Q:Bool->Shared->Prop}{n:Nat},gz k<=n->qm s.heap k v->Q true s->wpAny (model prog w) A (eqIsQuiet n v) Q E s:=by
 induction k using fR with
 |h1 i=>
  intro A s v Q n _ q h;cases q;rw[eqIsQuiet_byValue _ rfl];exact fg h
 |h2 l ih=>
  intro A s v Q n room q h;have ty:=q.Qf;rw[gz] at room;obtain⟨m,rfl⟩:∃m,n=m+1:=⟨n-1,by omega⟩
  cases q with
  | @tup _ a o its n' ho hc hd hl=>
  unfold eqIsQuiet;refine bf (wpAny_specialOf ty F.slot_tuple_eq.lookup ?_);show wpAny _ _ (isInstance (.ref a) (.type "tuple")>>=_) _ _ s;refine bf (wpAny_isInstance ty isSubtype_tuple_tuple ?_);simp only[Bool.not_true,gV,df];refine bf (wpAny_seqItems ho hd ?_);refine bf ?_;show wpAny _ _ (forIn its _ _) _ _ s;rw[←Array.forIn_toList];refine wpAny_forIn_list _ (λrest r s'=>r.1=none/\s'=s/\∃post,(∀k∈post,k∈l)/\jx s.heap post rest) _ ?_ ?_ _ _ ⟨rfl,rfl,l,λ_ z=>z,hl⟩
  ·rintro v rest r s' ⟨hr,rfl,post,hm,hp⟩
   cases hp with
   | @cons k _ ks _ q1 q2=>
    have Tb:=fQ (hm k si);refine bf (ih k (hm k si) (by omega) q1 ?_);simp only[Bool.not_true,gV,df];exact fg ⟨rfl,rfl,ks,λx hx=>hm x (o_ _ hx),q2⟩
  ·rintro⟨r1,r2⟩ s' ⟨hr,rfl,_⟩
   simp only at hr;subst hr;exact fg h
inductive D' where
 |int
 |all (s:D')
 |two (s t:D')
noncomputable def D'.ok:D'->NK->Prop
 |.int,.int _=>True
 |.all s,.tup l=>∀k∈l,s.ok k
 |.two s t,.tup [a,b]=>s.ok a/\t.ok b
 |_,_=>False
inductive Cm:List NK->List NK->Prop
 |l (y:List NK):Cm [] y
 |r (x:List NK):Cm x []
 |c {a b:NK} {x y:List NK} {s:D'} (ha:s.ok a) (hb:s.ok b) (h:Cm x y):Cm (a::x) (b::y)
theorem oD{s:D'}:∀{x y:List NK},(∀k∈x,s.ok k)->(∀k∈y,s.ok k)->Cm x y
 |[],y,_,_=>.l y
 |a::x,[],_,_=>.r _
 |a::x,b::y,h,h'=>.c (h a si) (h' b si) (oD (λk q=>h k (o_ _ q)) λk q=>h' k (o_ _ q))
theorem D'.side:∀{s:D'}{x y:List NK},s.ok (.tup x)->s.ok (.tup y)->Cm x y
 |.int,_,_,h,_=>h.elim
 |.all s,x,y,h,h'=>oD h h'
 |.two s t,[a,b],[c,d],h,h'=>.c h.1 h'.1 (.c h.2 h'.2 (.l []))
theorem NB(x:NK):∀{y:NK}{S:D'}{A:Around}{s:Shared}{u v:Value}{Q:Bool->Shared->Prop},A.units+gz x<cLine->S.ok x->S.ok y->qm s.heap x u->qm s.heap y v->Q (decide (x=y)) s->
  wpAny (model prog w) A (eqBool u v) Q E s:=by
 induction x using fR with
 |h1 i=>
  intro y S A s u v Q _ hx hy p q h
  cases S with
  |int=>
   cases y with
   |int j=>
    cases p;cases q;refine(intKind prog w).eqBool (a:=i) (b:=j) (qP i _) (qP j _) ?_;have:decide (NK.int i=NK.int j)=decide (i=j):=by simp
    rw[←this];exact h
   |tup l=>exact hy.elim
  |all S=>exact hx.elim
  |two S T=>exact hx.elim
 |h2 l ih=>
  intro y S A s u v Q room hx hy p q h
  cases y with
  |int j=>cases S<;>first|exact hx.elim|exact hy.elim
  |tup m=>
   have sd:=D'.side hx hy;have tp:=p.Qf;have tq:=q.Qf;have pi:=p;have qi:=q;rw[gz] at room
   cases p with
   | @tup _ a oa xs na NC Tc ND QW=>
   cases q with
   | @tup _ b ob ys nb UU W7 yx UW=>
   unfold eqBool
   try with_reducible refine FU ?_
   show wpAny _ _ (if(Value.ref a==Value.ref b)=true then _ else _) Q E s;by_cases qz:(Value.ref a==Value.ref b)=true
   ·rw[bp qz]
    have e:a=b:=by have:=eq_of_beq qz;injection this
    subst e;have e2:=pi.inj qi;exact bf (wpAny_rule (fg (by simpa[e2] using h)))
   ·rw[az qz]
    refine bf (wpAny_richCompare_same_room (op:=.Eq) tp tq F.slot_tuple_eq (CM F.slot_tuple_eq tp F.entry_tuple_eq ?_ (F.args_tuple_eq_2 _ _)) (by omega));have h':Q (decide (l=m)) s:=by simpa using h
    show wpAny _ _ (isInstance (.ref b) (.type "tuple")>>=_) _ _ s;refine bf (wpAny_isInstance tq isSubtype_tuple_tuple ?_);simp only[Bool.not_true,gV,df];refine bf (wpAny_tupleItemsOf NC ND ?_);refine bf (wpAny_tupleItemsOf UU yx ?_);refine bf ?_;refine wpAny_forIn_list _ (λrest r s'=>r.1=none/\s'=s/\∃x' y' us vs,rest=List.zip us vs/\(∀k∈x',k∈l)/\jx s.heap x' us/\jx s.heap y' vs/\Cm x' y'/\decide (x'=y')=decide (l=m)/\(us.length==vs.length)=(xs.size==ys.size))
     _ ?_ ?_ _ _ ⟨rfl,rfl,l,m,xs.toList,ys.toList,rfl,λ_ z=>z,QW,UW,sd,rfl,by simp⟩
    ·rintro⟨u,v⟩ rest r s' ⟨hr,rfl,x',y',us,vs,hz,hm,Bz,MZ,hs,Gm,hlen⟩
     cases Bz with
     |nil=>simp at hz
     | @cons k1 u' x2 QX q1 q2=>
      cases MZ with
      |nil=>simp at hz
      | @cons k2 v' y2 UX r1 r2=>
       simp only[List.zip_cons_cons,Kk,Prod.mk.injEq] at hz;obtain⟨⟨rfl,rfl⟩,rfl⟩:=hz
       cases hs with
       |c ha hb M0=>
       have Tb:=fQ (hm k1 si);refine bf (ih k1 (hm k1 si) (by show A.units+1+gz k1<cLine;omega) ha hb q1 r1 ?_);by_cases hk:k1=k2
       ·subst hk
        rw[Ad rfl];simp only[Bool.not_true,gV,df];refine fg ⟨rfl,rfl,x2,y2,QX,UX,rfl,λz hz=>hm z (o_ _ hz),q2,r2,M0,?_,by simpa using hlen⟩;rw[←Gm];by_cases QY:x2=y2<;>simp[QY]
       ·rw[Al hk]
        simp only[Bool.not_false,b_];have hf:decide (l=m)=false:=by rw[←Gm];simp[hk]
        rw[hf] at h';exact bf (fg (fg (fg ⟨_,rfl,(λe=>nomatch e),wpAny_truthy_bool h'⟩)))
    ·rintro⟨r1,r2⟩ s' ⟨hr,rfl,x',y',us,vs,hz,hm,Bz,MZ,hs,Gm,hlen⟩
     simp only at hr;subst hr;refine fg ?_;have fin:(xs.size==ys.size)=decide (l=m):=by
      rw[←Gm,←hlen]
      cases Bz with
      |nil=>cases MZ<;>simp
      |cons _ _=>
       cases MZ with
       |nil=>simp
       |cons _ _=>simp at hz
     exact⟨_,rfl,(λe=>nomatch e),wpAny_truthy_bool (by rw[fin];exact h')⟩
theorem wY{es ep}(ho:h.get? d=some o)(hd:o.data=.dict es ep)(hs:Heap.SameBut d h h')(k:NK):∀{v:Value},qm h k v->qm h' k v:=by
 induction k using fR with
 |h1 i=>intro v q;cases q;exact .int i _
 |h2 l ih=>
  intro v q
  cases q with
  | @tup _ a oa xs na NC Tc ND QW=>
   have qd:a≠d:=by
    rintro rfl;rw[ho] at NC;cases NC;rw[hd] at ND;exact nomatch ND
   refine .tup ((hs.2 a qd).trans NC) Tc ND ?_;have go:∀(ks:List NK)(vs:List Value),(∀k∈ks,k∈l)->jx h ks vs->jx h' ks vs:=by
    intro ks
    induction ks with
    |nil=>intro vs _ q;cases q;exact .nil
    |cons k ks DR=>
     intro vs hm q
     cases q with
     |cons q1 q2=>exact .cons (ih k (hm k si) q1) (DR _ (λz hz=>hm z (o_ _ hz)) q2)
   exact go l _ (λ_ z=>z) QW
end PySem
namespace PySem
noncomputable def Kq:D':=.two (.two (.all (.all .int)) .int) .int
noncomputable def sx(prog:Program)(w:World):HeapKind prog w NK where
 is:=λh k a=>qm h k (.ref a)/\Kq.ok k/\gz k<=8
 hash:=vm prog w
 draws:=qy
 room:=λA=>A.units+8<cLine
 inj:=λp q=>p.1.inj q.1
 keeps:=λp ho hd hs=>⟨wY ho hd hs _ p.1,p.2⟩
 pyHash:=λhu hk h=>Gk _ (by have:=hk.2.2;omega) hk.1 h
 eqBool:=λhu hx hy h=>NB _ (by have:=hx.2.2;omega) hx.2.1 hy.2.1 hx.1 hy.1 h
 quiet:=λhk h=>wX _ hk.2.2 hk.1 h
end PySem
namespace L2
open PySem PySem.Spec PyProof.Rows
noncomputable abbrev Key:=Sum Int Str
noncomputable def yy:Key->Value->Bool
 |.inl k,v=>Value.isInt k v
 |.inr x,v=>Value.isStrOf x v
noncomputable def QZ(w:World):Key->Int
 |.inl k=>hashInt k
 |.inr x=>hashStr w x
theorem aL:∀{k:Key}{v:Value},yy k v=true->(∃i t,k=Sum.inl i/\v=Value.int i t)\/(∃x t,k=Sum.inr x/\v=Value.str x t)
 |.inl i,v,h=>by
  obtain⟨t,e⟩:=Value.isInt_shape (k:=i) (v:=v) h;exact .inl ⟨i,t,rfl,e⟩
 |.inr x,v,h=>by
  obtain⟨t,e⟩:=Value.isStrOf_shape (x:=x) (v:=v) h;exact .inr ⟨x,t,rfl,e⟩
theorem vC(i:Int)(t:Tok):yy (.inl i) (.int i t)=true:=by simp[yy,Value.isInt]
theorem vD(x:Str)(t:Tok):yy (.inr x) (.str x t)=true:=by simp[yy,Value.isStrOf]
theorem Kr(a b:Int):decide ((Sum.inl a:Key)=Sum.inl b)=(a==b):=by
 by_cases e:a=b
 ·subst e;simp
 ·have h:¬(Sum.inl a:Key)=Sum.inl b:=λq=>e (D9 q)
  rw[Al h];exact(beq_eq_false_iff_ne.mpr e).symm
theorem Ks(a b:Str):decide ((Sum.inr a:Key)=Sum.inr b)=decide (a=b):=by
 by_cases e:a=b
 ·subst e;simp
 ·have h:¬(Sum.inr a:Key)=Sum.inr b:=λq=>e (Sum.inr.inj q)
  rw[Al h,Al e]
theorem Kt(a:Int)(b:Str):decide ((Sum.inl a:Key)=Sum.inr b)=false:=Al (λq=>nomatch q)
theorem Ku(a:Str)(b:Int):decide ((Sum.inr a:Key)=Sum.inl b)=false:=Al (λq=>nomatch q)
noncomputable def dn(prog:Program)(w:World):PySem.KeyKind prog w Key where
 is:=yy
 hash:=QZ w
 inj:=λv a b ha hb=>by
  rcases aL ha with⟨i,t,rfl,rfl⟩|⟨x,t,rfl,rfl⟩
  ·rcases aL hb with⟨j,u,rfl,e⟩|⟨y,u,rfl,e⟩
   ·injection e with e1 _;rw[e1]
   ·exact nomatch e
  ·rcases aL hb with⟨j,u,rfl,e⟩|⟨y,u,rfl,e⟩
   ·exact nomatch e
   ·injection e with e1 _;rw[e1]
 byValue:=λk v h=>by
  rcases aL h with⟨i,t,rfl,rfl⟩|⟨x,t,rfl,rfl⟩<;>rfl
 pyHash:=λhv h=>by
  rcases aL hv with⟨i,t,rfl,rfl⟩|⟨x,t,rfl,rfl⟩
  ·exact wpAny_pyHash_int h
  ·exact wpAny_pyHash_str h
 eqBool:=λhu hv h=>by
  rcases aL hu with⟨i,t,rfl,rfl⟩|⟨x,t,rfl,rfl⟩
  ·rcases aL hv with⟨j,u,rfl,rfl⟩|⟨y,u,rfl,rfl⟩
   ·rw[Kr] at h;exact wpAny_eqBool_int h
   ·rw[Kt] at h;exact SeqAt.EqAt.int_str i t y u _ _ _ _ h
  ·rcases aL hv with⟨j,u,rfl,rfl⟩|⟨y,u,rfl,rfl⟩
   ·rw[Ku] at h;exact SeqAt.EqAt.str_int x t j u _ _ _ _ h
   ·rw[Ks] at h;exact wpAny_eqBool_str h
 «strs»:=λk x t v h=>by
  rcases aL h with⟨i,u,rfl,e⟩|⟨y,u,rfl,e⟩
  ·exact nomatch e
  ·injection e with e1 _
   subst e1;cases v<;>rfl
theorem oE(prog:Program)(w:World)(i:Int)(t:Tok):(dn prog w).is (.inl i) (.int i t)=true:=vC i t
theorem oF(prog:Program)(w:World)(x:Str)(t:Tok):(dn prog w).is (.inr x) (.str x t)=true:=vD x t
inductive V where
 |cx|bl (b:Bool)|int (i:Int)|str (x:Str)|Dh (b:Array UInt8)|Q1 (b:UInt64)|ref (a:Addr)|ty (n:String)
 deriving DecidableEq
noncomputable def RelV:V->Value->Prop
 |.cx,u=>u=Value.none
 |.bl b,u=>u=Value.bool b
 |.int i,u=>∃t,u=Value.int i t
 |.str x,u=>∃t,u=Value.str x t
 |.Dh b,u=>∃t,u=Value.bytes b t
 |.Q1 b,u=>∃t,u=Value.float b t
 |.ref a,u=>u=Value.ref a
 |.ty n,u=>u=Value.type n
noncomputable abbrev Vals:List V->List Value->Prop:=Paired RelV
theorem Vals.length(r:Vals xs us):xs.length=us.length:=Gj r
theorem Vals.get:∀{xs:List V}{us:List Value}{i:Nat}{x:V},Vals xs us->xs[i]?=some x->∃u,us[i]?=some u/\RelV x u
 |_,_,_,_,.nil,e=>by simp at e
 |_,_,0,_,.cons r _,e=>by simp at e;subst e;exact⟨_,rfl,r⟩
 |_,_,i+1,x,.cons _ t,e=>by
  obtain⟨u,h1,h2⟩:=Vals.get (i:=i) (x:=x) t (by simpa using e);exact⟨u,by simpa using h1,h2⟩
theorem Vals.set(r:RelV x u):∀{xs:List V}{us:List Value}(i:Nat),Vals xs us->Vals (xs.set i x) (us.set i u)
 |_,_,_,.nil=>.nil
 |_,_,0,.cons _ t=>.cons r t
 |_,_,i+1,.cons q t=>.cons q (Vals.set r i t)
theorem Vals.append:∀{xs ys:List V}{us ws:List Value},Vals xs us->Vals ys ws->Vals (xs++ys) (us++ws)
 |_,_,_,_,.nil,s=>s
 |_,_,_,_,.cons r t,s=>.cons r (Vals.append t s)
theorem Vals.take:∀{xs:List V}{us:List Value}(n:Nat),Vals xs us->Vals (xs.take n) (us.take n)
 |_,_,0,_=>.nil
 |_,_,_+1,.nil=>.nil
 |_,_,n+1,.cons r t=>.cons r (Vals.take n t)
theorem Vals.drop:∀{xs:List V}{us:List Value}(n:Nat),Vals xs us->Vals (xs.drop n) (us.drop n)
 |_,_,0,r=>r
 |_,_,_+1,.nil=>.nil
 |_,_,n+1,.cons _ t=>Vals.drop n t
noncomputable def vn:Option V->Option Value->Prop
 |some v,some u=>RelV v u
 |none,none=>True
 |_,_=>False
noncomputable def KV{κ:Type}:List (κ×V)->List (κ×Value)->Prop:=Paired λ(p:κ×V)(q:κ×Value)=>p.1=q.1/\RelV p.2 q.2
noncomputable def kV:Key->V
 |.inl i=>.int i
 |.inr x=>.str x
inductive HO where
 |lst (xs:List V)
 |tup (xs:List V)
 |dN (kvs:List (NK×Addr×V))
 |dK (kvs:List (Key×V))|dT (kvs:List (List Key×V))
 |set (S:Int->Bool) (n:Nat)
 |ins (C dx:Addr) (fs:List (Str×V))
 |own (x:Addr)
 |xd (fs:List (Str×V))
 |met (f x:Addr)
 |g_ (lo hi:Int)
 |av (o:Obj) (u:HO)
 |Gn (ps:Array Value)
 |ext (φ:Heap->Prop)
noncomputable abbrev Hp:=Addr->Option HO
noncomputable def upd(H:Hp)(a:Addr)(o:HO):Hp:=λb=>if b=a then some o else H b
theorem ah:upd H a o a=some o:=by unfold upd;rw[bp rfl]
theorem aA(h:b≠a):upd H a o b=H b:=by unfold upd;rw[az h]
theorem tF:upd (upd H a o) a u=upd H a u:=by
 funext b;unfold upd;split<;>rfl
theorem NF{H:Hp}(h:H a=some o)(h':H b=some u)(d:o≠u):a≠b:=by
 intro e;subst e;rw[h] at h';exact d (ud h')
theorem aB{H:Hp}(h:H a=some o)(h':H b=none):a≠b:=by
 intro e;subst e;rw[h] at h';cases h'
section
variable(P:Program)(w:World)
noncomputable def fi(H:Hp)(h:Heap)(a:Addr):HO->Prop
 |.lst xs=>xs.length<=sizeLine/\∃(its:List Value)(n:Nat),Vals xs its/\h.get? a=some {cls:=.type "list",data:=.seq its.toArray n}
 |.tup xs=>xs.length<=sizeLine/\∃its:List Value,Vals xs its/\IsTup h a its.toArray
 |.dK kvs=>kvs.length<=sizeLine/\(a==sysModules)=false/\∃vs,KV kvs vs/\h.DictOf (dn P w) a vs
 | .dT kvs=>kvs.length<=sizeLine/\(a==sysModules)=false/\∃xs:List (List Key×Addr×Value),
   Paired (λ(p:List Key×V)(q:List Key×Addr×Value)=>p.1=q.1/\H q.2.1=some (.tup (p.1.map kV))/\RelV p.2 q.2.2) kvs xs/\
   ∃o es ep,h.get? a=some o/\o.ExactDict/\o.data=.dict es ep/\es.toList=xs.map (entryOfKey (tupleKind (dn P w)))/\(xs.map (·.1)).Nodup
 | .dN kvs=>kvs.length<=sizeLine/\(a==sysModules)=false/\∃xs:List (NK×Addr×Value),
   Paired (λ(p:NK×Addr×V)(q:NK×Addr×Value)=>p.1=q.1/\p.2.1=q.2.1/\RelV p.2.2 q.2.2) kvs xs/\
   ∃o es ep,h.get? a=some o/\o.ExactDict/\o.data=.dict es ep/\es.toList=xs.map (entryOfKey (sx P w))/\(xs.map (·.1)).Nodup
 |.set S n=>h.SetOf (intKind P w) a S n
 | .ins C dx fs=>H dx=some (.own a)/\fs.length<=1000/\dx≠a/\h.get? a=some (PySem.W.instObj C dx)/\
   ∃mA,h.Ns1 dx mA/\(∀f,vn (fs.lookup f) (mA f))/\PySem.Within mA (fs.map (·.1))
 |.own _=>∃o,h.get? a=some o
 |.xd fs=>∃mA,h.Ns1 a mA/\∀f,vn (fs.lookup f) (mA f)
 |.g_ lo hi=>∃t u v,h.get? a=some {cls:=.type "range",data:=.fields #[.int lo t,.int hi u,.int 1 v]}
 |.av o u=>h.get? a=some o/\fi H h a u
 |.Gn ps=>h.get? a=some {cls:=.none,data:=.fields ps}
 |.met f x=>h.get? a=some (PySem.W.methodObj (.ref f) (.ref x))
 |.ext φ=>φ h/\(∃o,h.get? a=some o)/\∀h1 h2:Heap,φ h1->(∀o,h1.get? a=some o->h2.get? a=some o)->φ h2
def pf(H:Hp)(h:Heap):Prop:=∀a o,H a=some o->fi P w H h a o
end
section
variable{P:Program}{w:World}{H H':Hp}{h h':Heap}{a:Addr}{o:HO}
theorem fi.lt(x:fi P w H h a o):a<h.objs.size:=by
 cases o with
 |lst xs=>obtain⟨_,_,_,_,e⟩:=x;exact kc e
 |tup xs=>obtain⟨_,_,_,p⟩:=x;exact p.lt
 |dK kvs=>obtain⟨_,_,_,_,o,_,_,e,_⟩:=x;exact kc e
 |dT kvs=>obtain⟨_,_,_,_,o,_,_,e,_⟩:=x;exact kc e
 |dN kvs=>obtain⟨_,_,_,_,o,_,_,e,_⟩:=x;exact kc e
 |set S n=>obtain⟨o,_,_,_,e,_⟩:=x;exact kc e
 |ins C dx fs=>obtain⟨_,_,_,e,_⟩:=x;exact kc e
 |own y=>obtain⟨_,e⟩:=x;exact kc e
 |xd fs=>obtain⟨_,⟨_,_,_,e,_⟩,_⟩:=x;exact kc e
 |g_ lo hi=>obtain⟨_,_,_,e⟩:=x;exact kc e
 |av ob u=>obtain⟨e,_⟩:=x;exact kc e
 |Gn ps=>exact kc (show h.get? a=some _ from x)
 |met f y=>exact kc (show h.get? a=some _ from x)
 |ext φ=>obtain⟨_,⟨_,e⟩,_⟩:=x;exact kc e
theorem Paired.Kv:∀{l₁:List α}{l₂:List β},Paired F l₁ l₂->(∀a b,F a b->G a b)->Paired G l₁ l₂
 |_,_,.nil,_=>.nil
 |_,_,.cons r t,f=>.cons (f _ _ r) (Paired.Kv t f)
theorem fi.AX(x:fi P w H h a o)(k:∀b u,(b=a\/H b=some (.own a))->h.get? b=some u->h'.get? b=some u)
  (ho:∀b,H b=some (.own a)->H' b=some (.own a)) (ht:∀b xs,H b=some (.tup xs)->H' b=some (.tup xs)):fi P w H' h' a o:=by
 induction o with
 |lst xs=>obtain⟨z,its,n,r,e⟩:=x;exact⟨z,its,n,r,k _ _ (.inl rfl) e⟩
 |tup xs=>obtain⟨z,its,r,ob,e,c⟩:=x;exact⟨z,its,r,ob,k _ _ (.inl rfl) e,c⟩
 |dK kvs=>obtain⟨z,y,vs,r,ob,es,ep,e,c⟩:=x;exact⟨z,y,vs,r,ob,es,ep,k _ _ (.inl rfl) e,c⟩
 |dT kvs=>
  obtain⟨z,y,xs,r,ob,es,ep,e,c⟩:=x;exact⟨z,y,xs,Paired.Kv r λp q z=>⟨z.1,ht _ _ z.2.1,z.2.2⟩,ob,es,ep,k _ _ (.inl rfl) e,c⟩
 |dN kvs=>obtain⟨z,y,xs,r,ob,es,ep,e,c⟩:=x;exact⟨z,y,xs,r,ob,es,ep,k _ _ (.inl rfl) e,c⟩
 |set S n=>obtain⟨ob,es,ep,t,e,c⟩:=x;exact⟨ob,es,ep,t,k _ _ (.inl rfl) e,c⟩
 |ins C dx fs=>
  obtain⟨d,z,ne,e,mA,⟨od,es,ep,e2,c⟩,r⟩:=x;exact⟨ho _ d,z,ne,k _ _ (.inl rfl) e,mA,⟨od,es,ep,k _ _ (.inr d) e2,c⟩,r⟩
 |own y=>obtain⟨ob,e⟩:=x;exact⟨ob,k _ _ (.inl rfl) e⟩
 |xd fs=>obtain⟨mA,⟨od,es,ep,e,c⟩,r⟩:=x;exact⟨mA,⟨od,es,ep,k _ _ (.inl rfl) e,c⟩,r⟩
 |g_ lo hi=>obtain⟨t,u,v,e⟩:=x;exact⟨t,u,v,k _ _ (.inl rfl) e⟩
 |av ob u ih=>obtain⟨e,q⟩:=x;exact⟨k _ _ (.inl rfl) e,ih q⟩
 |Gn ps=>
  have e:h.get? a=some {cls:=.none,data:=.fields ps}:=x;show h'.get? a=some {cls:=.none,data:=.fields ps};exact k a _ (.inl rfl) e
 |met f y=>
  have e:h.get? a=some (PySem.W.methodObj (.ref f) (.ref y)):=x;show h'.get? a=some (PySem.W.methodObj (.ref f) (.ref y));exact k a _ (.inl rfl) e
 |ext φ=>obtain⟨p,⟨o,e⟩,st⟩:=x;exact⟨st _ _ p λo q=>k _ _ (.inl rfl) q,⟨o,k _ _ (.inl rfl) e⟩,st⟩
theorem pf.lt(x:pf P w H h)(e:H a=some o):a<h.objs.size:=(x a o e).lt
theorem pf.fresh(x:pf P w H h)(e:h.objs.size<=a):H a=none:=by
 cases q:H a with
 |none=>rfl
 |some u=>exact absurd (Bi (x.lt q) e) (Cj _)
theorem pf.kept(x:pf P w H h)(k:∀b u,h.get? b=some u->h'.get? b=some u):pf P w H h':=λa o e=>
 (x a o e).AX (λb u _ q=>k b u q) (λ_ q=>q) λ_ _ q=>q
theorem pf.laid(x:pf P w H h)(k:∀b u,h.get? b=some u->h'.get? b=some u)(hp:h.objs.size<=a)(new:fi P w (upd H a o) h' a o):pf P w (upd H a o) h':=λb u e=>by
 have hn:=x.fresh hp;by_cases hb:b=a
 ·subst hb;rw[ah] at e;cases e;exact new
 ·rw[aA hb] at e
  exact(x b u e).AX (λc v _ q=>k c v q) (λc q=>by rw[aA (aB q hn)];exact q) λc xs q=>by rw[aA (aB q hn)];exact q
end
def Rd(H:Hp)(a:Addr)(u:HO):Prop:=H a=some u\/∃o,H a=some (.av o u)
theorem Rd.ok(r:Rd H a u)(x:pf P w H h):fi P w H h a u:=by
 rcases r with r|⟨o,r⟩
 ·exact x a u r
 ·obtain⟨_,q⟩:=x a _ r
  exact q
noncomputable def NG:Option HO->Prop
 |some (.lst _)=>True
 |some (.dK _)=>True
 |some (.dT _)=>True
 |some (.dN _)=>True
 |some (.set _ _)=>True
 |some (.ins _ _ _)=>True
 |some (.ext _)=>True
 |_=>False
section
variable{P:Program}{w:World}{H:Hp}{h h':Heap}{x e:Addr}{o':HO}
theorem pf.write(ok:pf P w H h)(mu:NG (H x))(he:e=x\/H e=some (.own x))(k:∀b u,b≠e->h.get? b=some u->h'.get? b=some u)(Jm:∃u,h'.get? e=some u)
  (new:fi P w (upd H x o') h' x o'):pf P w (upd H x o') h':=λb u q=>by
 have NH:∀c y,H c=some (.own y)->c≠x:=λc y r z=>by subst z;rw[r] at mu;exact mu
 have Q2:∀c xs,H c=some (.tup xs)->c≠x:=λc xs r z=>by subst z;rw[r] at mu;exact mu
 by_cases hb:b=x
 ·subst hb;rw[ah] at q;cases q;exact new
 ·rw[aA hb] at q
  by_cases Ao:b=e
  ·have q':H b=some (.own x):=by
    rcases he with z|z
    ·exact absurd (Ao.trans z) hb
    ·rw[Ao];exact z
   rw[q] at q';cases q';obtain⟨v,hv⟩:=Jm;exact⟨v,by rw[Ao];exact hv⟩
  ·refine(ok b u q).AX (λc v hc r=>k c v ?_ r) (λc r=>by rw[aA (NH c b r)];exact r) λc xs r=>by rw[aA (Q2 c xs r)];exact r
   rcases hc with rfl|hc
   ·exact Ao
   ·rintro rfl
    rcases he with z|z
    ·exact NH c b hc z
    ·rw[hc] at z;cases z;exact hb rfl
end
structure Un(fs ex:List Addr)(H H':Hp)(h h':Heap):Prop where
 keep:∀b o,h.get? b=some o->H b=none->b∉fs->b∉ex->h'.get? b=some o
 slot:∀b o,h.get? b=some o->H b=none->b∈fs->b∉ex->∃sl,h'.get? b=some {o with slots:=sl}
 free:∀b o,h.get? b=some o->H b=none->b∉ex->H' b=none
 there:∀b o,h.get? b=some o->b∉ex->∃o',h'.get? b=some o'
 vo:∀b xs,H b=some (.tup xs)->H' b=some (.tup xs)
 sy:∀b o u,H b=some (.av o u)->H' b=some (.av o u)
 vp:∀b ps,H b=some (.Gn ps)->∃more,H' b=some (.Gn (ps++more))
section
variable{fs W8 ex W9:List Addr}{H H1 H2:Hp}{h h1 h2 h':Heap}{a x e:Addr}{o:HO}
theorem Un.any(u:Un fs ex H H1 h h1)(q:h.get? b=some ob)(n:H b=none)(hx:b∉ex):∃sl,h1.get? b=some {ob with slots:=sl}:=by
 by_cases hb:b∈fs
 ·exact u.slot b ob q n hb hx
 ·exact⟨ob.slots,u.keep b ob q n hb hx⟩
theorem Un.trans(a:Un fs ex H H1 h h1)(b:Un fs ex H1 H2 h1 h2):Un fs ex H H2 h h2 where
 keep:=λc ob q n hc hx=>b.keep c ob (a.keep c ob q n hc hx) (a.free c ob q n hx) hc hx
 slot:=λc ob q n hc hx=>by
  obtain⟨sl,e1⟩:=a.slot c ob q n hc hx;obtain⟨NI,e2⟩:=b.slot c _ e1 (a.free c ob q n hx) hc hx;exact⟨NI,e2⟩
 free:=λc ob q n hx=>by
  obtain⟨o',e1⟩:=a.there c ob q hx;exact b.free c o' e1 (a.free c ob q n hx) hx
 there:=λc ob q hx=>by
  obtain⟨o',e1⟩:=a.there c ob q hx;exact b.there c o' e1 hx
 vo:=λc xs q=>b.vo c xs (a.vo c xs q)
 sy:=λc ob xs q=>b.sy c ob xs (a.sy c ob xs q)
 vp:=λc ps q=>by
  obtain⟨m1,e1⟩:=a.vp c ps q;obtain⟨m2,e2⟩:=b.vp c _ e1;exact⟨m1++m2,by rw[e2,Array.append_assoc]⟩
theorem Un.kept(k:∀b u,h.get? b=some u->h'.get? b=some u):Un fs ex H H h h':=
 ⟨λb ob q _ _ _=>k b ob q,λb ob q _ _ _=>⟨ob.slots,k b ob q⟩,λ_ _ _ n _=>n,λb ob q _=>⟨ob,k b ob q⟩,λ_ _ q=>q,λ_ _ _ q=>q,λ_ ps q=>⟨#[],by rw[q];simp⟩⟩
theorem Un.refl:Un fs ex H H h h:=Un.kept λ_ _ q=>q
theorem Un.laid(k:∀b u,h.get? b=some u->h'.get? b=some u)(hp:h.objs.size<=a)(hn:H a=none):Un fs ex H (upd H a o) h h' where
 keep:=λb u q _ _ _=>k b u q
 slot:=λb u q _ _ _=>⟨u.slots,k b u q⟩
 free:=λb u q n _=>by rw[aA (yv (Bi (kc q) hp))];exact n
 there:=λb u q _=>⟨u,k b u q⟩
 vo:=λb xs q=>by rw[aA (aB q hn)];exact q
 sy:=λb u xs q=>by rw[aA (aB q hn)];exact q
 vp:=λb ps q=>⟨#[],by rw[aA (aB q hn),q];simp⟩
theorem Un.write(mu:NG (H x))(he:e=x\/H e=some (.own x))(k:∀b u,b≠e->h.get? b=some u->h'.get? b=some u)(Jm:∃u,h'.get? e=some u):Un fs ex H (upd H x o) h h':=by
 have hx:∀b,H b=none->b≠x:=λb n z=>by subst z;rw[n] at mu;exact mu
 have hb:∀b,H b=none->b≠e:=λb n z=>by
  subst z;rcases he with r|r
  ·exact hx b n r
  ·rw[n] at r;cases r
 have hm:∀b u,H b=some u->¬NG (some u)->b≠x:=λb u q nm z=>by subst z;rw[q] at mu;exact nm mu
 refine⟨λb u q n _ _=>k b u (hb b n) q,λb u q n _ _=>⟨u.slots,k b u (hb b n) q⟩,λb u q n _=>by rw[aA (hx b n)];exact n,λb u q _=>?_,
  λb xs q=>by rw[aA (hm b _ q λz=>z)];exact q,λb u xs q=>by rw[aA (hm b _ q λz=>z)];exact q,λb ps q=>⟨#[],by rw[aA (hm b _ q λz=>z),q];simp⟩⟩
 by_cases Ao:b=e
 ·subst Ao;exact Jm
 ·exact⟨u,k b u Ao q⟩
end
noncomputable def Af(h:Heap)(H:Hp):List Addr:=(List.range h.objs.size).filter λa=>(H a).isSome
noncomputable def AY(h:Heap)(H:Hp):Heap:=PySem.W.hideAll h (Af h H)
theorem vE(h:Heap)(H:Hp):(AY h H).objs.size=h.objs.size:=PySem.W.hideAll_size _ _
theorem wZ(e:h.get? b=some o)(n:H b=none):(AY h H).get? b=some o:=
 PySem.W.hideAll_get _ e λhm=>by
  have q:(H b).isSome=true:=(List.mem_filter.mp hm).2;rw[n] at q;simp at q
theorem Gp(e:(AY h H).get? b=some o):h.get? b=some o/\H b=none:=by
 have e':h.get? b=some o:=PySem.W.of_hideAll (Af h H) e;refine⟨e',?_⟩
 cases q:H b with
 |none=>rfl
 |some x=>
  have hm:b∈Af h H:=List.mem_filter.mpr ⟨List.mem_range.mpr (kc e'),by simp[q]⟩;have z:(AY h H).get? b=none:=PySem.W.hideAll_none (Af h H) hm;rw[z] at e;cases e
structure Mod(K:PySem.W.Frag)(mg:Str->Option Value)(base:Heap):Prop where
 Bm:K.In base
 glob:base.Ns mainGlobals mg
 blt:∃mb,base.Ns builtinsNs mb/\∀x:Str,x≠"__name__"->mb x=bootBuiltins x
 nolimit:base.NoLimit
structure Cx where
 prog:Program
 w:World
 K:PySem.W.Frag
 mg:Str->Option Value
 base:Heap
 A:Around
 N:List Str
 h_:Shared
 bq:Hp
 env:Env
 outer:List Env
 stack:List Env
 ex:List Addr
 fn:Str->Bool
 calm:Bool
 pn:List (Addr×Obj)
 xe:Value->Shared->Prop
noncomputable def ub(l:List Env):List Addr:=l.filterMap (·.frame)
noncomputable abbrev Cx.fs(X:Cx):List Addr:=ub X.outer
def Ea(sc:Scope)(x:Str):Prop:=sc.names.lookup x=some .local\/sc.names.lookup x=some .cell\/sc.names.lookup x=some .free
def Loc(sc:Scope)(x:Str):Prop:=sc.names.lookup x=some .local\/sc.names.lookup x=some .cell
def Look(env:Env)(h:Heap)(m:Str->Option Value)(x:Str)(u:Value):Prop:=
 (env.kindOf x=some .local/\m x=some u)\/((env.kindOf x=some .cell\/env.kindOf x=some .free)/\∃c,env.cells.lookup x=some c/\h.IsCell c (some u))
structure Cx.Ok(X:Cx):Prop where
 mod:Mod X.K X.mg X.base
 kind:X.env.scope.kind=.function
 glob:X.env.globals=mainGlobals
 blt:X.env.builtins=builtinsNs
 above:X.h_.heap.objs.size<=X.env.locals
 inj:∀x y c,X.env.cells.lookup x=some c->X.env.cells.lookup y=some c->x=y
 has:∀x,(X.env.kindOf x=some .cell\/X.env.kindOf x=some .free)->∃c,X.env.cells.lookup x=some c
 NJ:∀x c,X.fn x=true->X.env.cells.lookup x=some c->X.h_.heap.objs.size<=c
 hd:X.calm=true->X.A.handled=none
 frames:X.A.frames=some X.stack
 Qg:X.stack=X.outer\/(X.stack=X.env::X.outer/\X.env.frame=some X.env.locals)
 Td:∀b∈X.ex,b≠X.env.locals/\∀x c,X.env.cells.lookup x=some c->c≠b
 bs:∀b o,X.base.get? b=some o->X.h_.heap.get? b=some o/\X.bq b=none
 Jn:X.base.objs.size<=X.h_.heap.objs.size
 Eb:∀b o,X.base.get? b=some o->b∉X.ex
 Gq:∀b∈X.ex,b∉X.fs
 yz:X.h_.heap.FunFrames X.base X.outer
 M1:∀b∈X.fs,X.bq b=none
structure Inv(X:Cx)(pins:List (Addr×Obj))(σ:List (Option V))(H:Hp)(s:Shared):Prop where
 ok:X.Ok
 os:s.os=X.h_.os
 bare:AllBare s.gens
 base:Un X.fs X.ex X.bq H X.h_.heap s.heap
 loc:∃m,s.heap.Ns X.env.locals m/\∀(i:Nat)(x:Str)(v:V),X.N[i]?=some x->σ[i]?=some (some v)->Ea X.env.scope x->∃u,RelV v u/\Look X.env s.heap m x u
 cell:∀x c,X.env.cells.lookup x=some c->∃v,s.heap.IsCell c v
 free:H X.env.locals=none
 qo:∀x c,X.env.cells.lookup x=some c->H c=none
 pin:∀p∈X.pn++pins,s.heap.get? p.1=some p.2/\H p.1=none/\p.1≠X.env.locals/\p.1∉X.fs/\∀v,p.2.data≠.cell v
 dq:pf X.prog X.w H s.heap
 len:σ.length=X.N.length
section
variable{X:Cx}{pins:List (Addr×Obj)}{σ:List (Option V)}{H H':Hp}{s:Shared}{h':Heap}
theorem Cx.Ok.Q3(ok:X.Ok)(e:X.base.get? b=some o):b∉X.fs:=λhb=>by
 have:=(ok.yz.mem hb).1;rw[e] at this;cases this
theorem Inv.bs(I:Inv X pins σ H s):∀b o,X.base.get? b=some o->s.heap.get? b=some o/\H b=none:=λb o e=>
 ⟨I.base.keep b o (I.ok.bs b o e).1 (I.ok.bs b o e).2 (I.ok.Q3 e) (I.ok.Eb b o e),I.base.free b o (I.ok.bs b o e).1 (I.ok.bs b o e).2 (I.ok.Eb b o e)⟩
theorem Inv.bk(I:Inv X pins σ H s):∀b o,X.base.get? b=some o->s.heap.get? b=some o:=λb o e=>(I.bs b o e).1
theorem Inv.mod(I:Inv X pins σ H s):Mod X.K X.mg X.base:=I.ok.mod
theorem Inv.DS(I:Inv X pins σ H s):X.K.In s.heap:=I.ok.mod.Bm.keeps I.bk
theorem Inv.lt(I:Inv X pins σ H s):X.env.locals<s.heap.objs.size:=let⟨_,hn,_⟩:=I.loc;hn.lt
theorem Inv.sz(I:Inv X pins σ H s):X.h_.heap.objs.size<=s.heap.objs.size:=qe I.ok.above (Nat.le_of_lt I.lt)
theorem Inv.NL(I:Inv X pins σ H s)(h:s.heap.objs.size<=a):a∉X.fs:=λhb=>by
 obtain⟨_,o,ho,_⟩:=I.ok.yz.mem hb;exact absurd (Bi (kc ho) (qe I.sz h)) (Cj _)
theorem Inv.Kw(I:Inv X pins σ H s):∀x c,X.env.cells.lookup x=some c->c≠X.env.locals:=λx c e z=>by
 obtain⟨v,o,ho,hd⟩:=I.cell x c e;obtain⟨m,⟨o',es,ep,An,Qe,_⟩,_⟩:=I.loc;rw[z,An] at ho;cases ho;rw[Qe] at hd;cases hd
theorem Inv.yz(I:Inv X pins σ H s):s.heap.FunFrames X.base X.outer:=by
 have all:∀(l:List Env),(∀b∈ub l,b∈X.fs)->X.h_.heap.FunFrames X.base l->s.heap.FunFrames X.base l:=by
  intro l
  induction l with
  |nil=>intro _ _;trivial
  |cons env r ih=>
   intro hs hl;obtain⟨hk,⟨L,o,hf,hn,ho,hd⟩,hr⟩:=hl;have hL:L∈X.fs:=hs L (by unfold ub;rw[List.filterMap_cons,hf];exact si);obtain⟨sl,e⟩:=I.base.slot L o ho (I.ok.M1 L hL) hL λz=>I.ok.Gq L z hL;exact⟨hk,⟨L,_,hf,hn,e,hd⟩,ih (λb hb=>hs b (by unfold ub;rw[List.filterMap_cons,hf];exact o_ _ hb)) hr⟩
 exact all X.outer (λ_ hb=>hb) I.ok.yz
theorem Inv.stack(I:Inv X pins σ H s):s.heap.FunFrames X.base X.stack:=by
 rcases I.ok.Qg with e|⟨e,hf⟩
 ·rw[e];exact I.yz
 ·rw[e]
  obtain⟨m,hn,_⟩:=I.loc;refine .cons (by rw[I.ok.kind];decide) hf hn ?_ I.yz;exact Heap.get?_none_of_le (qe I.ok.Jn I.ok.above)
theorem Inv.AZ(I:Inv X pins σ H s):∀b∈ub X.stack,b∈X.env.locals::X.fs:=λb hb=>by
 rcases I.ok.Qg with e|⟨e,hf⟩
 ·rw[e] at hb;exact o_ _ hb
 ·rw[e] at hb
  unfold ub at hb;rw[List.filterMap_cons,hf] at hb;exact hb
theorem Inv.A0(I:Inv X pins σ H s):∀b∈ub X.stack,H b=none:=λb hb=>by
 rcases List.mem_cons.mp (I.AZ b hb) with e|hb
 ·rw[e];exact I.free
 ·obtain⟨_,o,ho,_⟩:=I.ok.yz.mem hb
  exact I.base.free b o ho (I.ok.M1 b hb) λz=>I.ok.Gq b z hb
theorem Inv.step{g':Array GenState}{t':Nat}{d':Drawn}{ch:List Addr}(I:Inv X pins σ H s)
  (FV:∀b∈ch,(b∈X.ex\/X.h_.heap.objs.size<=b)/\b≠X.env.locals/\(∀x c,X.env.cells.lookup x=some c->c≠b)/\∀p∈X.pn++pins,p.1≠b)
  (keep:∀b o,b≠X.env.locals->b∉X.fs->b∉ch->s.heap.get? b=some o->H b=none->h'.get? b=some o)
  (slot:∀b o,b≠X.env.locals->b∈X.fs->b∉ch->s.heap.get? b=some o->H b=none->∃sl,h'.get? b=some {o with slots:=sl}) (free:∀b o,b∉ch->s.heap.get? b=some o->H b=none->H' b=none)
  (there:∀b o,b∉ch->s.heap.get? b=some o->∃o',h'.get? b=some o')
  (vo:∀b xs,H b=some (.tup xs)->H' b=some (.tup xs)) (sy:∀b o u,H b=some (.av o u)->H' b=some (.av o u)) (vp:∀b ps,H b=some (.Gn ps)->∃more,H' b=some (.Gn (ps++more)))
  (ns:∀m,s.heap.Ns X.env.locals m->h'.Ns X.env.locals m) (dq:pf X.prog X.w H' h') (hg:AllBare g'):
  Inv X pins σ H' {s with heap:=h',gens:=g',drawn:=d',toks:=t'}:=by
 have Te:∀b o,X.h_.heap.get? b=some o->b≠X.env.locals:=λb o e=>yv (Bi (kc e) I.ok.above);have Qh:∀b o,X.h_.heap.get? b=some o->b∉X.ex->b∉ch:=λb o e hx hb=>by
  rcases(FV b hb).1 with z|z
  ·exact hx z
  ·exact absurd (Bi (kc e) z) (Cj _)
 have cellK:∀x c,X.env.cells.lookup x=some c->∀v,s.heap.IsCell c v->h'.IsCell c v:=λx c e v ⟨o,ho,hd⟩=>by
  have NM:c∉ch:=λz=>(FV c z).2.2.1 x c e rfl;by_cases hc:c∈X.fs
  ·obtain⟨sl,q⟩:=slot c o (I.Kw x c e) hc NM ho (I.qo x c e)
   exact⟨_,q,hd⟩
  ·exact⟨o,keep c o (I.Kw x c e) hc NM ho (I.qo x c e),hd⟩
 refine⟨I.ok,I.os,hg,⟨λb o e n hb hx=>?_,λb o e n hb hx=>?_,λb o e n hx=>?_,λb o e hx=>?_,λb xs e=>vo b xs (I.base.vo b xs e),λb o xs e=>sy b o xs (I.base.sy b o xs e),λb ps e=>?_⟩,?_,λx c e=>?_,?_,λx c e=>?_,λp hp=>?_,dq,I.len⟩
 ·exact keep b o (Te b o e) hb (Qh b o e hx) (I.base.keep b o e n hb hx) (I.base.free b o e n hx)
 ·obtain⟨sl,e1⟩:=I.base.slot b o e n hb hx
  obtain⟨NI,e2⟩:=slot b _ (Te b o e) hb (Qh b o e hx) e1 (I.base.free b o e n hx);exact⟨NI,e2⟩
 ·obtain⟨o',e1⟩:=I.base.there b o e hx
  exact free b o' (Qh b o e hx) e1 (I.base.free b o e n hx)
 ·obtain⟨o',e1⟩:=I.base.there b o e hx
  exact there b o' (Qh b o e hx) e1
 ·obtain⟨m1,e1⟩:=I.base.vp b ps e
  obtain⟨m2,e2⟩:=vp b _ e1;exact⟨m1++m2,by rw[e2,Array.append_assoc]⟩
 ·obtain⟨m,hn,hl⟩:=I.loc
  refine⟨m,ns m hn,λi x v e1 e2 e3=>?_⟩;obtain⟨u,r,l⟩:=hl i x v e1 e2 e3;refine⟨u,r,?_⟩;rcases l with l|⟨k,c,e,z⟩
  ·exact .inl l
  ·exact .inr ⟨k,c,e,cellK x c e _ z⟩
 ·obtain⟨v,z⟩:=I.cell x c e
  exact⟨v,cellK x c e v z⟩
 ·obtain⟨m,⟨o,_,_,ho,_⟩,_⟩:=I.loc
  exact free _ o (λz=>(FV _ z).2.1 rfl) ho I.free
 ·obtain⟨v,o,ho,hd⟩:=I.cell x c e
  exact free c o (λz=>(FV c z).2.2.1 x c e rfl) ho (I.qo x c e)
 ·obtain⟨e,n,ne,nf,d⟩:=I.pin p hp
  have NM:p.1∉ch:=λz=>(FV p.1 z).2.2.2 p hp rfl;exact⟨keep p.1 p.2 ne nf NM e n,free p.1 p.2 NM e n,ne,nf,d⟩
theorem Inv.un{t':Nat}(I:Inv X pins σ H s)(u:Un X.fs [] H H' s.heap h')(dq:pf X.prog X.w H' h'):Inv X pins σ H' {s with heap:=h',toks:=t'}:=by
 obtain⟨m,⟨o,es,ep,ho,r⟩,_⟩:=id I.loc;obtain⟨sl,hL⟩:=u.any ho I.free (by simp);exact I.step (g':=s.gens) (d':=s.drawn) (ch:=[]) (λ_ z=>nomatch z) (λb o _ hb _ e n=>u.keep b o e n hb (by simp)) (λb o _ hb _ e n=>u.slot b o e n hb (by simp)) (λb o _ e n=>u.free b o e n (by simp)) (λb o _ e=>u.there b o e (by simp)) u.vo u.sy u.vp (λm' hm=>by
  obtain⟨o',NN,NO,An,r'⟩:=hm;rw[ho] at An;cases An;exact⟨_,NN,NO,hL,r'⟩) dq I.bare
theorem Inv.call{g':Array GenState}{t':Nat}{d':Drawn}{ch:List Addr}(I:Inv X pins σ H s)(u:Un (ub X.stack) ch H H' s.heap h')(dq:pf X.prog X.w H' h')(hg:AllBare g')
  (FV:∀b∈ch,(b∈X.ex\/X.h_.heap.objs.size<=b)/\b≠X.env.locals/\(∀x c,X.env.cells.lookup x=some c->c≠b)/\∀p∈X.pn++pins,p.1≠b):
  Inv X pins σ H' {s with heap:=h',gens:=g',drawn:=d',toks:=t'}:=by
 obtain⟨m,⟨o,es,ep,ho,r⟩,_⟩:=id I.loc;obtain⟨sl,hL⟩:=u.any ho I.free λz=>(FV _ z).2.1 rfl;exact I.step (ch:=ch) FV (λb o hL hb hc e n=>u.keep b o e n (λz=>(List.mem_cons.mp (I.AZ b z)).elim hL hb) hc) (λb o _ _ hc e n=>u.any e n hc) (λb o hc e n=>u.free b o e n hc) (λb o hc e=>u.there b o e hc) u.vo u.sy u.vp (λm' hm=>by
  obtain⟨o',NN,NO,An,r'⟩:=hm;rw[ho] at An;cases An;exact⟨_,NN,NO,hL,r'⟩) dq hg
theorem Inv.turned{t':Nat}{it:Addr}(I:Inv X pins σ H s)(k:∀b o,b≠it->s.heap.get? b=some o->h'.get? b=some o)(hn:H it=none)(hL:it≠X.env.locals)
  (h1:it∈X.ex\/X.h_.heap.objs.size<=it) (h2:∀x c,X.env.cells.lookup x=some c->c≠it) (h3:∀p∈X.pn++pins,p.1≠it):Inv X pins σ H {s with heap:=h',toks:=t'}:=by
 have Tf:∀b u,H b=some u->b≠it:=λb u e z=>by rw[z,hn] at e;cases e
 refine I.step (g':=s.gens) (d':=s.drawn) (ch:=[it]) (λb hb=>?_) (λb o _ _ hc e _=>k b o (λz=>hc (by simp[z])) e) (λb o _ _ hc e _=>⟨o.slots,k b o (λz=>hc (by simp[z])) e⟩) (λ_ _ _ _ n=>n)
  (λb o hc e=>⟨o,k b o (λz=>hc (by simp[z])) e⟩) (λ_ _ e=>e) (λ_ _ _ e=>e) (λb ps e=>⟨#[],by rw[e];simp⟩) (λm hm=>?_) (λb u e=>?_) I.bare
 ·have e:b=it:=by simpa using hb
  subst e;exact⟨h1,hL,h2,h3⟩
 ·obtain⟨o,es,ep,ho,r⟩:=hm
  exact⟨o,es,ep,k _ o (jt hL) ho,r⟩
 ·refine(I.dq b u e).AX (λc v hc q=>k c v ?_ q) (λ_ q=>q) λ_ _ q=>q
  rcases hc with z|z
  ·rw[z];exact Tf b u e
  ·exact Tf c _ z
theorem Inv.tok(I:Inv X pins σ H s)(t:Nat):Inv X pins σ H {s with toks:=t}:=I.un (h':=s.heap) (t':=t) Un.refl I.dq
theorem Inv.kept{t':Nat}(I:Inv X pins σ H s)(k:∀b u,s.heap.get? b=some u->h'.get? b=some u):Inv X pins σ H {s with heap:=h',toks:=t'}:=I.un (Un.kept k) (I.dq.kept k)
theorem Inv.laid{a:Addr}{o:HO}{t':Nat}(I:Inv X pins σ H s)(k:∀b u,s.heap.get? b=some u->h'.get? b=some u)(hp:s.heap.objs.size<=a)(new:fi X.prog X.w (upd H a o) h' a o):
  Inv X pins σ (upd H a o) {s with heap:=h',toks:=t'}:=I.un (Un.laid k hp (I.dq.fresh hp)) (I.dq.laid k hp new)
theorem Inv.write{x e:Addr}{o:HO}{t':Nat}(I:Inv X pins σ H s)(mu:NG (H x))(he:e=x\/H e=some (.own x))(k:∀b u,b≠e->s.heap.get? b=some u->h'.get? b=some u)(Jm:∃u,h'.get? e=some u)
  (new:fi X.prog X.w (upd H x o) h' x o):Inv X pins σ (upd H x o) {s with heap:=h',toks:=t'}:=I.un (Un.write mu he k Jm) (I.dq.write mu he k Jm new)
theorem Inv.A1(I:Inv X pins σ H s)(h:∀p∈NP,s.heap.get? p.1=some p.2/\H p.1=none/\p.1≠X.env.locals/\p.1∉X.fs/\∀v,p.2.data≠.cell v):Inv X NP σ H s:=
 ⟨I.ok,I.os,I.bare,I.base,I.loc,I.cell,I.free,I.qo,λp hp=>(List.mem_append.mp hp).elim (λz=>I.pin p (List.mem_append_left _ z)) (h p),I.dq,I.len⟩
theorem oG{N:List Str}(hN:N.Nodup){i j:Nat}(a:N[i]?=some x)(b:N[j]?=some x):i=j:=by
 obtain⟨h1,e1⟩:=List.getElem?_eq_some_iff.mp a;obtain⟨h2,e2⟩:=List.getElem?_eq_some_iff.mp b;exact(List.getElem_inj hN).mp (e1.trans e2.symm)
theorem vF{M:Model}{A:Around}{E:Value->Shared->Prop}{i:Nat}{x:Str}{v:V}{u:Value}{Q:Unit->Shared->Prop}(I:Inv X pins σ H s)(hN:X.N.Nodup)(hi:X.N[i]?=some x)(hx:Loc X.env.scope x)(r:RelV v u)
  (h:∀s',Inv X pins (σ.set i (some v)) H s'->(∃a,Heap.SameBut a s.heap s'.heap/\(a=X.env.locals\/X.env.cells.lookup x=some a))->Q () s') (hf:X.fn x=true\/X.env.scope.names.lookup x=some .local:=by first|exact .inl rfl|exact .inr rfl|assumption):wpAny M A (storeName X.env x u) Q E s:=by
 obtain⟨m,hn,hl⟩:=id I.loc;have Q4:(X.env.scope.kind== .class||(X.env.scope.kind== .module&&X.env.locals !=X.env.globals))=false:=by rw[I.ok.kind];rfl
 have NQ:i<σ.length:=by rw[I.len];exact(List.getElem?_eq_some_iff.mp hi).1
 have Kw:=I.Kw;have tracked:∀{a:Addr}{h':Heap},(∃o,s.heap.get? a=some o/\H a=none)->Heap.SameBut a s.heap h'->pf X.prog X.w H h':=λ{a h'} ha hs b ob e=>by
  obtain⟨_,_,Jo⟩:=ha;refine(I.dq b ob e).AX (λc w' hc q=>(hs.2 c ?_).trans q) (λ_ q=>q) λ_ _ q=>q;rintro rfl;rcases hc with rfl|hc
  ·rw[Jo] at e;cases e
  ·rw[Jo] at hc;cases hc
 rcases hx with hk|hk
 ·refine wpAny_storeName_local hk hn (λh' M3 hs=>?_) Q4
  obtain⟨oL,_,_,UY,_⟩:=id hn;refine h _ ⟨I.ok,I.os,I.bare,⟨λb o e n hb hx=>?_,λb o e n hb hx=>?_,I.base.free,λb o e hx=>?_,I.base.vo,I.base.sy,I.base.vp⟩,⟨_,M3,λj y v' e1 e2 e3=>?_⟩,λy c e=>?_,I.free,I.qo,λp hp=>?_,tracked ⟨oL,UY,I.free⟩ hs,by simpa using I.len⟩ ⟨_,hs,.inl rfl⟩
  ·exact(hs.2 b (yv (Bi (kc e) I.ok.above))).trans (I.base.keep b o e n hb hx)
  ·obtain⟨sl,e1⟩:=I.base.slot b o e n hb hx
   exact⟨sl,(hs.2 b (yv (Bi (kc e) I.ok.above))).trans e1⟩
  ·obtain⟨o',e1⟩:=I.base.there b o e hx
   exact⟨o',(hs.2 b (yv (Bi (kc e) I.ok.above))).trans e1⟩
  ·by_cases hj:j=i
   ·subst hj
    rw[hi] at e1;cases e1;rw[Cg NQ] at e2;cases e2;exact⟨u,r,.inl ⟨hk,by simp⟩⟩
   ·rw[AW (jt hj)] at e2
    obtain⟨u',r',q⟩:=hl j y v' e1 e2 e3;refine⟨u',r',?_⟩;rcases q with⟨k,e⟩|⟨k,c,e,z⟩
    ·refine .inl ⟨k,?_⟩
     have:y≠x:=λe=>hj (oG hN e1 (e▸hi));simp[this,e]
    ·exact .inr ⟨k,c,e,z.sameBut hs (Kw y c e)⟩
  ·obtain⟨w',z⟩:=I.cell y c e
   exact⟨w',z.sameBut hs (Kw y c e)⟩
  ·obtain⟨e,n,ne,nf,d⟩:=I.pin p hp
   exact⟨(hs.2 p.1 ne).trans e,n,ne,nf,d⟩
 ·have Q5:X.fn x=true:=by
   rcases hf with z|z
   ·exact z
   ·rw[z] at hk;cases hk
  obtain⟨c,hc⟩:=I.ok.has x (.inl hk);obtain⟨w',z⟩:=I.cell x c hc;refine wpAny_storeName_cell I.ok.kind hk hc z (λh' Km hs=>?_);obtain⟨oc,Tg,Q6⟩:=id z;refine h {s with heap:=h'} ⟨I.ok,I.os,I.bare,⟨λb o e n hb hx=>?_,λb o e n hb hx=>?_,I.base.free,λb o e hx=>?_,I.base.vo,I.base.sy,I.base.vp⟩,⟨m,hn.sameBut hs (jt (Kw x c hc)),λj y v' e1 e2 e3=>?_⟩,λy c' e=>?_,I.free,I.qo,λp hp=>?_,tracked ⟨oc,Tg,I.qo x c hc⟩ hs,by simpa using I.len⟩ ⟨c,hs,.inr hc⟩
  ·exact(hs.2 b (yv (Bi (kc e) (I.ok.NJ x c Q5 hc)))).trans (I.base.keep b o e n hb hx)
  ·obtain⟨sl,e1⟩:=I.base.slot b o e n hb hx
   exact⟨sl,(hs.2 b (yv (Bi (kc e) (I.ok.NJ x c Q5 hc)))).trans e1⟩
  ·obtain⟨o',e1⟩:=I.base.there b o e hx
   exact⟨o',(hs.2 b (yv (Bi (kc e) (I.ok.NJ x c Q5 hc)))).trans e1⟩
  ·by_cases hj:j=i
   ·subst hj
    rw[hi] at e1;cases e1;rw[Cg NQ] at e2;cases e2;exact⟨u,r,.inr ⟨.inl hk,c,hc,Km⟩⟩
   ·rw[AW (jt hj)] at e2
    obtain⟨u',r',q⟩:=hl j y v' e1 e2 e3;refine⟨u',r',?_⟩;rcases q with q|⟨k,c',e,z'⟩
    ·exact .inl q
    ·refine .inr ⟨k,c',e,z'.sameBut hs ?_⟩
     rintro rfl;exact hj (oG hN e1 (I.ok.inj _ _ _ e hc▸hi))
  ·by_cases Th:c'=c
   ·subst Th;exact⟨_,Km⟩
   ·obtain⟨w2,z2⟩:=I.cell y c' e
    exact⟨w2,z2.sameBut hs Th⟩
  ·obtain⟨e,n,ne,nf,d⟩:=I.pin p hp
   refine⟨(hs.2 p.1 ?_).trans e,n,ne,nf,d⟩;intro q;rw[q,Tg] at e;have q':oc=p.2:=ud e;exact d w' (by rw[←q'];exact Q6)
theorem oH{M:Model}{A:Around}{E:Value->Shared->Prop}{i:Nat}{x:Str}{v:V}{u:Value}{Q:Unit->Shared->Prop}(I:Inv X pins σ H s)(hN:X.N.Nodup)(hi:X.N[i]?=some x)(hx:Loc X.env.scope x)(r:RelV v u)
  (h:∀s',Inv X pins (σ.set i (some v)) H s'->Q () s') (hf:X.fn x=true\/X.env.scope.names.lookup x=some .local:=by first|exact .inl rfl|exact .inr rfl|assumption):wpAny M A (storeName X.env x u) Q E s:=
 vF I hN hi hx r (λs' I' _=>h s' I') hf
theorem Inv.Jp(I:Inv X pins σ H s)(ho:s'.os=s.os)(u:Un (ub X.stack) ch H H' s.heap s'.heap)(dq:pf X.prog X.w H' s'.heap)(hg:AllBare s'.gens)
  (FV:∀b∈ch,(b∈X.ex\/X.h_.heap.objs.size<=b)/\b≠X.env.locals/\(∀x c,X.env.cells.lookup x=some c->c≠b)/\∀p∈X.pn++pins,p.1≠b):Inv X pins σ H' s':=by
 obtain⟨h',g',d',t',o'⟩:=s';have e:o'=s.os:=ho;subst e;exact I.call (g':=g') (t':=t') (d':=d') u dq hg FV
end
noncomputable abbrev XK:=Value->Option Addr->Hp->Prop
noncomputable abbrev St:=List (Option V)
noncomputable abbrev VK:=V->Hp->Prop
noncomputable abbrev TE:=St->Hp->VK->Prop
noncomputable abbrev TT:=St->Hp->(Bool->Hp->Prop)->Prop
noncomputable abbrev TA:=St->Hp->(List V->Hp->Prop)->Prop
structure Ends where
 nx:St->Hp->Prop
 rt:VK
 bk:St->Hp->Prop:=λ_ _=>False
 ct:St->Hp->Prop:=λ_ _=>False
noncomputable abbrev TS:=Ends->St->Hp->Prop
def EP(X:Cx)(pins:List (Addr×Obj))(σ:St)(Q:VK)(u:Value)(s':Shared):Prop:=∃v H',Inv X pins σ H' s'/\RelV v u/\Q v H'
def TP(X:Cx)(pins:List (Addr×Obj))(σ:St)(Q:Bool->Hp->Prop)(b:Bool)(s':Shared):Prop:=∃H',Inv X pins σ H' s'/\Q b H'
def AP(X:Cx)(pins:List (Addr×Obj))(σ:St)(Q:List V->Hp->Prop)(us:List Value)(s':Shared):Prop:=∃vs H',Inv X pins σ H' s'/\Vals vs us/\Q vs H'
def SP(X:Cx)(pins:List (Addr×Obj))(D:Ends)(f:Flow)(s':Shared):Prop:=
 match f with
 |.next=>∃di H',Inv X pins di H' s'/\D.nx di H'
 |.brk=>∃di H',Inv X pins di H' s'/\D.bk di H'
 |.cont=>∃di H',Inv X pins di H' s'/\D.ct di H'
 |.ret u=>∃v di H',Inv X pins di H' s'/\RelV v u/\D.rt v H'
def PE(X:Cx)(e:Expr)(t:TE):Prop:=
 ∀(pins:List (Addr×Obj))(s:Shared)(σ:St)(H:Hp)(Q:VK),Inv X pins σ H s->t σ H Q->wpAny (model X.prog X.w) X.A (eval e X.env) (EP X pins σ Q) X.xe s
def PT(X:Cx)(e:Expr)(t:TT):Prop:=
 ∀(pins:List (Addr×Obj))(s:Shared)(σ:St)(H:Hp)(Q:Bool->Hp->Prop),Inv X pins σ H s->t σ H Q->wpAny (model X.prog X.w) X.A (isTrue e X.env (eval e X.env)) (TP X pins σ Q) X.xe s
def PW(X:Cx)(e:Expr)(t:TT):Prop:=
 ∀(whole:Sem Value)(pins:List (Addr×Obj))(s:Shared)(σ:St)(H:Hp)(Q:Bool->Hp->Prop),Inv X pins σ H s->t σ H Q->wpAny (model X.prog X.w) X.A (isTrue e X.env whole) (TP X pins σ Q) X.xe s
theorem PW.pt(h:PW X e t):PT X e t:=h _
def PA(X:Cx)(es:List Expr)(t:TA):Prop:=
 ∀(pos:Pos)(pins:List (Addr×Obj))(s:Shared)(σ:St)(H:Hp)(Q:List V->Hp->Prop),Inv X pins σ H s->t σ H Q->wpAny (model X.prog X.w) X.A (spliced (backTo pos (starEach es X.env))) (AP X pins σ Q) X.xe s
def PS(X:Cx)(st:Stmt)(t:TS):Prop:=
 ∀(pins:List (Addr×Obj))(s:Shared)(σ:St)(H:Hp)(D:Ends),Inv X pins σ H s->t D σ H->wpAny (model X.prog X.w) X.A (exec st X.env) (SP X pins D) X.xe s
def Di(X:Cx)(st:List Stmt)(t:TS):Prop:=
 ∀(pins:List (Addr×Obj))(s:Shared)(σ:St)(H:Hp)(D:Ends),Inv X pins σ H s->t D σ H->wpAny (model X.prog X.w) X.A (execs st X.env) (SP X pins D) X.xe s
theorem fv{α:Type}{t:Sem α}{Q Q':α->Shared->Prop}{M:Model}{A:Around}{E:Value->Shared->Prop}{s:Shared}(h:wpAny M A t Q E s)(hQ:∀a s,Q a s->Q' a s):wpAny M A t Q' E s:=Ae h hQ λ_ _ x=>x
section
variable{X:Cx}
theorem bin(ha:PE X a ta)(hb:PE X b tb){R:V->V->Hp->Prop}(I:Inv X pins σ H s)(h:ta σ H λx H1=>tb σ H1 λy H2=>R x y H2)
  {Q:α->Shared->Prop} {f:Value->Value->Sem α}
  (hf:∀v u s2 x y H2,Inv X pins σ H2 s2->RelV x v->RelV y u->R x y H2->wpAny (model X.prog X.w) X.A (f v u) Q X.xe s2):
  wpAny (model X.prog X.w) X.A (eval a X.env) (λv da=>wpAny (model X.prog X.w) X.A (eval b X.env) (λu vq=>wpAny (model X.prog X.w) X.A (f v u) Q X.xe vq) X.xe da) X.xe s:=by
 refine fv (ha pins s σ H _ I h) λv s1 ⟨x,H1,I1,r1,q1⟩=>?_;refine fv (hb pins s1 σ H1 _ I1 q1) λu s2 ⟨y,H2,I2,r2,q2⟩=>?_;exact hf v u s2 x y H2 I2 r1 r2 q2
noncomputable def bu(i:Nat):TE:=λσ H Q=>∃v,σ[i]?=some (some v)/\Q v H
noncomputable def tC(v:V):TE:=λ_ H Q=>Q v H
theorem iR{i:Nat}{x:Str}{pos:Pos}(hN:X.N[i]?=some x)(hv:Ea X.env.scope x)(hd:(x==("__debug__":Str))=false:=by decide)(um:(x==("__classdict__":Str))=false:=by decide):PE X (.Name x pos) (bu i):=by
 intro pins s σ H Q I h;obtain⟨v,e,h⟩:=h;obtain⟨m,hn,hl⟩:=I.loc;obtain⟨u,r,l⟩:=hl i x v hN e hv;have fin:EP X pins σ Q u s:=⟨v,H,I,r,h⟩
 rcases l with⟨hk,hm⟩|⟨hk,c,hc,Jq⟩
 ·exact wpAny_Name (wpAny_loadName_local I.ok.kind hk hn hm fin) hd
 ·rcases hk with hk|hk
  ·exact wpAny_Name (wpAny_loadName_cell I.ok.kind hk hc Jq fin) hd
  ·exact wpAny_Name (wpAny_loadName_free I.ok.kind hk hc Jq fin um) hd
theorem aH{i j pos}:PE X (.Constant (.int i) j pos) (tC (.int i)):=λ_ _ _ H _ I h=>wpAny_Constant_int ⟨.int i,H,I.tok _,⟨_,rfl⟩,h⟩
theorem NR{b j pos}:PE X (.Constant (.bool b) j pos) (tC (.bl b)):=λ_ _ _ H _ I h=>Constant_bool ⟨.bl b,H,I,rfl,h⟩
theorem Kx{x j pos}:PE X (.Constant (.str x) j pos) (tC (.str x)):=λ_ _ _ H _ I h=>Calls.Constant_str ⟨.str x,H,I.tok _,⟨_,rfl⟩,h⟩
def Gl(X:Cx)(x:Str):Prop:=X.env.kindOf x=some .globalImplicit
theorem mG{E:Value->Shared->Prop}{pins:List (Addr×Obj)}{s:Shared}{σ:St}{H:Hp}{x:Str}{u:Value}{pos:Pos}{Q:Value->Shared->Prop}(I:Inv X pins σ H s)(hg:Gl X x)(hm:X.mg x=some u)(h:Q u s)
  (hd:(x==("__debug__":Str))=false:=by decide):wpAny (model X.prog X.w) X.A (eval (.Name x pos) X.env) Q E s:=
 Calls.Name_function_global I.ok.kind hg (Calls.loadGlobal_global (by rw[I.ok.glob];exact I.mod.glob.keeps I.bk) hm h) hd
theorem fS{E:Value->Shared->Prop}{pins:List (Addr×Obj)}{s:Shared}{σ:St}{H:Hp}{x:Str}{u:Value}{pos:Pos}{Q:Value->Shared->Prop}(I:Inv X pins σ H s)(hg:Gl X x)(hm:X.mg x=none)(hv:bootBuiltins x=some u)(h:Q u s)
  (hn:x≠"__name__":=by decide) (hd:(x==("__debug__":Str))=false:=by decide):wpAny (model X.prog X.w) X.A (eval (.Name x pos) X.env) Q E s:=by
 obtain⟨mb,h1,h2⟩:=I.mod.blt;exact Calls.Name_function_global I.ok.kind hg (Calls.loadGlobal_builtin (by rw[I.ok.glob];exact I.mod.glob.keeps I.bk) hm (by rw[I.ok.blt];exact h1.keeps I.bk) ((h2 x hn).trans hv) h) hd
theorem mH{x:Str}{v:V}{u:Value}{pos:Pos}(hg:Gl X x)(hm:X.mg x=some u)(r:RelV v u)(hd:(x==("__debug__":Str))=false:=by decide):PE X (.Name x pos) (tC v):=
 λ_ _ _ H _ I h=>mG I hg hm ⟨v,H,I,r,h⟩ hd
theorem Gr{x:Str}{v:V}{u:Value}{pos:Pos}(hg:Gl X x)(hm:X.mg x=none)(hv:bootBuiltins x=some u)(r:RelV v u)(hn:x≠"__name__":=by decide)(hd:(x==("__debug__":Str))=false:=by decide):PE X (.Name x pos) (tC v):=
 λ_ _ _ H _ I h=>fS I hg hm hv ⟨v,H,I,r,h⟩ hn hd
noncomputable def Ti(ta tb:TE)(k:Int->Int->Hp->Prop):St->Hp->Prop:=λσ H=>ta σ H λx H1=>tb σ H1 λy H2=>∃i j,x=.int i/\y=.int j/\k i j H2
noncomputable def Ec(ta tb:TE):TE:=λσ H Q=>Ti ta tb (λi j H2=>Q (.int (i+j)) H2) σ H
variable{a b:Expr}{ta tb:TE}{pos:Pos}
theorem qR(ha:PE X a ta)(hb:PE X b tb):PE X (.BinOp a .Add b pos) (Ec ta tb):=by
 intro pins s σ H Q I h;refine wpAny_BinOp (bin ha hb I h λv u s2 x y H2 I2 rx ry q=>?_);obtain⟨i,j,rfl,rfl,q⟩:=q;obtain⟨t,rfl⟩:=rx;obtain⟨t',rfl⟩:=ry;exact add_int ⟨.int _,H2,I2.tok _,⟨_,rfl⟩,q⟩
def PC(X:Cx)(op:CmpOp)(a b:Expr)(t:TE):Prop:=
 ∀(pins:List (Addr×Obj))(s:Shared)(σ:St)(H:Hp)(Q:VK),Inv X pins σ H s->t σ H Q->
  wpAny (model X.prog X.w) X.A (eval a X.env) (λv da=>wpAny (model X.prog X.w) X.A (eval b X.env) (λu vq=>wpAny (model X.prog X.w) X.A (compareOp op v u) (EP X pins σ Q) X.xe vq) X.xe da) X.xe s
theorem Ed(b:Expr)(h:op≠.In)(h2:op≠.NotIn):behindInMarks op b=false:=by
 have e1:(op==CmpOp.In)=false:=by cases op<;>first|rfl|exact absurd rfl h
 have e2:(op==CmpOp.NotIn)=false:=by cases op<;>first|rfl|exact absurd rfl h2
 cases b<;>simp[behindInMarks,e1,e2]
noncomputable def Ky(p:Int->Int->Bool)(ta tb:TE):TE:=λσ H Q=>Ti ta tb (λi j H2=>Q (.bl (p i j)) H2) σ H
noncomputable abbrev Tj:TE->TE->TE:=Ky λi j=>decide (j<i)
noncomputable abbrev Gs:TE->TE->TE:=Ky λi j=>decide (i=j)
theorem w5(ha:PE X a ta)(hb:PE X b tb)
  (rule:∀(i j:Int)(t u:Tok)(Q:Value->Shared->Prop)(s:Shared),Q (.bool (p i j)) s->wpAny (model X.prog X.w) X.A (compareOp op (.int i t) (.int j u)) Q X.xe s):PC X op a b (Ky p ta tb):=by
 intro pins s σ H Q I h;refine bin ha hb I h λv u s2 x y H2 I2 rx ry q=>?_;obtain⟨i,j,rfl,rfl,q⟩:=q;obtain⟨t,rfl⟩:=rx;obtain⟨t',rfl⟩:=ry;exact rule i j t t' _ s2 ⟨.bl _,H2,I2,rfl,q⟩
theorem NS(ha:PE X a ta)(hb:PE X b tb):PC X .Gt a b (Tj ta tb):=w5 ha hb λ_ _ _ _ _ _ h=>gt_int h
theorem w6(ha:PE X a ta)(hb:PE X b tb):PC X .Eq a b (Gs ta tb):=w5 ha hb λ_ _ _ _ _ _ h=>eq_int (by rw[Bool.beq_eq_decide_eq];exact h)
noncomputable def tB(t:TE):TT:=λσ H Q=>t σ H λx H1=>∃c,x=.bl c/\Q c H1
theorem mI(h:PC X op a b t)(h1:behindInMarks op b=false:=by first|exact Ed _ (by decide) (by decide)|rfl):PT X (.Compare a [op] [b] pos) (tB t):=by
 intro pins s σ H Q I hw;refine wpAny_isTrue_Compare1 (fv (h pins s σ H _ I hw) λv s1 h1=>fv h1 λu s2 h2=>fv h2 λc s3 ⟨x,H1,I1,r1,q1⟩=>?_) h1;obtain⟨d,rfl,q⟩:=q1;cases r1;exact wpAny_truthy_bool ⟨H1,I1,q⟩
variable{tA Qi:TT}{rest:List Expr}
noncomputable def Q7(t u:TT):TT:=λσ H Q=>t σ H λc H1=>if c=true then u σ H1 Q else Q false H1
noncomputable def UZ(t u:TT):TT:=λσ H Q=>t σ H λc H1=>if c=true then Q true H1 else u σ H1 Q
noncomputable def Q8(t:TT):TT:=λσ H Q=>t σ H λc H1=>Q (!c) H1
theorem Gu(ha:PT X a tA):PW X (.BoolOp .And [a] pos) tA:=by
 intro wh pins s σ H Q I h;refine isTrue_and (fv (ha pins s σ H Q I h) λc s1 e=>?_)
 cases c with
 |true=>exact isTrue_and_nil e
 |false=>exact e
theorem Kz(ha:PT X a tA):PW X (.BoolOp .Or [a] pos) tA:=by
 intro wh pins s σ H Q I h;refine isTrue_or (fv (ha pins s σ H Q I h) λc s1 e=>?_)
 cases c with
 |false=>exact isTrue_or_nil e
 |true=>exact e
theorem KA(ha:PT X a tA)(hb:PW X (.BoolOp .And (b::rest) pos) Qi):PW X (.BoolOp .And (a::b::rest) pos) (Q7 tA Qi):=by
 intro wh pins s σ H Q I h;refine isTrue_and (fv (ha pins s σ H _ I h) λc s1 ⟨H1,I1,q1⟩=>?_)
 cases c with
 |true=>exact hb wh pins s1 σ H1 Q I1 q1
 |false=>exact⟨H1,I1,q1⟩
theorem NT(ha:PT X a tA)(hb:PW X (.BoolOp .Or (b::rest) pos) Qi):PW X (.BoolOp .Or (a::b::rest) pos) (UZ tA Qi):=by
 intro wh pins s σ H Q I h;refine isTrue_or (fv (ha pins s σ H _ I h) λc s1 ⟨H1,I1,q1⟩=>?_)
 cases c with
 |true=>exact⟨H1,I1,q1⟩
 |false=>exact hb wh pins s1 σ H1 Q I1 q1
theorem KC(ha:PT X a tA):PT X (.UnaryOp .Not a pos) (Q8 tA):=by
 intro pins s σ H Q I h;exact isTrue_not (ha pins s σ H (λc H1=>Q (!c) H1) I h)
noncomputable def NU(ta tb:TE):TE:=λσ H Q=>ta σ H λx H1=>∃c,x=.bl c/\if c=true then tb σ H1 Q else Q (.bl false) H1
noncomputable def NV(ta:TE):TE:=λσ H Q=>ta σ H λx H1=>∃c,x=.bl c/\Q (.bl (!c)) H1
theorem KD{op}(h:PE X a t):PE X (.BoolOp op [a] pos) t:=λpins s σ H Q I hw=>BoolOp_one (h pins s σ H Q I hw)
theorem KG(ha:PE X a ta)(hb:PE X (.BoolOp .And (b::rest) pos) tb):PE X (.BoolOp .And (a::b::rest) pos) (NU ta tb):=by
 intro pins s σ H Q I h;refine BoolOp_and (fv (ha pins s σ H _ I h) λv s1 ⟨x,H1,I1,r1,q1⟩=>?_);obtain⟨c,rfl,q1⟩:=q1;cases r1;refine wpAny_truthy_bool ?_
 cases c with
 |true=>exact hb pins s1 σ H1 Q I1 q1
 |false=>exact⟨.bl false,H1,I1,rfl,q1⟩
theorem KH(ha:PE X a ta):PE X (.UnaryOp .Not a pos) (NV ta):=by
 intro pins s σ H Q I h;refine UnaryOp_ (fv (ha pins s σ H _ I h) λv s1 ⟨x,H1,I1,r1,q1⟩=>?_);obtain⟨c,rfl,q1⟩:=q1;cases r1;exact not_of (wpAny_truthy_bool ⟨.bl (!c),H1,I1,rfl,q1⟩)
noncomputable def U0(t:TT)(ta tb:TE):TE:=λσ H Q=>t σ H λc H1=>if c=true then ta σ H1 Q else tb σ H1 Q
theorem xA(hc:PT X c tA)(ha:PE X a ta)(hb:PE X b tb):PE X (.IfExp c a b pos) (U0 tA ta tb):=by
 intro pins s σ H Q I h;refine wpAny_IfExp (fv (hc pins s σ H _ I h) λd s1 ⟨H1,I1,q1⟩=>?_)
 cases d with
 |true=>exact ha pins s1 σ H1 Q I1 q1
 |false=>exact hb pins s1 σ H1 Q I1 q1
end
def ki(K:PySem.W.Frag)(H:Hp)(a:Addr)(xs:List V):Prop:=
 Rd H a (.lst xs)\/
  ∃(o:Obj)(its:Array Value)(n:Nat),K.lookup a=some o/\o.cls=.type "list"/\o.dict=none/\o.data=.seq its n/\its.size<=sizeLine/\Vals xs its.toList
def ju(K:PySem.W.Frag)(H:Hp)(a:Addr)(xs:List V):Prop:=
 Rd H a (.tup xs)\/
  ∃(o:Obj)(its:Array Value)(n:Nat),K.lookup a=some o/\o.cls=.type "tuple"/\o.data=.seq its n/\its.size<=sizeLine/\Vals xs its.toList
noncomputable def Q9:Value->Option V
 |.none=>some .cx
 |.bool b=>some (.bl b)
 |.int i _=>some (.int i)
 |.str x _=>some (.str x)
 |.bytes b _=>some (.Dh b)
 |.float b _=>some (.Q1 b)
 |.ref a=>some (.ref a)
 |.type n=>some (.ty n)
 |_=>none
theorem RelV.abs(r:RelV x u):Q9 u=some x:=by
 cases x with
 |cx=>cases r;rfl
 |bl _=>cases r;rfl
 |int _=>obtain⟨t,rfl⟩:=r;rfl
 |str _=>obtain⟨t,rfl⟩:=r;rfl
 |Dh _=>obtain⟨t,rfl⟩:=r;rfl
 |Q1 _=>obtain⟨t,rfl⟩:=r;rfl
 |ref _=>cases r;rfl
 |ty _=>cases r;rfl
theorem RelV.inj(r:RelV x u)(q:RelV y u):x=y:=ud (r.abs.symm.trans q.abs)
theorem Vals.inj:∀{xs ys:List V}{us:List Value},Vals xs us->Vals ys us->xs=ys
 |_,_,_,.nil,.nil=>rfl
 |_,_,_,.cons r t,.cons r' t'=>by rw[r.inj r',Vals.inj t t']
section
variable{X:Cx}{pins:List (Addr×Obj)}{σ:St}{H:Hp}{s:Shared}{a:Addr}{xs ys:List V}
theorem ki.of{K:PySem.W.Frag}(h:H a=some (.lst xs)):ki K H a xs:=.inl (.inl h)
theorem ju.of{K:PySem.W.Frag}(h:H a=some (.tup xs)):ju K H a xs:=.inl (.inl h)
theorem Inv.list(I:Inv X pins σ H s)(h:ki X.K H a xs):∃its:List Value,Vals xs its/\PlainL s.heap a its.toArray/\xs.length<=sizeLine:=by
 rcases h with h|⟨o,its,n,hk,hc,hd,hs,hz,r⟩
 ·obtain⟨z,its,n,r,e⟩:=h.ok I.dq
  exact⟨its,r,⟨_,n,e,rfl,rfl,rfl⟩,z⟩
 ·refine⟨its.toList,r,⟨o,n,I.DS a o hk,hc,hd,by simpa using hs⟩,?_⟩
  have e:=r.length;simp only[Array.length_toList] at e;omega
theorem Inv.tuple(I:Inv X pins σ H s)(h:ju X.K H a xs):∃its:List Value,Vals xs its/\IsTup s.heap a its.toArray/\xs.length<=sizeLine:=by
 rcases h with h|⟨o,its,n,hk,hc,hs,hz,r⟩
 ·obtain⟨z,its,r,p⟩:=h.ok I.dq
  exact⟨its,r,p,z⟩
 ·refine⟨its.toList,r,⟨o,I.DS a o hk,hc,n,by simpa using hs⟩,?_⟩
  have e:=r.length;simp only[Array.length_toList] at e;omega
theorem Inv.Ee(I:Inv X pins σ H s)(h:ki X.K H a xs)(h':ki X.K H a ys):xs=ys:=by
 obtain⟨its,r,⟨o,n,e,_,_,d⟩,_⟩:=I.list h;obtain⟨its',r',⟨o',n',e',_,_,d'⟩,_⟩:=I.list h';rw[e] at e';cases e';rw[d] at d'
 injection d' with d1 _
 have:its=its':=by simpa using congrArg Array.toList d1
 subst this;exact r.inj r'
theorem Inv.vt(I:Inv X pins σ H s)(h:ju X.K H a xs)(h':ju X.K H a ys):xs=ys:=by
 obtain⟨its,r,⟨o,e,_,n,d⟩,_⟩:=I.tuple h;obtain⟨its',r',⟨o',e',_,n',d'⟩,_⟩:=I.tuple h';rw[e] at e';cases e';rw[d] at d'
 injection d' with d1 _
 have:its=its':=by simpa using congrArg Array.toList d1
 subst this;exact r.inj r'
end
noncomputable abbrev Cx.Ap(X:Cx)(E:Value->Shared->Prop):Cx:={X with xe:=E}
noncomputable abbrev Cx.yo(X:Cx):Cx:=X.Ap λ_ _=>False
theorem Cx.Ok.Ap{X:Cx}(ok:X.Ok)(E:Value->Shared->Prop):(X.Ap E).Ok:=
 ⟨ok.mod,ok.kind,ok.glob,ok.blt,ok.above,ok.inj,ok.has,ok.NJ,ok.hd,ok.frames,ok.Qg,ok.Td,ok.bs,ok.Jn,ok.Eb,ok.Gq,ok.yz,ok.M1⟩
theorem Cx.Ok.qp{X:Cx}(ok:(X.Ap E).Ok):X.Ok:=
 ⟨ok.mod,ok.kind,ok.glob,ok.blt,ok.above,ok.inj,ok.has,ok.NJ,ok.hd,ok.frames,ok.Qg,ok.Td,ok.bs,ok.Jn,ok.Eb,ok.Gq,ok.yz,ok.M1⟩
section
variable{X:Cx}{pins:List (Addr×Obj)}{σ:St}{H:Hp}{s:Shared}{E:Value->Shared->Prop}
theorem Inv.Ap(I:Inv X pins σ H s)(E:Value->Shared->Prop):Inv (X.Ap E) pins σ H s:=⟨I.ok.Ap E,I.os,I.bare,I.base,I.loc,I.cell,I.free,I.qo,I.pin,I.dq,I.len⟩
theorem Inv.qp(I:Inv (X.Ap E) pins σ H s):Inv X pins σ H s:=⟨I.ok.qp,I.os,I.bare,I.base,I.loc,I.cell,I.free,I.qo,I.pin,I.dq,I.len⟩
theorem SP.qp(h:SP (X.Ap E) pins D f s'):SP X pins D f s':=by
 cases f with
 |next=>obtain⟨di,H',I,q⟩:=h;exact⟨di,H',I.qp,q⟩
 |brk=>obtain⟨di,H',I,q⟩:=h;exact⟨di,H',I.qp,q⟩
 |cont=>obtain⟨di,H',I,q⟩:=h;exact⟨di,H',I.qp,q⟩
 |ret u=>obtain⟨v,di,H',I,r,q⟩:=h;exact⟨v,di,H',I.qp,r,q⟩
end
section
variable{X:Cx}{st:Stmt}{rest:List Stmt}{t u:TS}{e:Expr}{te:TE}{pos:Pos}
noncomputable def CN:TS:=λD σ H=>D.nx σ H
noncomputable def ke(t u:TS):TS:=λD σ H=>t {D with nx:=u D} σ H
theorem mJ:Di X [] CN:=λ_ _ σ H _ I h=>wpAny_execs_nil ⟨σ,H,I,h⟩
theorem aF(h1:PS X st t)(h2:Di X rest u):Di X (st::rest) (ke t u):=by
 intro pins s σ H D I h;refine wpAny_execs_cons (fv (h1 pins s σ H {D with nx:=u D} I h) λf s1 q=>?_)
 cases f with
 |next=>
  obtain⟨di,H',I',q⟩:=q;exact h2 pins s1 di H' D I' q
 |ret v=>exact q
 |brk=>exact q
 |cont=>exact q
theorem aJ(h1:PS X st t):Di X [st] t:=by
 intro pins s σ H D I h;refine wpAny_execs_cons (fv (h1 pins s σ H D I h) λf s1 q=>?_)
 cases f with
 |next=>exact wpAny_execs_nil q
 |ret v=>exact q
 |brk=>exact q
 |cont=>exact q
theorem Inv.quiet(I:Inv X pins σ H s):interactive X.env=false:=by simp[interactive,I.ok.kind]
noncomputable def uo(te:TE):TS:=λD σ H=>te σ H λ_ H1=>D.nx σ H1
theorem tG(he:PE X e te)(hs:swapsWith e none pos.line X.env=pure false:=by rfl):PS X (.Expr e pos) (uo te):=by
 intro pins s σ H D I h;exact wpAny_Expr_any (fv (he pins s σ H _ I h) λv s1 ⟨x,H1,I1,r1,q1⟩=>⟨σ,H1,I1,q1⟩) I.quiet hs
noncomputable def Cn(te:TE):TS:=λD σ H=>te σ H D.rt
theorem dS(he:PE X e te):PS X (.Return (some e) pos) (Cn te):=by
 intro pins s σ H D I h;exact wpAny_Return_some (fv (he pins s σ H _ I h) λv s1 ⟨x,H1,I1,r1,q1⟩=>⟨x,σ,H1,I1,r1,q1⟩)
noncomputable def Gv(c:TT)(t u:TS):TS:=λD σ H=>c σ H λb H1=>if b=true then t D σ H1 else u D σ H1
theorem xB(hc:PT X c tc)(ha:Di X a t)(hb:Di X b u):PS X (.If c a b pos) (Gv tc t u):=by
 intro pins s σ H D I h;refine wpAny_If (fv (hc pins s σ H _ I h) λd s1 ⟨H1,I1,q1⟩=>?_)
 cases d with
 |true=>exact ha pins s1 σ H1 D I1 q1
 |false=>exact hb pins s1 σ H1 D I1 q1
end
noncomputable abbrev TG:=V->St->Hp->(St->Hp->Prop)->Prop
noncomputable abbrev M4:=List V->St->Hp->(St->Hp->Prop)->Prop
def PG(X:Cx)(target:Expr)(t:TG):Prop:=
 ∀(pins:List (Addr×Obj))(s:Shared)(σ:St)(H:Hp)(v:V)(u:Value)(Q:St->Hp->Prop),Inv X pins σ H s->RelV v u->t v σ H Q->
  wpAny (model X.prog X.w) X.A (assign target X.env u) (λ_ s'=>∃di H',Inv X pins di H' s'/\Q di H') X.xe s
def Qj(X:Cx)(ts:List Expr)(t:M4):Prop:=
 ∀(pins:List (Addr×Obj))(s:Shared)(σ:St)(H:Hp)(vs:List V)(us:List Value)(Q:St->Hp->Prop),Inv X pins σ H s->Vals vs us->t vs σ H Q->
  wpAny (model X.prog X.w) X.A (assignInOrder ((assignEach ts X.env).map (·.2)) us) (λ_ s'=>∃di H',Inv X pins di H' s'/\Q di H') X.xe s
noncomputable abbrev KI:=V->V->V->Hp->(Hp->Prop)->Prop
def Gw(X:Cx)(t:KI):Prop:=
 ∀(pins:List (Addr×Obj))(s:Shared)(σ:St)(H:Hp)(o i v:V)(ov iv u:Value)(Q:Hp->Prop),Inv X pins σ H s->RelV o ov->RelV i iv->RelV v u->t o i v H Q->
  wpAny (model X.prog X.w) X.A (setItem ov iv u) (λ_ s'=>∃H',Inv X pins σ H' s'/\Q H') X.xe s
section
variable{X:Cx}{pos:Pos}
noncomputable def bw(i:Nat):TG:=λv σ H Q=>Q (σ.set i (some v)) H
theorem hX(hN:X.N.Nodup)(hi:X.N[i]?=some x)(hx:Loc X.env.scope x)(hf:X.fn x=true\/X.env.scope.names.lookup x=some .local:=by first|exact .inl rfl|exact .inr rfl|assumption):PG X (.Name x pos) (bw i):=by
 intro pins s σ H v u Q I r h;exact wpAny_assign_Name (oH I hN hi hx r (λs' I'=>⟨_,H,I',h⟩) hf)
noncomputable def Ef:M4:=λvs σ H Q=>vs=[]/\Q σ H
noncomputable def uq(t:TG)(u:M4):M4:=λvs σ H Q=>∃v r,vs=v::r/\t v σ H λdi H'=>u r di H' Q
theorem Gx:Qj X [] Ef:=by
 intro pins s σ H vs us Q I r h;obtain⟨e,h⟩:=h;subst e;cases r;exact assignInOrder_nil ⟨σ,H,I,h⟩
theorem oI(h1:PG X e t)(h2:Qj X es u)
  (hs:(assignEach (e::es) X.env).map (·.2)=assign e X.env::(assignEach es X.env).map (·.2):=by rfl):Qj X (e::es) (uq t u):=by
 intro pins s σ H vs us Q I r h;obtain⟨v,vr,e1,h⟩:=h;subst e1
 cases r with
 |cons r rr=>
  rw[hs];refine assignInOrder_cons (fv (h1 pins s σ H _ _ _ I r h) λ_ s1 ⟨M5,H1,I1,q1⟩=>?_);exact h2 pins s1 M5 H1 _ _ Q I1 rr q1
noncomputable def Eg(K:PySem.W.Frag)(n:Nat)(t:M4):TG:=λv σ H Q=>∃a xs,v=.ref a/\ju K H a xs/\xs.length=n/\t xs σ H Q
theorem KJ{es:List Expr}{k:Nat}{t:M4}{n:Nat}(hc:X.calm=true)(h:Qj X es t)
  (hn:(assignEach es X.env).length=n:=by rfl) (U1:(assignEach es X.env).findIdx? (·.1)=none:=by rfl):PG X (.Tuple es k pos) (Eg X.K n t):=by
 intro pins s σ H v u Q I r hw;obtain⟨a,xs,e1,hq,hl,hw⟩:=hw;subst e1;cases r;obtain⟨its,rv,ht,hz⟩:=I.tuple hq;refine assign_Tuple_tuple (I.ok.hd hc) ht (by simp[hn,←hl,rv.length]) U1 λh' hx=>?_;have I1:Inv X pins σ H {s with heap:=h'}:=I.kept (t':=s.toks) λb o e=>hx b o (yv (kc e)) e;exact h pins _ σ H xs _ Q I1 (by simpa using rv) hw
noncomputable def Dj(to ti:TE)(t:KI):TG:=λv σ H Q=>to σ H λo H1=>ti σ H1 λi H2=>t o i v H2 λH3=>Q σ H3
theorem xC(ho:PE X o to)(hi:PE X i ti)(hs:Gw X t)
  (ha:∀v,assign (.Subscript o i pos) X.env v=(do
   let ov←holding [v] (eval o X.env)
   let iv←holding [v,ov] (eval i X.env)
   standAt pos
   holding [v,ov,iv] (setItem ov iv v)
   release [v,ov,iv] []):=by intro _;rfl):PG X (.Subscript o i pos) (Dj to ti t):=by
 intro pins s σ H v u Q I r h;rw[ha];refine bf (FU (fv (ho pins s σ H _ I h) λov s1 ⟨x,H1,I1,r1,q1⟩=>?_));refine bf (FU (fv (hi pins s1 σ H1 _ I1 q1) λiv s2 ⟨y,H2,I2,r2,q2⟩=>?_));refine bf (wpAny_standAt (bf (FU (fv (hs pins s2 σ H2 x y v ov iv u _ I2 r1 r2 r q2) λ_ s3 ⟨H3,I3,q3⟩=>?_))));exact wpAny_release ⟨σ,H3,I3,q3⟩
noncomputable def jn(te:TE)(g:TG):TS:=λD σ H=>te σ H λx H1=>g x σ H1 D.nx
theorem mK(he:PE X e te)(hg:PG X tg g)(hs:swapsWithSole [tg] e pos.line X.env=pure false:=by rfl)(hw:swappedStores [tg] e X.env=pure none:=by rfl)
  (h1:(assignEach [tg] X.env).map (·.2)=[assign tg X.env]:=by rfl):PS X (.Assign [tg] e pos) (jn te g):=by
 intro pins s σ H D I h;refine wpAny_Assign_stores (fv (he pins s σ H _ I h) λv s1 ⟨x,H1,I1,r1,q1⟩=>?_) hs hw;rw[h1];exact fv (hg pins s1 σ H1 x v _ I1 r1 q1) λ_ s2 q=>q
theorem qS(hN:X.N.Nodup)(hi:X.N[i]?=some x)(hx:Loc X.env.scope x)(he:PE X e te)(hs:swapsWith e (some (.Name x pos')) pos.line X.env=pure false:=by rfl)(hf:X.fn x=true\/X.env.scope.names.lookup x=some .local:=by first|exact .inl rfl|exact .inr rfl|assumption):
  PS X (.Assign [.Name x pos'] e pos) (jn te (bw i)):=by
 intro pins s σ H D I h;refine wpAny_Assign_Name (fv (he pins s σ H _ I h) λv s1 ⟨y,H1,I1,r1,q1⟩=>?_) hs;exact oH I1 hN hi hx r1 (λs2 I2=>⟨_,H1,I2,q1⟩) hf
end
section
variable{X:Cx}{pos:Pos}
noncomputable def Co(c:TT)(tb:TS):TS:=λD σ H=>∃W:Nat->St->Hp->Prop,(∃m,W m σ H)/\∀m σ H,W m σ H->
 c σ H λb H1=>if b=true then∃N:St->Hp->Prop,(∀di H',N di H'->∃m',m'<m/\W m' di H')/\tb {D with nx:=N,ct:=N,bk:=D.nx} σ H1 else D.nx σ H1
theorem oJ(hp:PassesOwn (model X.prog X.w) X.A X.env X.xe)(hc:PT X c tc)(hb:Di X body tb):PS X (.While c body [] pos) (Co tc tb):=by
 intro pins s σ H D I h;obtain⟨W,⟨m0,w0⟩,turn⟩:=h;refine wpAny_While (codeAny_whileLoop (λn s'=>∃di H',Inv X pins di H' s'/\W n di H') ?_ m0 ⟨σ,H,I,w0⟩);rintro n s1 ⟨M5,H1,I1,w1⟩;refine wpAny_passesOwn hp (fv (hc pins s1 M5 H1 _ I1 (turn n M5 H1 w1)) λb s2 ⟨H2,I2,q2⟩=>?_)
 cases b with
 |true=>
  obtain⟨N,hN,q2⟩:=q2;rw[bp rfl];refine wpAny_passesOwn hp (fv (hb pins s2 M5 H2 _ I2 q2) λf s3 q3=>?_)
  cases f with
  |next=>
   obtain⟨BA,H3,I3,n3⟩:=q3;obtain⟨m',hm,w3⟩:=hN BA H3 n3;exact⟨m',hm,BA,H3,I3,w3⟩
  |cont=>
   obtain⟨BA,H3,I3,n3⟩:=q3;obtain⟨m',hm,w3⟩:=hN BA H3 n3;exact⟨m',hm,BA,H3,I3,w3⟩
  |brk=>exact q3
  |ret v=>exact q3
 |false=>
  rw[az jw];exact wpAny_execs_nil ⟨M5,H2,I2,q2⟩
end
structure It where
 go:Nat->Hp->Prop
 NW:Nat->Hp->V->Hp->Prop
 stop:Nat->Hp->Prop
def A2(X:Cx)(pins:List (Addr×Obj))(H:Hp)(b:Addr):Prop:=
 H b=none/\b≠X.env.locals/\b∉X.fs/\(b∈X.ex\/X.h_.heap.objs.size<=b)/\(∀x c,X.env.cells.lookup x=some c->c≠b)/\∀p∈X.pn++pins,p.1≠b
theorem Inv.Dk(I:Inv X pins σ H s)(hb:s.heap.objs.size<=b)(hn:H' b=none):A2 X pins H' b:=by
 refine⟨hn,Dg (Bi I.lt hb),I.NL hb,.inr (qe I.sz hb),λx c e z=>?_,λp hp z=>?_⟩
 ·obtain⟨v,q⟩:=I.cell x c e
  exact absurd (Bi q.lt (by rw[z];exact hb)) (Cj _)
 ·exact absurd (Bi (kc (I.pin p hp).1) (by rw[z];exact hb)) (Cj _)
structure Turn(P:Program)(w:World)(K:PySem.W.Frag)(tg:Expr)(J:It)(fp:List Addr)(it:Addr)(tn:Nat->Heap->Prop):Prop where
 mem:it∈fp
 obj:∀i h,tn i h->∀b∈fp,∃o,h.get? b=some o/\∀v,o.data≠.cell v
 keep:∀i h h',tn i h->(∀b∈fp,∀o,h.get? b=some o->h'.get? b=some o)->tn i h'
 item:∀(X:Cx),X.prog=P->X.w=w->X.K=K->X.calm=true->∀(i:Nat)(pins:List (Addr×Obj))(s:Shared)(σ:St)(H:Hp)(E:Value->Shared->Prop),Inv X pins σ H s->(∀b∈fp,A2 X pins H b)->tn i s.heap->J.go i H->
  wpAny (model P w) X.A (pyNext (.ref it)) (λr s1=>∃u,r=some u/\
   wpAny (model P w) X.A (letOwnedTupleGo tg (.ref it) u) (λ_ s2=>∃x H',Inv X pins σ H' s2/\RelV x u/\J.NW i H x H'/\tn (i+1) s2.heap/\∀b∈fp,H' b=none) E s1) E s
 done:∀(X:Cx),X.prog=P->X.w=w->X.K=K->X.calm=true->∀(i:Nat)(pins:List (Addr×Obj))(s:Shared)(σ:St)(H:Hp)(E:Value->Shared->Prop),Inv X pins σ H s->(∀b∈fp,A2 X pins H b)->tn i s.heap->J.stop i H->
  wpAny (model P w) X.A (pyNext (.ref it)) (λr s1=>r=none/\Inv X pins σ H s1) E s
 self:∀(A:Around)(i:Nat)(s:Shared)(Q:Value->Shared->Prop)(E:Value->Shared->Prop),tn i s.heap->Q (.ref it) s->wpAny (model P w) A (pyIter (.ref it)) Q E s
noncomputable abbrev TI:=St->Hp->(It->Hp->Prop)->Prop
def To(X:Cx)(pins:List (Addr×Obj))(σ:St)(tg:Expr)(R:It->Hp->Prop)(Qk:Value)(s2:Shared):Prop:=
 ∃(it:Addr)(fp:List Addr)(tn:Nat->Heap->Prop)(J:It)(H':Hp),Qk=.ref it/\Inv X pins σ H' s2/\Turn X.prog X.w X.K tg J fp it tn/\tn 0 s2.heap/\(∀b∈fp,A2 X pins H' b)/\R J H'
def PI(X:Cx)(tg iter:Expr)(wi:TI):Prop:=
 ∀(pins:List (Addr×Obj))(s:Shared)(σ:St)(H:Hp)(R:It->Hp->Prop),Inv X pins σ H s->wi σ H R->
  wpAny (model X.prog X.w) X.A (eval iter X.env) (λv s1=>wpAny (model X.prog X.w) X.A (pyIter v) (To X pins σ tg R) X.xe s1) X.xe s
theorem tH(ho:s.heap.get? it=some o)(hc:o.cls=.type n)(hd:o.data=.fields vs)
   (hn:["enumerate","zip","dict_itemiterator","dict_reverseitemiterator","odict_iterator","itertools.zip_longest","itertools.pairwise"].contains n=false) (hQ:Q () s):wpAny M A (letOwnedTupleGo tg (.ref it) u) Q E s:=by
 unfold letOwnedTupleGo;cases tg<;>first
   |exact fg hQ
   |(cases u<;>first
       |exact fg hQ
       | (refine bf (wpAny_load ho ?_)
          rw[hc,hd];show wpAny M A (if(["enumerate","zip","dict_itemiterator","dict_reverseitemiterator","odict_iterator","itertools.zip_longest","itertools.pairwise"].contains n&&vs[0]?==some (rawInt _))=true then _ else _) Q E s;rw[az (by intro h;rw[hn,Bool.false_and] at h;cases h)];exact fg hQ))
noncomputable def Q_(K:PySem.W.Frag)(a:Addr):It:=
 ⟨λi H=>∃xs x,ki K H a xs/\xs[i]?=some x,λi H x H'=>H'=H/\∀xs,ki K H a xs->xs[i]?=some x,λi H=>∃xs,ki K H a xs/\xs.length<=i⟩
noncomputable def Ra(K:PySem.W.Frag)(a:Addr):It:=
 ⟨λi H=>∃xs x,ju K H a xs/\xs[i]?=some x,λi H x H'=>H'=H/\∀xs,ju K H a xs->xs[i]?=some x,λi H=>∃xs,ju K H a xs/\xs.length<=i⟩
noncomputable def KL(lo:Int)(n:Nat):It:=⟨λi _=>i<n,λi H x H'=>H'=H/\x=.int (lo+i),λi _=>n<=i⟩
theorem vG{P:Program}{w:World}{K:PySem.W.Frag}{tg:Expr}(a it:Addr):Turn P w K tg (Q_ K a) [it] it (λi h=>h.IsListIter it a i) where
 mem:=by simp
 obj:=λi h st b hb=>by
  have e:b=it:=by simpa using hb
  subst e;obtain⟨o,e,c,d⟩:=st;exact⟨o,e,λv z=>by rw[d] at z;cases z⟩
 keep:=λi h h' st k=>st.at λo e=>k it (by simp) o e
 item:=by
  intro X hP hw hK hc i pins s σ H E I hf st hg;subst hP hw hK;obtain⟨xs,x,hq,hx⟩:=hg;obtain⟨its,rv,p,hz⟩:=I.list hq;obtain⟨u,hu,ru⟩:=rv.get hx;obtain⟨f0,f1,f2,f3,f4,f5⟩:=hf it (by simp);refine wpAny_pyNext_list_item st p.isList (x:=u) (by simpa using hu) λh' Dl sb=>?_;have I1:Inv X pins σ H {s with heap:=h'}:=I.turned (t':=s.toks) (λb o hb e=>(sb.2 b hb).trans e) f0 f1 f3 f4 f5;obtain⟨o,e,c,d⟩:=id Dl;exact⟨u,rfl,tH (s:={s with heap:=h'}) e c d (by decide) ⟨x,H,I1,ru,⟨rfl,λys hy=>by rw[I.Ee hy hq];exact hx⟩,Dl,λb hb=>(hf b hb).1⟩⟩
 done:=by
  intro X hP hw hK hc i pins s σ H E I hf st hg;subst hP hw hK;obtain⟨xs,hq,hx⟩:=hg;obtain⟨its,rv,p,hz⟩:=I.list hq;obtain⟨f0,f1,f2,f3,f4,f5⟩:=hf it (by simp);have hl:=rv.length;exact wpAny_pyNext_list_end (I.ok.hd hc) st p.isList (by simp;omega) λh' eb=>⟨rfl,I.turned (t':=s.toks) (λb o hb e=>eb b o hb e) f0 f1 f3 f4 f5⟩
 self:=λ_ _ _ _ _ st h=>wpAny_pyIter_listiter st h
theorem qT{P:Program}{w:World}{K:PySem.W.Frag}{tg:Expr}(a it:Addr):Turn P w K tg (Ra K a) [it] it (λi h=>h.IsTupleIter it a i) where
 mem:=by simp
 obj:=λi h st b hb=>by
  have e:b=it:=by simpa using hb
  subst e;obtain⟨o,e,c,d⟩:=st;exact⟨o,e,λv z=>by rw[d] at z;cases z⟩
 keep:=λi h h' st k=>st.at λo e=>k it (by simp) o e
 item:=by
  intro X hP hw hK hc i pins s σ H E I hf st hg;subst hP hw hK;obtain⟨xs,x,hq,hx⟩:=hg;obtain⟨its,rv,p,hz⟩:=I.tuple hq;obtain⟨u,hu,ru⟩:=rv.get hx;obtain⟨f0,f1,f2,f3,f4,f5⟩:=hf it (by simp);refine wpAny_pyNext_tuple_item st (show s.heap.IsTuple a its.toArray from p) (x:=u) (by simpa using hu) λh' Dl sb=>?_;have I1:Inv X pins σ H {s with heap:=h'}:=I.turned (t':=s.toks) (λb o hb e=>(sb.2 b hb).trans e) f0 f1 f3 f4 f5;obtain⟨o,e,c,d⟩:=id Dl;exact⟨u,rfl,tH (s:={s with heap:=h'}) e c d (by decide) ⟨x,H,I1,ru,⟨rfl,λys hy=>by rw[I.vt hy hq];exact hx⟩,Dl,λb hb=>(hf b hb).1⟩⟩
 done:=by
  intro X hP hw hK hc i pins s σ H E I hf st hg;subst hP hw hK;obtain⟨xs,hq,hx⟩:=hg;obtain⟨its,rv,p,hz⟩:=I.tuple hq;obtain⟨f0,f1,f2,f3,f4,f5⟩:=hf it (by simp);have hl:=rv.length;exact wpAny_pyNext_tuple_end (I.ok.hd hc) st (show s.heap.IsTuple a its.toArray from p) (by simp;omega) λh' eb=>⟨rfl,I.turned (t':=s.toks) (λb o hb e=>eb b o hb e) f0 f1 f3 f4 f5⟩
 self:=λ_ _ _ _ _ st h=>wpAny_pyIter_tupleiter st h
theorem qU{P:Program}{w:World}{K:PySem.W.Frag}{tg:Expr}(it:Addr)(lo:Int)(n:Nat):Turn P w K tg (KL lo n) [it] it (λi h=>IsRangeIter h it (lo+(i:Nat)*1) ((n:Int)-(i:Nat)) 1) where
 mem:=by simp
 obj:=λi h st b hb=>by
  have e:b=it:=by simpa using hb
  subst e;exact⟨_,st,λv z=>by
   have z':Data.fields _=Data.cell v:=z;cases z'⟩
 keep:=λi h h' st k=>k it (by simp) _ st
 item:=by
  intro X hP hw hK hc i pins s σ H E I hf st hg;subst hP hw hK;obtain⟨f0,f1,f2,f3,f4,f5⟩:=hf it (by simp);have W:=Walks.range (prog:=X.prog) (w:=X.w) (I.ok.hd hc) it lo 1 n;refine W.item i s _ _ hg st λv h' tk hv Dl kk=>?_;obtain⟨t,rfl⟩:=hv;have I1:Inv X pins σ H {s with heap:=h',toks:=tk}:=I.turned (λb o hb e=>kk b o (by simpa using hb) e) f0 f1 f3 f4 f5;refine⟨_,rfl,tH (s:={s with heap:=h',toks:=tk}) (n:="range_iterator") Dl rfl rfl (by decide) ⟨.int (lo+i),H,I1,⟨t,?_⟩,⟨rfl,rfl⟩,Dl,λb hb=>(hf b hb).1⟩⟩;rw[Int.mul_one]
 done:=by
  intro X hP hw hK hc i pins s σ H E I hf st hg;subst hP hw hK;obtain⟨f0,f1,f2,f3,f4,f5⟩:=hf it (by simp);exact wpAny_pyNext_range_end (I.ok.hd hc) st (by have:n<=i:=hg;omega) λh' eb=>⟨rfl,I.turned (t':=s.toks) (λb o hb e=>eb b o hb e) f0 f1 f3 f4 f5⟩
 self:=λ_ _ _ _ _ st h=>wpAny_pyIter_rangeiter st h
section
variable{X:Cx}{tg:Expr}
noncomputable def CO(K:PySem.W.Frag)(tl:TE):TI:=λσ H R=>tl σ H λx H1=>∃a,x=.ref a/\(∃xs,ki K H1 a xs)/\R (Q_ K a) H1
noncomputable def Eh(K:PySem.W.Frag)(tl:TE):TI:=λσ H R=>tl σ H λx H1=>∃a,x=.ref a/\(∃xs,ju K H1 a xs)/\R (Ra K a) H1
theorem tI(hl:PE X l tl):PI X tg l (CO X.K tl):=by
 intro pins s σ H R I h;refine fv (hl pins s σ H _ I h) λv s1 ⟨x,H1,I1,r1,q1⟩=>?_;obtain⟨a,e,⟨xs,hq⟩,q⟩:=q1;subst e;cases r1;obtain⟨its,rv,p,hz⟩:=I1.list hq;refine wpAny_pyIter_list p.isList ?_;refine⟨s1.heap.objs.size,[s1.heap.objs.size],_,_,H1,rfl,I1.kept (t':=s1.toks) λb o e=>qa _ e,vG a _,⟨_,Ab _ rfl,rfl,rfl⟩,λb hb=>?_,q⟩;have e:b=s1.heap.objs.size:=by simpa using hb
 subst e;exact I1.Dk (fm _) (I1.dq.fresh (fm _))
theorem mL(hl:PE X l tl):PI X tg l (Eh X.K tl):=by
 intro pins s σ H R I h;refine fv (hl pins s σ H _ I h) λv s1 ⟨x,H1,I1,r1,q1⟩=>?_;obtain⟨a,e,⟨xs,hq⟩,q⟩:=q1;subst e;cases r1;obtain⟨its,rv,p,hz⟩:=I1.tuple hq;refine wpAny_pyIter_tuple (show s1.heap.IsTuple a its.toArray from p) ?_;refine⟨s1.heap.objs.size,[s1.heap.objs.size],_,_,H1,rfl,I1.kept (t':=s1.toks) λb o e=>qa _ e,qT a _,⟨_,Ab _ rfl,rfl,rfl⟩,λb hb=>?_,q⟩;have e:b=s1.heap.objs.size:=by simpa using hb
 subst e;exact I1.Dk (fm _) (I1.dq.fresh (fm _))
theorem xD{pins:List (Addr×Obj)}{σ:St}{H:Hp}{s:Shared}{R:It->Hp->Prop}{E:Value->Shared->Prop}{lo hi:Int}{t u v:Tok}{tk:Nat}(I:Inv X pins σ H s)(h1: -(2^62)<=lo)(h2:lo<2^62)(h3: -(2^62)<=hi)(h4:hi<2^62)
  (q:R (KL lo (hi-lo).toNat) H):wpAny (model X.prog X.w) X.A (pyIter (.ref s.heap.objs.size)) (To X pins σ tg R) E {s with heap:=s.heap.push {cls:=.type "range",data:=.fields #[.int lo t,.int hi u,.int 1 v]},toks:=tk}:=by
 refine wpAny_pyIter_range (IsRange.new ..) (small_one h1 h2 h3 h4) ?_;have I1:Inv X pins σ H {s with heap:=s.heap.push {cls:=.type "range",data:=.fields #[.int lo t,.int hi u,.int 1 v]},toks:=tk}:=I.kept λb o e=>qa _ e;refine⟨(s.heap.push {cls:=.type "range",data:=.fields #[.int lo t,.int hi u,.int 1 v]}).objs.size,[(s.heap.push {cls:=.type "range",data:=.fields #[.int lo t,.int hi u,.int 1 v]}).objs.size],_,_,H,rfl,
  I1.kept (t':=tk) λb o e=>qa _ e,qU _ lo (hi-lo).toNat,?_,λb hb=>?_,q⟩
 ·have e1:lo+((0:Nat):Int)*1=lo:=by simp
  have e2:(((hi-lo).toNat:Nat):Int)-((0:Nat):Int)=Builtin.Range.rangeSize lo hi 1:=by rw[rangeSize_one];split<;>omega
  show IsRangeIter _ _ (lo+((0:Nat):Int)*1) ((((hi-lo).toNat:Nat):Int)-((0:Nat):Int)) 1;rw[e1,e2];exact Ab _ rfl
 ·have e:b=(s.heap.push {cls:=.type "range",data:=.fields #[.int lo t,.int hi u,.int 1 v]}).objs.size:=by simpa using hb
  subst e;exact I1.Dk (fm _) (I1.dq.fresh (fm _))
noncomputable def CP(ta:TA):TI:=λσ H R=>ta σ H λvs H1=>∃j:Int,vs=[.int j]/\-(2^62)<=j/\j<2^62/\R (KL 0 j.toNat) H1
theorem kX{a:Expr}{ta:TA}{p pos:Pos}(hg:Gl X "range")(hm:X.mg "range"=none)(ha:PA X [a] ta)(hs:starEach [a] X.env=[(false,eval a X.env)]:=by rfl):PI X tg (.Call (.Name "range" p) [a] [] pos) (CP ta):=by
 intro pins s σ H R I h;refine Call_ (fS I hg hm boot_range (PyProof.Rows.callWith_type1 (fv (ha pos pins s σ H _ I h) λus s1 ⟨vs,H1,I1,r1,q1⟩=>?_) hs rfl));obtain⟨j,e,q1,q2,q⟩:=q1;subst e
 cases r1 with
 |cons r rr=>
  cases rr;obtain⟨t,rfl⟩:=r;exact call_range_1 (xD I1 (by omega) (by omega) q1 q2 (by simpa using q))
noncomputable def jo(wi:TI)(g:TG)(tb:TS):TS:=λD σ H=>wi σ H λJ H1=>∃W:Nat->Nat->St->Hp->Prop,(∃m,W 0 m σ H1)/\∀i m σ H,W i m σ H->
 (J.stop i H/\D.nx σ H)\/(J.go i H/\∃N:St->Hp->Prop,(∀di H',N di H'->∃m',m'<m/\W (i+1) m' di H')/\∀x H',J.NW i H x H'->g x σ H' λJr H2=>tb {D with nx:=N,ct:=N,bk:=D.nx} Jr H2)
noncomputable def y_(fp:List Addr)(h:Heap):List (Addr×Obj):=fp.filterMap λb=>(h.get? b).map λo=>(b,o)
theorem b0(hb:b∈fp)(e:h.get? b=some o):(b,o)∈y_ fp h:=List.mem_filterMap.mpr ⟨b,hb,by rw[e];rfl⟩
theorem vH(hp:p∈y_ fp h):p.1∈fp/\h.get? p.1=some p.2:=by
 obtain⟨b,hb,e⟩:=List.mem_filterMap.mp hp
 cases q:h.get? b with
 |none=>rw[q] at e;cases e
 |some o=>
  rw[q] at e;have e':(b,o)=p:=ud e;subst e';exact⟨hb,q⟩
theorem Inv.pinned(I:Inv X pins σ H s)(hf:∀b∈fp,A2 X pins H b)(ho:∀b∈fp,∃o,s.heap.get? b=some o/\∀v,o.data≠.cell v):Inv X (pins++y_ fp s.heap) σ H s:=
 I.A1 λp hp=>(List.mem_append.mp hp).elim (λz=>I.pin p (CL _ z)) λz=>by
  obtain⟨hb,e⟩:=vH z;obtain⟨f0,f1,f2,_⟩:=hf p.1 hb;obtain⟨o,e',d⟩:=ho p.1 hb;rw[e] at e';cases e';exact⟨e,f0,f1,f2,d⟩
theorem Inv.n_(I:Inv X (pins++pl) σ H s):Inv X pins σ H s:=I.A1 λp hp=>I.pin p (CL _ (List.mem_append_left _ hp))
theorem xE{iter:Expr}{body:List Stmt}{wi:TI}{g:TG}{tb:TS}{pos:Pos}(hp:PassesOwn (model X.prog X.w) X.A X.env X.xe)(hc:X.calm=true)(hi:PI X tg iter wi)(hg:PG X tg g)(hb:Di X body tb)
  (hs:∀x,foldedSetIterable iter X.env x=pure x:=by intro _;rfl):PS X (.For tg iter body [] pos) (jo wi g tb):=by
 intro pins s σ H D I h;refine wpAny_For (fv (hi pins s σ H _ I h) λv s1 h1=>fv h1 λQk s2 h2=>?_) hs;obtain⟨it,fp,tn,J,H2,e,I2,T,Rb,f2,W,⟨m0,w0⟩,turn⟩:=h2;subst e
 --what stays true of the KN objects through the loop
 have stat:∀{H':Hp},(∀b∈fp,H' b=none)->∀b∈fp,A2 X pins H' b:=λhn b hb=>⟨hn b hb,(f2 b hb).2⟩
 refine codeAny_forLoop_any (λn s'=>∃i di H',Inv X pins di H' s'/\tn i s'.heap/\(∀b∈fp,H' b=none)/\W i n di H') ?_ m0 ⟨0,σ,H2,I2,Rb,λb hb=>(f2 b hb).1,w0⟩;rintro n s3 ⟨i,BA,H3,I3,Tq,Tr,w3⟩;rcases turn i n BA H3 w3 with⟨stop,qn⟩|⟨go,N,hN,step⟩
 ·refine wpAny_passesOwn hp (fv (T.done X rfl rfl rfl hc i pins s3 BA H3 X.xe I3 (stat Tr) Tq stop) λr s4 ⟨hr,I4⟩=>?_)
  subst hr;exact wpAny_execs_nil ⟨BA,H3,I4,qn⟩
 ·refine wpAny_passesOwn hp (fv (T.item X rfl rfl rfl hc i pins s3 BA H3 X.xe I3 (stat Tr) Tq go) λr s4 ⟨u,hr,h4⟩=>?_)
  subst hr;refine wpAny_passesOwn hp (fv h4 λ_ s5 ⟨x,H5,I5,r5,y5,Rc,U2⟩=>?_);have U3:=I5.pinned (stat U2) (T.obj _ _ Rc);refine wpAny_passesOwn hp (fv (hg _ s5 BA H5 x u _ U3 r5 (step x H5 y5)) λ_ s6 ⟨DT,H6,I6,q6⟩=>?_);refine wpAny_passesOwn hp (fv (hb _ s6 DT H6 _ I6 q6) λf s7 q7=>?_);have again:∀{Aq:St}{H7:Hp},Inv X (pins++y_ fp s5.heap) Aq H7 s7->N Aq H7->∃m,m<n/\∃i di H',Inv X pins di H' s7/\tn i s7.heap/\(∀b∈fp,H' b=none)/\W i m di H':=λ{Aq H7} I7 n7=>by
   obtain⟨m',hm,w7⟩:=hN Aq H7 n7;refine⟨m',hm,i+1,Aq,H7,I7.n_,T.keep _ _ _ Rc λb hb o e=>(I7.pin (b,o) (CL _ (CL _ (b0 hb e)))).1,λb hb=>?_,w7⟩;obtain⟨o,e,d⟩:=T.obj _ _ Rc b hb;exact(I7.pin (b,o) (CL _ (CL _ (b0 hb e)))).2.1
  cases f with
  |next=>obtain⟨Aq,H7,I7,n7⟩:=q7;exact again I7 n7
  |cont=>obtain⟨Aq,H7,I7,n7⟩:=q7;exact again I7 n7
  |brk=>obtain⟨Aq,H7,I7,q7⟩:=q7;exact⟨Aq,H7,I7.n_,q7⟩
  |ret v=>obtain⟨x7,Aq,H7,I7,r7,q7⟩:=q7;exact⟨x7,Aq,H7,I7.n_,r7,q7⟩
end
noncomputable abbrev R2:=V->V->Hp->VK->Prop
def vf(X:Cx)(f:Value->Value->Sem Value)(r:R2):Prop:=
 ∀(pins:List (Addr×Obj))(s:Shared)(σ:St)(H:Hp)(x y:V)(v u:Value)(Q:VK),Inv X pins σ H s->RelV x v->RelV y u->r x y H Q->
  wpAny (model X.prog X.w) X.A (f v u) (EP X pins σ Q) X.xe s
def Ql(X:Cx)(f:Value->Sem Value)(r:V->Hp->VK->Prop):Prop:=
 ∀(pins:List (Addr×Obj))(s:Shared)(σ:St)(H:Hp)(x:V)(v:Value)(Q:VK),Inv X pins σ H s->RelV x v->r x H Q->
  wpAny (model X.prog X.w) X.A (f v) (EP X pins σ Q) X.xe s
def og(X:Cx)(f:Value)(r:List V->Hp->VK->Prop):Prop:=
 ∀(pins:List (Addr×Obj))(s:Shared)(σ:St)(H:Hp)(xs:List V)(us:List Value)(Q:VK),Inv X pins σ H s->Vals xs us->r xs H Q->
  wpAny (model X.prog X.w) X.A (call f us) (EP X pins σ Q) X.xe s
def Rf(X:Cx)(r:V->Hp->(Bool->Hp->Prop)->Prop):Prop:=
 ∀(pins:List (Addr×Obj))(s:Shared)(σ:St)(H:Hp)(x:V)(v:Value)(Q:Bool->Hp->Prop),Inv X pins σ H s->RelV x v->r x H Q->
  wpAny (model X.prog X.w) X.A (truthy v) (TP X pins σ Q) X.xe s
noncomputable def za(r:R2)(ta tb:TE):TE:=λσ H Q=>ta σ H λx H1=>tb σ H1 λy H2=>r x y H2 Q
noncomputable def Rg(r:V->Hp->VK->Prop)(ta:TE):TE:=λσ H Q=>ta σ H λx H1=>r x H1 Q
noncomputable def rI(C:Int->Int->Prop)(g:Int->Int->V):R2:=λx y H Q=>∃i j,x=.int i/\y=.int j/\C i j/\Q (g i j) H
noncomputable def DU(g:Int->Int->V):R2:=λx y H Q=>∃i j,x=.int i/\y=.int j/\Q (g i j) H
noncomputable def rU(g:Int->V):V->Hp->VK->Prop:=λx H Q=>∃i,x=.int i/\Q (g i) H
section
variable{X:Cx}{a b c:Expr}{ta tb tc:TE}{pos:Pos}
theorem KO(ha:PE X a ta)(hb:PE X b tb){R:V->V->Hp->Prop}(I:Inv X pins σ H s)
  (h:ta σ H λx H1=>tb σ H1 λy H2=>R x y H2) {f:Value->Value->Sem Value}
  (hf:∀v u s2 x y H2,Inv X pins σ H2 s2->RelV x v->RelV y u->R x y H2->wpAny (model X.prog X.w) X.A (f v u) Q X.xe s2):
  wpAny (model X.prog X.w) X.A (eval a X.env) (λv da=>wpAny (model X.prog X.w) X.A (eval b X.env) (λu vq=>wpAny (model X.prog X.w) X.A (f v u) Q X.xe vq) X.xe da) X.xe s:=by
 refine fv (ha pins s σ H _ I h) λv s1 ⟨x,H1,I1,r1,q1⟩=>?_;refine fv (hb pins s1 σ H1 _ I1 q1) λu s2 ⟨y,H2,I2,r2,q2⟩=>?_;exact hf v u s2 x y H2 I2 r1 r2 q2
theorem cI(ho:vf X (binaryOp op) r)(ha:PE X a ta)(hb:PE X b tb):PE X (.BinOp a op b pos) (za r ta tb):=by
 intro pins s σ H Q I h;exact wpAny_BinOp (KO ha hb I h λv u s2 x y H2 I2 rx ry q=>ho pins s2 σ H2 x y v u Q I2 rx ry q)
theorem tJ(ho:Ql X (unaryOp op) r)(ha:PE X a ta):PE X (.UnaryOp op a pos) (Rg r ta):=by
 intro pins s σ H Q I h;exact UnaryOp_ (fv (ha pins s σ H _ I h) λv s1 ⟨x,H1,I1,r1,q1⟩=>ho pins s1 σ H1 x v Q I1 r1 q1)
theorem Rh{f:Value->Value->Sem Value}{C:Int->Int->Prop}{g:Int->Int->Int}
  (rule:∀(i j:Int)(t u:Tok)(s:Shared)(Q:Value->Shared->Prop)(E:Value->Shared->Prop),C i j->Q (.int (g i j) s.toks) {s with toks:=s.toks+1}->wpAny (model X.prog X.w) X.A (f (.int i t) (.int j u)) Q E s):
  vf X f (rI C λi j=>.int (g i j)):=by
 intro pins s σ H x y v u Q I rx ry h;obtain⟨i,j,rfl,rfl,hc,q⟩:=h;obtain⟨t,rfl⟩:=rx;obtain⟨t',rfl⟩:=ry;exact rule i j t t' s _ _ hc ⟨.int (g i j),H,I.tok _,⟨_,rfl⟩,q⟩
theorem NX{f:Value->Value->Sem Value}{g:Int->Int->Int}
  (rule:∀(i j:Int)(t u:Tok)(s:Shared)(Q:Value->Shared->Prop)(E:Value->Shared->Prop),Q (.int (g i j) s.toks) {s with toks:=s.toks+1}->wpAny (model X.prog X.w) X.A (f (.int i t) (.int j u)) Q E s):
  vf X f (DU λi j=>.int (g i j)):=by
 intro pins s σ H x y v u Q I rx ry h;obtain⟨i,j,rfl,rfl,q⟩:=h;obtain⟨t,rfl⟩:=rx;obtain⟨t',rfl⟩:=ry;exact rule i j t t' s _ _ ⟨.int (g i j),H,I.tok _,⟨_,rfl⟩,q⟩
theorem Gy{g:Int->Int->Bool}
  (rule:∀(i j:Int)(t u:Tok)(s:Shared)(Q:Value->Shared->Prop)(E:Value->Shared->Prop),Q (.bool (g i j)) s->wpAny (model X.prog X.w) X.A (f (.int i t) (.int j u)) Q E s):
  vf X f (DU λi j=>.bl (g i j)):=by
 intro pins s σ H x y v u Q I rx ry h;obtain⟨i,j,rfl,rfl,q⟩:=h;obtain⟨t,rfl⟩:=rx;obtain⟨t',rfl⟩:=ry;exact rule i j t t' s _ _ ⟨.bl (g i j),H,I,rfl,q⟩
def Ri(i j:Int):Prop:=0<j/\j<1073741824
def Gz(i j:Int):Prop:=(-(2^64)<i/\i<2^64)\/(-(2^64)<j/\j<2^64)
theorem Gz.ok(h:Gz i j):IntMulOk i j:=by
 rcases h with⟨h1,h2⟩|⟨h1,h2⟩
 ·exact .of_left (intBits_le_64 h1 h2)
 ·exact .of_right (intBits_le_64 h1 h2)
theorem A3:vf X (binaryOp .Add) (DU λi j=>.int (i+j)):=NX λ_ _ _ _ _ _ _ q=>add_int q
theorem qV:vf X (binaryOp .Sub) (DU λi j=>.int (i-j)):=NX λ_ _ _ _ _ _ _ q=>sub_int q
theorem iS:vf X (binaryOp .Mult) (rI Gz λi j=>.int (i*j)):=Rh λ_ _ _ _ _ _ _ hc q=>mul_int q hc.ok
theorem GA:vf X (binaryOp .FloorDiv) (rI Ri λi j=>.int (i/j)):=Rh λi j _ _ _ _ _ hc q=>by
 have h1:(0:Int)<j:=hc.1;have h2:j<1073741824:=hc.2;exact floordiv_int (by omega) (by rw[Int.fdiv_eq_ediv_of_nonneg i (by omega)];exact q) (.inl (PyProof.noPylong_small (by omega)))
theorem xF:vf X (binaryOp .Mod) (rI (λ_ j=>0<j) λi j=>.int (i%j)):=Rh λi j _ _ _ _ _ hc q=>by
 have h1:(0:Int)<j:=hc;exact mod_int' (by omega) (by rw[Int.fmod_eq_emod_of_nonneg i (by omega)];exact q)
theorem U4{f:Value->Sem Value}{g:Int->Int}
  (rule:∀(i:Int)(t:Tok)(s:Shared)(Q:Value->Shared->Prop)(E:Value->Shared->Prop),Q (.int (g i) s.toks) {s with toks:=s.toks+1}->wpAny (model X.prog X.w) X.A (f (.int i t)) Q E s):
  Ql X f (rU λi=>.int (g i)):=by
 intro pins s σ H x v Q I rx h;obtain⟨i,rfl,q⟩:=h;obtain⟨t,rfl⟩:=rx;exact rule i t s _ _ ⟨.int (g i),H,I.tok _,⟨_,rfl⟩,q⟩
theorem mM:Ql X (unaryOp .USub) (rU λi=>.int (-i)):=U4 λ_ _ _ _ _ q=>neg_int q
end
noncomputable def NY:V->V->Bool
 |.cx,.cx=>true|.cx,.int _=>true|.int _,.cx=>true|.cx,.bl _=>true|.bl _,.cx=>true|.cx,.str _=>true|.str _,.cx=>true
 |.int _,.int _=>true|.bl _,.bl _=>true|.str _,.str _=>true|.Dh _,.Dh _=>true
 |.int _,.str _=>true|.str _,.int _=>true|.bl _,.str _=>true|.str _,.bl _=>true
 |_,_=>false
noncomputable def U5:R2:=λx y H Q=>NY x y=true/\Q (.bl (decide (x=y))) H
noncomputable def U6:R2:=λx y H Q=>NY x y=true/\Q (.bl (!decide (x=y))) H
theorem hZ:decide (V.int i=V.int j)=(i==j):=by
 rw[Bool.eq_iff_iff];simp
theorem mO:decide (V.bl i=V.bl j)=(i==j):=by
 rw[Bool.eq_iff_iff];simp
theorem iA:decide (V.str i=V.str j)=(i==j):=by
 rw[Bool.eq_iff_iff];simp
theorem tK:decide (V.Dh i=V.Dh j)=(i.toList==j.toList):=by
 rw[Bool.eq_iff_iff];cases i;cases j;simp
section
variable{X:Cx}{a b c:Expr}{ta tb tc:TE}{pos:Pos}
theorem aI(I:Inv X pins σ H s)(q:Q (.bl k) H)(e:k=k'):EP X pins σ Q (.bool k') s:=by
 subst e;exact⟨.bl k,H,I,rfl,q⟩
theorem xG:vf X (compareOp .Eq) U5:=by
 intro pins s σ H x y v u Q I rx ry h;obtain⟨hs,q⟩:=h
 cases x with
 |cx=>
  cases rx
  cases y with
  |cx=>cases ry;exact PySem.EqNone.eq_none_none (aI I q (by simp))
  |bl j=>cases ry;exact PySem.EqNone.eq_none_bool (aI I q (by simp))
  |int j=>obtain⟨t',rfl⟩:=ry;exact PySem.EqNone.eq_none_int (aI I q (by simp))
  |str j=>obtain⟨t',rfl⟩:=ry;exact PySem.EqNone.eq_none_str (aI I q (by simp))
  |_=>exact absurd (show false=true from hs) jw
 |bl i=>
  cases rx
  cases y with
  |cx=>cases ry;exact PySem.EqNone.eq_bool_none (aI I q (by simp))
  |bl j=>cases ry;exact eq_bool (aI I q mO)
  |str j=>obtain⟨t',rfl⟩:=ry;exact PySem.EqMixed.eq_bool_str (aI I q (by simp))
  |_=>exact absurd (show false=true from hs) jw
 |int i=>
  obtain⟨t,rfl⟩:=rx
  cases y with
  |cx=>cases ry;exact PySem.EqNone.eq_int_none (aI I q (by simp))
  |int j=>obtain⟨t',rfl⟩:=ry;exact eq_int (aI I q hZ)
  |str j=>obtain⟨t',rfl⟩:=ry;exact PySem.EqMixed.eq_int_str (aI I q (by simp))
  |_=>exact absurd (show false=true from hs) jw
 |str i=>
  obtain⟨t,rfl⟩:=rx
  cases y with
  |cx=>cases ry;exact PySem.EqNone.eq_str_none (aI I q (by simp))
  |bl j=>cases ry;exact PySem.EqMixed.eq_str_bool (aI I q (by simp))
  |int j=>obtain⟨t',rfl⟩:=ry;exact PySem.EqMixed.eq_str_int (aI I q (by simp))
  |str j=>obtain⟨t',rfl⟩:=ry;exact eq_str (aI I q iA)
  |_=>exact absurd (show false=true from hs) jw
 |Dh i=>
  obtain⟨t,rfl⟩:=rx
  cases y with
  |Dh j=>obtain⟨t',rfl⟩:=ry;exact PySem.W.eq_bytes (aI I q tK)
  |_=>exact absurd (show false=true from hs) jw
 |_=>cases y<;>exact absurd (show false=true from hs) jw
theorem xH:vf X (compareOp .NotEq) U6:=by
 intro pins s σ H x y v u Q I rx ry h;obtain⟨hs,q⟩:=h
 cases x with
 |cx=>
  cases rx
  cases y with
  |cx=>cases ry;exact PySem.EqNone.ne_none_none (aI I q (by simp))
  |bl j=>cases ry;exact PySem.EqNone.ne_none_bool (aI I q (by simp))
  |int j=>obtain⟨t',rfl⟩:=ry;exact PySem.EqNone.ne_none_int (aI I q (by simp))
  |str j=>obtain⟨t',rfl⟩:=ry;exact PySem.EqNone.ne_none_str (aI I q (by simp))
  |_=>exact absurd (show false=true from hs) jw
 |bl i=>
  cases rx
  cases y with
  |cx=>cases ry;exact PySem.EqNone.ne_bool_none (aI I q (by simp))
  |bl j=>cases ry;exact ne_bool (aI I q (congrArg not mO))
  |str j=>obtain⟨t',rfl⟩:=ry;exact PySem.EqMixed.ne_bool_str (aI I q (by simp))
  |_=>exact absurd (show false=true from hs) jw
 |int i=>
  obtain⟨t,rfl⟩:=rx
  cases y with
  |cx=>cases ry;exact PySem.EqNone.ne_int_none (aI I q (by simp))
  |int j=>obtain⟨t',rfl⟩:=ry;exact ne_int (aI I q (congrArg not hZ))
  |str j=>obtain⟨t',rfl⟩:=ry;exact PySem.EqMixed.ne_int_str (aI I q (by simp))
  |_=>exact absurd (show false=true from hs) jw
 |str i=>
  obtain⟨t,rfl⟩:=rx
  cases y with
  |cx=>cases ry;exact PySem.EqNone.ne_str_none (aI I q (by simp))
  |bl j=>cases ry;exact PySem.EqMixed.ne_str_bool (aI I q (by simp))
  |int j=>obtain⟨t',rfl⟩:=ry;exact PySem.EqMixed.ne_str_int (aI I q (by simp))
  |str j=>obtain⟨t',rfl⟩:=ry;exact ne_str (aI I q (congrArg not iA))
  |_=>exact absurd (show false=true from hs) jw
 |Dh i=>
  obtain⟨t,rfl⟩:=rx
  cases y with
  |Dh j=>obtain⟨t',rfl⟩:=ry;exact PySem.W.ne_bytes (aI I q (congrArg not tK))
  |_=>exact absurd (show false=true from hs) jw
 |_=>cases y<;>exact absurd (show false=true from hs) jw
theorem NZ:vf X (compareOp .Lt) (DU λi j=>.bl (decide (i<j))):=Gy λ_ _ _ _ _ _ _ q=>lt_int q
theorem N0:vf X (compareOp .LtE) (DU λi j=>.bl (decide (i<=j))):=Gy λ_ _ _ _ _ _ _ q=>le_int q
theorem N1:vf X (compareOp .Gt) (DU λi j=>.bl (decide (j<i))):=Gy λ_ _ _ _ _ _ _ q=>gt_int q
theorem N3:vf X (compareOp .GtE) (DU λi j=>.bl (decide (j<=i))):=Gy λ_ _ _ _ _ _ _ q=>ge_int q
theorem vf.or(h:vf X f r)(h':vf X f r'):vf X f (λx y H Q=>r x y H Q\/r' x y H Q):=by
 intro pins s σ H x y v u Q I rx ry q;rcases q with q|q
 ·exact h pins s σ H x y v u Q I rx ry q
 ·exact h' pins s σ H x y v u Q I rx ry q
def KP(K:PySem.W.Frag)(x:V)(H:Hp)(k:Bool):Prop:=
 match x with
 |.cx=>k=false
 |.bl b=>k=b
 |.int i=>k=(i !=0)
 |.str y=>y.length<=sizeLine/\k=((y.length:Int) !=0)
 |.Dh y=>y.size<=sizeLine/\k=((y.size:Int) !=0)
 |.ref p=>(∃xs,ki K H p xs/\k=!xs.isEmpty)\/(∃xs,ju K H p xs/\k=!xs.isEmpty)\/∃kvs,H p=some (.dK kvs)/\k=!kvs.isEmpty
 |_=>False
theorem qW{κ:Type}{kvs:List (κ×V)}{vs:List (κ×Value)}(r:KV kvs vs):(!vs.isEmpty)=!kvs.isEmpty:=by
 cases r<;>rfl
theorem iT(r:Vals xs its):(!its.toArray.isEmpty)=!xs.isEmpty:=by
 cases r<;>simp
theorem vv:(sizeLine:Nat)<2^63:=by rw[D_];decide
theorem KQ:Rf X (λx H Q=>∃k,KP X.K x H k/\Q k H):=by
 intro pins s σ H x v Q I rx h;obtain⟨k,e,q⟩:=h;have hl:=vv;have hs:sizeLine=16777216:=D_
 cases x with
 |cx=>
  cases rx;have e':k=false:=e;subst e';exact truthy_none ⟨H,I,q⟩
 |bl b=>
  cases rx;have e':k=b:=e;subst e';exact wpAny_truthy_bool ⟨H,I,q⟩
 |int i=>
  obtain⟨t,rfl⟩:=rx;have e':k=(i !=0):=e;subst e';exact PySem.P.truthy_int ⟨H,I,q⟩
 |str y=>
  obtain⟨t,rfl⟩:=rx;obtain⟨hy,e'⟩:y.length<=sizeLine/\k=((y.length:Int) !=0):=e;subst e';exact PySem.P.truthy_str (by omega) ⟨H,I.tok _,q⟩
 |Dh y=>
  obtain⟨t,rfl⟩:=rx;obtain⟨hy,e'⟩:y.size<=sizeLine/\k=((y.size:Int) !=0):=e;subst e';exact PySem.W.truthy_bytes (by omega) ⟨H,I.tok _,q⟩
 |ref p=>
  cases rx;have e':(∃xs,ki X.K H p xs/\k=!xs.isEmpty)\/(∃xs,ju X.K H p xs/\k=!xs.isEmpty)\/∃kvs,H p=some (.dK kvs)/\k=!kvs.isEmpty:=e;rcases e' with⟨xs,hx,e'⟩|⟨xs,hx,e'⟩|⟨kvs,hx,e'⟩
  ·subst e'
   obtain⟨its,r,pl,hz⟩:=I.list hx;have hlen:=r.length;exact wpAny_truthy_list pl.isList (by simp only[rz];omega) ⟨H,I.tok _,by rw[iT r];exact q⟩
  ·subst e'
   obtain⟨its,r,pl,hz⟩:=I.tuple hx;have hlen:=r.length;exact truthy_tuple pl (by simp only[rz];omega) ⟨H,I.tok _,by rw[iT r];exact q⟩
  ·subst e'
   obtain⟨hz,hS,vs,r,m⟩:kvs.length<=sizeLine/\(p==sysModules)=false/\∃vs,KV kvs vs/\s.heap.DictOf (dn X.prog X.w) p vs:=I.dq p _ hx;have hlen:kvs.length=vs.length:=Gj r;exact wpAny_truthy_dict hS m (by omega) ⟨H,I.tok _,by rw[qW r];exact q⟩
 |_=>exact(show False from e).elim
theorem xI(ha:PE X a ta)(he:∀whole,isTrue a X.env whole=(do let v←whole;standAt a.pos;holding [v] (truthy v))):
  PT X a (λσ H Q=>ta σ H λx H'=>∃k,KP X.K x H' k/\Q k H'):=by
 intro pins s σ H Q I h;exact isTrue_plain (fv (ha pins s σ H _ I h) λv s1 ⟨x,H1,I1,r1,q1⟩=>KQ pins s1 σ H1 x v Q I1 r1 q1) (he _)
theorem vals1(r:Vals [x] us):∃u,us=[u]/\RelV x u:=by
 cases r with
 |cons r1 r2=>cases r2;exact⟨_,rfl,r1⟩
theorem vals2(r:Vals [x,y] us):∃u w',us=[u,w']/\RelV x u/\RelV y w':=by
 cases r with
 |cons r1 r2=>
  cases r2 with
  |cons r3 r4=>cases r4;exact⟨_,_,rfl,r1,r3⟩
end
theorem vn.some_of(r:vn (some v) o):∃u,o=some u/\RelV v u:=by
 cases o with
 |none=>exact(show False from r).elim
 |some u=>exact⟨u,rfl,r⟩
structure lh(k:Nat)(A:Around):Prop where
 hd:A.handled=none
 dp:A.depth+3*k+5<recursionLimit
 un:A.units+16*k+200<cLine
theorem lh.mono(r:lh k A)(h:j<=k):lh j A:=⟨r.hd,by have:=r.dp;omega,by have:=r.un;omega⟩
theorem lh.deeper(r:lh (k+1) A)(env:Env):lh k (A.deeper env):=
 ⟨r.hd,by have:=r.dp;show A.depth+1+3*k+5<_;omega,by have:=r.un;show A.units+3+16*k+200<_;omega⟩
theorem lh.depth(r:lh k A):A.depth<recursionLimit:=by have:=r.dp;omega
theorem lh.units(r:lh k A):A.units+64<cLine:=by have:=r.un;omega
noncomputable def du:TA:=λ_ H Q=>Q [] H
noncomputable def bo(ta:TE)(tr:TA):TA:=λσ H Q=>ta σ H λx H1=>tr σ H1 λxs H2=>Q (x::xs) H2
section
variable{X:Cx}{e:Expr}{es:List Expr}{te:TE}{t:TA}{pos:Pos}
theorem c_:PA X [] du:=λ_ _ _ _ H Q I h=>Calls.spliced_nil ⟨[],H,I,.nil,h⟩
theorem aw(ha:PE X e te)(hr:PA X es t)(hs:starEach (e::es) X.env=(false,eval e X.env)::starEach es X.env:=by rfl):PA X (e::es) (bo te t):=by
 intro pos pins s σ H Q I h;rw[hs];show wpAny _ _ (spliced ((false,eval e X.env)::backTo pos (starEach es X.env))) _ _ s;refine Calls.spliced_cons (fv (ha pins s σ H _ I h) λu s1 ⟨x,H1,I1,r1,q1⟩=>?_);exact fv (hr pos pins s1 σ H1 _ I1 q1) λus s2 ⟨xs,H2,I2,r2,q2⟩=>⟨x::xs,H2,I2,.cons r1 r2,q2⟩
noncomputable def Ei(t:TA):TE:=λσ H Q=>t σ H λxs H1=>xs.length<=sizeLine/\∀p,H1 p=none->Q (.ref p) (upd H1 p (.tup xs))
noncomputable def Rj(t:TA):TE:=λσ H Q=>t σ H λxs H1=>xs.length<=sizeLine/\∀p,H1 p=none->Q (.ref p) (upd H1 p (.lst xs))
theorem mP{x1}(h:PA X es t):PE X (.Tuple es x1 pos) (Ei t):=by
 intro pins s σ H Q I hq;refine wpAny_Tuple_spliced (fv (h pos pins s σ H _ I hq) λus s1 ⟨xs,H1,I1,r,z,q⟩=>⟨by rw[←r.length];exact z,?_⟩);have hf:H1 s1.heap.objs.size=none:=I1.dq.fresh (fm _);refine⟨.ref s1.heap.objs.size,upd H1 s1.heap.objs.size (.tup xs),I1.laid (t':=s1.toks) (λb u e=>qa _ e) (fm _) ?_,rfl,q _ hf⟩;exact⟨z,us,r,⟨_,Ab _ rfl,rfl,_,rfl⟩⟩
theorem KR(h:PA X es t):PE X (.List es pos) (Rj t):=by
 intro pins s σ H Q I hq;refine wpAny_List_spliced (fv (h pos pins s σ H _ I hq) λus s1 ⟨xs,H1,I1,r,z,q⟩=>⟨by rw[←r.length];exact z,?_⟩);have hf:H1 s1.heap.objs.size=none:=I1.dq.fresh (fm _);refine⟨.ref s1.heap.objs.size,upd H1 s1.heap.objs.size (.lst xs),I1.laid (t':=s1.toks) (λb u e=>qa _ e) (fm _) ?_,rfl,q _ hf⟩;exact⟨z,us,0,r,Ab _ rfl⟩
end
noncomputable abbrev Sp:=List V->Hp->VK->XK->Prop
noncomputable abbrev M6:=List Env->Hp->Shared->XK->Value->Shared->Prop
structure GB(P:Program)(w:World)(K:PySem.W.Frag)(mg:Str->Option Value)(base:Heap)(A:Around)(outer:List Env)(s:Shared)(H:Hp):Prop where
 frames:A.frames=some outer
 mod:Mod K mg base
 bs:∀b o,base.get? b=some o->s.heap.get? b=some o/\H b=none
 Jn:base.objs.size<=s.heap.objs.size
 yz:s.heap.FunFrames base outer
 M1:∀b∈ub outer,H b=none
 dq:pf P w H s.heap
 bare:AllBare s.gens
def CE(outer:List Env)(P:Program)(w:World)(H:Hp)(s:Shared)(Q:VK)(u:Value)(s':Shared):Prop:=
 ∃v H',s'.os=s.os/\AllBare s'.gens/\Un (ub outer) [] H H' s.heap s'.heap/\pf P w H' s'.heap/\RelV v u/\Q v H'
def CR(CX:M6)(outer:List Env)(P:Program)(w:World)(H:Hp)(s:Shared)(Q:VK)(E:XK)(r:Result)(s':Shared):Prop:=
 match r with
 |.ok (.ret u)=>CE outer P w H s Q u s'
 |.ok _=>False
 |.error e=>CX outer H s E e s'
structure nh(P:Program)(w:World)(K:PySem.W.Frag)(mg:Str->Option Value)(base:Heap)(CX:M6)(k:Nat)(f:Addr)(fd:FuncData)(ps:List Str)(sp:Sp):Prop where
 len:∀vs H Q E,sp vs H Q E->vs.length=ps.length
 run:∀(A:Around)(outer:List Env)(s:Shared)(H:Hp)(args:Args)(us:List Value)(vs:List V)(Q:VK)(E:XK),lh k A->GB P w K mg base A outer s H->BindsTo s fd args (ps.zip us)->Vals vs us->sp vs H Q E->
  codeAny (model P w) A (.call (.ref f) args) (CR CX outer P w H s Q E) s
section
variable{X:Cx}{pins:List (Addr×Obj)}{σ:St}{H:Hp}{s s':Shared}
theorem Inv.Rk(I:Inv X pins σ H s):GB X.prog X.w X.K X.mg X.base X.A X.stack s H:=
 ⟨I.ok.frames,I.ok.mod,I.bs,qe I.ok.Jn I.sz,I.stack,I.A0,I.dq,I.bare⟩
theorem Inv.after(I:Inv X pins σ H s)(h:CE X.stack X.prog X.w H s Q u s'):EP X pins σ Q u s':=by
 obtain⟨v,H',os,bare,un,dq,r,q⟩:=h;obtain⟨hh,g,d,t,U7⟩:=s';obtain rfl:U7=s.os:=os;exact⟨v,H',I.call (h':=hh) (g':=g) (d':=d) (t':=t) (ch:=[]) un dq bare (λb z=>absurd z (by simp)),r,q⟩
end
def Binds(K:PySem.W.Frag)(fd:FuncData)(ps:List Str)(ds:List Value):Prop:=
 ∀(s:Shared)(us:List Value),K.In s.heap->(us++ds).length=ps.length->BindsTo s fd ⟨us,[]⟩ (ps.zip (us++ds))
theorem Binds.all{K:PySem.W.Frag}(h:∀us:List Value,us.length=ps.length->bindArgs fd ⟨us,[]⟩=pure (ps.zip us)):Binds K fd ps []:=λs us _ hl=>by
 rw[Ci] at hl⊢;exact .of_eq (h us hl)
structure ur(N P:List Str)(sc:Scope):Prop where
 kind:sc.kind=.function
 co:sc.isCoroutine=false
 gen:sc.isGenerator=false
 nd:N.Nodup
 pre:N.take P.length=P
 par:∀x∈P,sc.names.lookup x=some .local\/sc.names.lookup x=some .cell
 KS:∀y∈sc.names,y.2≠.free
theorem kY{kindOf:Str->Option NameKind}:∀{binds:List (Str×Value)}{m:Str->Option Value},(∀v,(x,v)∉binds)->bindL kindOf binds m x=m x
 |[],_,_=>rfl
 |(n,v)::r,m,h=>by
  unfold bindL;rw[kY λw hw=>h w (o_ _ hw)];split
  ·have:x≠n:=by rintro rfl;exact h v si
   simp[this]
  ·rfl
theorem kZ{kindOf:Str->Option NameKind}:∀{binds:List (Str×Value)}{m:Str->Option Value},(∀v,(x,v)∉binds)->bindC kindOf binds m x=m x
 |[],_,_=>rfl
 |(n,v)::r,m,h=>by
  unfold bindC;rw[kZ λw hw=>h w (o_ _ hw)];split
  ·rfl
  ·have:x≠n:=by rintro rfl;exact h v si
   simp[this]
theorem k7{kindOf:Str->Option NameKind}:∀{P:List Str}{vs:List Value}{i:Nat}{m:Str->Option Value},P.Nodup->P[i]?=some x->vs[i]?=some v->kindOf x=some .local->
  bindL kindOf (P.zip vs) m x=some v
 |[],_,_,_,_,h,_,_=>by simp at h
 |_::_,[],_,_,_,_,h,_=>by simp at h
 |p::P,w::vs,0,m,nd,h1,h2,hk=>by
  simp at h1 h2;subst h1;subst h2;show bindL kindOf ((p,w)::P.zip vs) m p=_;unfold bindL;rw[kY λv hv=>(List.nodup_cons.mp nd).1 (List.of_mem_zip hv).1,bp hk];simp
 |p::P,w::vs,i+1,m,nd,h1,h2,hk=>by
  show bindL kindOf ((p,w)::P.zip vs) m x=_;unfold bindL;exact k7 (i:=i) (List.nodup_cons.mp nd).2 (by simpa using h1) (by simpa using h2) hk
theorem k8{kindOf:Str->Option NameKind}:∀{P:List Str}{vs:List Value}{i:Nat}{m:Str->Option Value},P.Nodup->P[i]?=some x->vs[i]?=some v->kindOf x≠some .local->
  bindC kindOf (P.zip vs) m x=some v
 |[],_,_,_,_,h,_,_=>by simp at h
 |_::_,[],_,_,_,_,h,_=>by simp at h
 |p::P,w::vs,0,m,nd,h1,h2,hk=>by
  simp at h1 h2;subst h1;subst h2;show bindC kindOf ((p,w)::P.zip vs) m p=_;unfold bindC;rw[kZ λv hv=>(List.nodup_cons.mp nd).1 (List.of_mem_zip hv).1,az hk];simp
 |p::P,w::vs,i+1,m,nd,h1,h2,hk=>by
  show bindC kindOf ((p,w)::P.zip vs) m x=_;unfold bindC;exact k8 (i:=i) (List.nodup_cons.mp nd).2 (by simpa using h1) (by simpa using h2) hk
noncomputable def start(N:List Str)(vs:List V):St:=vs.map some++List.replicate (N.length-vs.length) none
noncomputable def A4(CX:M6)(P:Program)(w:World)(K:PySem.W.Frag)(mg:Str->Option Value)(base:Heap)(N:List Str)(qual:Str)(scope:Scope)(f:Addr)(cd:Value)(A:Around)(outer:List Env)(s:Shared)(H:Hp)(E:XK):Cx where
 prog:=P
 w:=w
 K:=K
 mg:=mg
 base:=base
 A:=A.deeper (envOfC qual scope s.heap.objs.size f cd)
 N:=N
 h_:=s
 bq:=H
 env:=envOfC qual scope s.heap.objs.size f cd
 outer:=outer
 stack:=envOfC qual scope s.heap.objs.size f cd::outer
 ex:=[]
 calm:=true
 fn:=λ_=>true
 pn:=[]
 xe:=λe s'=>wpAny (model P w) (A.deeper (envOfC qual scope s.heap.objs.size f cd)) (leaving (envOfC qual scope s.heap.objs.size f cd) e) (λ_ Rl=>CX outer H s E e Rl) (λe' Rl=>CX outer H s E e' Rl) s'
theorem oK{sc:Scope}(h:sc.names.lookup x=some .cell):∃c,(cellsFrom n sc.names []).lookup x=some c:=by
 have q:=PySem.W.cellsFrom_some sc.names n [] (.inl h);exact Option.isSome_iff_exists.mp q
theorem vI{K:PySem.W.Frag}
  (S:ur N ps scope) (hd:A.handled=none) (e0:GB P w K mg base A outer s H) (hl:vs.length=ps.length) (r:Vals vs us)
  (x:InCallC s s.heap.objs.size (bindL (envOfC qual scope s.heap.objs.size f cd).kindOf (ps.zip us) λ_=>none) (cellsFrom (s.heap.objs.size+1) scope.names []) (bindC (envOfC qual scope s.heap.objs.size f cd).kindOf (ps.zip us) λ_=>none) s1):
  Inv (A4 CX P w K mg base N qual scope f cd A outer s H E) [] (start N vs) H s1:=by
 have Bo:ps.length<=N.length:=by have:=congrArg List.length S.pre;rw[Bj] at this;omega
 obtain⟨h1,tk,rfl,hk⟩:=x.done;have N4:∀b:Addr,b∉(A4 CX P w K mg base N qual scope f cd A outer s H E).ex:=λb z=>absurd (show b∈([]:List Addr) from z) (by simp);refine⟨⟨e0.mod,S.kind,rfl,rfl,fm _,λy z c h1 h2=>?_,λy hy=>?_,λy c _ h=>?_,λ_=>hd,Around.frames_deeper e0.frames,.inr ⟨rfl,rfl⟩,λb z=>absurd z (N4 b),e0.bs,e0.Jn,λb _ _=>N4 b,λb z=>absurd z (N4 b),e0.yz,e0.M1⟩,
  rfl,e0.bare,Un.kept hk,⟨_,x.toInCall.ns,λi y v h1 h2 h3=>?_⟩,λy c h=>⟨_,x.cell y c h⟩,e0.dq.fresh (fm _),λy c h=>?_,λp hp=>absurd (show p∈([]:List (Addr×Obj)) from hp) (by simp),e0.dq.kept hk,?_⟩
 ·exact name_of_addr x.apart (Gf h1) (Gf h2)
 ·have hy:scope.names.lookup y=some .cell\/scope.names.lookup y=some .free:=hy
  rcases hy with hy|hy
  ·exact oK hy
  ·exact absurd rfl (S.KS _ (Gf hy))
 ·exact Nat.le_of_lt (x.above y c (Gf h))
 ·have hi:i<vs.length:=by
   unfold start at h2;by_cases hi:i<vs.length
   ·exact hi
   ·rw[Dd (by simpa using hi)] at h2
    rw[MX] at h2;split at h2<;>cases h2
  have ha:vs[i]?=some v:=by
   unfold start at h2;rw[De (by simpa using hi),AA] at h2
   cases e:vs[i]? with
   |none=>rw[e] at h2;cases h2
   |some a=>rw[e] at h2;cases h2;rfl
  obtain⟨u,hu,rv⟩:=r.get ha;have hp:ps[i]?=some y:=by
   rw[←S.pre,List.getElem?_take_of_lt (by omega)];exact h1
  have Ts:ps.Nodup:=by rw[←S.pre];exact S.nd.sublist (List.take_sublist _ _)
  refine⟨u,rv,?_⟩;rcases S.par y (FP hp) with k|k
  ·exact .inl ⟨k,k7 Ts hp hu k⟩
  ·obtain⟨c,e⟩:=oK (n:=s.heap.objs.size+1) k
   refine .inr ⟨.inl k,c,e,?_⟩;have q:=x.cell y c e;rw[k8 Ts hp hu (by show scope.names.lookup y≠_;rw[k];decide)] at q;exact q
 ·exact e0.dq.fresh (Nat.le_of_lt (x.above y c (Gf h)))
 ·unfold start
  show _=N.length;rw[rj,dz,Kd];omega
theorem Js{K:PySem.W.Frag}{dV kV doc pm yd ct oc:Value}
  (lk:K.lookup f=some ⟨oc,od,.func (PySem.W.fnOf name qual params body scope dV kV doc pm an yd ct),KU⟩) (um:PySem.W.codeIn K yd qual=true) (S:ur N ps scope)
  (len:∀vs H Q E,sp vs H Q E->vs.length=ps.length)
  (N5:∀(A:Around)(outer:List Env)(s:Shared)(H:Hp)(vs:List V)(Q:VK)(E:XK),lh k (A.deeper (envOfC qual scope s.heap.objs.size f yd))->sp vs H Q E->
   ∃t,Di (A4 CX P w K mg base N qual scope f yd A outer s H E) body t/\t {nx:=λ_ H'=>Q .cx H',rt:=Q} (start N vs) H):
  nh P w K mg base CX (k+1) f (PySem.W.fnOf name qual params body scope dV kV doc pm an yd ct) ps sp:=by
 refine⟨len,λA outer s H args us vs Q E hr e0 hb r vw=>?_⟩;have hl:=len _ _ _ _ vw;have KX:K.In s.heap:=e0.mod.Bm.keeps λb o e=>(e0.bs b o e).1;have lim:s.heap.NoLimit:=e0.mod.nolimit.keeps λb o e=>(e0.bs b o e).1;have N6:∀y∈ps.zip us,scope.names.lookup y.1=some .local\/(scope.names.lookup y.1=some .cell/\((cellsFrom (s.heap.objs.size+1) scope.names []).lookup y.1).isSome=true):=λ⟨n,v⟩ hy=>by
  rcases S.par n (List.of_mem_zip hy).1 with q|q
  ·exact .inl q
  ·exact .inr ⟨q,PySem.W.cellsFrom_some _ _ _ (.inl q)⟩
 refine codeAny_call_function hr.depth (KX _ _ lk) rfl S.co S.gen rfl (PySem.W.codeRec_of KX um) (hb _ _ _ _ ?_);refine wpAny_newFunctionEnv_cells S.kind N6 λenv he s1 x=>?_;subst he;refine⟨lim.keeps x.toInCall.keep,codeAny_func ?_⟩;obtain⟨t,ht,hq⟩:=N5 A outer s H vs Q E (hr.deeper _) vw;have I:Inv (A4 CX P w K mg base N qual scope f yd A outer s H E) [] (start N vs) H s1:=vI S hr.hd e0 hl r x;refine Ae (ht [] s1 (start N vs) H _ I hq) (λfl s' hs=>?_) λe s' hs=>hs;have fin:∀{di:St}{H':Hp}{v:V}{u:Value},Inv (A4 CX P w K mg base N qual scope f yd A outer s H E) [] di H' s'->RelV v u->Q v H'->CE outer P w H s Q u s':=
  λ{di H' v u} J rv q=>⟨v,H',J.os,J.bare,J.base,J.dq,rv,q⟩
 cases fl with
 |ret u=>
  obtain⟨v,di,H',J,rv,q⟩:=hs;exact fin J rv q
 |next=>
  obtain⟨di,H',J,q⟩:=hs;exact fin (v:=V.cx) (u:=Value.none) J rfl q
 |brk=>
  obtain⟨_,_,_,q⟩:=hs;exact False.elim q
 |cont=>
  obtain⟨_,_,_,q⟩:=hs;exact False.elim q
section
variable{X:Cx}{x:Str}{p pos:Pos}{e:Expr}{es:List Expr}{t:TA}{id T:String}{r:List V->Hp->VK->Prop}
noncomputable def GC(r:List V->Hp->VK->Prop)(t:TA):TE:=λσ H Q=>t σ H λvs H1=>r vs H1 Q
theorem eM(hc:og X (.builtin id) r)(hg:Gl X x)(hm:X.mg x=none)(hv:bootBuiltins x=some (.builtin id))(ha:PA X (e::es) t)(hn:x≠"__name__":=by decide)(yx:(x==("__debug__":Str))=false:=by decide)
  (he:starEach (e::es) X.env=(false,eval e X.env)::starEach es X.env:=by rfl) (Bo:(backTo pos (starEach es X.env)).any (·.1)=false:=by rfl):PE X (.Call (.Name x p) (e::es) [] pos) (GC r t):=by
 intro pins s σ H Q I h;refine wpAny_Call_Name_kw (fS I hg hm hv ?_ hn yx);exact PyProof.Rows.callWith_builtin1 (fv (ha pos pins s σ H _ I h) λus s1 ⟨vs,H1,I1,r1,q1⟩=>hc pins s1 σ H1 vs us Q I1 r1 q1) he Bo
theorem fT(hc:og X (.type T) r)(hg:Gl X x)(hm:X.mg x=none)(hv:bootBuiltins x=some (.type T))(ha:PA X (e::es) t)(hn:x≠"__name__":=by decide)(yx:(x==("__debug__":Str))=false:=by decide)
  (he:starEach (e::es) X.env=(false,eval e X.env)::starEach es X.env:=by rfl) (Bo:(backTo pos (starEach es X.env)).any (·.1)=false:=by rfl):PE X (.Call (.Name x p) (e::es) [] pos) (GC r t):=by
 intro pins s σ H Q I h;refine wpAny_Call_Name_kw (fS I hg hm hv ?_ hn yx);exact PyProof.Rows.callWith_type1 (fv (ha pos pins s σ H _ I h) λus s1 ⟨vs,H1,I1,r1,q1⟩=>hc pins s1 σ H1 vs us Q I1 r1 q1) he Bo
end
section
variable{κ:Type}[DecidableEq κ]
noncomputable def f_(kvs:List (κ×V))(k:κ):Option V:=(kvs.find? λkv=>decide (kv.1=k)).map (·.2)
noncomputable def putK(kvs:List (κ×V))(k:κ)(v:V):List (κ×V):=
 if(kvs.any λkv=>decide (kv.1=k))=true then kvs.map (λkv=>if kv.1=k then(kv.1,v) else kv) else kvs++[(k,v)]
theorem eO{k:κ}(e:p.1=k):f_ (p::r) k=some p.2:=by simp[f_,Bt,e]
theorem eQ{k:κ}(e:¬p.1=k):f_ (p::r) k=f_ r k:=by simp[f_,Bt,e]
theorem oM(k:κ):∀kvs:List (κ×V),(kvs.any λkv=>decide (kv.1=k))=(f_ kvs k).isSome
 |[]=>rfl
 |p::r=>by
  rw[D7];by_cases e:p.1=k
  ·simp only[eO e,Ad e,Bool.true_or,Option.isSome_some]
  ·rw[eQ e,Al e,Bool.false_or];exact oM k r
theorem cJ(kvs:List (κ×V))(k:κ)(v:V):(putK kvs k v).length<=kvs.length+1:=by
 unfold putK;split
 ·rw[dz];omega
 ·rw[rj,gm,ny];omega
theorem vn.oh(r:vn o u):o.isSome=u.isSome:=by
 cases o with
 |none=>cases u with
  |none=>rfl
  |some _=>exact(show False from r).elim
 |some _=>cases u with
  |none=>exact(show False from r).elim
  |some _=>rfl
theorem vn.getD(r:vn o u)(rd:RelV d d'):RelV (o.getD d) (u.getD d'):=by
 cases o with
 |none=>cases u with
  |none=>exact rd
  |some _=>exact(show False from r).elim
 |some _=>cases u with
  |none=>exact(show False from r).elim
  |some _=>exact r
theorem KV.val(r:KV kvs vs)(k:κ):vn (f_ kvs k) (valueAt vs k):=by
 unfold KV at r
 induction r with
 |nil=>exact True.intro
 | @cons p q ps qs h t ih=>
  obtain⟨h1,h2⟩:=h;by_cases e:p.1=k
  ·have e':q.1=k:=h1.symm.trans e
   have b:valueAt (q::qs) k=some q.2:=by simp[valueAt,Bt,e']
   rw[eO e,b];exact h2
  ·have e':¬q.1=k:=λz=>e (h1.trans z)
   have b:valueAt (q::qs) k=valueAt qs k:=by simp[valueAt,Bt,e']
   rw[eQ e,b];exact ih
theorem KV.any(r:KV kvs vs)(k:κ):(kvs.any λkv=>decide (kv.1=k))=vs.any λkv=>decide (kv.1=k):=by
 unfold KV at r
 induction r with
 |nil=>rfl
 |cons h t ih=>rw[D7,D7,ih,h.1]
theorem KV.KW(r:KV kvs vs)(k:κ)(ry:RelV y u):
  KV (kvs.map λkv=>if kv.1=k then(kv.1,y) else kv) (vs.map λkv=>if kv.1=k then(kv.1,u) else kv):=by
 unfold KV at r⊢
 induction r with
 |nil=>exact .nil
 | @cons p q ps qs h t ih=>
  rw[fu,fu];refine .cons ?_ ih;obtain⟨h1,h2⟩:=h;by_cases e:p.1=k
  ·rw[bp e,bp (h1.symm.trans e)];exact⟨h1,ry⟩
  ·rw[az e,az (λz=>e (h1.trans z))];exact⟨h1,h2⟩
theorem KV.put(r:KV kvs vs)(k:κ)(ry:RelV y u):KV (putK kvs k y) (stored vs k u):=by
 unfold putK stored;rw[r.any k];by_cases e:(vs.any λkv=>decide (kv.1=k))=true
 ·rw[bp e,bp e];exact r.KW k ry
 ·rw[az e,az e];exact Paired.snoc r ⟨rfl,ry⟩
theorem KV.length{vs:List (κ×Value)}(r:KV kvs vs):kvs.length=vs.length:=Gj r
end
theorem iU(r:RelV (kV k) u):(dn P w).is k u=true:=by
 cases k with
 |inl i=>obtain⟨t,e⟩:=(show∃t,u=Value.int i t from r);subst e;exact oE P w i t
 |inr x=>obtain⟨t,e⟩:=(show∃t,u=Value.str x t from r);subst e;exact oF P w x t
theorem k9:∀{ks:List Key}{us:List Value},Vals (ks.map kV) us->ItemsAre (dn P w) ks us
 |[],_,r=>by rw[Bl] at r;cases r;exact .nil
 |k::ks,_,r=>by
  rw[fu] at r
  cases r with
  |cons h t=>exact .cons (iU h) (k9 t)
noncomputable abbrev KT(H:Hp):List (List Key×V)->List (List Key×Addr×Value)->Prop:=Paired λp q=>p.1=q.1/\H q.2.1=some (.tup (p.1.map kV))/\RelV p.2 q.2.2
theorem KT.val(r:KT H kvs xs)(k:List Key):vn (f_ kvs k) ((atKey xs k).map (·.2)):=by
 induction r with
 |nil=>exact True.intro
 | @cons p q ps qs h t ih=>
  obtain⟨h1,_,h2⟩:=h;by_cases e:p.1=k
  ·have e':q.1=k:=h1.symm.trans e
   have b:atKey (q::qs) k=some q.2:=by simp[atKey,Bt,e']
   rw[eO e,b];exact h2
  ·have e':¬q.1=k:=λz=>e (h1.trans z)
   have b:atKey (q::qs) k=atKey qs k:=by simp[atKey,Bt,e']
   rw[eQ e,b];exact ih
theorem KT.KW(r:KT H kvs xs)(k:List Key)(ry:RelV y u):
  KT H (kvs.map λkv=>if kv.1=k then(kv.1,y) else kv) (xs.map (putAt k u)):=by
 induction r with
 |nil=>exact .nil
 | @cons p q ps qs h t ih=>
  rw[fu,fu];refine .cons ?_ ih;obtain⟨h1,h2,h3⟩:=h;unfold putAt;by_cases e:p.1=k
  ·rw[bp e,bp (h1.symm.trans e)];exact⟨h1,h2,ry⟩
  ·rw[az e,az (λz=>e (h1.trans z))];exact⟨h1,h2,h3⟩
theorem KT.put(r:KT H kvs xs)(k:List Key)(hb:H b=some (.tup (k.map kV)))(ry:RelV y u):
  KT H (putK kvs k y) (storedH xs k b u):=by
 have e:(kvs.any λkv=>decide (kv.1=k))=(atKey xs k).isSome:=by
  rw[oM,(r.val k).oh,Option.isSome_map]
 unfold putK storedH;rw[e];by_cases q:(atKey xs k).isSome=true
 ·rw[bp q,bp q];exact r.KW k ry
 ·rw[az q,az q];exact Paired.snoc r ⟨rfl,hb,ry⟩
theorem KT.keeps(r:KT H kvs xs)(ht:∀b ys,H b=some (.tup ys)->H' b=some (.tup ys)):KT H' kvs xs:=
 Paired.Kv r λ_ _ z=>⟨z.1,ht _ _ z.2.1,z.2.2⟩
section
variable{P:Program}{w:World}{H:Hp}{h:Heap}{a:Addr}
theorem xJ(ok:pf P w H h)(e:Rd H a u):fi P w H h a u:=e.ok ok
theorem eS(ok:pf P w H h)(e:Rd H a (.dK kvs)):kvs.length<=sizeLine/\(a==sysModules)=false/\∃vs,KV kvs vs/\h.DictOf (dn P w) a vs:=
 show fi P w H h a (.dK kvs) from xJ ok e
theorem Jt(ok:pf P w H h)(e:H a=some (.dK kvs)):kvs.length<=sizeLine/\(a==sysModules)=false/\∃vs,KV kvs vs/\h.DictOf (dn P w) a vs:=eS ok (.inl e)
theorem fU(ok:pf P w H h)(e:H a=some (.tup (ks.map kV))):(tupleKind (dn P w)).is h ks a:=by
 obtain⟨_,its,r,o,h1,h2,n,h3⟩:=(show fi P w H h a (.tup (ks.map kV)) from ok a _ e)
 exact⟨o,its.toArray,n,h1,h2,h3,by simpa using k9 r⟩
theorem lA(ok:pf P w H h)(e:Rd H a (.dT kvs)):kvs.length<=sizeLine/\(a==sysModules)=false/\
  ∃xs,KT H kvs xs/\h.DictOfH (tupleKind (dn P w)) a xs:=by
 obtain⟨z,y,xs,r,o,es,ep,h1,h2,h3,h4,h5⟩:=(show fi P w H h a (.dT kvs) from xJ ok e)
 refine⟨z,y,xs,r,o,es,ep,h1,h2,h3,h4,λx hx=>?_,h5⟩;have all:∀{l:List (List Key×V)}{m:List (List Key×Addr×Value)},KT H l m->∀x∈m,(tupleKind (dn P w)).is h x.1 x.2.1:=by
  intro l m q
  induction q with
  |nil=>intro x hx;exact nomatch hx
  | @cons p q ps qs hq t ih=>
   intro x hx;rcases List.mem_cons.mp hx with e|hx
   ·subst e
    exact fU ok (by rw[←hq.1];exact hq.2.1)
   ·exact ih x hx
 exact all r x hx
theorem N7(ok:pf P w H h)(e:H a=some (.dT kvs)):kvs.length<=sizeLine/\(a==sysModules)=false/\
  ∃xs,KT H kvs xs/\h.DictOfH (tupleKind (dn P w)) a xs:=lA ok (.inl e)
end
def rk(H:Hp)(a:Addr)(y:V)(r:Option V):Prop:=
 (∃kvs k,Rd H a (.dK kvs)/\y=kV k/\r=f_ kvs k)\/∃kvs k b,Rd H a (.dT kvs)/\y=.ref b/\H b=some (.tup (k.map kV))/\r=f_ kvs k
def BB(H:Hp)(a:Addr)(y v:V)(H':Hp):Prop:=
 (∃kvs k,H a=some (.dK kvs)/\y=kV k/\kvs.length<sizeLine/\H'=upd H a (.dK (putK kvs k v)))\/
 ∃kvs k b,H a=some (.dT kvs)/\y=.ref b/\H b=some (.tup (k.map kV))/\kvs.length<sizeLine/\H'=upd H a (.dT (putK kvs k v))
theorem rk.k{H:Hp}{a:Addr}{kvs:List (Key×V)}{k:Key}(e:H a=some (.dK kvs)):rk H a (kV k) (f_ kvs k):=.inl ⟨kvs,k,.inl e,rfl,rfl⟩
theorem BB.k{H:Hp}{a:Addr}{kvs:List (Key×V)}{k:Key}{v:V}(e:H a=some (.dK kvs))(hl:kvs.length<sizeLine):BB H a (kV k) v (upd H a (.dK (putK kvs k v))):=.inl ⟨kvs,k,e,rfl,hl,rfl⟩
section
variable{X:Cx}{pins:List (Addr×Obj)}{σ:St}{H:Hp}{s:Shared}{a:Addr}{y v:V}{u r:Value}{o:Option V}{A:Around}{E:Value->Shared->Prop}
theorem Inv.big(I:Inv X pins σ H s):sysModules<s.heap.objs.size:=by
 have h:mainGlobals<s.heap.objs.size:=(I.mod.glob.keeps I.bk).lt;exact Nat.lt_trans (by decide) h
theorem vJ(hu:A.units+1<cLine)(I:Inv X pins σ H s)(g:rk H a y (some v))(ry:RelV y u)(h:∀w' s',Inv X pins σ H s'->RelV v w'->Q w' s'):
  wpAny (model X.prog X.w) A (getItem (.ref a) u) Q E s:=by
 rcases g with⟨kvs,k,e,ey,l⟩|⟨kvs,k,b,e,ey,eb,l⟩
 ·subst ey
  obtain⟨z,hd,vs,rel,dd⟩:=eS I.dq e;obtain⟨w',hw,vg⟩:=vn.some_of (v:=v) (o:=valueAt vs k) (by rw[l];exact rel.val k);exact wpAny_getItem_of (iU ry) dd.mapOf hw (h w' _ (I.tok _) vg)
 ·subst ey
  cases (show u=Value.ref b from ry);obtain⟨z,hd,xs,rel,dd⟩:=lA I.dq e;obtain⟨w',hw,vg⟩:=vn.some_of (v:=v) (o:=(atKey xs k).map (·.2)) (by rw[l];exact rel.val k);obtain⟨p,hp,Rm⟩:=Option.map_eq_some_iff.mp hw;refine wpAny_getItem_heap (tupleKind_room_in1 hu) (fU I.dq eb) dd hp ?_;rw[Rm];exact h w' _ (I.tok _) vg
theorem Rn(hu:A.units+1<cLine)(I:Inv X pins σ H s)(g:rk H a y o)(ry:RelV y u)(h:∀s',Inv X pins σ H s'->Q (.bool o.isSome) s'):
  wpAny (model X.prog X.w) A (compareOp .In u (.ref a)) Q E s:=by
 rcases g with⟨kvs,k,e,ey,l⟩|⟨kvs,k,b,e,ey,eb,l⟩
 ·subst ey
  obtain⟨z,hd,vs,rel,dd⟩:=eS I.dq e;refine wpAny_in_of (iU ry) hd dd.mapOf ?_;rw[←(rel.val k).oh,←l];exact h _ (I.tok _)
 ·subst ey
  cases (show u=Value.ref b from ry);obtain⟨z,hd,xs,rel,dd⟩:=lA I.dq e;refine wpAny_in_heap (tupleKind_room_in1 hu) (fU I.dq eb) hd dd ?_;have q:=(rel.val k).oh;rw[Option.isSome_map] at q;rw[←q,←l];exact h _ (I.tok _)
theorem GD(hu:A.units+1<cLine)(I:Inv X pins σ H s)(g:rk H a y o)(ry:RelV y u)(h:∀s',Inv X pins σ H s'->Q (.bool (!o.isSome)) s'):
  wpAny (model X.prog X.w) A (compareOp .NotIn u (.ref a)) Q E s:=by
 rcases g with⟨kvs,k,e,ey,l⟩|⟨kvs,k,b,e,ey,eb,l⟩
 ·subst ey
  obtain⟨z,hd,vs,rel,dd⟩:=eS I.dq e;refine wpAny_notIn_of (iU ry) hd dd.mapOf ?_;rw[←(rel.val k).oh,←l];exact h _ (I.tok _)
 ·subst ey
  cases (show u=Value.ref b from ry);obtain⟨z,hd,xs,rel,dd⟩:=lA I.dq e;refine wpAny_notIn_heap (tupleKind_room_in1 hu) (fU I.dq eb) hd dd ?_;have q:=(rel.val k).oh;rw[Option.isSome_map] at q;rw[←q,←l];exact h _ (I.tok _)
theorem eT{h':Heap}{t':Nat}{ob:HO}(I:Inv X pins σ H s)(mu:NG (H a))(hs:Heap.SameBut a s.heap h')(he:∃q,h'.get? a=some q)(new:fi X.prog X.w (upd H a ob) h' a ob):
  Inv X pins σ (upd H a ob) {s with heap:=h',toks:=t'}:=
 I.write (x:=a) (e:=a) mu (.inl rfl) (λb q hb z=>(hs.2 b hb).trans z) he new
theorem Ej(z:kvs.length<=sizeLine)(hd:(a==sysModules)=false)(rel:KV kvs vs)(dd:h'.DictOf (dn P w) a vs):
  fi P w H' h' a (.dK kvs):=⟨z,hd,vs,rel,dd⟩
theorem lB(hu:A.units+1<cLine)(I:Inv X pins σ H s)(g:BB H a y v H')(ry:RelV y u)(rv:RelV v r)(h:∀s',Inv X pins σ H' s'->Q () s'):
  wpAny (model X.prog X.w) A (setItem (.ref a) u r) Q E s:=by
 rcases g with⟨kvs,k,e,ey,l,eH⟩|⟨kvs,k,b,e,ey,eb,l,eH⟩
 ·subst ey eH
  obtain⟨z,hd,vs,rel,dd⟩:=Jt I.dq e;have hz:vs.length<=sizeLine:=by rw[←rel.length];exact z
  have hl:(putK kvs k v).length<=sizeLine:=by have:=cJ kvs k v;omega
  refine wpAny_setItem_pairs (hsz:=hz) (iU ry) dd λh' Ek hs=>h _ ?_;have he:∃q,h'.get? a=some q:=let⟨q,_,_,hq,_⟩:=Ek;⟨q,hq⟩;exact eT I (by rw[e];exact True.intro) hs he (Ej hl hd (rel.put k rv) Ek)
 ·subst ey eH
  cases (show u=Value.ref b from ry);obtain⟨z,hd,xs,rel,dd⟩:=N7 I.dq e;have hz:xs.length<=sizeLine:=by rw[←Gj rel];exact z
  have hl:(putK kvs k v).length<=sizeLine:=by have:=cJ kvs k v;omega
  refine wpAny_setItem_heap (hsz:=hz) (tupleKind_room_in1 hu) (fU I.dq eb) dd λh' Ek hs=>h _ ?_;obtain⟨q,es,ep,hq,h2,h3,h4,_,h5⟩:=Ek;refine eT I (by rw[e];exact True.intro) hs ⟨q,hq⟩ ⟨hl,hd,_,(rel.put k eb rv).keeps λc ys ec=>?_,q,es,ep,hq,h2,h3,h4,h5⟩;rw[aA (NF ec e (λz=>nomatch z))];exact ec
end
section
variable{X:Cx}{pins:List (Addr×Obj)}{σ:St}{H:Hp}{s:Shared}{a:Addr}{kvs:List (Key×V)}{k:Key}{u:Value}{A:Around}{E:Value->Shared->Prop}
theorem N8(I:Inv X pins σ H s)(e:Rd H a (.dK kvs))(h:∀t s',Inv X pins σ H s'->Q (.int kvs.length t) s'):wpAny (model X.prog X.w) A (call (.builtin "len") [.ref a]) Q E s:=by
 obtain⟨z,hd,vs,rel,dd⟩:=eS I.dq e;refine call_len_dict hd dd (by rw[←rel.length];rw[D_] at z;omega) ?_;rw[←rel.length];exact h _ _ (I.tok _)
end
def GF(i:Expr):Prop:=∀ov iv,subscripted i false ov iv=operate [ov,iv] (getItem ov iv)
theorem GG{T id:String}
  (hl:typeLookup (.type T) "__getitem__"=pure (some (.builtin id))) (hs:GF slice)
  (h:wpAny (model prog w) A (eval value env) (λo da=>wpAny (model prog w) A (eval slice env) (λi vq=>vq.TypeIs o T/\wpAny (model prog w) A (getItem o i) Q E vq) E da) E s):
  wpAny (model prog w) A (eval (.Subscript value slice pos) env) Q E s:=by
 refine Subscript_ (Ae h (λo da ly=>Ae ly (λi vq zb=>?_) λ_ _ x=>x) λ_ _ x=>x);obtain⟨hT,zb⟩:=zb;unfold subscriptTail;refine bf ?_;rw[getitemInPython_of_ne hT.not_modules];refine bf (wpAny_specialOf hT hl ?_);have fin:wpAny (model prog w) A (subscripted slice false o i) (λr BC=>wpAny (model prog w) A (letTemporaryGo value o r>>=λ_=>pure r) Q E BC) E vq:=by
  rw[hs o i];exact wpAny_operating (Ae zb (λr BC ye=>bf (wpAny_letTemporaryGo (fg ye))) λ_ _ x=>x)
 first
  |exact fg (bf fin)
  |exact bf (fg (bf fin))
  |exact bf fin
theorem oN(I:Inv X pins σ H s)(g:rk H a y o):s.TypeIs (.ref a) "dict":=by
 rcases g with⟨kvs,k,e,_,_⟩|⟨kvs,k,b,e,_,_,_⟩
 ·obtain⟨_,_,vs,_,dd⟩:=eS I.dq e
  exact dd.typeIs
 ·obtain⟨_,_,xs,_,dd⟩:=lA I.dq e
  exact dd.typeIs
noncomputable def N9(td ty:TE):TE:=λσ H Q=>td σ H λx H1=>ty σ H1 λy H2=>∃a v,x=.ref a/\rk H2 a y (some v)/\Q v H2
noncomputable def Ro(ty td:TE):TE:=λσ H Q=>ty σ H λy H1=>td σ H1 λx H2=>∃a o,x=.ref a/\rk H2 a y o/\Q (.bl o.isSome) H2
noncomputable def GH(ty td:TE):TE:=λσ H Q=>ty σ H λy H1=>td σ H1 λx H2=>∃a o,x=.ref a/\rk H2 a y o/\Q (.bl (!o.isSome)) H2
noncomputable def N_(td ty tv:TE):TS:=λD σ H=>tv σ H λv H1=>td σ H1 λx H2=>ty σ H2 λy H3=>∃a H4,x=.ref a/\BB H3 a y v H4/\D.nx σ H4
section
variable{X:Cx}{o i e value:Expr}{pos pos' Cp:Pos}{td ty tv:TE}
theorem GI(hu:X.A.units+1<cLine)(ho:PE X o td)(hi:PE X i ty)(hs:GF i):PE X (.Subscript o i pos) (N9 td ty):=by
 intro pins s σ H Q I h;refine GG PySem.F.slot_dict_getitem.lookup hs (fv (ho pins s σ H _ I h) λu s1 ⟨x,H1,I1,rx,q1⟩=>fv (hi pins s1 σ H1 _ I1 q1) λiv s2 ⟨y,H2,I2,ry,a,v,ex,g,q2⟩=>?_);subst ex;obtain rfl:u=Value.ref a:=rx;exact⟨oN I2 g,vJ hu I2 g ry λw' s3 I3 vg=>⟨v,H2,I3,vg,q2⟩⟩
theorem KY(hu:X.A.units+1<cLine)(hi:PE X i ty)(ho:PE X o td):PC X .In i o (Ro ty td):=by
 intro pins s σ H Q I h;refine fv (hi pins s σ H _ I h) λiv s1 ⟨y,H1,I1,ry,q1⟩=>fv (ho pins s1 σ H1 _ I1 q1) λu s2 ⟨x,H2,I2,rx,a,ov,ex,g,q2⟩=>?_;subst ex;obtain rfl:u=Value.ref a:=rx;exact Rn hu I2 g ry λs3 I3=>⟨.bl ov.isSome,H2,I3,rfl,q2⟩
theorem vK(hu:X.A.units+1<cLine)(hi:PE X i ty)(ho:PE X o td):PC X .NotIn i o (GH ty td):=by
 intro pins s σ H Q I h;refine fv (hi pins s σ H _ I h) λiv s1 ⟨y,H1,I1,ry,q1⟩=>fv (ho pins s1 σ H1 _ I1 q1) λu s2 ⟨x,H2,I2,rx,a,ov,ex,g,q2⟩=>?_;subst ex;obtain rfl:u=Value.ref a:=rx;exact GD hu I2 g ry λs3 I3=>⟨.bl (!ov.isSome),H2,I3,rfl,q2⟩
theorem GJ(hu:X.A.units+1<cLine)(ho:PE X o td)(hi:PE X i ty)(hv:PE X value tv)(hs:swapsWith value (some (.Subscript o i pos')) pos.line X.env=pure false):
  PS X (.Assign [.Subscript o i pos'] value pos) (N_ td ty tv):=by
 intro pins s σ H D I h;refine wpAny_Assign_Subscript (fv (hv pins s σ H _ I h) λr s1 ⟨v,H1,I1,rv,q1⟩=>fv (ho pins s1 σ H1 _ I1 q1) λu s2 ⟨x,H2,I2,rx,q2⟩=>fv (hi pins s2 σ H2 _ I2 q2) λiv s3 ⟨y,H3,I3,ry,a,H4,ex,g,q3⟩=>?_) hs;subst ex;obtain rfl:u=Value.ref a:=rx;exact lB hu I3 g ry rv λs4 I4=>⟨σ,H4,I4,q3⟩
end
theorem xK(h:Heap)(hb:sysModules<h.objs.size):fi P w H (h.push {cls:=.type "dict",data:=.dict #[]}) h.objs.size (.dK []):=
 ⟨DQ _,beq_eq_false_iff_ne.mpr (jt (yv hb)),[],.nil,Heap.DictOf.new h⟩
noncomputable def vy:TE:=λ_ H Q=>∀p,H p=none->Q (.ref p) (upd H p (.dK []))
section
variable{X:Cx}{pos:Pos}
theorem bQ:PE X (.Dict [] [] pos) vy:=λpins s σ H Q I h=>
 wpAny_Dict_empty ⟨.ref s.heap.objs.size,_,I.laid (a:=s.heap.objs.size) (o:=.dK []) (t':=s.toks) (λ_ _ q=>qa _ q) (fm _) (xK s.heap I.big),rfl,h _ (I.dq.fresh (fm _))⟩
end
section
variable{X:Cx}{pins:List (Addr×Obj)}{σ:St}{H:Hp}{s:Shared}{a:Addr}{y d:V}{u r:Value}{o:Option V}{A:Around}{E:Value->Shared->Prop}
theorem KZ(hu:A.units+1<cLine)(I:Inv X pins σ H s)(g:rk H a y o)(ry:RelV y u)(rd:RelV d r)(h:∀w' s',Inv X pins σ H s'->RelV (o.getD d) w'->Q w' s'):
  wpAny (model X.prog X.w) A (call (.builtin "dict.get") [.ref a,u,r]) Q E s:=by
 rcases g with⟨kvs,k,e,ey,l⟩|⟨kvs,k,b,e,ey,eb,l⟩
 ·subst ey
  obtain⟨z,hd,vs,rel,dd⟩:=eS I.dq e;refine call_meetsIn PySem.F.slot_dict_get dd.typeIs PySem.F.entry_dict_get (PySem.F.args_dict_get_3 _ _ _) (meets_dict_get_default (dn X.prog X.w) a (iU ry) hd r) ⟨_,dd.mapOf,h _ _ (I.tok _) ?_⟩;rw[l];exact(rel.val k).getD rd
 ·subst ey
  cases (show u=Value.ref b from ry);obtain⟨z,hd,xs,rel,dd⟩:=lA I.dq e;refine call_meetsIn PySem.F.slot_dict_get dd.typeIs PySem.F.entry_dict_get (PySem.F.args_dict_get_3 _ _ _) (meetsH_dict_get_default (tupleKind (dn X.prog X.w)) a b hd r) ⟨tupleKind_room_in1 hu,k,xs,fU I.dq eb,dd,h _ _ (I.tok _) ?_⟩;rw[l];exact(rel.val k).getD rd
end
end L2
namespace HT
open PySem PyProof.Rows
section
variable{prog:Program}{w:World}{A:Around}{E:Value->Shared->Prop}{s:Shared}
theorem GK(ht:IsTup s.heap t vs.toArray)(hb:IsTup s.heap b ws.toArray)(hv:vs≠[])
  (h1:ws=[]->Q (.ref t) s) (h2:ws≠[]->Q (.ref s.heap.objs.size) {s with heap:=s.heap.push {cls:=.type "tuple",data:=.seq (vs++ws).toArray}})
  (hsz:vs.length+ws.length<=sizeLine):wpAny (model prog w) A (binaryOp .Add (.ref t) (.ref b)) Q E s:=by
 obtain⟨⟨cls,dd,data,sl⟩,ho,hc,n,hd⟩:=id ht;obtain⟨⟨Rp,Qm,data2,Oa⟩,K0,FW,n2,hd2⟩:=id hb;simp only at hc hd FW hd2;subst hc hd FW hd2;have e:vs.toArray++ws.toArray=(vs++ws).toArray:=by simp
 by_cases hw:ws=[]
 ·exact concat_meets ⟨_,ho,rfl⟩ ⟨_,K0,rfl⟩ noFill_tuple_add seq_tuple_add PySem.F.slot_tuple_add PySem.F.entry_tuple_add (PySem.F.args_tuple_add_2 _ _)
   (tuple_addW1 t b vs.toArray ws.toArray n n2 dd Qm sl Oa (by simpa using hv) (by simp[hw])) ⟨ho,K0,h1 hw⟩
 ·refine concat_meets ⟨_,ho,rfl⟩ ⟨_,K0,rfl⟩ noFill_tuple_add seq_tuple_add PySem.F.slot_tuple_add PySem.F.entry_tuple_add (PySem.F.args_tuple_add_2 _ _)
   (tuple_addW2 t b vs.toArray ws.toArray n n2 dd Qm sl Oa (by simpa using hv) (by simpa using hw) (by rw[rz,rz];exact hsz)) ⟨ho,K0,?_⟩
  rw[e];exact h2 hw
noncomputable def d_(n d:Nat):Option Int->Nat
 |none=>d
 |some v=>if v<0 then(v+(n:Int)).toNat else min v.toNat n
theorem El(n d:Nat):d_ n d none=d:=rfl
theorem GL(n d k:Nat):d_ n d (some (k:Int))=min k n:=by
 show(if(k:Int)<0 then((k:Int)+(n:Int)).toNat else min (k:Int).toNat n)=min k n;rw[az (by omega),D6]
theorem Em(n d:Nat)(hd:d<=n)(o:Option Int):d_ n d o<=n:=by
 cases o with
 |none=>exact hd
 |some v=>
  show(if v<0 then(v+(n:Int)).toNat else min v.toNat n)<=n;by_cases hv:v<0
  ·rw[bp hv];omega
  ·rw[az hv];exact Nat.min_le_right _ _
theorem tL(v:Int)(n d:Nat):(if v<0 then max (v+(n:Int)) 0 else min v (n:Int))=((d_ n d (some v):Nat):Int):=by
 show(if v<0 then max (v+(n:Int)) 0 else min v (n:Int))=(((if v<0 then(v+(n:Int)).toNat else min v.toNat n):Nat):Int)
 by_cases hv:v<0
 ·simp only[bp hv];omega
 ·simp only[az hv];omega
theorem qX(lo hi:Option Int)(n:Nat):Builtin.Slice.sliceAdjust lo hi 1 (n:Int)=(((d_ n 0 lo:Nat):Int),((d_ n n hi:Nat):Int)):=by
 have h1:¬((1:Int)<0):=by omega
 unfold Builtin.Slice.sliceAdjust;simp only[h1,df];refine Prod.ext ?_ ?_
 ·cases lo with
  |none=>rfl
  |some v=>exact tL v n 0
 ·cases hi with
  |none=>rfl
  |some v=>exact tL v n n
theorem qY(i j:Nat):Builtin.Slice.slicePlaces (i:Int) (j:Int) 1=j-i:=by
 unfold Builtin.Slice.slicePlaces;have h1:(1:Int)>0:=by omega
 simp only[h1,b_,Int.ediv_one];split<;>omega
theorem iV(p:IsPart v o)(h:Q o s):wpAny (model prog w) A (Builtin.Slice.slicePartIndex v) Q E s:=by
 cases p with
 |none=>exact slicePart_none h
 |int i t=>exact slicePart_int h
theorem oi{lo hi:Option Int}{Q:Int×Int×Nat->Shared->Prop}(hs:s.heap.IsSliceOf sl vl vu .none)(pl:IsPart vl lo)(pu:IsPart vu hi)
  (h:Q (((d_ n 0 lo:Nat):Int),1,d_ n n hi-d_ n 0 lo) s):wpAny (model prog w) A (Builtin.Slice.sliceApplied (.ref sl) (pure (n:Int))) Q E s:=by
 obtain⟨os,K1,Qn,GN⟩:=id hs;unfold Builtin.Slice.sliceApplied Builtin.Slice.sliceFields;refine bf (bf (Am K1 GN (x:=vl) rfl (bf (Am K1 GN (x:=vu) rfl (bf (Am K1 GN (x:=.none) rfl (fg ?_)))))));refine bf (slicePart_none ?_);show wpAny _ _ (if((1:Int)==0)=true then _ else _) _ _ s;rw[az (by decide)];refine bf (iV pl (bf (iV pu (bf (fg ?_)))));show wpAny _ _ (match Builtin.Slice.sliceAdjust lo hi 1 (n:Int) with|(lo,hi)=>pure (lo,(1:Int),Builtin.Slice.slicePlaces lo hi 1)) _ _ s;rw[qX lo hi n];show wpAny _ _ (pure (((d_ n 0 lo:Nat):Int),(1:Int),Builtin.Slice.slicePlaces ((d_ n 0 lo:Nat):Int) ((d_ n n hi:Nat):Int) 1)) _ _ s;rw[qY];exact fg h
theorem xM(xs:Array Value)(i k:Nat):((List.range k).filterMap λ(m:Nat)=>xs[((i:Int)+(m:Int)*1).toNat]?).toArray=((xs.toList.drop i).take k).toArray:=by
 have e:(λ(m:Nat)=>xs[((i:Int)+(m:Int)*1).toNat]?)=λm=>xs[i+m]?:=by
  funext m;have:((i:Int)+(m:Int)*1).toNat=i+m:=by omega
  rw[this]
 rw[e];have:=pick_run xs i k;rw[List.filterMap_map] at this;have e2:((λx=>xs[x]?)∘λx=>i+x)=λm=>xs[i+m]?:=rfl;rw[e2] at this;rw[this]
theorem uv{lo hi:Option Int}(ht:IsTup s.heap t items)(hs:s.heap.IsSliceOf sl vl vu .none)(pl:IsPart vl lo)(pu:IsPart vu hi)
  (hw:¬(d_ items.size 0 lo=0/\d_ items.size items.size hi=items.size))
  (h:Q (.ref s.heap.objs.size) {s with heap:=s.heap.push {cls:=.type "tuple",data:=.seq ((items.toList.drop (d_ items.size 0 lo)).take (d_ items.size items.size hi-d_ items.size 0 lo)).toArray}})
  (hsz:items.size<=sizeLine):wpAny (model prog w) A (getItem (.ref t) (.ref sl)) Q E s:=by
 have CQ:sizeOk (.seq ((items.toList.drop (d_ items.size 0 lo)).take (d_ items.size items.size hi-d_ items.size 0 lo)).toArray):=by
  show((items.toList.drop (d_ items.size 0 lo)).take (d_ items.size items.size hi-d_ items.size 0 lo)).toArray.size<=sizeLine;rw[rz,Bj,Jf,Array.length_toList];omega
 have hj:d_ items.size items.size hi<=items.size:=Em _ _ (fm _) hi;obtain⟨os,K1,Qn,GN⟩:=id hs;have Rq:s.TypeIs (.ref sl) "slice":=⟨os,K1,Qn⟩
 unfold getItem
 try with_reducible refine FU ?_
 first|refine bf (fg ?_)|skip
 refine bf (wpAny_sequenceKey ht.typeIs (by decide) ?_);refine bf (I0 (name:=Str.ofString "__getitem__") ht.typeIs PyProof.Rows.slot_tuple_getitem
  (CM PyProof.Rows.slot_tuple_getitem ht.typeIs entry_tuple_getitem ?_ (args_tuple_getitem _ _)))
 show wpAny _ _ (Builtin.Tuple.tupleItemsOf (.ref t)>>=_) _ _ s;refine bf (tupleItemsOf_ ht ?_);refine bf (wpAny_typeOf Rq ?_);rw[bp (by decide)];refine bf (oi hs pl pu ?_);have Rr:¬((((d_ items.size 0 lo:Nat):Int)==0&&(1:Int)==1&&(d_ items.size items.size hi-d_ items.size 0 lo)==items.size)=true):=by
  intro q;rw[qc,qc] at q;have q1:((d_ items.size 0 lo:Nat):Int)=0:=eq_of_beq q.1.1;have q2:d_ items.size items.size hi-d_ items.size 0 lo=items.size:=eq_of_beq q.2;exact hw ⟨by omega,by omega⟩
 show wpAny _ _ (if(((d_ items.size 0 lo:Nat):Int)==0&&(1:Int)==1&&(d_ items.size items.size hi-d_ items.size 0 lo)==items.size)=true then _ else _) _ _ s;rw[az Rr,xM]
 first
  |exact bf (m:=Builtin.Tuple.tupleExact _) (DM (fg ⟨_,rfl,fg h⟩) CQ)
  |exact bf (m:=Builtin.Tuple.tupleExact _) (DM (bf (fg (fg ⟨_,rfl,fg h⟩))) CQ)
  |exact bf (bf (m:=Builtin.Tuple.tupleExact _) (DM (fg (fg ⟨_,rfl,fg h⟩)) CQ))
  |exact bf (bf (m:=Builtin.Tuple.tupleExact _) (DM (fg ⟨_,rfl,fg h⟩) CQ))
end
end HT
namespace L2
open PySem PySem.Spec PyProof.Rows
noncomputable abbrev TO:=St->Hp->(Option Int->Hp->Prop)->Prop
def PO(X:Cx)(e:Option Expr)(t:TO):Prop:=
 ∀(pins:List (Addr×Obj))(s:Shared)(σ:St)(H:Hp)(Q:Option Int->Hp->Prop),Inv X pins σ H s->t σ H Q->
  wpAny (model X.prog X.w) X.A (evalPart e X.env) (λu s'=>∃o H',Inv X pins σ H' s'/\IsPart u o/\Q o H') X.xe s
noncomputable def CS:TO:=λ_ H Q=>Q none H
noncomputable def Ju(t:TE):TO:=λσ H Q=>t σ H λx H1=>∃i,x=.int i/\Q (some i) H1
section
variable{X:Cx}{e:Expr}{te:TE}{lo hi:Option Expr}{tl th:TO}{pos p2:Pos}
theorem tM:PO X none CS:=by
 intro pins s σ H Q I h;rw[evalPart_none];exact fg ⟨none,H,I,.none,h⟩
theorem tN(h:PE X e te):PO X (some e) (Ju te):=by
 intro pins s σ H Q I hw;rw[evalPart_some];refine fv (h pins s σ H _ I hw) λu s1 ⟨x,H1,I1,r1,q1⟩=>?_;obtain⟨i,rfl,q⟩:=q1;obtain⟨t,rfl⟩:=r1;exact⟨some i,H1,I1,.int i t,q⟩
def GO(X:Cx)(r:V->Option Int->Option Int->Hp->VK->Prop):Prop:=
 ∀(pins:List (Addr×Obj))(s:Shared)(σ:St)(H:Hp)(x:V)(v vl vu:Value)(lo hi:Option Int)(sl:Addr)(Q:VK),Inv X pins σ H s->RelV x v->s.heap.IsSliceOf sl vl vu .none->IsPart vl lo->IsPart vu hi->r x lo hi H Q->
  ∃T id,typeLookup (.type T) "__getitem__"=pure (some (.builtin id))/\s.TypeIs v T/\wpAny (model X.prog X.w) X.A (getItem v (.ref sl)) (EP X pins σ Q) X.xe s
theorem GO.or(h:GO X r)(h':GO X r'):GO X (λx lo hi H Q=>r x lo hi H Q\/r' x lo hi H Q):=by
 intro pins s σ H x v vl vu lo hi sl Q I rx hs pl pu q;rcases q with q|q
 ·exact h pins s σ H x v vl vu lo hi sl Q I rx hs pl pu q
 ·exact h' pins s σ H x v vl vu lo hi sl Q I rx hs pl pu q
noncomputable def Tt(r:V->Option Int->Option Int->Hp->VK->Prop)(te:TE)(tl th:TO):TE:=λσ H Q=>te σ H λx H1=>tl σ H1 λl H2=>th σ H2 λu H3=>r x l u H3 Q
theorem oO(hr:GO X r)(he:PE X e te)(hl:PO X lo tl)(hu:PO X hi th):PE X (.Subscript e (.Slice lo hi none p2) pos) (Tt r te tl th):=by
 intro pins s σ H Q I h;refine Subscript_ (fv (he pins s σ H _ I h) λv s1 ⟨x,H1,I1,r1,q1⟩=>?_);refine wpAny_Slice (fv (hl pins s1 σ H1 _ I1 q1) λvl s2 ⟨l,H2,I2,pl,q2⟩=>fv (hu pins s2 σ H2 _ I2 q2) λvu s3 ⟨u,H3,I3,pu,q3⟩=>?_);rw[evalPart_none];refine fg ?_;have I4:Inv X pins σ H3 {s3 with heap:=s3.heap.push {cls:=.type "slice",data:=.fields #[vl,vu,.none]}}:=I3.kept (t':=s3.toks) λb ob q=>qa _ q;obtain⟨T,id,hT,ht,hg⟩:=hr pins {s3 with heap:=s3.heap.push {cls:=.type "slice",data:=.fields #[vl,vu,.none]}} σ H3 x v vl vu l u s3.heap.objs.size Q I4 r1 (Heap.IsSliceOf.new ..) pl pu q3;show wpAny (model X.prog X.w) X.A (subscriptTail e (.Slice lo hi none p2) v (.ref s3.heap.objs.size)) (EP X pins σ Q) X.xe {s3 with heap:=s3.heap.push {cls:=.type "slice",data:=.fields #[vl,vu,.none]}};exact tail_any (ops:=[.ref s3.heap.objs.size,v]) ht hT hg (by with_unfolding_all rfl)
noncomputable def zc(xs:List V)(lo hi:Option Int):List V:=(xs.drop (HT.d_ xs.length 0 lo)).take (HT.d_ xs.length xs.length hi-HT.d_ xs.length 0 lo)
theorem gP(xs:List V)(lo hi:Option Int):(zc xs lo hi).length<=xs.length:=by
 unfold zc;rw[Bj,Jf];omega
noncomputable def Ob(K:PySem.W.Frag):V->Option Int->Option Int->Hp->VK->Prop:=λx lo hi H Q=>∃a xs,x=.ref a/\ju K H a xs/\
 ¬(HT.d_ xs.length 0 lo=0/\HT.d_ xs.length xs.length hi=xs.length)/\∀p,H p=none->Q (.ref p) (upd H p (.tup (zc xs lo hi)))
theorem K2:GO X (Ob X.K):=by
 intro pins s σ H x v vl vu lo hi sl Q I rx hs pl pu h;obtain⟨a,xs,rfl,hx,hw,q⟩:=h;cases rx;obtain⟨its,r,ht,hz⟩:=I.tuple hx;have hlen:its.toArray.size=xs.length:=by rw[rz];exact r.length.symm
 refine⟨"tuple",_,PyProof.Rows.slot_tuple_getitem.lookup,ht.typeIs,?_⟩;refine HT.uv ht hs pl pu (by rw[hlen];exact hw) ?_ (by rw[hlen];exact hz);rw[hlen];refine⟨.ref s.heap.objs.size,_,I.laid (t':=s.toks) (o:=.tup (zc xs lo hi)) (λb ob q=>qa _ q) (fm _) ?_,rfl,q _ (I.dq.fresh (fm _))⟩;exact⟨qe (gP xs lo hi) hz,_,(r.drop (HT.d_ xs.length 0 lo)).take (HT.d_ xs.length xs.length hi-HT.d_ xs.length 0 lo),IsTup.new _ _⟩
noncomputable def Oc(K:PySem.W.Frag):R2:=λx y H Q=>∃a b xs ys,x=.ref a/\y=.ref b/\ju K H a xs/\ju K H b ys/\xs≠[]/\xs.length+ys.length<=sizeLine/\
 (ys=[]->Q (.ref a) H)/\(ys≠[]->∀p,H p=none->Q (.ref p) (upd H p (.tup (xs++ys))))
theorem Vals.yp(r:Vals xs us):us=[]↔xs=[]:=by
 cases r with
 |nil=>simp
 |cons _ _=>simp
theorem GQ:vf X (binaryOp .Add) (Oc X.K):=by
 intro pins s σ H x y v u Q I rx ry h;obtain⟨a,b,xs,ys,rfl,rfl,ha,hb,hx,hz,q1,q2⟩:=h;cases rx;cases ry;obtain⟨its,r1,p1,_⟩:=I.tuple ha;obtain⟨yf,r2,p2,_⟩:=I.tuple hb;refine HT.GK p1 p2 (λz=>hx (r1.yp.mp z)) (λz=>⟨.ref a,H,I,rfl,q1 (r2.yp.mp z)⟩) (λz=>?_) (by rw[←r1.length,←r2.length];exact hz);refine⟨.ref s.heap.objs.size,_,I.laid (t':=s.toks) (o:=.tup (xs++ys)) (λb ob q=>qa _ q) (fm _) ?_,rfl,q2 (λw=>z (r2.yp.mpr w)) _ (I.dq.fresh (fm _))⟩;exact⟨by rw[rj];exact hz,_,r1.append r2,IsTup.new _ _⟩
end
noncomputable def DV(n:Nat)(i:Int):Option Nat:=if 0<=i then(if i<n then some i.toNat else none) else if-(n:Int)<=i then some (i+n).toNat else none
noncomputable def GR{α:Type}(xs:List α)(i:Int):Option α:=(DV xs.length i).bind λj=>xs[j]?
theorem tP(h:DV n i=some j):seqIndex? i n=some j/\j<n/\-(n:Int)<=i/\i<n:=by
 unfold DV at h;by_cases h0:0<=i
 ·rw[bp h0] at h
  by_cases h1:i<n
  ·rw[bp h1] at h
   have e:i.toNat=j:=ud h;exact⟨by rw[seqIndex_of h0 h1,e],by omega,by omega,h1⟩
  ·rw[az h1] at h;cases h
 ·rw[az h0] at h
  by_cases h1: -(n:Int)<=i
  ·rw[bp h1] at h
   have e:(i+n).toNat=j:=ud h;exact⟨by rw[seqIndex_neg (by omega) h1,e],by omega,h1,by omega⟩
  ·rw[az h1] at h;cases h
theorem tQ{α:Type}{xs:List α}{i:Int}{v:α}(h:GR xs i=some v):∃j,seqIndex? i xs.length=some j/\xs[j]?=some v/\j<xs.length/\-(xs.length:Int)<=i/\i<xs.length:=by
 unfold GR at h
 cases e:DV xs.length i with
 |none=>rw[e] at h;cases h
 |some j=>
  rw[e] at h;obtain⟨h1,h2,h3,h4⟩:=tP e;exact⟨j,h1,h,h2,h3,h4⟩
def uw(b:Expr):Prop:=∀o i,subscripted b false o i=operate [o,i] (getItem o i)
def Jv(X:Cx)(r:R2):Prop:=
 ∀(value slice:Expr)(pins:List (Addr×Obj))(s:Shared)(σ:St)(H:Hp)(x y:V)(v u:Value)(Q:VK),Inv X pins σ H s->RelV x v->RelV y u->r x y H Q->
  subscripted slice false v u=operate [v,u] (getItem v u)->wpAny (model X.prog X.w) X.A (subscriptTail value slice v u) (EP X pins σ Q) X.xe s
def GS(X:Cx)(id:String)(r:V->List V->Hp->VK->Prop):Prop:=
 ∀(pins:List (Addr×Obj))(s:Shared)(σ:St)(H:Hp)(x:V)(xs:List V)(v:Value)(us:List Value)(Q:VK),Inv X pins σ H s->RelV x v->Vals xs us->r x xs H Q->
  wpAny (model X.prog X.w) X.A (call (.builtin id) (v::us)) (EP X pins σ Q) X.xe s
section
variable{X:Cx}{a b:Expr}{ta tb:TE}{pos:Pos}
theorem Jv.or(h:Jv X r)(h':Jv X r'):Jv X (λx y H Q=>r x y H Q\/r' x y H Q):=by
 intro value slice pins s σ H x y v u Q I rx ry q hs;rcases q with q|q
 ·exact h value slice pins s σ H x y v u Q I rx ry q hs
 ·exact h' value slice pins s σ H x y v u Q I rx ry q hs
theorem xN(hr:Jv X r)(ha:PE X a ta)(hb:PE X b tb)(hs:uw b):PE X (.Subscript a b pos) (za r ta tb):=by
 intro pins s σ H Q I h;exact Subscript_ (KO ha hb I h λv u s2 x y H2 I2 rx ry q=>hr a b pins s2 σ H2 x y v u Q I2 rx ry q (hs _ _))
noncomputable def vz(K:PySem.W.Frag):R2:=λx y H Q=>∃p xs i v,x=.ref p/\y=.int i/\ki K H p xs/\GR xs i=some v/\Q v H
noncomputable def Dm(K:PySem.W.Frag):R2:=λx y H Q=>∃p xs i v,x=.ref p/\y=.int i/\ju K H p xs/\GR xs i=some v/\Q v H
theorem CT:Jv X (vz X.K):=by
 intro value slice pins s σ H x y v u Q I rx ry h hs;obtain⟨p,xs,i,z,rfl,rfl,hq,he,q⟩:=h;cases rx;obtain⟨t,rfl⟩:=ry;obtain⟨its,r,pl,hz⟩:=I.list hq;obtain⟨j,h1,h2,h3,h4,h5⟩:=tQ he;obtain⟨w,ew,vg⟩:=r.get h2;have hl:=r.length;have hn:=vv;have fin:EP X pins σ Q w s:=⟨z,H,I,vg,q⟩
 by_cases h0:0<=i
 ·have hj:i.toNat=j:=by
   rw[seqIndex_of h0 h5] at h1;exact ud h1
  exact item_listR pl.isList h0 (by omega) (by rw[hj];simpa using ew) fin hs
 ·have hj:(i+(its.toArray.size:Int)).toNat=j:=by
   rw[seqIndex_neg (by omega) h4] at h1;rw[rz,←hl];exact ud h1
  exact subscriptTail_builtinR (x:=w) pl.isList.typeIs slot_list_getitem.lookup
   (wpAny_getItem_list_neg (Q:=λr s'=>r=w/\EP X pins σ Q r s') pl.isList (by omega) (by rw[rz]<;>omega) (by omega) (by rw[hj];simpa using ew) ⟨rfl,fin⟩) hs
theorem xO:Jv X (Dm X.K):=by
 intro value slice pins s σ H x y v u Q I rx ry h hs;obtain⟨p,xs,i,z,rfl,rfl,hq,he,q⟩:=h;cases rx;obtain⟨t,rfl⟩:=ry;obtain⟨its,r,pl,hz⟩:=I.tuple hq;obtain⟨j,h1,h2,h3,h4,h5⟩:=tQ he;obtain⟨w,ew,vg⟩:=r.get h2;have hl:=r.length;have hn:=vv;have fin:EP X pins σ Q w s:=⟨z,H,I,vg,q⟩
 exact subscriptTail_builtinR (x:=w) pl.typeIs slot_tuple_getitem.lookup
  (getItem_tuple (j:=j) (Q:=λr s'=>r=w/\EP X pins σ Q r s') pl (by omega) (by omega) (by rw[rz,←hl];exact h1) (by simpa using ew) ⟨rfl,fin⟩) hs
theorem qZ(its:List Value)(n j:Nat)(u:Value):Obj.mapSeq (·.setIfInBounds j u) {cls:=.type "list",data:=.seq its.toArray n}={cls:=.type "list",data:=.seq (its.set j u).toArray n}:=by
 simp[Obj.mapSeq]
theorem Inv.lst(I:Inv X pins σ H s)(h:H p=some (.lst xs)):
  ∃(its:List Value)(n:Nat),Vals xs its/\s.heap.get? p=some {cls:=.type "list",data:=.seq its.toArray n}/\xs.length<=sizeLine:=by
 obtain⟨z,its,n,r,e⟩:=I.dq p _ h;exact⟨its,n,r,e,z⟩
theorem Inv.K3{pins:List (Addr×Obj)}{σ:St}{H:Hp}{s:Shared}{p:Addr}{xs ys:List V}{its its':List Value}{n n':Nat}{f:Obj->Obj}(I:Inv X pins σ H s)(h:H p=some (.lst xs))
  (ho:s.heap.get? p=some {cls:=.type "list",data:=.seq its.toArray n}) (hf:f {cls:=.type "list",data:=.seq its.toArray n}={cls:=.type "list",data:=.seq its'.toArray n'}) (r:Vals ys its') (hz:ys.length<=sizeLine) (t:Nat):
  Inv X pins σ (upd H p (.lst ys)) {s with heap:=s.heap.update p f,toks:=t}:=by
 have e:(s.heap.update p f).get? p=some {cls:=.type "list",data:=.seq its'.toArray n'}:=by
  rw[MY f ho (by rw[hf]<;>rfl),hf]
 refine I.write (x:=p) (e:=p) (by rw[h];trivial) (.inl rfl) (λb u hb q=>(Ge _ _ (jt hb)).trans q) ⟨_,e⟩ ?_;exact⟨hz,its',n',r,e⟩
noncomputable def En:V->V->V->Hp->(Hp->Prop)->Prop:=λo i v H Q=>∃p xs k j,o=.ref p/\i=.int k/\H p=some (.lst xs)/\DV xs.length k=some j/\Q (upd H p (.lst (xs.set j v)))
theorem oP:Gw X En:=by
 intro pins s σ H o i v ov iv u Q I ro ri rv h;obtain⟨p,xs,k,j,rfl,rfl,hp,hj,q⟩:=h;cases ro;obtain⟨t,rfl⟩:=ri;obtain⟨its,n,r,ho,hz⟩:=I.lst hp;obtain⟨h1,h2,h3,h4⟩:=tP hj;have hl:=r.length;have hn:=vv;have I':Inv X pins σ (upd H p (.lst (xs.set j v))) {s with heap:=s.heap.update p (Obj.mapSeq (·.setIfInBounds j u))}:=
  I.K3 hp ho (qZ its n j u) (r.set rv j) (by rw[Jh];exact hz) s.toks
 by_cases h0:0<=k
 ·have hk:k.toNat=j:=by
   rw[seqIndex_of h0 h4] at h1;exact ud h1
  exact PySem.W.ki_setAt ho h0 (by omega) (by rw[rz,←hl];exact h4) (by rw[hk];exact⟨_,I',q⟩)
 ·have hk:(k+(its.toArray.size:Int)).toNat=j:=by
   rw[seqIndex_neg (by omega) h3] at h1;rw[rz,←hl];exact ud h1
  exact PySem.W.ki_setBack ho (by omega) (by rw[rz,←hl];exact h3) (by omega) (by rw[hk];exact⟨_,I',q⟩)
theorem mQ(lo hi:Option Int)(n:Nat):(sliceBounds lo hi none n).1=((HT.d_ n 0 lo:Nat):Int)/\(sliceBounds lo hi none n).2.1=((HT.d_ n n hi:Nat):Int)/\(sliceBounds lo hi none n).2.2=1:=by
 refine⟨?_,?_,rfl⟩
 ·cases lo with
  |none=>simp[sliceBounds,HT.d_]
  |some i=>
   simp only[sliceBounds,HT.d_,Option.getD_none,show(1:Int)>0 by decide,b_];by_cases h:i<0
   ·simp only[h,b_]<;>omega
   ·simp only[h,df]<;>omega
 ·cases hi with
  |none=>simp[sliceBounds,HT.d_]
  |some i=>
   simp only[sliceBounds,HT.d_,Option.getD_none,show(1:Int)>0 by decide,b_];by_cases h:i<0
   ·simp only[h,b_]<;>omega
   ·simp only[h,df]<;>omega
theorem kQ(its:List Value)(lo hi:Option Int):slicePick its.toArray lo hi none=((its.drop (HT.d_ its.length 0 lo)).take (HT.d_ its.length its.length hi-HT.d_ its.length 0 lo)).toArray:=by
 obtain⟨h1,h2,h3⟩:=mQ lo hi its.toArray.size;unfold slicePick;rw[h1,h2,h3];simp only[sliceRange_one,pick_run,rz]<;>rfl
noncomputable def K4(K:PySem.W.Frag):V->Option Int->Option Int->Hp->VK->Prop:=λx lo hi H Q=>∃a xs,x=.ref a/\ki K H a xs/\∀p,H p=none->Q (.ref p) (upd H p (.lst (zc xs lo hi)))
theorem CV:GO X (K4 X.K):=by
 intro pins s σ H x v vl vu lo hi sl Q I rx hs pl pu h;obtain⟨a,xs,rfl,hx,q⟩:=h;cases rx;obtain⟨its,r,ht,hz⟩:=I.list hx;have hlen:=r.length;refine⟨"list",_,slot_list_getitem.lookup,ht.isList.typeIs,?_⟩;refine wpAny_getItem_list_slice ht.isList hs pl pu .none (by simp) ?_ (by rw[rz]<;>omega);rw[kQ,←hlen];refine⟨.ref s.heap.objs.size,_,I.laid (t':=s.toks) (o:=.lst (zc xs lo hi)) (λb ob q=>qa _ q) (fm _) ?_,rfl,q _ (I.dq.fresh (fm _))⟩;exact⟨qe (gP xs lo hi) hz,_,0,(r.drop (HT.d_ xs.length 0 lo)).take (HT.d_ xs.length xs.length hi-HT.d_ xs.length 0 lo),Ab _ rfl⟩
noncomputable def pz:V->Bool
 |.cx=>true
 |.bl _=>true
 |.int _=>true
 |.str _=>true
 |_=>false
noncomputable def mw:V->V->Bool
 |.cx,.cx=>true
 |.bl a,.bl b=>a==b
 |.bl a,.int b=>(if a then 1 else 0)==b
 |.int a,.bl b=>a==(if b then 1 else 0)
 |.int a,.int b=>a==b
 |.str a,.str b=>a==b
 |_,_=>false
theorem aT(ry:RelV y u)(rx:RelV x v)(fy:pz y=true)(fx:pz x=true):SeqAt.EqAt A s u v (mw y x):=by
 cases y with
 |cx=>
  cases ry
  cases x with
  |cx=>cases rx;exact SeqAt.EqAt.same _
  |bl b=>cases rx;exact SeqAt.EqAt.none_bool b
  |int b=>obtain⟨t,rfl⟩:=rx;exact SeqAt.EqAt.none_int b t
  |str b=>obtain⟨t,rfl⟩:=rx;exact SeqAt.EqAt.none_str b t
  |_=>exact absurd (show false=true from fx) jw
 |bl a=>
  cases ry
  cases x with
  |cx=>cases rx;exact SeqAt.EqAt.bool_none a
  |bl b=>cases rx;exact SeqAt.EqAt.bool_bool a b
  |int b=>obtain⟨t,rfl⟩:=rx;exact SeqAt.EqAt.bool_int a b t
  |str b=>obtain⟨t,rfl⟩:=rx;exact SeqAt.EqAt.bool_str a b t
  |_=>exact absurd (show false=true from fx) jw
 |int a=>
  obtain⟨t',rfl⟩:=ry
  cases x with
  |cx=>cases rx;exact SeqAt.EqAt.int_none a t'
  |bl b=>cases rx;exact SeqAt.EqAt.int_bool a t' b
  |int b=>obtain⟨t,rfl⟩:=rx;exact SeqAt.EqAt.int_int a t' b t
  |str b=>obtain⟨t,rfl⟩:=rx;exact SeqAt.EqAt.int_str a t' b t
  |_=>exact absurd (show false=true from fx) jw
 |str a=>
  obtain⟨t',rfl⟩:=ry
  cases x with
  |cx=>cases rx;exact SeqAt.EqAt.str_none a t'
  |bl b=>cases rx;exact SeqAt.EqAt.str_bool a t' b
  |int b=>obtain⟨t,rfl⟩:=rx;exact SeqAt.EqAt.str_int a t' b t
  |str b=>obtain⟨t,rfl⟩:=rx;exact SeqAt.EqAt.str_str a t' b t
  |_=>exact absurd (show false=true from fx) jw
 |_=>exact absurd (show false=true from fy) jw
noncomputable def Eo(x:V)(u:Value):Bool:=match u with
 |.none=>mw .cx x
 |.bool b=>mw (.bl b) x
 |.int i _=>mw (.int i) x
 |.str z _=>mw (.str z) x
 |_=>false
theorem q9(r:RelV y u)(f:pz y=true):Eo x u=mw y x:=by
 cases y with
 |cx=>cases r;rfl
 |bl b=>cases r;rfl
 |int i=>obtain⟨t,rfl⟩:=r;rfl
 |str z=>obtain⟨t,rfl⟩:=r;rfl
 |_=>exact absurd (show false=true from f) jw
theorem mR:∀{xs:List V}{us:List Value},Vals xs us->xs.all pz=true->us.any (Eo x)=xs.any λy=>mw y x
 |_,_,.nil,_=>rfl
 |y::xs,u::us,.cons r t,f=>by
  rw[List.all_cons,qc] at f;rw[D7,D7,q9 r f.1,mR t f.2]
theorem eU(rx:RelV x v)(fx:pz x=true):∀{xs:List V}{us:List Value},Vals xs us->xs.all pz=true->∀u∈us,SeqAt.EqAt A s u v (Eo x u)
 |_,_,.nil,_=>λu hu=>by cases hu
 |y::xs,u::us,.cons r t,f=>λu' hu=>by
  rw[List.all_cons,qc] at f;rcases List.mem_cons.mp hu with rfl|hu
  ·rw[q9 r f.1];exact aT r rx f.1 fx
  ·exact eU rx fx t f.2 u' hu
noncomputable def Qo(x:V)(xs:List V):Bool:=xs.any λy=>mw y x
noncomputable def Tu(K:PySem.W.Frag)(neg:Bool):R2:=λx y H Q=>∃p xs,y=.ref p/\(ki K H p xs\/ju K H p xs)/\pz x=true/\xs.all pz=true/\Q (.bl (if neg then !Qo x xs else Qo x xs)) H
theorem mS:vf X (compareOp .NotIn) (Tu X.K true):=by
 intro pins s σ H x y v u Q I rx ry h;obtain⟨p,xs,rfl,hq,fx,fs,q⟩:=h;cases ry;rcases hq with hq|hq
 ·obtain⟨its,r,pl,hz⟩:=I.list hq
  refine SeqAt.notIn_listAt (Eo x) pl.isList (λw hw=>eU rx fx r fs w (by simpa using hw)) ⟨.bl _,H,I,rfl,?_⟩;rw[show its.toArray.any (Eo x)=its.any (Eo x) by simp,mR r fs];exact q
 ·obtain⟨its,r,pl,hz⟩:=I.tuple hq
  refine SeqAt.notIn_tupleAt (Eo x) pl (λw hw=>eU rx fx r fs w (by simpa using hw)) ⟨.bl _,H,I,rfl,?_⟩;rw[show its.toArray.any (Eo x)=its.any (Eo x) by simp,mR r fs];exact q
theorem eV:og X (.builtin "len") (λxs H Q=>∃p ys,xs=[.ref p]/\(ki X.K H p ys\/ju X.K H p ys)/\Q (.int ys.length) H):=by
 intro pins s σ H xs us Q I r h;obtain⟨p,ys,rfl,hq,q⟩:=h;obtain⟨u,rfl,rx⟩:=vals1 r;cases rx;have hn:=vv;rcases hq with hq|hq
 ·obtain⟨its,r',pl,hz⟩:=I.list hq
  have hlen:=r'.length;exact Calls.call_len_list pl.isList (by simp only[rz]<;>omega) ⟨.int ys.length,H,I.tok _,⟨s.toks+1,by rw[rz,hlen]⟩,q⟩
 ·obtain⟨its,r',pl,hz⟩:=I.tuple hq
  have hlen:=r'.length;exact len_tuple pl (by simp only[rz]<;>omega) ⟨.int ys.length,H,I.tok _,⟨s.toks+1,by rw[rz,hlen]⟩,q⟩
theorem eW:og X (.type "list") (λxs H Q=>∃p ys,xs=[.ref p]/\(ki X.K H p ys\/ju X.K H p ys)/\∀l,H l=none->Q (.ref l) (upd H l (.lst ys))):=by
 intro pins s σ H xs us Q I r h;obtain⟨p,ys,rfl,hq,q⟩:=h;obtain⟨u,rfl,rx⟩:=vals1 r;cases rx;have fin:∀(its:List Value),Vals ys its->ys.length<=sizeLine->∀(h':Heap)(c':Nat),(∀b o',s.heap.get? b=some o'->h'.get? b=some o')->
   h'.get? s.heap.objs.size=some {cls:=.type "list",dict:=none,data:=.seq its.toArray c',slots:= #[]}->EP X pins σ Q (.ref s.heap.objs.size) {s with heap:=h'}:=λits r' hz h' c' kp e=>
  ⟨.ref s.heap.objs.size,_,I.laid (t':=s.toks) kp (fm _) (show fi X.prog X.w _ h' _ (.lst ys) from⟨hz,its,c',r',e⟩),rfl,q _ (I.dq.fresh (fm _))⟩
 rcases hq with hq|hq
 ·obtain⟨its,r',pl,hz⟩:=I.list hq
  have hlen:=r'.length;obtain⟨o,ho,hc,n,hd⟩:=pl.isList;exact call_list_seq p (.inl rfl) ho hc hd (λh' c' kp e=>fin its r' hz h' c' kp e) (by simp only[rz]<;>omega)
 ·obtain⟨its,r',pl,hz⟩:=I.tuple hq
  have hlen:=r'.length;obtain⟨o,ho,hc,n,hd⟩:=pl;exact call_list_seq p (.inr rfl) ho hc hd (λh' c' kp e=>fin its r' hz h' c' kp e) (by simp only[rz]<;>omega)
theorem kR:og X (.type "tuple") (λxs H Q=>∃p ys,xs=[.ref p]/\((ki X.K H p ys/\∀l,H l=none->Q (.ref l) (upd H l (.tup ys)))\/(ju X.K H p ys/\Q (.ref p) H))):=by
 intro pins s σ H xs us Q I r h;obtain⟨p,ys,rfl,h⟩:=h;obtain⟨u,rfl,rx⟩:=vals1 r;cases rx;rcases h with⟨hq,q⟩|⟨hq,q⟩
 ·obtain⟨its,r',pl,hz⟩:=I.list hq
  have hlen:=r'.length;refine call_tuple_list pl.isList (λh' kp=>?_) (by simp only[rz]<;>omega);have I1:Inv X pins σ H {s with heap:=h'}:=I.kept (t':=s.toks) kp;have I2:Inv X pins σ (upd H h'.objs.size (.tup ys)) {s with heap:=h'.push {cls:=.type "tuple",data:=.seq its.toArray}}:=
   I1.laid (t':=s.toks) (λb o e=>qa _ e) (fm _) (show fi X.prog X.w _ _ _ (.tup ys) from⟨hz,its,r',IsTup.new _ _⟩)
  exact⟨.ref h'.objs.size,_,I2,rfl,q _ (I1.dq.fresh (fm _))⟩
 ·obtain⟨its,r',pl,hz⟩:=I.tuple hq
  exact call_tuple_same pl ⟨.ref p,H,I,rfl,q⟩
def Tv(K:PySem.W.Frag)(T:String)(x:V)(H:Hp):Prop:=match x with
 |.str _=>T="str"
 |.int _=>T="int"
 | .ref p=>(T="list"/\∃xs,ki K H p xs)\/(T="tuple"/\∃o,K.lookup p=some o/\o.cls=.type "tuple"/\o.dict=none)\/
   (T="dict"/\((∃kvs,H p=some (.dK kvs))\/∃kvs,H p=some (.dT kvs)))\/(T="set"/\∃S n,H p=some (.set S n))
 |_=>False
theorem K5(I:Inv X pins σ H s)(r:RelV x v)(ty:Tv X.K T x H):
  s.TypeIs v T/\∀a,v=.ref a->∃ob,s.heap.get? a=some ob/\ob.dict=none:=by
 cases x with
 |str z=>
  obtain⟨t,rfl⟩:=r;cases (show T="str" from ty);exact⟨typeIs_str s z t,λ_ e=>nomatch e⟩
 |int i=>
  obtain⟨t,rfl⟩:=r;cases (show T="int" from ty);exact⟨typeIs_int s i t,λ_ e=>nomatch e⟩
 |ref p=>
  cases r;rcases ty with⟨rfl,xs,hq⟩|⟨rfl,o,hk,hc,hd⟩|⟨rfl,hk⟩|⟨rfl,S,n,hk⟩
  ·obtain⟨its,_,pl,_⟩:=I.list hq
   refine⟨pl.isList.typeIs,λa e=>?_⟩;cases e;obtain⟨o,n,e,c,hd,_⟩:=pl;exact⟨o,e,hd⟩
  ·refine⟨⟨o,I.DS p o hk,hc⟩,λa e=>?_⟩
   cases e;exact⟨o,I.DS _ o hk,hd⟩
  ·have z:∃o,s.heap.get? p=some o/\o.ExactDict:=by
    rcases hk with⟨kvs,hk⟩|⟨kvs,hk⟩
    ·obtain⟨_,_,_,_,o,_,_,e,ex,_⟩:=I.dq p _ hk
     exact⟨o,e,ex⟩
    ·obtain⟨_,_,_,_,o,_,_,e,ex,_⟩:=I.dq p _ hk
     exact⟨o,e,ex⟩
   obtain⟨o,e,ex⟩:=z;refine⟨⟨o,e,ex.1⟩,λa e2=>?_⟩;cases e2;exact⟨o,e,ex.2.1⟩
  ·obtain⟨o,_,_,_,e,ex,_⟩:=I.dq p _ hk
   refine⟨⟨o,e,ex.1⟩,λa e2=>?_⟩;cases e2;exact⟨o,e,ex.2.1⟩
 |_=>exact False.elim ty
noncomputable def U8(K:PySem.W.Frag)(T:String)(r:V->List V->Hp->VK->Prop)(to:TE)(t:TA):TE:=λσ H Q=>to σ H λx H1=>Tv K T x H1/\t σ H1 λxs H2=>r x xs H2 Q
variable{o e:Expr}{es:List Expr}{to:TE}{t:TA}{name:Str}{apos dy:Pos}{T id:String}{r:V->List V->Hp->VK->Prop}
theorem Jw(pa:PlainAttrs T)(slot:Slot T name id)(K6:typeOf (.builtin id)=pure (.type "method_descriptor"))(hm:GS X id r)(ho:PE X o to)(ha:PA X (e::es) t)
  (iy:attributeBase o name X.env (eval o X.env)=eval o X.env:=by rfl)
  (Cq:((backTo dy (starEach (e::es) X.env)).all (λx=>!x.1)&&(backToKw dy (keywordEach [] X.env)).all (λx=>x.1.isSome)
   &&decide ((e::es).length+([]:List Keyword).length+(if([]:List Keyword).isEmpty then 0 else 1)<30))=true:=by rfl)
  (iz:(apos.endLine==dy.line)=true:=by rfl) (hs:starEach (e::es) X.env=(false,eval e X.env)::starEach es X.env:=by rfl) (s_:(backTo dy (starEach es X.env)).any (·.1)=false:=by rfl):
  PE X (.Call (.Attribute o name apos) (e::es) [] dy) (U8 X.K T r to t):=by
 intro pins s σ H Q I h;refine wpAny_Call_method_late iy Cq iz rfl (fv (ho pins s σ H _ I h) λv s1 ⟨x,H1,I1,r1,ty,q1⟩=>?_);obtain⟨h1,h2⟩:=K5 I1 r1 ty;refine⟨T,id,pa,slot,K6,h1,h2,?_⟩;have hA:=ha dy pins s1 σ H1 _ I1 q1;rw[hs] at hA⊢;refine Calls.callWith_builtin (by show(false||(backTo dy (starEach es X.env)).any (·.1))=false;rw[s_]<;>rfl) (Calls.evalArgs_plain ?_);exact fv hA λus s2 ⟨vs,H2,I2,r2,q2⟩=>hm pins s2 σ H2 x vs v us Q I2 r1 r2 q2
/-xs.append(e),list.index on a module's tuple .. are GS facts of 06m-/
end
def U9(X:Cx)(id:String)(r:V->List V->Hp->VK->Prop):Prop:=
 ∀(pins:List (Addr×Obj))(s:Shared)(σ:St)(H:Hp)(x:V)(xs:List V)(v:Value)(us:List Value)(Q:VK),Inv X pins σ H s->RelV x v->Vals xs us->r x xs H Q->
  wpAny (model X.prog X.w) X.A (call (.builtin id) (v::us)) (EP X pins σ Q) X.xe s
theorem Vals.one:∀{x:V}{us:List Value},Vals [x] us->∃u,us=[u]/\RelV x u
 |_,_,.cons r .nil=>⟨_,rfl,r⟩
section
variable{X:Cx}{pins:List (Addr×Obj)}{σ:St}{H:Hp}{s:Shared}{l b:Addr}{xs ys zs:List V}
theorem Inv.Rt{its its':List Value}{n:Nat}{f:Array Value->Array Value}{t':Nat}(I:Inv X pins σ H s)(hH:H l=some (.lst xs))
  (e:s.heap.get? l=some {cls:=.type "list",data:=.seq its.toArray n}) (hf:f its.toArray=its'.toArray) (hv:Vals ys its') (hz:ys.length<=sizeLine):
  Inv X pins σ (upd H l (.lst ys)) {s with heap:=s.heap.update l (Obj.mapSeq f),toks:=t'}:=by
 have q:=PySem.IsL.update e f;rw[hf] at q;refine I.write (x:=l) (e:=l) (by rw[hH];exact trivial) (.inl rfl) (λb' u hb hu=>(Ge s.heap (Obj.mapSeq f) (jt hb)).trans hu) ⟨_,q⟩ ?_;exact⟨hz,its',_,hv,q⟩
theorem Inv.K7{its:List Value}{t':Nat}(I:Inv X pins σ H s)(hv:Vals ys its)(hz:ys.length<=sizeLine):
  Inv X pins σ (upd H s.heap.objs.size (.lst ys)) {s with heap:=s.heap.push {cls:=.type "list",data:=.seq its.toArray},toks:=t'}:=
 I.laid (λ_ _ q=>qa _ q) (fm _) ⟨hz,its,0,hv,Ab _ rfl⟩
theorem Inv.fresh(I:Inv X pins σ H s):H s.heap.objs.size=none:=I.dq.fresh (fm _)
theorem Inv.GU(I:Inv X pins σ H s)(hH:H l=some (.lst xs)):xs.length<=sizeLine/\∃(its:List Value)(n:Nat),Vals xs its/\xs.length=its.length/\s.heap.get? l=some {cls:=.type "list",data:=.seq its.toArray n}:=by
 obtain⟨z,its,n,r,e⟩:=I.dq l _ hH;exact⟨z,its,n,r,r.length,e⟩
end
section
variable{X:Cx}
noncomputable def GV:V->List V->Hp->VK->Prop:=λx vs H Q=>∃l xs y,x=.ref l/\vs=[y]/\H l=some (.lst xs)/\xs.length<sizeLine/\Q .cx (upd H l (.lst (xs++[y])))
theorem lC:U9 X "list.append" GV:=by
 intro pins s σ H x vs v us Q I rx rv h;obtain⟨l,xs,y,rfl,rfl,hH,hz,q⟩:=h;cases rx;obtain⟨u,rfl,ru⟩:=rv.one;obtain⟨z,its,n,r,hl,e⟩:=I.GU hH;refine call_meets F.slot_list_append ⟨_,e,rfl⟩ F.entry_list_append (F.args_list_append_2 _ _) (PySem.list_append l its.toArray n u (by rw[rz];omega)) ⟨e,?_⟩;refine⟨.cx,_,I.Rt (its':=its++[u]) hH e (by simp) (r.append (.cons ru .nil)) ?_,rfl,q⟩;rw[rj,List.length_singleton];omega
noncomputable def Od:R2:=λx y H Q=>∃l b xs zs,x=.ref l/\y=.ref b/\H l=some (.lst xs)/\H b=some (.lst zs)/\xs.length+zs.length<=sizeLine/\∀p,H p=none->Q (.ref p) (upd H p (.lst (xs++zs)))
theorem K8:vf X (binaryOp .Add) Od:=by
 intro pins s σ H x y v u Q I rx ry h;obtain⟨l,b,xs,zs,rfl,rfl,hH,hB,hz,q⟩:=h;cases rx;cases ry;obtain⟨z,its,n,r,hl,e⟩:=I.GU hH;obtain⟨z2,yf,n2,r2,K9,e2⟩:=I.GU hB;refine PySem.P.add_list e e2 ?_ (by rw[rz,rz];omega);have ea:its.toArray++yf.toArray=(its++yf).toArray:=by simp
 rw[ea];exact⟨.ref _,_,I.K7 (t':=s.toks) (r.append r2) (by rw[rj];omega),rfl,q _ I.fresh⟩
end
end L2
namespace Att
open PySem PySem.W PySem.Calls PyProof.Rows
theorem g9:∀(ns:List Int)(vs:List Value),WellAll P h vs (ns.map WData.int)->IntsAre vs ns:=by
 intro ns
 induction ns with
 |nil=>
  intro vs w;rw[Bl] at w;cases w;exact .nil
 |cons n ns ih=>
  intro vs w;rw[fu] at w
  cases w with
  |cons a b=>
   cases a;exact .cons _ _ (ih _ b)
theorem vL{l:OpenLaw}(hn:l.most=some n)
  (GW:l.row.toRowW.claim.pre args=true) (Ru:WellAll P h vals args):
  ∃a vs ns,vals=[Value.ref a]/\args=[WData.list (ns.map WData.int)]/\h.get? a=some {cls:=.type "list",data:=.seq vs.toArray}/\IntsAre vs ns/\ns.length<=n:=by
 have Rv:WShape.hasAll [] args [.list .int]=true:=(pre_splitW GW).1;have hc:l.pre.holds [] {args:=args}=true:=(pre_splitW GW).2;obtain⟨d,r,rfl,h1,h2⟩:=hasAllW_cons Rv;obtain rfl:=hasAllW_nil h2;obtain⟨xs,rfl,h3⟩:=hasW_list h1;obtain⟨ns,rfl⟩:=items_int h3;have hlen:ns.length<=n:=by
  unfold OpenLaw.pre at hc;have h4:(WTm.not (.lt (.lit (.int (n:Int))) (.len (.arg 0)))).holds [] {args:=[.list (ns.map .int)]}=true:=by
   have h4:=(holds_andW hc).1;rw[hn] at h4;exact h4
  have h5:=condW_of h4 (w_not (w_lt w_lit (w_len_list (w_arg rfl))));rw[dz] at h5;refine Nat.le_of_not_lt λq=>?_;have q':(n:Int)<((ns.length:Nat):Int):=by omega
  first
   |(rw[Ad q'] at h5;exact absurd h5 (by decide))
   |(simp at h5;omega)
 cases Ru with
 |cons w1 w2=>
  cases w2
  cases w1 with
  |list ho Ar=>exact⟨_,_,ns,rfl,rfl,ho,g9 ns _ Ar,hlen⟩
theorem vM(l:OpenLaw)(args:List WData):l.row.toRowW.claim.post args (.bool true) args=true:=
 postW_of (r:=l.row.toRowW) (X:=(true==true))
  (show WShape.has [] (.bool true) .bool=true by first|rfl|decide|simp[WShape.has,WShape.arms,WShape.armsAll])
  (show(WTm.eq .res (.lit (.bool true))).value [] {args:=args,res:=some (.bool true),after:=args}=some (.bool (true==true)) from w_eq_bool (w_res rfl) w_lit) rfl
theorem BD{l:OpenLaw}
  (hn:l.most=some n) (Rx:d.params.defaults=[])
  (call:∀(w:World)(h_ da:Shared)(mg mb:Str->Option Value)(fa:Addr)(o:Obj)(pm cd doc:Value)(a:Addr)(vs:List Value)(ns:List Int),
   Ground q loose [] XP w h_ mg mb da.heap->YP w da.heap->
   da.heap.get? fa=some o->o.data=.func (docDef d.name d.params d.body d.scope pm cd doc)->da.heap.CodeRec cd d.name->mg d.name=some (.ref fa)->
   da.heap.get? a=some {cls:=.type "list",data:=.seq vs.toArray}->IntsAre vs ns->ns.length<=n->da.gens= #[]->
   codeAny (model l.prog w) callerA (.call (.ref fa) ⟨[.ref a],[]⟩) (λr s'=>r=.ok (.ret (.bool true))/\OldK da.heap s'.heap/\s'.os=da.os/\AllBare s'.gens) da):
  WalkO q loose XP YP l.row.toRowW d [] (λf vs=>PySem.call f vs):=by
 intro w h_ da mg mb G Y fa o pm cd doc dV kV ho hd um hD hmg hg args vals as GW U_ W_ Ru Xa;obtain rfl:dV=.none:=Dflts.none hD Rx;obtain rfl:kV=.none:=Dflts.noKw hD;obtain⟨a,vs,ns,rfl,rfl,K_,hints,hlen⟩:=vL hn GW Ru;refine enter_call (codeAny_mono (call w h_ da mg mb fa o pm cd doc a vs ns G Y ho (fd_plain hd) um hmg K_ hints hlen hg) λr s' hq=>?_);obtain⟨rfl,h2,h3,h4⟩:=hq;exact⟨.inl ⟨.bool true,.bool true,[],rfl,λ_=>rfl,.bool true,vM l _,λ_=>⟨List.Pairwise.nil,λ_ hm=>(nomatch hm)⟩⟩,h2,h3,h4⟩
end Att
namespace L2
open PySem PySem.Spec PyProof.Rows
theorem oj:∀{vs:List Value}{ns:List Int},IntsAre vs ns->Vals (ns.map V.int) vs
 |_,_,.nil=>.nil
 |_,_,.cons n t h=>.cons ⟨t,rfl⟩ (oj h)
def K'(H:Hp):Prop:=∀b,H b=none\/∃o xs,H b=some (.av o (.lst xs))
end L2
/-THE Va Qp (shape;Xb,My.*are Tw):
  My.Xc:a structure of the addresses that Vb Tz names (classes,M7);My.Txt K t:a structure (Prop) of the equations over K;
  My.Ry:{K} {implicit addresses ..} (e1:nsIn K mainGlobals "law"=some (some (.ref f))) (e2:K.lookup f=some ⟨oc,od,.func (fnOf "law" "law" params body scope dV kV doc pm an yd ct),sl⟩) (e3:codeIn K yd "law"=true) .. :∃t,My.Txt K t
(the tactic k_is has no namespace:write k_is)-/
namespace L2
open PySem PySem.Spec PyProof.Rows
structure GX(K:PySem.W.Frag)(x qual:Str)(st:Stmt)(f:Addr)(fd:FuncData):Prop where
 ex:∃(oc:Value)(od:Option Addr)(kV doc pm:Value)(an:Option Addr)(yd ct:Value)(KU:Array (Option Value)),
  fd=PySem.W.fnOf x qual (qx st) (l_ st) (de st) .none kV doc pm an yd ct/\K.lookup f=some ⟨oc,od,.func fd,KU⟩/\PySem.W.codeIn K yd qual=true
 kp:PySem.W.keepIn K (.ref f)=true
section
variable{P:Program}{w:World}{K:PySem.W.Frag}{mg:Str->Option Value}{base:Heap}
theorem GX.binds{x qual:Str}{st:Stmt}{f:Addr}{fd:FuncData}{ps:List Str}(F:GX K x qual st f fd)
  (h:∀(kV doc pm:Value)(an:Option Addr)(yd ct:Value)(us:List Value),us.length=ps.length->bindArgs (PySem.W.fnOf x qual (qx st) (l_ st) (de st) .none kV doc pm an yd ct) ⟨us,[]⟩=pure (ps.zip us)):Binds K fd ps []:=by
 obtain⟨oc,od,kV,doc,pm,an,yd,ct,KU,rfl,lk,um⟩:=F.ex;exact .all (h kV doc pm an yd ct)
theorem La{st:Stmt}{kV doc pm yd ct:Value}(l:K.lookup f=some ⟨oc,od,.func (PySem.W.fnOf x qual (qx st) (l_ st) (de st) .none kV doc pm an yd ct),KU⟩)
  (c:PySem.W.codeIn K yd qual=true) (k:PySem.W.keepIn K (.ref f)=true):GX K x qual st f (PySem.W.fnOf x qual (qx st) (l_ st) (de st) .none kV doc pm an yd ct):=⟨⟨oc,od,kV,doc,pm,an,yd,ct,KU,rfl,l,c⟩,k⟩
end
def iw(H H':Hp):Prop:=∀b o,H b=some o->H' b=some o
theorem iw.refl(H:Hp):iw H H:=λ_ _ h=>h
theorem iw.trans(a:iw H H1)(b:iw H1 H2):iw H H2:=λc o h=>b c o (a c o h)
theorem iw.free(e:iw H H')(h:H' l=Option.none):H l=Option.none:=by
 cases q:H l with
 |none=>rfl
 |some o=>
  rw[e l o q] at h;cases h
theorem xP{α:Type}(xs:List α)(i:Nat):∀k,((List.range k).map λm=>i+m).filterMap (λm=>xs[m]?)=(xs.drop i).take k
 |0=>by simp
 |k+1=>by
  rw[Df,Ac,List.filterMap_append,xP xs i k,List.take_add_one,List.getElem?_drop]
  congr 1
theorem oQ(v:Int)(n d:Nat):max 0 (min (if v<0 then v+(n:Int) else v) (n:Int))=((HT.d_ n d (some v):Nat):Int):=by
 show _=(((if v<0 then(v+(n:Int)).toNat else min v.toNat n):Nat):Int)
 by_cases hv:v<0
 ·simp only[bp hv];omega
 ·simp only[az hv];omega
theorem Lb(lo hi:Option Int)(n:Nat):Builtin.Str.strSliceIndices lo hi 1 n=(List.range (HT.d_ n n hi-HT.d_ n 0 lo)).map λm=>HT.d_ n 0 lo+m:=by
 have e:Builtin.Str.strSliceIndices lo hi 1 n=sliceRange ((HT.d_ n 0 lo:Nat):Int) ((HT.d_ n n hi:Nat):Int) 1:=by
  unfold Builtin.Str.strSliceIndices;have h1:(1:Int)>0:=by omega
  simp only[h1,b_]
  congr 1
  ·cases lo with
   |none=>rfl
   |some v=>exact oQ v n 0
  ·cases hi with
   |none=>rfl
   |some v=>exact oQ v n n
 rw[e];generalize HT.d_ n 0 lo=i;generalize HT.d_ n n hi=j;unfold sliceRange;have h1:(1:Int)>0:=by omega
 simp only[h1,b_,Int.ediv_one];have e2:(if(i:Int)<(j:Int) then(j:Int)-i+1-1 else 0).toNat=j-i:=by split<;>omega
 rw[e2];refine Bh λm _=>?_;omega
theorem vN(x:Str)(lo hi:Option Int):Txt.slice x lo hi=⟨((x.cps.toList.drop (HT.d_ x.length 0 lo)).take (HT.d_ x.length x.length hi-HT.d_ x.length 0 lo)).toArray⟩:=by
 unfold Txt.slice;rw[Lb];have hn:x.length=x.cps.toList.length:=by show x.cps.size=_;simp
 split
 ·next h=>
  have h2:HT.d_ x.length x.length hi-HT.d_ x.length 0 lo=x.length:=by simpa using h
  have hj:HT.d_ x.length x.length hi<=x.length:=HT.Em _ _ (fm _) hi;rw[h2];by_cases h0:x.length=0
  ·have:x.cps.toList=[]:=List.eq_nil_of_length_eq_zero (by omega)
   rw[this];have:x.cps= #[]:=by rw[←Array.toList_inj];exact this
   cases x;simp at this;subst this;simp
  ·have:HT.d_ x.length 0 lo=0:=by omega
   rw[this,List.drop_zero,hn,Bk]
 ·congr 2
  have:=xP x.cps.toList (HT.d_ x.length 0 lo) (HT.d_ x.length x.length hi-HT.d_ x.length 0 lo);rw[←this]
  congr 1
  funext m;simp
variable{X:Cx}
noncomputable def Oe:V->Option Int->Option Int->Hp->VK->Prop:=λx lo hi H Q=>∃z,x=.str z/\z.length<=sizeLine/\Q (.str (Txt.slice z lo hi)) H
theorem Lc:GO X Oe:=by
 intro pins s σ H x v vl vu lo hi sl Q I rx hs pl pu h;obtain⟨z,rfl,hz,q⟩:=h;obtain⟨t,rfl⟩:=rx;obtain⟨l,rfl,rfl⟩:∃l:Option (Int×Tok),vl=partValue l/\l.map (·.1)=lo:=by
  cases pl with
  |none=>exact⟨none,rfl,rfl⟩
  |int i t=>exact⟨some (i,t),rfl,rfl⟩
 obtain⟨u,rfl,rfl⟩:∃l:Option (Int×Tok),vu=partValue l/\l.map (·.1)=hi:=by
  cases pu with
  |none=>exact⟨none,rfl,rfl⟩
  |int i t=>exact⟨some (i,t),rfl,rfl⟩
 refine⟨"str",_,F.slot_str_getitem.lookup,typeIs_str _ _ _,wpAny_getItem_str_slice (l:=l) (u:=u) (st:=none) hs rfl (post_val_or_str ⟨qe (Txt.slice_le z _ _) hz,λt' k=>?_⟩)⟩;exact⟨.str (Txt.slice z _ _),H,I.tok _,⟨t',rfl⟩,q⟩
end L2
namespace L2
open PySem PySem.Spec PyProof.Rows
theorem mT(I:Nat->Shared->Prop)
  (turn:∀n s,I n s->wpAny (model prog w) A (pyNext it) (λr da=>match r with
   |none=>R (.ok .next) da
   | some v=>wpAny (model prog w) A (letOwnedTupleGo target it v) (λ_ h_=>wpAny (model prog w) A (assign target env v) (λ_ vq=>
     wpAny (model prog w) A (forIn ifs true λc r=>if r=true then do let ok←isTrue c env (eval c env);pure (ForInStep.yield ok) else pure (ForInStep.yield r)) (λok BC=>
      if ok=true then wpAny (model prog w) A (eval elt env) (λx GY=>
       wpAny (model prog w) A (call (.builtin "list.append") [acc,x]) (λ_ Of=>∃m,m<n/\I m Of) (notedBy (model prog w) A env λe s'=>R (.error e) s') GY) (notedBy (model prog w) A env λe s'=>R (.error e) s') BC
      else∃m,m<n/\I m BC) (notedBy (model prog w) A env λe s'=>R (.error e) s') vq) (notedBy (model prog w) A env λe s'=>R (.error e) s') h_) (notedBy (model prog w) A env λe s'=>R (.error e) s') da) (notedBy (model prog w) A env λe s'=>R (.error e) s') s)
  (n:Nat) (h:I n s):
  codeAny (model prog w) A (.compLoop (.ListComp elt [⟨target,iter,ifs,0⟩] scope pos) 0 it acc env) R s:=by
 refine codeAny_loop rfl I (λn s hI=>?_) n h;show wpAny _ A ((compTurn (.ListComp elt [⟨target,iter,ifs,0⟩] scope pos) 0 it acc env).onRaise (λx=>do noteFrame x env;theTreesLotGoes x)) _ _ s;refine wpAny_noted ?_;rw[compTurn_list];refine bf (wpAny_standAt (bf (Ae (turn n s hI) (λr da ly=>?_) λ_ _ h'=>h')))
 cases r with
 |none=>exact fg ly
 |some v=>
  refine bf (Ae ly (λ_ h_ h₀=>?_) λ_ _ h'=>h');refine bf (Ae h₀ (λ_ vq zb=>bf (Ae zb (λok BC ye=>?_) λ_ _ h'=>h')) λ_ _ h'=>h')
  cases ok with
  |false=>exact fg ⟨rfl,ye⟩
  |true=>
   exact bf (bf (Ae ye (λx GY BE=>bf (Ae BE (λ_ Of Dn=>fg (fg ⟨rfl,Dn⟩)) λ_ _ h'=>h')) λ_ _ h'=>h'))
noncomputable def ux(σ:St)(caps:List Nat)(ntg:Nat):St:=List.replicate ntg none++caps.map λj=>(σ[j]?).getD none
noncomputable def dg(X:Cx)(N':List Str)(scope:Scope)(cl:List (Str×Addr))(C:Addr)(s:Shared)(H:Hp)(fp:List Addr)(E:Value->Shared->Prop):Cx where
 prog:=X.prog
 w:=X.w
 K:=X.K
 mg:=X.mg
 base:=X.base
 A:=X.A
 N:=N'
 h_:=s
 bq:=H
 env:=compEnvC scope cl C X.env
 outer:=X.stack
 stack:=X.stack
 ex:=fp
 fn:=λ_=>false
 calm:=X.calm
 pn:=[]
 xe:=E
structure nj(X:Cx)(N':List Str)(caps:List Nat)(ntg:Nat)(scope:Scope):Prop where
 kind:scope.kind=.function
 Jx:∀y∈scope.names,y.2≠.cell
 loc:∀y∈scope.names,y.2=.local->scope.names.lookup y.1=some .local
 TB:∀y∈scope.names,y.2=.free->X.env.kindOf y.1=some .cell\/X.env.kindOf y.1=some .free
 len:N'.length=ntg+caps.length
 Vc:∀(i j:Nat)(x:Str),caps[i]?=some j->N'[ntg+i]?=some x->X.N[j]?=some x/\scope.names.lookup x=some .free
theorem bK{env:Env}:∀{names:List (Str×NameKind)}{x:Str}{k:NameKind},
  (names.map λ(n,k)=>if(k==NameKind.free&&env.scope.kind== .function&&env.kindOf n==some .cell) then(n,NameKind.cell) else(n,k)).lookup x=some k->
  ∃k',names.lookup x=some k'/\(k=k'\/(k'=.free/\k=.cell))
 |[],_,_,h=>by simp at h
 |(n,k0)::r,x,k,h=>by
  have ih:= @bK env r x k;have h':List.lookup x ((if(k0==NameKind.free&&env.scope.kind== .function&&env.kindOf n==some .cell)=true then(n,NameKind.cell) else(n,k0))::(r.map λ(n,k)=>if(k==NameKind.free&&env.scope.kind== .function&&env.kindOf n==some .cell) then(n,NameKind.cell) else(n,k)))=some k:=h
  cases hx:x==n with
  |true=>
   refine⟨k0,by simp only[Bs,hx],?_⟩;by_cases hc:(k0==NameKind.free&&env.scope.kind== .function&&env.kindOf n==some .cell)=true
   ·rw[bp hc] at h'
    simp only[Bs,hx] at h';cases h';refine .inr ⟨?_,rfl⟩;simp only[qc,beq_iff_eq] at hc;exact hc.1.1
   ·rw[az hc] at h'
    simp only[Bs,hx] at h';cases h';exact .inl rfl
  |false=>
   have e:List.lookup x (r.map λ(n,k)=>if(k==NameKind.free&&env.scope.kind== .function&&env.kindOf n==some .cell) then(n,NameKind.cell) else(n,k))=some k:=by
    by_cases hc:(k0==NameKind.free&&env.scope.kind== .function&&env.kindOf n==some .cell)=true
    ·rw[bp hc] at h';simpa only[Bs,hx] using h'
    ·rw[az hc] at h';simpa only[Bs,hx] using h'
   obtain⟨k',e1,e2⟩:=ih e;exact⟨k',by simp only[Bs,hx];exact e1,e2⟩
theorem bG{env:Env}:∀{names:List (Str×NameKind)}{x:Str},names.lookup x=some .free->
  (names.map λ(n,k)=>if(k==NameKind.free&&env.scope.kind== .function&&env.kindOf n==some .cell) then(n,NameKind.cell) else(n,k)).lookup x=some .cell\/
  (names.map λ(n,k)=>if(k==NameKind.free&&env.scope.kind== .function&&env.kindOf n==some .cell) then(n,NameKind.cell) else(n,k)).lookup x=some .free
 |[],_,h=>by simp at h
 |(n,k0)::r,x,h=>by
  have ih:= @bG env r x;show List.lookup x ((if(k0==NameKind.free&&env.scope.kind== .function&&env.kindOf n==some .cell)=true then(n,NameKind.cell) else(n,k0))::_)=_\/List.lookup x ((if(k0==NameKind.free&&env.scope.kind== .function&&env.kindOf n==some .cell)=true then(n,NameKind.cell) else(n,k0))::_)=_
  cases hx:x==n with
  |true=>
   simp only[Bs,hx] at h;cases h;by_cases hc:(NameKind.free==NameKind.free&&env.scope.kind== .function&&env.kindOf n==some .cell)=true
   ·rw[bp hc];exact .inl (by simp only[Bs,hx])
   ·rw[az hc];exact .inr (by simp only[Bs,hx])
  |false=>
   simp only[Bs,hx] at h;by_cases hc:(k0==NameKind.free&&env.scope.kind== .function&&env.kindOf n==some .cell)=true
   ·rw[bp hc];simp only[Bs,hx];exact ih h
   ·rw[az hc];simp only[Bs,hx];exact ih h
theorem dU:∀(names:List (Str×NameKind))(cs:List (Str×Addr)),(∀y∈names,y.2=.free->∃c,env.cells.lookup y.1=some c)->
  ∃ cl,(forIn names cs λ(x:Str×NameKind)(r:List (Str×Addr))=>(do
    if(x.2==NameKind.free)=true then(do let a←cellOf env x.1;pure (ForInStep.yield ((x.1,a)::r))) else pure (ForInStep.yield r):Sem (ForInStep (List (Str×Addr)))))=pure cl/\
   (∀x c,cl.lookup x=some c->cs.lookup x=some c\/env.cells.lookup x=some c)/\(∀x,(x,NameKind.free)∈names->∃c,cl.lookup x=some c)/\(∀x c,cs.lookup x=some c->∃c',cl.lookup x=some c')
 |[],cs,_=>⟨cs,rfl,λx c h=>.inl h,λx h=>by simp at h,λx c h=>⟨c,h⟩⟩
 |(n,k)::r,cs,h=>by
  rw[List.forIn_cons];by_cases hk:k=.free
  ·subst hk
   obtain⟨a,ha⟩:=h (n,.free) si rfl;obtain⟨cl,e,p1,p2,p3⟩:=dU r ((n,a)::cs) λy hy=>h y (o_ _ hy);refine⟨cl,?_,λx c hc=>?_,λx hx=>?_,λx c hc=>?_⟩
   ·have e1:cellOf env n=pure a:=by unfold cellOf;rw[ha]
    simp only[beq_self_eq_true,b_,e1,pure_bind];exact e
   ·rcases p1 x c hc with q|q
    ·by_cases hx:x==n
     ·simp only[Bs,hx] at q
      cases q;have:x=n:=by simpa using hx
      subst this;exact .inr ha
     ·simp only[Bs,hx] at q
      exact .inl q
    ·exact .inr q
   ·rcases List.mem_cons.mp hx with q|q
    ·cases q
     exact p3 n a (by simp[Bs])
    ·exact p2 x q
   ·by_cases hx:x==n
    ·exact p3 x a (by simp only[Bs,hx])
    ·exact p3 x c (by simp only[Bs,hx];exact hc)
  ·obtain⟨cl,e,p1,p2,p3⟩:=dU r cs λy hy=>h y (o_ _ hy)
   refine⟨cl,?_,p1,λx hx=>?_,p3⟩
   ·have hb:(k==NameKind.free)=false:=by simpa using hk
    simp only[hb,gV,df,pure_bind];exact e
   ·rcases List.mem_cons.mp hx with q|q
    ·cases q;exact absurd rfl hk
    ·exact p2 x q
theorem iW(ok:X.Ok)(Sc:nj X N' caps ntg scope):
  ∃cl,closureFor scope X.env=pure cl/\(∀x c,cl.lookup x=some c->X.env.cells.lookup x=some c)/\∀x,(x,NameKind.free)∈scope.names->∃c,cl.lookup x=some c:=by
 obtain⟨cl,e,p1,p2,_⟩:=dU (env:=X.env) scope.names [] λy hy hf=>ok.has y.1 (Sc.TB y hy hf);refine⟨cl,?_,λx c hc=>(p1 x c hc).resolve_left (by simp),p2⟩;exact Eq.trans (congrArg (· >>=λcs=>pure cs) e) rfl
def M8(X:Cx)(ifs:List Expr)(t:TT):Prop:=
 ∀(pins:List (Addr×Obj))(s:Shared)(σ:St)(H:Hp)(Q:Bool->Hp->Prop),Inv X pins σ H s->t σ H Q->
  wpAny (model X.prog X.w) X.A (forIn ifs true λc r=>if r=true then do let ok←isTrue c X.env (eval c X.env);pure (ForInStep.yield ok) else pure (ForInStep.yield r)) (TP X pins σ Q) X.xe s
theorem GZ:M8 X [] (λσ H Q=>Q true H):=λ_ _ _ H _ I h=>wpAny_tests_nil ⟨H,I,h⟩
theorem G0(h:PT X c t):M8 X [c] t:=λpins s σ H Q I q=>wpAny_tests_one (h pins s σ H Q I q)
def Ep(J:It)(g:TG)(tc:TT)(te:TE)(Q:Hp->Prop)(Vd:St)(p:Addr)(H0:Hp):Prop:=
 ∃W:Nat->Nat->St->Hp->Prop,(∃m,W 0 m Vd H0)/\∀i m σ H,W i m σ H->
  (J.stop i H/\Q H)\/(J.go i H/\∀x H',J.NW i H x H'->g x σ H' λJr H2=>tc Jr H2 λb H3=>
   if b=true then te Jr H3 λv H4=>∃ys m',H4 p=some (.lst ys)/\ys.length<sizeLine/\m'<m/\W (i+1) m' Jr (upd H4 p (.lst (ys++[v])))
   else∃m',m'<m/\W (i+1) m' Jr H3)
noncomputable def BF(wi:TI)(g:TG)(tc:TT)(te:TE)(caps:List Nat)(ntg:Nat):TE:=λσ H Q=>
 wi σ H λJ H1=>∀p,H1 p=none->Ep J g tc te (λH'=>Q (.ref p) H') (ux σ caps ntg) p (upd H1 p (.lst []))
section
variable{X:Cx}{N':List Str}{caps:List Nat}{ntg:Nat}{scope:Scope}{pins:List (Addr×Obj)}{σ:St}{H2:Hp}{s2:Shared}
theorem xQ(h:(ux σ caps ntg)[i]?=some (some v)):∃k j,i=ntg+k/\caps[k]?=some j/\σ[j]?=some (some v):=by
 unfold ux at h;by_cases hi:i<ntg
 ·rw[De (by simpa using hi),MX,bp hi] at h
  cases h
 ·rw[Dd (by simpa using hi),Kd,AA] at h
  cases e:caps[i-ntg]? with
  |none=>rw[e] at h;cases h
  |some j=>
   rw[e] at h;refine⟨i-ntg,j,by omega,e,?_⟩;have h':(σ[j]?).getD none=some v:=by simpa using h
   cases q:σ[j]? with
   |none=>rw[q] at h';cases h'
   |some o=>rw[q] at h';simp at h';rw[h']
theorem rA{it:Addr}{fp:List Addr}{cl:List (Str×Addr)}{p:Addr}{s3:Shared}{h1:Heap}{tk:Nat}{tn:Nat->Heap->Prop}{tg:Expr}{J:It}{E:Value->Shared->Prop}
  (I2:Inv X pins σ H2 s2) (Sc:nj X N' caps ntg scope)
  (yq:∀x c,cl.lookup x=some c->X.env.cells.lookup x=some c) (Ar:∀x,(x,NameKind.free)∈scope.names->∃c,cl.lookup x=some c)
  (T:Turn X.prog X.w X.K tg J fp it tn) (t2:tn 0 s2.heap) (f2:∀b∈fp,A2 X pins H2 b)
  (hp:p=s2.heap.objs.size) (G3:s3={s2 with heap:=s2.heap.push {cls:=.type "list",dict:=none,data:=.seq ([]:List Value).toArray}})
  (k1:∀b o,s3.heap.get? b=some o->h1.get? b=some o) {m:Str->Option Value} (Ld:h1.Ns s3.heap.objs.size m):
  Inv (dg X N' scope cl s3.heap.objs.size s3 (upd H2 p (.lst [])) fp E) [] (ux σ caps ntg) (upd H2 p (.lst [])) {s3 with heap:=h1,toks:=tk}:=by
 have I3:Inv X pins σ (upd H2 p (.lst [])) s3:=by
  subst hp G3;exact I2.K7 (ys:=[]) (its:=[]) (t':=s2.toks) .nil (DQ _)
 have sz:s3.heap.objs.size=s2.heap.objs.size+1:=by subst G3;exact Heap.size_push ..
 have Le:upd H2 p (.lst []) s3.heap.objs.size=none:=I3.dq.fresh (fm _);have Ve:∀b o,s3.heap.get? b=some o->b≠s3.heap.objs.size:=λb o e=>yv (kc e);have k0:∀b o,s2.heap.get? b=some o->s3.heap.get? b=some o:=λb o e=>by subst G3;exact qa _ e
 have TC:∀b∈fp,∃o,s2.heap.get? b=some o/\∀v,o.data≠.cell v:=T.obj _ _ t2;have Xd:∀b∈fp,b≠p:=λb hb=>by
  obtain⟨o,e,_⟩:=TC b hb;subst hp;exact yv (kc e)
 refine⟨⟨I3.ok.mod,Sc.kind,I3.ok.glob,I3.ok.blt,fm _,λx y c e1 e2=>I3.ok.inj x y c (yq _ _ e1) (yq _ _ e2),λx hx=>?_,λx c e _=>absurd e jw,I3.ok.hd,I3.ok.frames,.inl rfl,λb hb=>⟨?_,λx c e=>?_⟩,
  I3.bs,qe I3.ok.Jn I3.sz,λb o e hb=>?_,λb hb hf=>?_,I3.stack,I3.A0⟩,rfl,I3.bare,Un.kept k1,⟨m,Ld,λi x v e1 e2 e3=>?_⟩,λx c e=>?_,Le,λx c e=>?_,λq hq=>absurd (show q∈([]:List (Addr×Obj)) from hq) (by simp),I3.dq.kept k1,?_⟩
 ·--TF name of the block that is a cell or free has its cell
  have Bz:(relabel scope X.env).names.lookup x=some .cell\/(relabel scope X.env).names.lookup x=some .free:=hx;have key:scope.names.lookup x=some .free:=by
   rcases Bz with q|q
   ·obtain⟨k',e1,e2⟩:=bK (env:=X.env) (names:=scope.names) q
    rcases e2 with e2|⟨e2,_⟩
    ·subst e2
     exact absurd rfl (Sc.Jx _ (Gf e1))
    ·rw[e2] at e1;exact e1
   ·obtain⟨k',e1,e2⟩:=bK (env:=X.env) (names:=scope.names) q
    rcases e2 with e2|⟨e2,e3⟩
    ·subst e2;exact e1
    ·cases e3
  exact Ar x (Gf key)
 ·obtain⟨o,e,_⟩:=TC b hb
  exact Ve b o (k0 b o e)
 ·exact(f2 b hb).2.2.2.2.1 x c (yq x c e)
 ·obtain⟨_,_,_,h4,_⟩:=f2 b hb
  rcases h4 with h4|h4
  ·exact I2.ok.Eb b o e h4
  ·exact absurd (Bi (kc e) (qe I2.ok.Jn h4)) (Cj _)
 ·obtain⟨_,h2,h3,_⟩:=f2 b hb
  rcases List.mem_cons.mp (I3.AZ b hf) with z|z
  ·exact h2 z
  ·exact h3 z
 ·obtain⟨k,j,rfl,ej,ev⟩:=xQ e2
  obtain⟨n1,n2⟩:=Sc.Vc k j x ej e1;have As:X.env.kindOf x=some .cell\/X.env.kindOf x=some .free:=Sc.TB _ (Gf n2) rfl;obtain⟨m0,Xe,Vf⟩:=I3.loc;obtain⟨u,ru,lk⟩:=Vf j x v n1 ev (.inr As);refine⟨u,ru,.inr ⟨bG n2,?_⟩⟩;obtain⟨c,ec⟩:=Ar x (Gf n2);refine⟨c,ec,?_⟩;rcases lk with⟨kl,_⟩|⟨_,c',Rz,q⟩
  ·rcases As with z|z<;>(rw[kl] at z;cases z)
  ·have:c'=c:=ud (Rz.symm.trans (yq x c ec))
   subst this;obtain⟨o,ho,hd⟩:=q;exact⟨o,k1 _ o ho,hd⟩
 ·obtain⟨v,o,ho,hd⟩:=I3.cell x c (yq x c e)
  exact⟨v,o,k1 _ o ho,hd⟩
 ·exact I3.qo x c (yq x c e)
 ·unfold ux
  show _=N'.length;rw[rj,Kd,dz,Sc.len]
theorem tR{Q:Addr->Hp->Prop}{RR:Value->Addr->Result->Shared->Prop}
  (hc:X.calm=true) (I2:Inv X pins σ H2 s2) (Sc:nj X N' caps ntg scope)
  (yq:∀x c,cl.lookup x=some c->X.env.cells.lookup x=some c) (Ar:∀x,(x,NameKind.free)∈scope.names->∃c,cl.lookup x=some c)
  (T:Turn X.prog X.w X.K tg J fp it tn) (t2:tn 0 s2.heap) (f2:∀b∈fp,A2 X pins H2 b)
  (hg:∀C s H,PG (dg X N' scope cl C s H fp λ_ _=>False) tg g) (ht:∀C s H,M8 (dg X N' scope cl C s H fp λ_ _=>False) ifs tc) (he:∀C s H,PE (dg X N' scope cl C s H fp λ_ _=>False) elt te)
  (q:∀p,H2 p=none->Ep J g tc te (Q p) (ux σ caps ntg) p (upd H2 p (.lst [])))
  (hR:∀p C s' H' m,Inv X pins σ H' s'->H2 p=none->s'.heap.Ns C m->H' C=none->s2.heap.objs.size<C->Q p H'->RR (.ref p) C (.ok .next) s'):
  wpAny (model X.prog X.w) X.A (newList []) (λacc BC=>wpAny (model X.prog X.w) X.A (newFunctionEnv scope X.env.globals cl [] X.env.qual none .none (some X.env)) (λOg GY=>
   codeAny (model X.prog X.w) X.A (.compStart (.ListComp elt [⟨tg,iter,ifs,0⟩] scope pos) 0 (.ref it) acc {Og with scope:=relabel scope X.env}) (RR acc Og.locals) GY) X.xe BC) X.xe s2:=by
 refine DM (wpAny_newFunctionEnv Sc.Jx (by intro y hy;simp at hy) (λly Cr Ct=>?_) Sc.kind);dsimp only at Cr Ct⊢;generalize G3:({s2 with heap:=s2.heap.push {cls:=.type "list",dict:=none,data:=.seq ([]:List Value).toArray}}:Shared)=s3;have e3:s2.heap.push {cls:=.type "list",dict:=none,data:=.seq ([]:List Value).toArray}=s3.heap:=by rw[←G3]
 rw[e3] at Cr Ct⊢;have k1:∀b o,s3.heap.get? b=some o->ly.get? b=some o:=λb o e=>Ct.extBut b o (yv (kc e)) (qa _ e);have k0:∀b o,s2.heap.get? b=some o->s3.heap.get? b=some o:=λb o e=>by rw[←e3];exact qa _ e
 have sz:s3.heap.objs.size=s2.heap.objs.size+1:=by rw[←e3];exact Heap.size_push ..
 have Vg:s3.os=s2.os:=by rw[←G3]
 have Lf:H2 s2.heap.objs.size=none:=I2.dq.fresh (fm _);have IC:=rA (E:=λ_ _=>False) (tk:=s2.toks+([]:List (Str×Value)).length) (h1:=ly) I2 Sc yq Ar T t2 f2 rfl G3.symm k1 Cr;have Vh:({s2 with heap:=ly,toks:=s2.toks+([]:List (Str×Value)).length}:Shared)={s3 with heap:=ly,toks:=s2.toks+([]:List (Str×Value)).length}:=by rw[←G3]
 rw[Vh];have T1:tn 0 ly:=T.keep _ _ _ t2 λb _ o e=>k1 b o (k0 b o e);obtain⟨W,⟨m0,w0⟩,turn⟩:=q _ Lf;have I3:Inv X pins σ (upd H2 s2.heap.objs.size (.lst [])) s3:=by
  rw[←G3];exact I2.K7 (ys:=[]) (its:=[]) (t':=s2.toks) .nil (DQ _)
 have Vi:∀b∈fp,upd H2 s2.heap.objs.size (.lst []) b=none:=λb hb=>by
  obtain⟨o,e,_⟩:=T.obj _ _ t2 b hb;rw[aA (yv (kc e))];exact(f2 b hb).1
 have Vj:∀b∈fp,b≠s3.heap.objs.size:=λb hb=>by
  obtain⟨o,e,_⟩:=T.obj _ _ t2 b hb;exact yv (kc (k0 b o e))
 have stat:∀{H':Hp},(∀b∈fp,H' b=none)->∀b∈fp,A2 (dg X N' scope cl s3.heap.objs.size s3 (upd H2 s2.heap.objs.size (.lst [])) fp λ_ _=>False) [] H' b:=λhn b hb=>
  ⟨hn b hb,Vj b hb,λz=>by
   rcases List.mem_cons.mp (I3.AZ b z) with y|y
   ·exact(f2 b hb).2.1 y
   ·exact(f2 b hb).2.2.1 y,.inl hb,λx c e=>(f2 b hb).2.2.2.2.1 x c (yq x c e),λp hp=>absurd (show p∈([]:List (Addr×Obj)) from hp) (by simp)⟩
 have loop:codeAny (model X.prog X.w) X.A (.compLoop (.ListComp elt [⟨tg,iter,ifs,0⟩] scope pos) 0 (.ref it) (.ref s2.heap.objs.size) (compEnvC scope cl s3.heap.objs.size X.env)) (RR (.ref s2.heap.objs.size) s3.heap.objs.size)
   {s3 with heap:=ly,toks:=s2.toks+([]:List (Str×Value)).length}:=by
  refine mT (λn s'=>∃i di H',Inv (dg X N' scope cl s3.heap.objs.size s3 (upd H2 s2.heap.objs.size (.lst [])) fp λ_ _=>False) [] di H' s'/\tn i s'.heap/\(∀b∈fp,H' b=none)/\W i n di H') ?_ m0 ⟨0,_,_,IC,T1,Vi,w0⟩;rintro n s4 ⟨i,Qq,H4,I4,TH,TJ,w4⟩;rcases turn i n Qq H4 w4 with⟨stop,qn⟩|⟨go,step⟩
  ·refine Ae (T.done (dg X N' scope cl s3.heap.objs.size s3 (upd H2 s2.heap.objs.size (.lst [])) fp λ_ _=>False) rfl rfl rfl hc i [] s4 Qq H4 (λ_ _=>False) I4 (stat TJ) TH stop) (λr s5 qQ=>?_) λ_ _ z=>False.elim z
   obtain⟨hr,I5⟩:=qQ;subst hr;obtain⟨mm,hm,_⟩:=I5.loc;have u1:Un (ub X.stack) fp H2 (upd H2 s2.heap.objs.size (.lst [])) s2.heap s3.heap:=by
    rw[←e3];exact Un.laid (λb u e=>qa _ e) (fm _) Lf
   have u2:Un (ub X.stack) fp H2 H4 s2.heap s5.heap:=u1.trans I5.base;have I6:Inv X pins σ H4 s5:=I2.Jp (ch:=fp) (I5.os.trans Vg) u2 I5.dq I5.bare λb hb=>⟨(f2 b hb).2.2.2.1,(f2 b hb).2.1,(f2 b hb).2.2.2.2.1,(f2 b hb).2.2.2.2.2⟩
   exact hR _ _ s5 H4 mm I6 Lf hm I5.free (by rw[sz];exact Jg _) qn
  ·refine Ae (T.item (dg X N' scope cl s3.heap.objs.size s3 (upd H2 s2.heap.objs.size (.lst [])) fp λ_ _=>False) rfl rfl rfl hc i [] s4 Qq H4 (λ_ _=>False) I4 (stat TJ) TH go) (λr s5 qQ=>?_) λ_ _ z=>False.elim z
   obtain⟨u,hr,h5⟩:=qQ;subst hr;refine Ae h5 (λ_ s6 qQ=>?_) λ_ _ z=>False.elim z;obtain⟨x,H6,I6,r6,y6,RA,Vk⟩:=qQ;have Vl:=I6.pinned (stat Vk) (T.obj _ _ RA);have A5:∀{Aq:St}{H7:Hp}{s7:Shared},Inv (dg X N' scope cl s3.heap.objs.size s3 (upd H2 s2.heap.objs.size (.lst [])) fp λ_ _=>False) ([]++y_ fp s6.heap) Aq H7 s7->tn (i+1) s7.heap/\∀b∈fp,H7 b=none:=λ{Aq H7 s7} I7=>
    ⟨T.keep _ _ _ RA λb hb o e=>(I7.pin (b,o) (CL _ (CL _ (b0 hb e)))).1,λb hb=>by
     obtain⟨o,e,d⟩:=T.obj _ _ RA b hb;exact(I7.pin (b,o) (CL _ (CL _ (b0 hb e)))).2.1⟩
   refine Ae (hg _ _ _ _ s6 Qq H6 x u _ Vl r6 (step x H6 y6)) (λ_ s7 qQ=>?_) λ_ _ z=>False.elim z;obtain⟨Aq,H7,I7,q7⟩:=qQ;refine Ae (ht _ _ _ _ s7 Aq H7 _ I7 q7) (λb s8 qQ=>?_) λ_ _ z=>False.elim z;obtain⟨H8,I8,q8⟩:=qQ
   cases b with
   |true=>
    rw[bp rfl] at q8⊢;refine Ae (he _ _ _ _ s8 Aq H8 _ I8 q8) (λv s9 qQ=>?_) λ_ _ z=>False.elim z;obtain⟨y,H9,I9,r9,ys,m',hl,hz,hm,w9⟩:=qQ;refine Ae (lC (X:=(dg X N' scope cl s3.heap.objs.size s3 (upd H2 s2.heap.objs.size (.lst [])) fp λ_ _=>False)) _ s9 Aq H9 (.ref s2.heap.objs.size) [y] (.ref s2.heap.objs.size) [v] (λ_ H=>W (i+1) m' Aq H) I9 rfl (.cons r9 .nil) ⟨_,ys,y,rfl,rfl,hl,hz,w9⟩) (λ_ Xf qQ=>?_) λ_ _ z=>False.elim z;obtain⟨_,Vm,RB,_,Vn⟩:=qQ;exact⟨m',hm,i+1,Aq,Vm,RB.n_,(A5 RB).1,(A5 RB).2,Vn⟩
   |false=>
    rw[az jw] at q8⊢;obtain⟨m',hm,w8⟩:=q8;exact⟨m',hm,i+1,Aq,H8,I8.n_,(A5 I8).1,(A5 I8).2,w8⟩
 exact codeAny_compStart_list loop (T.self _ _ _ _ _ T1 loop)
theorem G4(hc:X.calm=true)(hi:PI X tg iter wi)(Sc:nj X N' caps ntg scope)
  (hg:∀cl C s H fp,PG (dg X N' scope cl C s H fp λ_ _=>False) tg g) (ht:∀cl C s H fp,M8 (dg X N' scope cl C s H fp λ_ _=>False) ifs tc) (he:∀cl C s H fp,PE (dg X N' scope cl C s H fp λ_ _=>False) elt te)
  (hs:∀x,foldedSetIterable iter X.env x=pure x):PE X (.ListComp elt [⟨tg,iter,ifs,0⟩] scope pos) (BF wi g tc te caps ntg):=by
 intro pins s σ H Q I h;rw[eval_ListComp];obtain⟨cl,RC,yq,Ar⟩:=iW I.ok Sc;refine wpAny_comprehension_free (use:=none) rfl hs RC Sc.kind Sc.loc (fv (hi pins s σ H _ I h) λv s1 h1=>fv h1 λQk s2 h2=>?_);obtain⟨it,fp,tn,J,H2,rfl,I2,T,t2,f2,q2⟩:=h2;refine tR (RR:=λacc C=>compPost (model X.prog X.w) X.A X.xe none (EP X pins σ Q) acc C) (Q:=λp H'=>Q (.ref p) H') hc I2 Sc yq Ar T t2 f2 (λC s H=>hg cl C s H fp) (λC s H=>ht cl C s H fp) (λC s H=>he cl C s H fp) q2 ?_;intro p C s' H' m I' hp hm hC qr hq;refine⟨m,hm,λh' sb=>⟨.ref p,H',?_,rfl,hq⟩⟩;refine I'.turned (t':=s'.toks) (it:=C) (λb o hb e=>sb.extBut b o hb e) hC (Dg (Nat.lt_trans I2.lt qr)) (.inr (Nat.le_of_lt (Ja I2.sz qr))) (λx c e z=>?_) λq hq z=>?_
 ·obtain⟨v,w⟩:=I2.cell x c e
  exact absurd (Nat.lt_trans w.lt (by rw[z];exact qr)) (Cj _)
 ·exact absurd (Nat.lt_trans (kc (I2.pin q hq).1) (by rw[z];exact qr)) (Cj _)
theorem gQ(hN:X.N.Nodup)(hy:X.N[i]?=some y)(hx:Loc X.env.scope y)
  (hf:X.fn y=true\/X.env.scope.names.lookup y=some .local)
  (Cu:swapsWith (.ListComp elt [⟨tg,iter,ifs,0⟩] scope pos) (some (.Name y py)) A6.line X.env=pure true)
  (hc:X.calm=true) (hi:PI X tg iter wi) (Sc:nj X N' caps ntg scope)
  (hg:∀cl C s H fp,PG (dg X N' scope cl C s H fp λ_ _=>False) tg g) (ht:∀cl C s H fp,M8 (dg X N' scope cl C s H fp λ_ _=>False) ifs tc) (he:∀cl C s H fp,PE (dg X N' scope cl C s H fp λ_ _=>False) elt te)
  (hs:∀x,foldedSetIterable iter X.env x=pure x):PS X (.Assign [.Name y py] (.ListComp elt [⟨tg,iter,ifs,0⟩] scope pos) A6) (jn (BF wi g tc te caps ntg) (bw i)):=by
 intro pins s σ H D I h;rw[exec_Assign_Name_used _ _ _ _ Cu];refine bf (wpAny_standAt (bf ?_));show wpAny _ X.A (do let _←comprehension (.ListComp elt [⟨tg,iter,ifs,0⟩] scope pos) scope X.env _ (newList []) false (eval iter X.env) (some (assign (.Name y py) X.env))) _ _ s;obtain⟨cl,RC,yq,Ar⟩:=iW I.ok Sc;refine bf (Ae (wpAny_comprehension_free (use:=some (assign (.Name y py) X.env)) (Q:=λ_ s'=>SP X pins D .next s') rfl hs RC Sc.kind Sc.loc
  (fv (hi pins s σ H _ I h) λv s1 h1=>fv h1 λQk s2 h2=>?_)) (λ_ s' hq=>fg (fg hq)) λ_ _ e=>e)
 obtain⟨it,fp,tn,J,H2,rfl,I2,T,t2,f2,q2⟩:=h2;refine tR (RR:=λacc C=>compPost (model X.prog X.w) X.A X.xe (some (assign (.Name y py) X.env)) (λ_ s'=>SP X pins D .next s') acc C) (Q:=λp H'=>D.nx (σ.set i (some (.ref p))) H') hc I2 Sc yq Ar T t2 f2
  (λC s H=>hg cl C s H fp) (λC s H=>ht cl C s H fp) (λC s H=>he cl C s H fp) q2 ?_
 intro p C s' H' m I' hp hm hC qr hq;have TK:C≠X.env.locals:=Dg (Nat.lt_trans I2.lt qr);have Vo:∀x c,X.env.cells.lookup x=some c->c≠C:=λx c e z=>by
  obtain⟨v,w⟩:=I2.cell x c e;exact absurd (Nat.lt_trans w.lt (by rw[z];exact qr)) (Cj _)
 have Vp:∀q∈X.pn++pins,q.1≠C:=λq hq z=>absurd (Nat.lt_trans (kc (I2.pin q hq).1) (by rw[z];exact qr)) (Cj _);have Vq:X.h_.heap.objs.size<=C:=Nat.le_of_lt (Ja I2.sz qr);obtain⟨oC,es,ep,ho,hd,r⟩:=id hm;have Vr:Inv X (pins++[(C,oC)]) σ H' s':=I'.A1 λq hq=>by
  rcases List.mem_append.mp hq with z|z
  ·exact I'.pin q (CL _ z)
  ·have:q=(C,oC):=by simpa using z
   subst this;exact⟨ho,hC,TK,I2.NL (Nat.le_of_lt qr),λv z=>by rw[hd] at z;cases z⟩
 show wpAny _ X.A (assign (.Name y py) X.env (.ref p)) _ _ s';refine fv (hX hN hy hx hf (pins++[(C,oC)]) s' σ H' (.ref p) (.ref p) _ Vr rfl hq) λ_ s8 qQ=>?_;obtain⟨Vs,H8,I8,q8⟩:=qQ;have TM:=(I8.pin (C,oC) (CL _ (CL _ (by simp))))
 refine⟨m,⟨oC,es,ep,TM.1,hd,r⟩,λh' sb=>⟨Vs,H8,?_,q8⟩⟩;exact(I8.n_).turned (t':=s8.toks) (it:=C) (λb o hb e=>sb.extBut b o hb e) TM.2.1 TK (.inr Vq) Vo Vp
end
end L2
namespace PySem
open Sem (wp)
open AutoSeq1 (wpAny_loadPart')
theorem dL(l:Addr)(items:Array Value)(n:Nat)(RD:Option Addr)(sl:Array (Option Value)):
  Meets (Builtin.«enumerate.__new__» ⟨[.type "enumerate",.ref l],[]⟩) (λ_ R s=>s.heap.get? l=some {cls:=.type "tuple",dict:=RD,data:=.seq items n,slots:=sl}/\
   R (.ok (.ret (.ref (s.heap.push {cls:=.type "tuple_iterator",data:=.fields #[.ref l,.int 0 0]}).objs.size)))
    {s with heap:=(s.heap.push {cls:=.type "tuple_iterator",data:=.fields #[.ref l,.int 0 0]}).push {cls:=.type "enumerate",data:=.fields #[.none,.bool false,.ref s.heap.objs.size,rawInt 0,.none,.none]}}):=
 .of_wp λprog w A R s h=>by
  obtain⟨hp,g,d,tk,os⟩:=s;obtain⟨hl,h⟩:=h;have Vt:=sub_enumerate;have hT:Heap.IsTuple (Shared.heap ⟨hp,g,d,tk,os⟩) l items:=⟨_,hl,rfl,n,rfl⟩
  wp_walk using wpAny_loadPart' hl
  refine wpAny_stack_any λst=>fg ?_;split
  ·rename_i c _ _ _ _ _
   cases (c==Value.type "enumerate")
   ·wp_walk using wpAny_loadPart' hl,wpAny_pyIter_tuple hT
    exact⟨_,rfl,h⟩
   ·wp_walk using wpAny_loadPart' hl,wpAny_pyIter_tuple hT
    exact⟨_,rfl,h⟩
  ·wp_walk using wpAny_loadPart' hl,wpAny_pyIter_tuple hT
   exact⟨_,rfl,h⟩
section
variable{prog:Program}{w:World}{A:Around}{E:Value->Shared->Prop}{s:Shared}
theorem dW(hL:s.heap.IsTuple l items)
  (h:∀h',IsEnum h' (s.heap.objs.size+1) s.heap.objs.size 0 .none->h'.IsTupleIter s.heap.objs.size l 0->h'.objs.size=s.heap.objs.size+2->
   (∀b o,s.heap.get? b=some o->h'.get? b=some o)->Q (.ref (s.heap.objs.size+1)) {s with heap:=h'}):
  wpAny (model prog w) A (call (.type "enumerate") [.ref l]) Q E s:=by
 obtain⟨⟨c,RD,dt,sl⟩,hl,hc,n,hd⟩:=hL;replace hc:c=.type "tuple":=hc;replace hd:dt=.seq items n:=hd;subst hc hd;refine callType_new F.called_enumerate (by decide) (F.typeCall_enumerate_1 _) (F.newCall_enumerate_1 _) (λobj=>F.args_object_init_2 obj _) F.entry_enumerate_new
  (dL l items n RD sl) ⟨hl,?_⟩
 have hz:(s.heap.push {cls:=.type "tuple_iterator",data:=.fields #[.ref l,.int 0 0]}).objs.size=s.heap.objs.size+1:=Heap.size_push ..;show _/\_;rw[hz];have he:IsEnum ((s.heap.push {cls:=.type "tuple_iterator",data:=.fields #[.ref l,.int 0 0]}).push
   {cls:=.type "enumerate",data:=.fields #[.none,.bool false,.ref s.heap.objs.size,rawInt 0,.none,.none]}) (s.heap.objs.size+1) s.heap.objs.size 0 .none:=by
  have:=Ab (s.heap.push {cls:=.type "tuple_iterator",data:=.fields #[.ref l,.int 0 0]})
   (o:={cls:=.type "enumerate",data:=.fields #[.none,.bool false,.ref s.heap.objs.size,rawInt 0,.none,.none]}) rfl
  rw[hz] at this;exact this
 refine⟨⟨_,he,rfl⟩,h _ he ⟨_,qa _ (Ab _ rfl),rfl,rfl⟩ (by rw[Heap.size_push,hz]) λb o x=>qa _ (qa _ x)⟩
theorem hJ{items}(hit:s.heap.IsTupleIter it t i)
  (ht:s.heap.IsTuple t items) (hx:items[i]?=some x)
  (hQ:∀h',h'.IsTupleIter it t (i+1)->Heap.SameBut it s.heap h'->Q x {s with heap:=h'}):
  wpAny (model prog w) A (Builtin.SmallTypes.nextOf (.ref it)) Q E s:=by
 obtain⟨o,ho,hc,hd⟩:=id hit;obtain⟨ol,RE,_,nl,G5⟩:=ht;unfold Builtin.SmallTypes.nextOf;refine bf (I0 (name:=Str.ofString "__next__") hit.typeIs F.slot_tuple_iterator_next
  (CM F.slot_tuple_iterator_next hit.typeIs F.entry_tuple_iterator_next ?_ (F.args_tuple_iterator_next_1 _)))
 show wpAny _ _ (field (.ref it) 0>>=_) _ _ s;refine bf (Am ho hd (x:=.ref t) rfl ?_);show wpAny _ _ (if(Value.ref t==Value.none)=true then _ else _) _ _ s;rw[az (show¬((Value.ref t==Value.none)=true) from jw)];show wpAny _ _ (field (.ref it) 1>>=_) _ _ s;refine bf (Am ho hd (x:=.int i 0) rfl ?_);show wpAny _ _ (seqItems? (.ref t)>>=_) _ _ s;refine bf (wpAny_seqItems RE G5 ?_);simp only[D6,hx];refine bf (wpAny_setField ho hd (by simp) (fg ⟨x,rfl,fg (hQ _ ?_ (Heap.SameBut.update ..))⟩));exact⟨_,MY _ ho (Obj.isFreed_of_fields (Ki hd _)),(Obj.cls_mapFields ..).trans hc,by
  rw[Ki hd];simp[rawInt]⟩
theorem iX{it t:Addr}{i:Nat}{items}{Q:Value->Shared->Prop}(hh:A.handled=none)
  (hit:s.heap.IsTupleIter it t i) (ht:s.heap.IsTuple t items) (hx:items[i]?=none)
  (hE:∀h' e,Heap.ExtBut it s.heap h'->(∃o,h'.get? e=some o/\o.cls=.type "StopIteration")->E (.ref e) {s with heap:=h'}):
  wpAny (model prog w) A (Builtin.SmallTypes.nextOf (.ref it)) Q E s:=by
 obtain⟨o,ho,hc,hd⟩:=id hit;obtain⟨ol,RE,_,nl,G5⟩:=ht;unfold Builtin.SmallTypes.nextOf;refine bf (I0 (name:=Str.ofString "__next__") hit.typeIs F.slot_tuple_iterator_next
  (CM F.slot_tuple_iterator_next hit.typeIs F.entry_tuple_iterator_next ?_ (F.args_tuple_iterator_next_1 _)))
 show wpAny _ _ (field (.ref it) 0>>=_) _ _ s;refine bf (Am ho hd (x:=.ref t) rfl ?_);show wpAny _ _ (if(Value.ref t==Value.none)=true then _ else _) _ _ s;rw[az (show¬((Value.ref t==Value.none)=true) from jw)];show wpAny _ _ (field (.ref it) 1>>=_) _ _ s;refine bf (Am ho hd (x:=.int i 0) rfl ?_);show wpAny _ _ (seqItems? (.ref t)>>=_) _ _ s;refine bf (wpAny_seqItems RE G5 ?_);simp only[D6,hx];refine bf (wpAny_rule (bf (wpAny_setField ho hd (by simp) ?_)));show wpAny _ _ (newExc (.type "StopIteration") []>>=_) _ _ _;refine bf ?_;simp only[newExc,newTuple];refine bf (DM ?_ (by size_fits));refine bf (m:=firstArgMember _ _) (wpAny_of_eq (a:=Value.none) (by first|rfl|(simp only[firstArgMember];rfl)) ?_);refine DM ?_ (by size_fits);simp only[raiseNew];refine bf (wpAny_handled ?_)
 first|rw[show A.in1.handled=none from hh]|rw[hh]
 refine bf (fg (wpAny_throw ?_));exact hE _ _ (((Heap.SameBut.update ..).extBut.push _).push _) ⟨_,Ab _ rfl,rfl⟩
theorem kS{i:Nat}{Q:Value->Shared->Prop}
  (he:IsEnum s.heap e it i old) (hit:s.heap.IsTupleIter it l i) (hl:s.heap.IsTuple l items) (hx:items[i]?=some x) (qd:e≠it)
  (hQ:∀h',IsEnumOut h' e it ((i:Int)+1) x s.heap.objs.size->h'.IsTupleIter it l (i+1)->
   h'.get? s.heap.objs.size=some {cls:=.type "tuple",data:=.seq #[.int i s.toks,x]}->h'.objs.size=s.heap.objs.size+1->
   (∀b o,b≠e->b≠it->s.heap.get? b=some o->h'.get? b=some o)->Q (.ref s.heap.objs.size) {s with heap:=h',toks:=s.toks+1}):
  wpAny (model prog w) A (Builtin.«enumerate.__next__» ⟨[.ref e],[]⟩) (λfin s'=>∃v,fin=.done (.ret v)/\Q v s') E s:=by
 obtain⟨hp,g,d,tk,os⟩:=s;show wpAny _ _ (field (.ref e) 2>>=_) _ _ _;refine bf (Am he rfl (x:=.ref it) rfl ?_);refine bf (hJ hit hl hx λly Er AF=>?_);replace AF:Heap.SameBut it hp ly:=AF;have CW:IsEnum ly e it i old:=(AF.2 e qd).trans he;show wpAny _ _ (field (.ref e) 3>>=_) _ _ ⟨ly,g,d,tk,os⟩;refine bf (Am CW rfl (x:=rawInt i) rfl ?_);show wpAny _ _ (field (.ref e) 4>>=_) _ _ ⟨ly,g,d,tk,os⟩;refine bf (Am CW rfl (x:=.none) rfl ?_);show wpAny _ _ (mkInt i>>=_) _ _ ⟨ly,g,d,tk,os⟩;refine bf (wpAny_mkInt ?_);show wpAny _ _ (setField (.ref e) 3 (rawInt ((i:Int)+1))>>=_) _ _ ⟨ly,g,d,tk+1,os⟩;refine bf (FQ CW (by simp) λzb CY AG=>?_);replace AG:Heap.SameBut e ly zb:=AG;replace CY:IsEnum zb e it ((i:Int)+1) old:=CY;show wpAny _ _ (setField (.ref e) 4 .none>>=_) _ _ ⟨zb,g,d,tk+1,os⟩;refine bf (FQ CY (by simp) λye CZ AH=>?_);replace AH:Heap.SameBut e zb ye:=AH;replace CZ:IsEnum ye e it ((i:Int)+1) old:=CZ;show wpAny _ _ (newTuple [.int i tk,x]>>=_) _ _ ⟨ye,g,d,tk+1,os⟩;refine bf (wpAny_newTuple ?_);have C1:IsEnum (ye.push {cls:=.type "tuple",data:=.seq #[.int i tk,x]}) e it ((i:Int)+1) old:=qa _ CZ;generalize BG:ye.push {cls:=.type "tuple",data:=.seq #[.int i tk,x]}=BE at C1;have hsz:ye.objs.size=hp.objs.size:=by rw[AH.1,AG.1,AF.1]
 have RF:e<hp.objs.size:=kc he;have Oh:BE.get? hp.objs.size=some {cls:=.type "tuple",data:=.seq #[.int i tk,x]}:=by rw[←BG,←hsz];exact Ab _ rfl
 have Oi:BE.objs.size=hp.objs.size+1:=by rw[←BG,Heap.size_push,hsz]
 have Oj:∀b o,b≠e->b≠it->hp.get? b=some o->BE.get? b=some o:=λb o Ao RG hb=>by
  rw[←BG];exact qa _ (AH.extBut b o Ao (AG.extBut b o Ao (AF.extBut b o RG hb)))
 have Lg:BE.IsTupleIter it l (i+1):=by
  rw[←BG];obtain⟨o,ho,r⟩:=(Er.extBut AG.extBut (jt qd)).extBut AH.extBut (jt qd);exact⟨o,qa _ ho,r⟩
 show wpAny _ _ (Builtin.SmallTypes.ownedTupleIsFree (.ref e)>>=_) _ _ ⟨BE,g,d,tk+1,os⟩;rw[hsz];clear BG CZ AH CY AG CW AF Er hsz ye zb ly;refine bf ?_
 ·unfold Builtin.SmallTypes.ownedTupleIsFree
  refine bf (Am C1 rfl (x:=.none) rfl (fg ?_));simp only[b_];refine bf (wpAny_rule ?_);refine bf (Am C1 rfl (x:=old) rfl ?_);refine bf (FQ C1 (by simp) λDn Es AI=>?_);replace AI:Heap.SameBut e BE Dn:=AI;replace Es:IsEnum Dn e it ((i:Int)+1) x:=Es;show wpAny _ _ (Builtin.SmallTypes.ownedTupleHandOut (.ref e) (.ref hp.objs.size)>>=_) _ _ ⟨Dn,g,d,tk+1,os⟩;refine bf ?_
  ·unfold Builtin.SmallTypes.ownedTupleHandOut
   refine bf (FQ Es (by simp) λLh Et AJ=>?_);replace AJ:Heap.SameBut e Dn Lh:=AJ;replace Et:IsEnumOut Lh e it ((i:Int)+1) x hp.objs.size:=Et;refine FQ Et (by simp) λLi Eu AK=>?_;replace AK:Heap.SameBut e Lh Li:=AK;replace Eu:IsEnumOut Li e it ((i:Int)+1) x hp.objs.size:=Eu;refine bf (wpAny_letGo (fg ⟨_,rfl,hQ Li Eu ?_ ?_ ?_ ?_⟩))
   ·exact((Lg.extBut AI.extBut (jt qd)).extBut AJ.extBut (jt qd)).extBut AK.extBut (jt qd)
   ·exact AK.extBut _ _ (Dg RF) (AJ.extBut _ _ (Dg RF) (AI.extBut _ _ (Dg RF) Oh))
   ·rw[AK.1,AJ.1,AI.1,Oi]
   ·exact λb o Ao RG hb=>AK.extBut b o Ao (AJ.extBut b o Ao (AI.extBut b o Ao (Oj b o Ao RG hb)))
theorem hU{e it l:Addr}{i:Nat}{items:Array Value}{x old:Value}{Q:Option Value->Shared->Prop}
  (he:IsEnum s.heap e it i old) (hit:s.heap.IsTupleIter it l i) (hl:s.heap.IsTuple l items) (hx:items[i]?=some x) (qd:e≠it)
  (hQ:∀h',IsEnumOut h' e it ((i:Int)+1) x s.heap.objs.size->h'.IsTupleIter it l (i+1)->
   h'.get? s.heap.objs.size=some {cls:=.type "tuple",data:=.seq #[.int i s.toks,x]}->h'.objs.size=s.heap.objs.size+1->
   (∀b o,b≠e->b≠it->s.heap.get? b=some o->h'.get? b=some o)->Q (some (.ref s.heap.objs.size)) {s with heap:=h',toks:=s.toks+1}):
  wpAny (model prog w) A (pyNext (.ref e)) Q E s:=by
 have hT:s.TypeIs (.ref e) "enumerate":=⟨_,he,rfl⟩
 unfold pyNext;exact bf (wpAny_attempt (I0 (name:=Str.ofString "__next__") hT F.slot_enumerate_next
  (CM F.slot_enumerate_next hT F.entry_enumerate_next
   (kS he hit hl hx qd λh' a b c d k=>fg (hQ h' a b c d k)) (F.args_enumerate_next_1 _))))
theorem dM{i:Nat}(hh:A.handled=none)
  (he:IsEnum s.heap e it i old) (hit:s.heap.IsTupleIter it l i) (hl:s.heap.IsTuple l items) (hx:items[i]?=none)
  (hQ:∀h',Heap.ExtBut it s.heap h'->Q none {s with heap:=h'}):wpAny (model prog w) A (pyNext (.ref e)) Q E s:=by
 have hT:s.TypeIs (.ref e) "enumerate":=⟨_,he,rfl⟩
 unfold pyNext;refine bf (wpAny_attempt (I0 (name:=Str.ofString "__next__") hT F.slot_enumerate_next
  (CM F.slot_enumerate_next hT F.entry_enumerate_next ?_ (F.args_enumerate_next_1 _))))
 show wpAny _ _ (field (.ref e) 2>>=_) _ _ _;refine bf (Am he rfl (x:=.ref it) rfl ?_);refine bf (iX hh hit hl hx λh' x RH Bz=>?_);obtain⟨o,ho,hc⟩:=Bz;refine bf (wpAny_isInstance (T:="StopIteration") (b:=true) ⟨o,ho,hc⟩ isSubtype_stop ?_);exact fg (hQ _ RH)
end
end PySem
namespace L2
open PySem PySem.Spec PyProof.Rows
noncomputable def RI(K:PySem.W.Frag)(a:Addr):It:=
 ⟨λi H=>∃xs x,ju K H a xs/\xs[i]?=some x,λi H v H'=>∃t x,H t=none/\v=.ref t/\H'=upd H t (.tup [.int i,x])/\∀xs,ju K H a xs->xs[i]?=some x,λi H=>∃xs,ju K H a xs/\xs.length<=i⟩
theorem vO{P:Program}{w:World}{K:PySem.W.Frag}{elts:List Expr}{k:Nat}{pos:Pos}(a e it:Addr)(qd:e≠it):
  Turn P w K (.Tuple elts k pos) (RI K a) [e,it] e (λi h=>(∃old,IsEnum h e it (i:Int) old)/\h.IsTupleIter it a i) where
 mem:=by simp
 obj:=λi h st b hb=>by
  obtain⟨⟨old,he⟩,o,ho,c,d⟩:=st;rcases List.mem_cons.mp hb with z|z
  ·subst z
   exact⟨_,he,λv z=>by cases (show Data.fields _=Data.cell v from z)⟩
  ·have z:b=it:=by simpa using z
   subst z;exact⟨o,ho,λv z=>by rw[d] at z;cases z⟩
 keep:=λi h h' st kp=>by
  obtain⟨⟨old,he⟩,o,ho,c,d⟩:=st;exact⟨⟨old,kp e (by simp) _ he⟩,o,kp it (by simp) o ho,c,d⟩
 item:=by
  intro X hP hw hK hc i pins s σ H E I hf st hg;subst hP hw hK;obtain⟨⟨old,he⟩,hit⟩:=st;obtain⟨xs,x,hq,hx⟩:=hg;obtain⟨its,rv,p,hz⟩:=I.tuple hq;obtain⟨u,hu,ru⟩:=rv.get hx;obtain⟨e0,e1,e2,e3,e4,e5⟩:=hf e (by simp);obtain⟨i0,i1,i2,i3,i4,i5⟩:=hf it (by simp);refine hU he hit (show s.heap.IsTuple a its.toArray from p) (x:=u) (by simpa using hu) qd λh' Jm RJ Ew hsz kk=>?_;refine⟨_,rfl,?_⟩;refine wpAny_letOwnedTupleGo_enum (s:={s with heap:=h',toks:=s.toks+1}) Jm λh2 Vu sb=>?_;have Ol:h2.get? s.heap.objs.size=some {cls:=.type "tuple",data:=.seq #[.int i s.toks,u]}:=sb.extBut _ _ (Dg (kc he)) Ew;have As:H s.heap.objs.size=none:=I.dq.fresh (fm _);have Vv:∀b o,b≠e->b≠it->s.heap.get? b=some o->h2.get? b=some o:=λb o h1 h2 h3=>sb.extBut b o h1 (kk b o h1 h2 h3);have RK:h2.IsTupleIter it a (i+1):=RJ.extBut sb.extBut (jt qd);have ch:∀b∈[e,it],(b∈X.ex\/X.h_.heap.objs.size<=b)/\b≠X.env.locals/\(∀x c,X.env.cells.lookup x=some c->c≠b)/\∀p∈X.pn++pins,p.1≠b:=λb hb=>⟨(hf b hb).2.2.2.1,(hf b hb).2.1,(hf b hb).2.2.2.2.1,(hf b hb).2.2.2.2.2⟩
  have nb:∀b o,b∉[e,it]->s.heap.get? b=some o->h2.get? b=some o:=λb o hb q=>Vv b o (λz=>hb (by simp[z])) (λz=>hb (by simp[z])) q;have zd:∀b u,H b=some u->b≠s.heap.objs.size:=λb u z=>by intro y;rw[y,As] at z;cases z
  have u1:Un (ub X.stack) [e,it] H (upd H s.heap.objs.size (.tup [.int i,x])) s.heap h2:=by
   refine⟨λb o q n _ hb=>nb b o hb q,λb o q n _ hb=>⟨o.slots,nb b o hb q⟩,λb o q n hb=>?_,λb o q hb=>⟨o,nb b o hb q⟩,λb ys q=>?_,λb o u q=>?_,λb ps q=>⟨#[],?_⟩⟩
   ·rw[aA (yv (kc q))];exact n
   ·rw[aA (zd b _ q)];exact q
   ·rw[aA (zd b _ q)];exact q
   ·rw[aA (zd b _ q),q];simp
  have Om:∀b u,H b=some u->b∉[e,it]:=λb u q hb=>by
   rcases List.mem_cons.mp hb with z|z
   ·rw[z,e0] at q;cases q
   ·have z:b=it:=by simpa using z
    rw[z,i0] at q;cases q
  have dq:pf X.prog X.w (upd H s.heap.objs.size (.tup [.int i,x])) h2:=by
   intro b u q;by_cases hb:b=s.heap.objs.size
   ·subst hb
    rw[ah] at q;cases q;exact⟨by show 2<=sizeLine;decide,[.int i s.toks,u],.cons ⟨_,rfl⟩ (.cons ru .nil),_,Ol,rfl,_,rfl⟩
   ·rw[aA hb] at q
    refine(I.dq b u q).AX (λc v hc r=>nb c v ?_ r) (λc r=>by rw[aA (zd c _ r)];exact r) λc ys r=>by rw[aA (zd c _ r)];exact r
    rcases hc with z|z
    ·rw[z];exact Om b u q
    ·exact Om c _ z
  have I2:Inv X pins σ (upd H s.heap.objs.size (.tup [.int i,x])) {s with heap:=h2,toks:=s.toks+1}:=I.call (g':=s.gens) (d':=s.drawn) (t':=s.toks+1) (ch:=[e,it]) u1 dq I.bare ch;refine⟨.ref s.heap.objs.size,_,I2,rfl,⟨_,x,As,rfl,rfl,λys hy=>by rw[I.vt hy hq];exact hx⟩,⟨⟨u,?_⟩,RK⟩,λb hb=>?_⟩
  ·have:=Vu
   rw[show((i:Int)+1)=((i+1:Nat):Int) by omega] at this;exact this
  ·have qr:b<s.heap.objs.size:=by
    rcases List.mem_cons.mp hb with z|z
    ·rw[z];exact kc he
    ·have z:b=it:=by simpa using z
     rw[z];obtain⟨o,ho,_⟩:=hit;exact kc ho
   rw[aA (yv qr)];exact(hf b hb).1
 done:=by
  intro X hP hw hK hc i pins s σ H E I hf st hg;subst hP hw hK;obtain⟨⟨old,he⟩,hit⟩:=st;obtain⟨xs,hq,hx⟩:=hg;obtain⟨its,rv,p,hz⟩:=I.tuple hq;obtain⟨i0,i1,i2,i3,i4,i5⟩:=hf it (by simp);have hl:=rv.length;exact dM (I.ok.hd hc) he hit (show s.heap.IsTuple a its.toArray from p) (by simp;omega) λh' eb=>⟨rfl,I.turned (t':=s.toks) (λb o hb e=>eb b o hb e) i0 i1 i3 i4 i5⟩
 self:=λ_ _ _ _ _ st h=>by
  obtain⟨⟨old,he⟩,_⟩:=st;exact wpAny_pyIter_enum he h
theorem vP:bootBuiltins "enumerate"=some (.type "enumerate"):=by first|exact PySem.boot_enumerate|rfl|decide+kernel
noncomputable def Oo(K:PySem.W.Frag)(ta:TA):TI:=λσ H R=>ta σ H λvs H1=>∃a,vs=[.ref a]/\(∃xs,ju K H1 a xs)/\R (RI K a) H1
theorem G6(hg:Gl X "enumerate")(hm:X.mg "enumerate"=none)(ha:PA X [l] ta)(hs:starEach [l] X.env=[(false,eval l X.env)]):
  PI X (.Tuple elts k Cp) (.Call (.Name "enumerate" p) [l] [] pos) (Oo X.K ta):=by
 intro pins s σ H R I h;refine Call_ (fS I hg hm vP (PyProof.Rows.callWith_type1 (fv (ha pos pins s σ H _ I h) λus s1 qQ=>?_) hs rfl));obtain⟨vs,H1,I1,r1,q1⟩:=qQ;obtain⟨a,e,⟨xs,hq⟩,q⟩:=q1;subst e
 cases r1 with
 |cons r rr=>
  cases rr;cases r;obtain⟨its,rv,pt,hz⟩:=I1.tuple hq;refine dW (show s1.heap.IsTuple a its.toArray from pt) λh' he hit hsz kk=>?_;refine wpAny_pyIter_enum (s:={s1 with heap:=h'}) he ?_;have I2:Inv X pins σ H1 {s1 with heap:=h'}:=I1.kept (t':=s1.toks) kk;refine⟨s1.heap.objs.size+1,[s1.heap.objs.size+1,s1.heap.objs.size],_,_,H1,rfl,I2,vO a _ _ (Dg (Jg _)),⟨⟨_,he⟩,hit⟩,λb hb=>?_,q⟩;have hle:s1.heap.objs.size<=b:=by
   rcases List.mem_cons.mp hb with z|z
   ·rw[z];exact Nat.le_succ _
   ·have z:b=s1.heap.objs.size:=by simpa using z
    rw[z];exact fm _
  exact I1.Dk hle (I1.dq.fresh hle)
theorem xR{ws:List Value}(ht:IsTup s.heap t ([]:List Value).toArray)(hb:IsTup s.heap b ws.toArray)
  (h:Q (.ref b) s):wpAny (model prog w) A (binaryOp .Add (.ref t) (.ref b)) Q E s:=by
 obtain⟨⟨cls,dd,data,sl⟩,ho,hc,n,hd⟩:=id ht;obtain⟨⟨Rp,Qm,data2,Oa⟩,K0,FW,n2,hd2⟩:=id hb;simp only at hc hd FW hd2;subst hc hd FW hd2;exact concat_meets ⟨_,ho,rfl⟩ ⟨_,K0,rfl⟩ noFill_tuple_add seq_tuple_add PySem.F.slot_tuple_add PySem.F.entry_tuple_add (PySem.F.args_tuple_add_2 _ _)
   (tuple_addW0 t b ([]:List Value).toArray ws.toArray n n2 dd Qm sl Oa (by simp)) ⟨ho,K0,h⟩
noncomputable def Ey(K:PySem.W.Frag):R2:=λx y H Q=>∃a b xs ys,x=.ref a/\y=.ref b/\ju K H a xs/\ju K H b ys/\xs.length+ys.length<=sizeLine/\
 (xs=[]->Q (.ref b) H)/\(xs≠[]->ys=[]->Q (.ref a) H)/\(xs≠[]->ys≠[]->∀p,H p=none->Q (.ref p) (upd H p (.tup (xs++ys))))
theorem xS:vf X (binaryOp .Add) (Ey X.K):=by
 intro pins s σ H x y v u Q I rx ry h;obtain⟨a,b,xs,ys,rfl,rfl,ha,hb,hz,q0,q1,q2⟩:=h;by_cases hx:xs=[]
 ·cases rx
  cases ry;obtain⟨its,r1,p1,_⟩:=I.tuple ha;obtain⟨yf,r2,p2,_⟩:=I.tuple hb;have e:its=[]:=r1.yp.mpr hx;subst e;exact xR p1 p2 ⟨.ref b,H,I,rfl,q0 hx⟩
 ·exact GQ pins s σ H (.ref a) (.ref b) v u Q I rx ry ⟨a,b,xs,ys,rfl,rfl,ha,hb,hx,hz,q1 hx,q2 hx⟩
theorem eX{lo hi:Option Int}
  (ht:IsTup s.heap t items) (hs:s.heap.IsSliceOf sl vl vu .none) (pl:IsPart vl lo) (pu:IsPart vu hi)
  (hw:HT.d_ items.size 0 lo=0/\HT.d_ items.size items.size hi=items.size) (h:Q (.ref t) s):wpAny (model prog w) A (getItem (.ref t) (.ref sl)) Q E s:=by
 obtain⟨os,K1,Qn,GN⟩:=id hs;have Rq:s.TypeIs (.ref sl) "slice":=⟨os,K1,Qn⟩
 unfold getItem
 try with_reducible refine FU ?_
 first|refine bf (fg ?_)|skip
 refine bf (wpAny_sequenceKey ht.typeIs (by decide) ?_);refine bf (I0 (name:=Str.ofString "__getitem__") ht.typeIs PyProof.Rows.slot_tuple_getitem
  (CM PyProof.Rows.slot_tuple_getitem ht.typeIs PyProof.Rows.entry_tuple_getitem ?_ (PyProof.Rows.args_tuple_getitem _ _)))
 show wpAny _ _ (Builtin.Tuple.tupleItemsOf (.ref t)>>=_) _ _ s;refine bf (PyProof.Rows.tupleItemsOf_ ht ?_);refine bf (wpAny_typeOf Rq ?_);rw[bp (by decide)];refine bf (HT.oi hs pl pu ?_);have RL:(((HT.d_ items.size 0 lo:Nat):Int)==0&&(1:Int)==1&&(HT.d_ items.size items.size hi-HT.d_ items.size 0 lo)==items.size)=true:=by
  rw[hw.1,hw.2];simp
 show wpAny _ _ (if(((HT.d_ items.size 0 lo:Nat):Int)==0&&(1:Int)==1&&(HT.d_ items.size items.size hi-HT.d_ items.size 0 lo)==items.size)=true then _ else _) _ _ s;rw[bp RL];obtain⟨o,ho,hc,n,hd⟩:=ht;have hT:s.TypeIs (.ref t) "tuple":=⟨o,ho,hc⟩
 unfold Builtin.Tuple.tupleIsExact;refine bf (bf (wpAny_typeOf hT (fg ?_)));rw[bp (by simp)];exact bf (wpAny_rule (fg ⟨_,rfl,fg h⟩))
noncomputable def Jy(K:PySem.W.Frag):V->Option Int->Option Int->Hp->VK->Prop:=λx lo hi H Q=>∃a xs,x=.ref a/\ju K H a xs/\
 (HT.d_ xs.length 0 lo=0/\HT.d_ xs.length xs.length hi=xs.length)/\Q (.ref a) H
theorem G7:GO X (Jy X.K):=by
 intro pins s σ H x v vl vu lo hi sl Q I rx hs pl pu h;obtain⟨a,xs,rfl,hx,hw,q⟩:=h;cases rx;obtain⟨its,r,ht,hz⟩:=I.tuple hx;have hlen:its.toArray.size=xs.length:=by rw[rz];exact r.length.symm
 refine⟨"tuple",_,PyProof.Rows.slot_tuple_getitem.lookup,ht.typeIs,?_⟩;exact eX ht hs pl pu (by rw[hlen];exact hw) ⟨.ref a,H,I,rfl,q⟩
theorem Vals.getElem(r:Vals xs us)(h:i<us.length):∃x,xs[i]?=some x/\RelV x us[i]:=by
 have h':i<xs.length:=by rw[r.length];exact h
 obtain⟨u,hu,ru⟩:=r.get (i:=i) (x:=xs[i]) (by simp[h']);have:us[i]=u:=by simpa[h] using hu
 exact⟨xs[i],by simp[h'],by rw[this];exact ru⟩
noncomputable def Ez:V->List V->Hp->VK->Prop:=λx vs H Q=>∃(l:Addr)(xs:List V)(y:V)(j:Nat)(z:V),x=.ref l/\vs=[y]/\H l=some (.lst xs)/\pz y=true/\xs.all pz=true/\xs[j]?=some z/\mw z y=true/\(∀(k:Nat) z',k<j->xs[k]?=some z'->mw z' y=false)/\Q (.int j) H
theorem xT:GS X "list.index" Ez:=by
 intro pins s σ H x vs v us Q I rx rv h;obtain⟨l,xs,y,j,z,rfl,rfl,hH,fy,fs,hj,ez,Rr,q⟩:=h;cases rx;obtain⟨u,rfl,ru⟩:=rv.one;obtain⟨zz,its,n,r,hl,e⟩:=I.GU hH;have Qr:j<its.length:=by
  rw[←hl];by_cases hc:j<xs.length
  ·exact hc
  ·rw[I_ (by omega)] at hj;cases hj
 have hn:=vv;have at':∀k (hk:k<its.toArray.size),∃w,xs[k]?=some w/\Eo y its.toArray[k]=mw w y:=λk hk=>by
  have G8:k<its.length:=by simpa using hk
  obtain⟨w,hw,vg⟩:=r.getElem G8;refine⟨w,hw,?_⟩;have hm:w∈xs:=FP hw;have:=q9 (x:=y) vg (List.all_eq_true.mp fs w hm);simpa using this
 refine call_meets F.slot_list_index ⟨_,e,rfl⟩ F.entry_list_index (F.args_list_index_2 _ _) (SeqAt.list_indexAt l its.toArray n none #[] u (Eo y) j (by simpa using Qr) (by omega) ?_ ?_) ⟨e,?_,?_⟩
 ·obtain⟨w,hw,ew⟩:=at' j (by simpa using Qr)
  rw[hj] at hw;cases hw;rw[ew];exact ez
 ·intro k hk Vw
  obtain⟨w,hw,ew⟩:=at' k hk;rw[ew];exact Rr k w Vw hw
 ·intro w hw
  exact eU ru fy r fs w (by simpa using hw)
 ·exact⟨.int j,H,I.tok _,⟨_,rfl⟩,q⟩
def Jz(Nw:Addr->Prop)(h:Heap)(H:Hp)(e:Addr)(cls:Value):Prop:=
 Nw e/\H e=none/\∃oe vs,h.get? e=some oe/\(oe.cls=cls/\oe.dict=none)/\oe.data=.fields vs/\
  (vs[1]?=some .none\/∃T oT ts,vs[1]?=some (.ref T)/\Nw T/\H T=none/\T≠e/\h.get? T=some oT/\oT.data=.fields ts/\ts[3]?=some .none)
theorem Jz.mono(F:Jz N h H e cls)(s:∀b,N b->N' b):Jz N' h H e cls:=by
 obtain⟨n,he,oe,vs,h1,h2,h3,h4⟩:=F;refine⟨s _ n,he,oe,vs,h1,h2,h3,h4.imp id ?_⟩;rintro⟨T,oT,ts,a,b,r⟩;exact⟨T,oT,ts,a,s _ b,r⟩
theorem xU(f:Array Value->Array Value)(o:Obj):(Obj.mapFields f o).dict=o.dict:=by obtain⟨c,d,dt,sl⟩:=o;cases dt<;>rfl
section
variable{M:Model}{A:Around}{E:Value->Shared->Prop}{s:Shared}
theorem lD{bs:Heap}{env:Env}{outer:List Env}{L e:Addr}{oe:Obj}{vs:Array Value}{head:Value}{hn:Bool}{Q:Unit->Shared->Prop}(As:A.frames=some (env::outer))(hl:s.heap.FunFrames bs (env::outer))(hf:env.frame=some L)
  (he:s.heap.get? e=some oe) (hd:oe.data=.fields vs) (hsz:1<vs.size)
  (k:∀h' T FX Ag oT ts,s.heap.get? T=none->(∀b o,s.heap.get? b=some o->b∉ub (env::outer)->b≠e->h'.get? b=some o)->(∀b o,s.heap.get? b=some o->b∈ub (env::outer)->∃sl,h'.get? b=some {o with slots:=sl})->
   h'.get? e=some FX->(FX.cls=oe.cls/\FX.dict=oe.dict)->FX.data=.fields Ag->Ag[1]?=some (.ref T)->T≠e->h'.get? T=some oT->oT.data=.fields ts->ts[3]?=some .none->Q () {s with heap:=h'}):
  wpAny M A (do let a←frameOf env;let pl←entryPlaceOf L hn;let b←EntryCells.newEntry head a .none (rawInt L) .none pl;setField (.ref e) 1 b) (λ_ s'=>wpAny M A (setFlight (.ref e) none) Q E s') E s:=by
 have ne:e∉ub (env::outer):=λhm=>by
  obtain⟨_,o,ho,nf⟩:=hl.mem hm;rw[he] at ho;cases ho;exact nf vs hd
 refine bf (wpAny_frameOf_fun As hl hf λh1 s1=>?_);refine bf (wpAny_entryPlaceOf λpl Bo=>?_);unfold EntryCells.newEntry newFields;refine bf (DM ?_ (Bo.sizeOk5 _ _ _ _ _));have e1:h1.get? e=some oe:=(s1.2.1 e ne).trans he;generalize G9:([head,.ref L,.none,rawInt L,.none]++(if pl.isEmpty then List.replicate 6 Value.none else pl)).toArray=ts;have TQ:3<ts.size:=by rw[←G9];simp only[rz,rj,gm,ny];omega
 have fresh:s.heap.get? h1.objs.size=none:=by
  cases q:s.heap.get? h1.objs.size with
  |none=>rfl
  |some o=>have:=kc q;rw[s1.1] at this;exact absurd this (Cj _)
 have e2:=qa (h:=h1) {cls:=.type "traceback",dict:=none,data:=.fields ts} e1;refine wpAny_setField e2 hd hsz ?_;have nT:h1.objs.size≠e:=Dg (kc e1);have d3:=Ki hd (·.setIfInBounds 1 (Value.ref h1.objs.size));have e3:=MY (Obj.mapFields (·.setIfInBounds 1 (Value.ref h1.objs.size))) e2 (Obj.isFreed_of_fields d3);have t3:=(Ge (h1.push {cls:=.type "traceback",dict:=none,data:=.fields ts}) (Obj.mapFields (·.setIfInBounds 1 (Value.ref h1.objs.size))) (jt nT)).trans (Ab h1 rfl);unfold setFlight;refine bf (Am e3 d3 (x:=.ref h1.objs.size) (by simp[hsz]) ?_);rw[bp (show(Value.ref h1.objs.size !=Value.none)=true from by simp)];refine wpAny_setField t3 rfl TQ (k _ h1.objs.size _ _ _ _ fresh (λb o hb nb Vx=>?_) (λb o hb mb=>?_) ?_ ⟨Obj.cls_mapFields _ _,xU _ _⟩ d3 (by simp[hsz]) nT (MY _ t3 (Obj.isFreed_of_fields (Ki rfl _))) (Ki rfl _) (by simp[TQ]))
 ·have JA:h1.get? b=some o:=(s1.2.1 b nb).trans hb
  rw[Ge _ _ (Dg (kc JA)),Ge _ _ (jt Vx)];exact qa _ JA
 ·obtain⟨sl,JA⟩:=s1.2.2 b o hb
  refine⟨sl,?_⟩;rw[Ge _ _ (Dg (kc JA)),Ge _ _ (λz=>ne (by rw[z];exact mb))];exact qa _ JA
 ·rw[Ge _ _ nT];exact e3
structure JB(fs ch:List Addr)(h h':Heap):Prop where
 keep:∀b o,h.get? b=some o->b∉fs->b∉ch->h'.get? b=some o
 slot:∀b o,h.get? b=some o->b∈fs->∃sl,h'.get? b=some {o with slots:=sl}
 there:∀b o,h.get? b=some o->∃o',h'.get? b=some o'
def Recs(Nw:Addr->Prop)(h:Heap)(H:Hp)(ch:List Addr):Prop:=∀b∈ch,Nw b/\H b=none/\∃o ws,h.get? b=some o/\o.data=.fields ws
theorem xV(As:A.frames=some (env::outer))(hl:s.heap.FunFrames bs (env::outer))(hf:env.frame=some L)
  (F:Jz Nw s.heap H e cls) (hN:∀b,s.heap.get? b=none->Nw b) (hH:∀b,s.heap.get? b=none->H b=none)
  (k:∀h' ch,Recs Nw s.heap H ch->Jz Nw h' H e cls->JB (ub (env::outer)) ch s.heap h'->Q () {s with heap:=h'}):
  wpAny M A (noteFrame (.ref e) env) (λ_ s'=>wpAny M A (setFlight (.ref e) none) Q E s') E s:=by
 obtain⟨n,ze,oe,vs,he,⟨hc,TR⟩,hd,tr⟩:=F;subst hc;unfold noteFrame;simp only[hf];rcases tr with h1|⟨T,oT,ts,h1,nT,Vy,TU,hT,Lj,h3⟩
 ·refine bf (Am he hd h1 ?_)
  rw[az (by decide)];refine lD As hl hf he hd (Array.getElem?_eq_some_iff.mp h1).1 λh' T FX Ag oT ts nT kp sl a1 a2 a3 a4 a5 a6 a7 a8=>?_;refine k h' [e] (λb hb=>by rw[List.mem_singleton.mp hb];exact⟨n,ze,oe,vs,he,hd⟩) ⟨n,ze,FX,Ag,a1,⟨a2.1,a2.2.trans TR⟩,a3,.inr ⟨T,oT,ts,a4,hN T nT,hH T nT,a5,a6,a7,a8⟩⟩ ⟨λb o hb nb c=>kp b o hb nb λz=>c (by simp[z]),sl,λb o hb=>?_⟩;by_cases hm:b∈ub (env::outer)
  ·obtain⟨_,q⟩:=sl b o hb hm;exact⟨_,q⟩
  ·by_cases Ao:b=e
   ·exact⟨FX,by rw[Ao];exact a1⟩
   ·exact⟨o,kp b o hb hm Ao⟩
 ·refine bf (Am he hd h1 ?_)
  rw[bp (show(Value.ref T !=Value.none)=true from by simp)];refine bf (Am hT Lj h3 ?_);rw[az (show¬((Value.none==rawInt L)=true) from by simp[rawInt])];refine bf (wpAny_setField hT Lj (Array.getElem?_eq_some_iff.mp h3).1 ?_);have other:∀b,b≠T->(s.heap.update T (Obj.mapFields (·.setIfInBounds 3 Value.none))).get? b=s.heap.get? b:=λb hb=>Ge _ _ (jt hb);have RM:∀b o,s.heap.get? b=some o->(∀ws,o.data≠.fields ws)->b≠T:=λb o hb nf q=>by
   rw[q,hT] at hb;cases hb;exact nf ts Lj
  have back:∀b,(s.heap.update T (Obj.mapFields (·.setIfInBounds 3 Value.none))).get? b=none->s.heap.get? b=none:=λb hb=>by
   by_cases q:b=T
   ·subst q
    rw[MY _ hT (Obj.isFreed_of_fields (Ki Lj _))] at hb;cases hb
   ·rw[other b q] at hb;exact hb
  refine lD As (hl.of_keeps λb o hb nf=>⟨o,(other b (RM b o hb nf)).trans hb,rfl⟩) hf ((other e (jt TU)).trans he) hd (Array.getElem?_eq_some_iff.mp h1).1 λh' T' FX Ag Vz VA TV kp sl a1 a2 a3 a4 a5 a6 a7 a8=>?_;have TX:T∉ub (env::outer):=λhm=>by
   obtain⟨_,o,ho,nf⟩:=hl.mem hm;rw[hT] at ho;cases ho;exact nf ts Lj
  refine k h' [e,T] (λb hb=>?_) ⟨n,ze,FX,Ag,a1,⟨a2.1,a2.2.trans TR⟩,a3,.inr ⟨T',Vz,VA,a4,hN T' (back _ TV),hH T' (back _ TV),a5,a6,a7,a8⟩⟩ ⟨λb o hb nb c=>?_,λb o hb mb=>?_,λb o hb=>?_⟩
  ·rcases List.mem_cons.mp hb with z|z
   ·rw[z];exact⟨n,ze,oe,vs,he,hd⟩
   ·rw[List.mem_singleton.mp z];exact⟨nT,Vy,oT,ts,hT,Lj⟩
  ·exact kp b o ((other b λz=>c (by simp[z])).trans hb) nb λz=>c (by simp[z])
  ·exact sl b o ((other b (by rintro rfl;exact TX mb)).trans hb) mb
  ·by_cases RO:b=T
   ·subst RO
    have q:=MY (Obj.mapFields (·.setIfInBounds 3 Value.none)) hT (Obj.isFreed_of_fields (Ki Lj _));exact⟨_,kp b _ q TX TU⟩
   ·by_cases hm:b∈ub (env::outer)
    ·obtain⟨_,q⟩:=sl b o ((other b RO).trans hb) hm;exact⟨_,q⟩
    ·by_cases Ao:b=e
     ·exact⟨FX,by rw[Ao];exact a1⟩
     ·exact⟨o,kp b o ((other b RO).trans hb) hm Ao⟩
end
noncomputable def yg(P:Program)(w:World):M6:=λouter H s E e s'=>∃a C H',e=.ref a/\s'.os=s.os/\AllBare s'.gens/\Un (ub outer) [] H H' s.heap s'.heap/\pf P w H' s'.heap/\
 Jz (λb=>s.heap.get? b=none) s'.heap H' a (.ref C)/\E (.ref C) none H'
theorem pf.Oq(x:pf P w H h)(n:JB fs ch h h')(ff:∀b∈fs,H b=none)(fc:∀b∈ch,H b=none):pf P w H h':=λa o e=>by
 refine(x a o e).AX (λb u hb q=>?_) (λ_ q=>q) λ_ _ q=>q;have tb:H b≠none:=by
  rcases hb with rfl|hb
  ·rw[e];exact Kf _
  ·rw[hb];exact Kf _
 exact n.keep b u q (λz=>tb (ff b z)) λz=>tb (fc b z)
theorem pf.obj(x:pf P w H h)(q:H b=some o):∃o',h.get? b=some o':=by
 have z:=x b o q
 cases o with
 |lst xs=>obtain⟨_,_,_,_,e⟩:=z;exact⟨_,e⟩
 |tup xs=>obtain⟨_,_,_,_,e,_⟩:=z;exact⟨_,e⟩
 |dK kvs=>obtain⟨_,_,_,_,o,_,_,e,_⟩:=z;exact⟨_,e⟩
 |dN kvs=>obtain⟨_,_,_,_,o,_,_,e,_⟩:=z;exact⟨_,e⟩
 |dT kvs=>obtain⟨_,_,_,_,o,_,_,e,_⟩:=z;exact⟨_,e⟩
 |set S n=>obtain⟨o,_,_,_,e,_⟩:=z;exact⟨_,e⟩
 |ins C dx fs=>obtain⟨_,_,_,e,_⟩:=z;exact⟨_,e⟩
 |own y=>obtain⟨_,e⟩:=z;exact⟨_,e⟩
 |xd fs=>obtain⟨_,⟨_,_,_,e,_⟩,_⟩:=z;exact⟨_,e⟩
 |g_ lo hi=>obtain⟨_,_,_,e⟩:=z;exact⟨_,e⟩
 |av ob u=>obtain⟨e,_⟩:=z;exact⟨_,e⟩
 |Gn ps=>exact⟨_,z⟩
 |met f y=>exact⟨_,z⟩
 |ext φ=>obtain⟨_,⟨_,e⟩,_⟩:=z;exact⟨_,e⟩
theorem pf.new(x:pf P w H h)(hb:h.get? b=none):H b=none:=by
 cases q:H b with
 |none=>rfl
 |some o=>
  obtain⟨o',z⟩:=x.obj q;rw[z] at hb;cases hb
noncomputable def JC(X:Cx):Addr->Prop:=λb=>X.h_.heap.get? b=none/\∀p∈X.pn,p.1≠b
def M9(X:Cx)(cl:Nat->Addr)(XE:Nat->St->Hp->Prop):Prop:=
 ∀(pins:List (Addr×Obj))(σ:St)(H:Hp)(s:Shared)(a:Addr)(c:Nat),Inv X pins σ H s->Jz (JC X) s.heap H a (.ref (cl c))->XE c σ H->X.xe (.ref a) s
section
variable{P:Program}{w:World}{K:PySem.W.Frag}{mg:Str->Option Value}{base:Heap}{N:List Str}{qual:Str}{scope:Scope}{f:Addr}{cd:Value}{A:Around}{outer:List Env}{s:Shared}{H:Hp}{E:XK}{cl:Nat->Addr}
theorem tS:M9 (A4 (yg P w) P w K mg base N qual scope f cd A outer s H E) cl (λc _ H'=>E (.ref (cl c)) none H'):=by
 intro pins σ H1 s1 a c I F hE;show wpAny _ _ (leaving _ _) _ _ s1;unfold leaving;have F':Jz (λb=>s.heap.get? b=none) s1.heap H1 a (.ref (cl c)):=F.mono λb z=>z.1;have back:∀b,s1.heap.get? b=none->s.heap.get? b=none:=λb hb=>by
  cases q:s.heap.get? b with
  |none=>rfl
  |some o=>
   obtain⟨o',z⟩:=I.base.there b o q (λz=>nomatch z);rw[z] at hb;cases hb
 refine bf (xV (outer:=outer) I.ok.frames I.stack rfl F' back (λb hb=>I.dq.new hb) λh' ch rc F2 n=>?_);have RP:∀b o,s.heap.get? b=some o->b∉ub outer->b∉ub ((A4 (yg P w) P w K mg base N qual scope f cd A outer s H E).env::outer):=λb o hb nb hm=>by
  have M_:b∈s.heap.objs.size::ub outer:=hm;rcases List.mem_cons.mp M_ with z|z
  ·subst z;exact absurd (kc hb) (Cj _)
  ·exact nb z
 have sub:∀b,b∈ub outer->b∈ub ((A4 (yg P w) P w K mg base N qual scope f cd A outer s H E).env::outer):=λb hb=>show b∈s.heap.objs.size::ub outer from o_ _ hb;have B:Un (ub outer) [] H H1 s.heap s1.heap:=I.base;refine⟨a,cl c,H1,rfl,I.os,I.bare,⟨λb o q n1 nb nx=>?_,λb o q n1 mb nx=>?_,B.free,λb o q nx=>?_,B.vo,B.sy,B.vp⟩,I.dq.Oq n (λb hb=>I.A0 b hb) λb hb=>(rc b hb).2.1,F2,hE⟩
 ·exact n.keep b o (B.keep b o q n1 nb nx) (RP b o q nb) λz=>by have y:s.heap.get? b=none:=(rc b z).1;rw[q] at y;cases y
 ·obtain⟨sl,z⟩:=B.slot b o q n1 mb nx
  obtain⟨NI,z'⟩:=n.slot b _ z (sub b mb);exact⟨NI,z'⟩
 ·obtain⟨o',z⟩:=B.there b o q nx
  exact n.there b o' z
end
section
variable{X:Cx}{cl:Nat->Addr}{XE:Nat->St->Hp->Prop}{pins:List (Addr×Obj)}{σ:St}{H:Hp}{s:Shared}
theorem Inv.JD(I:Inv X pins σ H s)(hx:X.ex=[])(hb:s.heap.get? b=none):JC X b:=by
 refine⟨?_,λp hp z=>?_⟩
 ·cases q:X.h_.heap.get? b with
  |none=>rfl
  |some o=>
   obtain⟨o',z⟩:=I.base.there b o q (by rw[hx];exact λz=>nomatch z);rw[z] at hb;cases hb
 ·have:=(I.pin p (List.mem_append_left _ hp)).1
  rw[z,hb] at this;cases this
theorem G_(hx:X.ex=[])(t:M9 X cl XE)(σ:St)(pins:List (Addr×Obj))(H:Hp)(s:Shared)(e:Value)(s':Shared)(I:Inv X pins σ H s)
  (z:yg X.prog X.w X.stack H s (λk _ H'=>∃c,k=.ref (cl c)/\XE c σ H') e s'):X.xe e s':=by
 obtain⟨a,C,H',rfl,os,bare,un,dq,F,c,ec,xe⟩:=z;have Rz:C=cl c:=by simpa using ec
 subst Rz;exact t pins σ H' s' a c (I.Jp os un dq bare λb z=>nomatch z) (F.mono λb hb=>I.JD hx hb) xe
noncomputable def EA(XE:Nat->St->Hp->Prop)(c:Nat):TS:=λ_ σ H=>XE c σ H
theorem xW(hc:X.calm=true)(hx:X.ex=[])(t:M9 X cl XE)(hg:Gl X x)(yx:(x==("__debug__":Str))=false)
  (O:OwnCls x (cl c) bm newId X.mg X.base) (Fn:ExcBaseFacts Bn newId TY TZ) (RQ:bm.contains (.type Bn)=true) (FB:ExcBaseFacts B Qs EB bm):
  PS X (.Raise (some (.Call (.Name x np) [.Constant (.str tx) j p] [] dy)) none pos) (EA XE c):=by
 intro pins s σ H D I h;obtain⟨tl,N,nm,q,bs,hdct,sn,sub,ab,col,dd,k0,k1,k2,k3,k5,mN,hC,hN,Na,T⟩:=O.obj;refine wpAny_Raise_call_subU (C:=cl c) (nm:=nm) (q:=q) (N:=N) (bs:=bs) (bm:=tl) (hdct:=hdct) (sn:=sn) (sub:=sub) (ab:=ab) (col:=col) (dd:=dd) (k0:=k0) (k1:=k1) (k2:=k2) (k3:=k3) (k5:=k5) Fn RQ FB (mN:=mN) (T.hasType FB.hasBase) (I.ok.hd hc) rfl Na (mG I hg O.bound ⟨rfl,?_⟩ yx);refine Calls.evalArgs_plain (Ae ((aw Kx c_:PA X [.Constant (.str tx) j p] _) dy pins s σ H (λvs H1=>H1=H/\vs.length=1) I ⟨rfl,rfl⟩) (λus s2 h2=>?_) λ_ _ z=>z);obtain⟨vs,H1,I2,r,rfl,hv⟩:=h2;have hl:us.length=1:=by rw[←r.length];exact hv
 refine⟨rfl,by show us.length<=_;rw[hl];decide,I2.bk _ _ hC,hN.keeps I2.bk,T.keeps I2.bk,λh' e m=>?_⟩;obtain⟨tt,ht,_,_⟩:=m.there;have I3:Inv X pins σ H1 {s2 with heap:=h'}:=I2.kept (t':=s2.toks) m.keeps;exact t pins σ H1 _ e c I3 ⟨I2.JD hx m.new,I2.dq.new m.new,_,_,ht,⟨rfl,rfl⟩,rfl,.inl rfl⟩ h
end
end L2
namespace L2
open PySem PySem.Spec PyProof.Rows PySem.W
structure Lk(K:Frag)(C:Addr):Prop where
 ga:findIn K (.ref C) "__getattribute__"=some (some (.builtin "BaseException.__getattribute__"))
 gt:findIn K (.ref C) "__getattr__"=some none
 cl:findIn K (.ref C) "__class__"=some (some (.builtin "object.__class__"))
 gs:specialIn K (.builtin "object.__class__") "__get__"=some (some (.builtin "getset_descriptor.__get__"))
 tk:takesIn K (.builtin "object.__class__")=some true
 ob:mroIn K C (.type "object")=some true
 be:mroIn K C (.type "BaseException")=some true
 is:∃cd,clsIn K C=some cd
end L2
namespace PySem
theorem rB{prog:Program}{w:World}{A:Around}(hh:A.handled=none){I l:Addr}(qd:I≠l)(items:Array Value):
  WalksS prog w A I [I,l] [I] (λa b=>a=b) items.size (λi v=>items[i]?=some v) (λi s=>s.heap.IsListIter I l i/\s.heap.IsList l items) where
 sub:=λb hb=>by simp at hb;simp[hb]
 grefl:=λ_=>rfl
 gtrans:=λ_ _ _ h1 h2=>h1.trans h2
 frame:=λi s h' tk st _ k=>by
  obtain⟨⟨o,e,c,d⟩,⟨o',e',c',n,d'⟩⟩:=st;exact⟨⟨o,k I (by simp) o e,c,d⟩,⟨o',k l (by simp) o' e',c',n,d'⟩⟩
 item:=λi s Q E hi st h=>by
  have hx:items[i]?=some items[i]:=by simp[hi]
  refine wpAny_pyNext_list_item st.1 st.2 hx λh' Dl sb=>h _ _ hx ⟨Dl,?_⟩ ⟨λb o hb e=>?_,rfl,rfl,rfl,fm _⟩
  ·obtain⟨o,e,r⟩:=st.2
   exact⟨o,(sb.2 l (λz=>qd z.symm)).trans e,r⟩
  ·have hb:b≠I:=by simpa using hb
   exact(sb.2 b hb).trans e
 done:=λs Q E st h=>by
  refine wpAny_pyNext_list_end hh st.1 st.2 (by simp) λh' eb=>h _ ⟨λb o hb e=>?_,rfl,rfl,rfl,fm _⟩;have hb:b≠I:=by simpa using hb
  exact eb b o hb e
 self:=λi s Q E st h=>wpAny_pyIter_listiter st.1 h
theorem cK(ys:List Int):∀j,j<=ys.length->preSum (λi=>ys.getD i 0) j=(ys.take j).sum
 |0,_=>rfl
 |j+1,h=>by
  have hj:j<ys.length:=by omega
  rw[show preSum (λi=>ys.getD i 0) (j+1)=preSum (λi=>ys.getD i 0) j+ys.getD j 0 from rfl,cK ys j (by omega),D4 hj,List.sum_append];simp[hj]
end PySem
namespace L2
open PySem PyProof.Rows
theorem lE:∀(ys:List Int),(∀y∈ys,-1000000<=y/\y<=1000000)->-(1000000*(ys.length:Int))<=ys.sum/\ys.sum<=1000000*(ys.length:Int)
 |[],_=>by simp
 |y::r,h=>by
  have h1:=h y (by simp);have h2:=lE r λz hz=>h z (by simp[hz]);simp only[List.sum_cons,gm]
  push_cast
  omega
theorem oR:∀{ys:List Int}{its:List Value},Vals (ys.map V.int) its->∀(i:Nat)(v:Value),its[i]?=some v->∃t,v=.int (ys.getD i 0) t:=by
 intro ys its r i v hv;have hl:=r.length;have hi:i<its.length:=(List.getElem?_eq_some_iff.mp hv).1;have hy:i<ys.length:=by simp at hl;omega
 obtain⟨u,hu,ru⟩:=r.get (i:=i) (x:=.int ys[i]) (by simp[hy]);rw[hu] at hv;cases hv;obtain⟨t,e⟩:=ru;exact⟨t,by rw[e];simp[hy]⟩
variable{X:Cx}
theorem kT(hc:X.calm=true):og X (.builtin "sum") (λxs H Q=>∃(p:Addr)(ys:List Int),xs=[.ref p]/\ki X.K H p (ys.map V.int)/\ys.length<=1000/\(∀y∈ys,-1000000<=y/\y<=1000000)/\Q (.int ys.sum) H):=by
 intro pins s σ H xs us Q I r h;obtain⟨p,ys,rfl,hq,hl,hs,q⟩:=h;obtain⟨u,rfl,rx⟩:=vals1 r;cases rx;obtain⟨its,r',pl,hz⟩:=I.list hq;have hlen:its.length=ys.length:=by have:=r'.length;simpa using this.symm
 refine call_sum_walkS (wpAny_pyIter_list pl.isList ?_);have qr:p<s.heap.objs.size:=by
  obtain⟨o,e,_⟩:=pl.isList;exact kc e
 have qd:s.heap.objs.size≠p:=by
  intro e;rw[e] at qr;exact Cj _ qr
 have hh:X.A.in1.handled=none:=I.ok.hd hc;refine⟨s.heap.objs.size,[s.heap.objs.size,p],[s.heap.objs.size],λa b=>a=b,its.toArray.size,λi v=>its.toArray[i]?=some v,λi z=>z.heap.IsListIter s.heap.objs.size p i/\z.heap.IsList p its.toArray,λi=>ys.getD i 0,rfl,rB hh qd its.toArray,⟨⟨_,Ab _ rfl,rfl,rfl⟩,?_⟩,?_,λi v hv=>oR r' i v (by simpa using hv),?_,?_⟩
 ·obtain⟨o,e,rest⟩:=pl.isList
  exact⟨o,qa _ e,rest⟩
 ·intro b hb
  have hz:(s.heap.push {cls:=Value.type "list_iterator",data:=Data.fields #[Value.ref p,Value.int 0 0]}).objs.size=s.heap.objs.size+1:=by simp[Heap.push]
  have hb:b=s.heap.objs.size\/b=p:=by simpa using hb
  show b<(s.heap.push {cls:=Value.type "list_iterator",data:=Data.fields #[Value.ref p,Value.int 0 0]}).objs.size;rw[hz];rcases hb with rfl|rfl
  ·exact Jg _
  ·exact Nat.lt_succ_of_lt qr
 ·intro j hj
  have Qt:j<ys.length:=by simpa[hlen] using hj
  have b1:=hs (ys.getD j 0) (by simp[Qt]);have b2:=lE (ys.take (j+1)) λy hy=>hs y (List.mem_of_mem_take hy);have b3:((ys.take (j+1)).length:Int)<=1000:=by simp;omega
  rw[cK ys (j+1) Qt];have c1:InLong (ys.getD j 0):=by constructor<;>omega
  have c2:InLong (ys.take (j+1)).sum:=by constructor<;>omega
  exact⟨c1,c2⟩
 ·intro s' t' mv
  have e:preSum (λi=>ys.getD i 0) its.toArray.size=ys.sum:=by
   rw[show its.toArray.size=ys.length by simpa using hlen,cK ys ys.length (fm _),Bk]
  rw[e];refine⟨.int ys.sum,H,?_,⟨t',rfl⟩,q⟩;have es:s'={s with heap:=s'.heap,toks:=s'.toks}:=by
   obtain⟨h',g',d',k',o'⟩:=s';have h1:=mv.gens;have h2:=mv.drawn;have h3:=mv.os;simp only at h1 h2 h3;subst h1 h2 h3;rfl
  rw[es];refine I.kept λb o e=>mv.heap b o ?_ (qa _ e);have hb:b<s.heap.objs.size:=kc e;intro z;have z:b=s.heap.objs.size:=by simpa using z
  rw[z] at hb;exact Cj _ hb
end L2
namespace L2
open PySem PyProof.Rows
variable{X:Cx}
end L2
namespace L2
open PySem PySem.Spec PyProof.Rows
variable{X:Cx}
end L2
namespace L2
open PySem PySem.Spec PyProof.Rows
end L2
namespace Py
noncomputable def sb(a b x:Int):Int:=if x=b then a else x
noncomputable def yh(a b:Int)(p:Int×Int):Int×Int:=(sb a b p.1,sb a b p.2)
noncomputable def DW:Nat->List (Int×Int)->Nat
 |n+1,(a,b)::r=>(if a=b then 1 else 0)+DW n (r.map (yh a b))
 |_,_=>0
noncomputable def rings(l:List (Int×Int)):Nat:=DW l.length l
noncomputable def cn{κ:Type}[DecidableEq κ]:List (κ×Int)->κ->Int->List (κ×Int)
 |[],k,n=>[(k,n)]
 |(a,m)::r,k,n=>if a=k then(a,m+n)::r else(a,m)::cn r k n
noncomputable def BH(t:List (Int×Int)):List (Int×Int):=t.foldl (λf x=>cn (cn f (x.1+2) (-x.2)) (x.1+ -2) (-x.2)) []
noncomputable def zf(f t:List (Int×Int)):List (Int×Int):=t.foldl (λf x=>cn f x.1 x.2) f
noncomputable def jq(f:List (Int×List (Int×Int)))(g:Int)(p n:Int):List (Int×List (Int×Int)):=match f with
 |[]=>[(g,cn [] p n)]
 |(a,t)::r=>if a=g then(a,cn t p n)::r else(a,t)::jq r g p n
noncomputable def q_:List (Int×List (Int×Int))->Int->List (Int×Int)
 |[],_=>[]
 |(a,t)::r,g=>if a=g then t else q_ r g
noncomputable def ins(x:Int):List Int->List Int
 |[]=>[x]
 |y::r=>if x<y then x::y::r else y::ins x r
noncomputable def sortI(l:List Int):List Int:=l.foldr ins []
noncomputable def r_(_:List Int):Bool:=false
noncomputable def qt(s:Int):List Int->Int->List (Int×Int)->List (Int×Int)
 |[],_,t=>t
 |x::xs,q,t=>qt s xs (q-4) (cn t q (x*s))
noncomputable abbrev Sx:=List (List Int)×Int
noncomputable abbrev Sk:=Sx×Int
noncomputable instance Xg:DecidableEq Sk:=λa b=>Classical.propDecidable (a=b)
noncomputable def xu(t:List (Sk×Int)):List (Int×List (Int×Int)):=t.foldl (λf x=>jq f x.1.1.2 x.1.2 x.2) []
noncomputable def EC(sp:Sx->Int->Option Sx):List (Sk×Int)->List (Sk×Int)->Option (List (Sk×Int))
 |[],f=>some f
 |x::r,f=>(sp x.1.1 0).bind λs0=>(sp x.1.1 1).bind λs1=>EC sp r (cn (cn f (s0,x.1.2+1) x.2) (s1,x.1.2+ -1) x.2)
noncomputable def zg(sp:Sx->Int->Option Sx):Nat->List (Sk×Int)->Option (List (Sk×Int))
 |0,t=>some t
 |n+1,t=>(EC sp t []).bind λt'=>if t'.length<=5000 then zg sp n t' else none
noncomputable def A7(b:Int->List (Int×Int)):Nat->List (Int×Int)->Option (List (Int×Int))
 |0,f=>some f
 |n+1,f=>if(BH f).length<=5000/\(zf (BH f) (b n)).length<=5000 then A7 b n (zf (BH f) (b n)) else none
inductive D where
 |cx|bl (b:Bool)|int (i:Int)|str (x:List Nat)
 |tup (xs:List D)|lst (xs:List D)|gb (ks:List Int) (vs:List D)|Ah (c:Nat)|gu (ns:List Int)
inductive R(α:Type) where
 |ok (a:α)|exc (c:Nat)|bad
noncomputable def R.bind{α β:Type}(r:R α)(f:α->R β):R β:=match r with
 |.ok a=>f a|.exc c=>.exc c|.bad=>.bad
@[simp] theorem R.my {α β : Type} (a : α) (f : α -> R β) : (R.ok a).bind f = f a := rfl
@[simp] theorem R.Ot {α β : Type} (c : Nat) (f : α -> R β) : (R.exc c : R α).bind f = .exc c := rfl
noncomputable def R.quiet{α:Type}:R α->R α
 |.exc _=>.bad
 |r=>r
@[simp] theorem R.zh {α : Type} (a : α) : (R.ok a).quiet = .ok a := rfl
@[simp] theorem R.Ou {α β : Type} (f : α -> R β) : (R.bad : R α).bind f = .bad := rfl
noncomputable abbrev gx:Nat:=100000
mutual
noncomputable def e_:D->D->Bool
 |.cx,.cx=>true
 |.bl a,.bl b=>a==b
 |.int a,.int b=>a==b
 |.bl a,.int b=>(if a then 1 else 0)==b
 |.int a,.bl b=>a==(if b then 1 else 0)
 |.str a,.str b=>a==b
 |.tup a,.tup b=>nr a b
 |.lst a,.lst b=>nr a b
 |_,_=>false
noncomputable def nr:List D->List D->Bool
 |[],[]=>true
 |a::as,b::bs=>e_ a b&&nr as bs
 |_,_=>false
end
mutual
noncomputable def dj(n:Nat):D->Bool
 |.tup a=>decide (0<n)&&nt (n-1) a
 |.lst a=>decide (0<n)&&nt (n-1) a
 |.gb _ _=>false
 |.Ah _=>false
 |.gu _=>false
 |_=>true
noncomputable def nt(n:Nat):List D->Bool
 |[]=>true
 |a::as=>dj n a&&nt n as
end
noncomputable def flat:D->Bool
 |.cx=>true|.bl _=>true|.int _=>true|.str _=>true
 |_=>false
noncomputable def Ca(n:Nat)(i:Int):Option Nat:=if 0<=i then(if i<n then some i.toNat else none) else if-(n:Int)<=i then some (i+n).toNat else none
noncomputable def rn{α:Type}(xs:List α)(i:Int):Option α:=(Ca xs.length i).bind λj=>xs[j]?
noncomputable def d_(n d:Nat):Option Int->Nat
 |none=>d
 |some i=>if i<0 then(i+(n:Int)).toNat else min i.toNat n
noncomputable def cut{α:Type}(xs:List α)(lo hi:Option Int):List α:=(xs.drop (d_ xs.length 0 lo)).take (d_ xs.length xs.length hi-d_ xs.length 0 lo)
inductive T2 where
 |not|neg|len|list|tuple|isNone|isNotNone|isInt|isBool|isTup|zi|sum|all|sorted
inductive T3 where
 |add|sub|mul|mod|fdiv|pow|eq|ne|lt|le|gt|ge|isIn|kj|at|index|max
noncomputable def truth:D->R Bool
 |.cx=>.ok false
 |.bl b=>.ok b
 |.int i=>.ok (decide (i≠0))
 |.str _=>.bad
 |.tup xs=>.ok (!xs.isEmpty)
 |.lst xs=>.ok (!xs.isEmpty)
 |.gb _ _=>.bad
 |.Ah _=>.bad
 |.gu _=>.bad
noncomputable def vh:Option D->R D
 |some d=>.ok d
 |none=>.bad
noncomputable def mz:List Int->List D->Int->Option D
 |k::ks,v::vs,i=>if k=i then some v else mz ks vs i
 |_,_,_=>none
noncomputable def A8:List D->Option Int
 |[]=>some 0
 |.int i::r=>(A8 r).map (i+·)
 |_=>none
noncomputable def RS:D->Bool
 |.bl _=>true
 |_=>false
noncomputable def tf:D->Bool
 |.int i=>decide (-1000000<=i/\i<=1000000)
 |_=>false
noncomputable def allB:List D->Option Bool
 |[]=>some true
 |.bl b::r=>if b then allB r else some false
 |_=>none
noncomputable def intsOf:List D->Option (List Int)
 |[]=>some []
 |.int i::r=>(intsOf r).map (i::·)
 |_=>none
noncomputable def jf(x:Int)(r:List Int):Int:=r.foldl (λa b=>if b>a then b else a) x
noncomputable def bb:T2->D->R D
 |.not,d=>(truth d).bind λb=>.ok (.bl (!b))
 |.neg,.int i=>.ok (.int (-i))
 |.len,.lst xs=>.ok (.int xs.length)
 |.len,.tup xs=>.ok (.int xs.length)
 |.len,.gu xs=>.ok (.int xs.length)
 |.list,.lst xs=>.ok (.lst xs)
 |.list,.tup xs=>.ok (.lst xs)
 |.tuple,.lst xs=>.ok (.tup xs)
 |.tuple,.tup xs=>.ok (.tup xs)
 |.isNone,.cx=>.ok (.bl true)
 |.isNone,d=>if dj 1000 d then .ok (.bl false) else .bad
 |.isNotNone,.cx=>.ok (.bl false)
 |.isNotNone,d=>if dj 1000 d then .ok (.bl true) else .bad
 |.isInt,.int _=>.ok (.bl true)
 |.isInt,.bl _=>.ok (.bl true)
 |.isInt,d=>if dj 1000 d then .ok (.bl false) else .bad
 |.isBool,.bl _=>.ok (.bl true)
 |.isBool,d=>if dj 1000 d then .ok (.bl false) else .bad
 |.isTup,d=>if dj 1000 d then .ok (.bl (match d with|.tup _=>true|_=>false)) else .bad
 |.zi,d=>if dj 1000 d then .ok (.bl (match d with|.lst _=>true|_=>false)) else .bad
 |.sum,.lst xs=>if xs.length<=1000/\xs.all tf=true then vh ((A8 xs).map .int) else .bad
 |.all,.lst xs=>if xs.all RS=true then vh ((allB xs).map .bl) else .bad
 |.sorted,.gb ks _=>if ks.length<64\/r_ ks=true then .ok (.lst ((sortI ks).map .int)) else .bad
 |_,_=>.bad
noncomputable def inD(x:D)(xs:List D):Bool:=xs.any λy=>e_ y x
noncomputable def zj(x:D):List D->Option Nat
 |[]=>none
 |y::r=>if e_ y x then some 0 else(zj x r).map (· +1)
noncomputable def isin(x:D):D->R Bool
 |.lst xs=>if flat x&&xs.all flat then .ok (inD x xs) else .bad
 |.tup xs=>if flat x&&xs.all flat then .ok (inD x xs) else .bad
 |_=>.bad
noncomputable def Bm:D->D->Bool
 |.tup _,.tup _=>true
 |.lst _,.lst _=>true
 |.int _,.int _=>true
 |.bl _,.bl _=>true
 |.str _,.str _=>true
 |_,_=>false
noncomputable def ae:T3->D->D->R D
 |.add,.int i,.int j=>.ok (.int (i+j))
 |.add,.lst a,.lst b=>if a.length+b.length<=gx then .ok (.lst (a++b)) else .bad
 |.add,.tup a,.tup b=>if a.length+b.length<=gx then .ok (.tup (a++b)) else .bad
 |.sub,.int i,.int j=>.ok (.int (i-j))
 |.mul,.int i,.int j=>if(-(2^64)<i/\i<2^64)\/(-(2^64)<j/\j<2^64) then .ok (.int (i*j)) else .bad
 |.mod,.int i,.int j=>if 0<j then .ok (.int (i%j)) else .bad
 |.fdiv,.int i,.int j=>if 0<j/\j<1073741824 then .ok (.int (i/j)) else .bad
 |.pow,.int i,.int j=>if 0<=j/\j<=1000000/\i.natAbs<2^64 then .ok (.int (i^j.toNat)) else .bad
 |.eq,a,b=>if dj 9 a&&dj 9 b&&Bm a b then .ok (.bl (e_ a b)) else .bad
 |.ne,a,b=>if dj 9 a&&dj 9 b&&Bm a b then .ok (.bl (!e_ a b)) else .bad
 |.lt,.int i,.int j=>.ok (.bl (decide (i<j)))
 |.le,.int i,.int j=>.ok (.bl (decide (i<=j)))
 |.gt,.int i,.int j=>.ok (.bl (decide (j<i)))
 |.ge,.int i,.int j=>.ok (.bl (decide (j<=i)))
 |.isIn,x,y=>(isin x y).bind λb=>.ok (.bl b)
 |.kj,x,y=>(isin x y).bind λb=>.ok (.bl (!b))
 |.at,.lst xs,.int i=>vh (rn xs i)
 |.at,.tup xs,.int i=>vh (rn xs i)
 |.at,.gu xs,.int i=>vh ((rn xs i).map .int)
 |.index,.lst xs,x=>if flat x&&xs.all flat then vh ((zj x xs).map λn=>.int n) else .bad
 |.max,.int i,.int j=>.ok (.int (if j>i then j else i))
 |_,_,_=>.bad
noncomputable def xv(x:D)(l h:Option Int):R D:=match x with
 |.lst xs=>.ok (.lst (cut xs l h))
 |.tup xs=>.ok (.tup (cut xs l h))
 |.str x=>if x.length<=gx then .ok (.str (cut x l h)) else .bad
 |_=>.bad
noncomputable def G':D->R (Option Int)
 |.int i=>.ok (some i)
 |_=>.bad
inductive AL where
 |seq|g_|enum
mutual
inductive Ex where
 |var (i:Nat)
 |cst (d:D)
 |glob (g:Nat)
 |bb (o:T2) (a:Ex)
 |ae (o:T3) (a b:Ex)
 |not (a:Ex)
 |and (a b:Ex)
 |or (a b:Ex)
 |ite (c:Tx) (a b:Ex)
 |tup (es:List Ex)
 |lst (es:List Ex)
 |xv (a:Ex) (lo hi:Option Ex)
 |call (f:Nat) (es:List Ex)
 |Ll (it:Ex) (caps:List Nat) (f:Nat) (es:List Ex)
 |comp (k:AL) (its:List Ex) (caps:List Nat) (ntg:Nat) (cond:Option Tx) (elt:Ex)
 |get (a b c:Ex)
 |om (a b:Ex)
 |Cb (neg:Bool) (x a:Ex)
 |yi (a:Ex)
inductive Tx where
 |leaf (e:Ex)
 |not (a:Tx)
 |and (a b:Tx)
 |or (a b:Tx)
end
noncomputable abbrev Slot:=Option (Bool×D)
noncomputable abbrev gk:=List Slot
noncomputable def bx(δ:gk)(i:Nat):R D:=match δ[i]? with
 |some (some (false,d))=>.ok d
 |_=>.bad
noncomputable def cg(δ:gk)(i:Nat):R D:=match δ[i]? with
 |some (some (_,d))=>.ok d
 |_=>.bad
noncomputable def cj(lo:Int)(n:Nat):List D:=(List.range n).map λ(k:Nat)=>D.int (lo+k)
noncomputable def gg(n:Nat):List D->List D
 |[]=>[]
 |x::r=>.tup [.int n,x]::gg (n+1) r
noncomputable def A9:AL->List D->R (List D)
 |.seq,[.lst xs]=>.ok xs
 |.seq,[.tup xs]=>.ok xs
 |.g_,[.int n]=>if-gx<=n/\n<=gx then .ok (cj 0 n.toNat) else .bad
 |.enum,[.tup xs]=>.ok (gg 0 xs)
 |_,_=>.bad
noncomputable def a_(k:AL)(ss:List D):R (List D):=(A9 k ss).bind λxs=>if xs.length<=gx then .ok xs else .bad
noncomputable def spread:Nat->D->Option (List D)
 |1,d=>some [d]
 |n+2,.tup xs=>if xs.length=n+2 then some xs else none
 |_,_=>none
noncomputable def dk(δ:gk)(caps:List Nat):gk:=caps.map λi=>(δ[i]?).getD none
noncomputable def ji(f:D->R (Option D)):List D->R (List D)
 |[]=>.ok []
 |x::r=>(f x).bind λo=>(ji f r).bind λys=>.ok (match o with|some y=>y::ys|none=>ys)
noncomputable def Dp:D->R Bool
 |.bl b=>.ok b
 |_=>.bad
section
variable(Φ:Nat->List D->R D)(G:List D)
mutual
noncomputable def ev(m:Bool):Ex->gk->R D
 |.var i,δ=>if m then cg δ i else bx δ i
 |.cst d,_=>.ok d
 |.glob g,_=>vh G[g]?
 |.bb o a,δ=>(ev true a δ).bind λx=>bb o x
 |.ae o a b,δ=>(ev true a δ).bind λx=>(ev true b δ).bind λy=>ae o x y
 |.not a,δ=>(ev true a δ).bind λx=>(Dp x).bind λt=>.ok (.bl (!t))
 |.and a b,δ=>(ev true a δ).bind λx=>(Dp x).bind λt=>if t then ev false b δ else .ok (.bl false)
 |.or a b,δ=>(ev true a δ).bind λx=>(Dp x).bind λt=>if t then .ok (.bl true) else ev false b δ
 |.ite c a b,δ=>(fe c δ).bind λt=>if t then ev false a δ else ev false b δ
 |.tup es,δ=>(cv false es δ).bind λxs=>.ok (.tup xs)
 |.lst es,δ=>(cv false es δ).bind λxs=>.ok (.lst xs)
 |.xv a lo hi,δ=>(ev true a δ).bind λx=>(Cc lo δ).bind λl=>(Cc hi δ).bind λh=>xv x l h
 |.call f es,δ=>(cv false es δ).bind λxs=>Φ f xs
 | .Ll it caps f es,δ=>(ev true it δ).bind λs=>(a_ .seq [s]).bind λxs=>
   (ji (λx=>(cv false es (some (false,x)::dk δ caps)).bind λas=>(Φ f as).bind λy=>.ok (some y)) xs).bind λys=>.ok (.lst ys)
 | .comp k its caps ntg cond elt,δ=>(cv true its δ).bind λss=>(a_ k ss).bind λxs=>
   (ji (λx=>match spread ntg x with
    |none=>.bad
    |some ts=>
     (AM cond (ts.map (λt=>some (false,t))++dk δ caps)).bind λb=>
      if b then(ev false elt (ts.map (λt=>some (false,t))++dk δ caps)).bind λy=>.ok (some y) else .ok none) xs).quiet.bind λys=>.ok (.lst ys)
 | .get a b c,δ=>(ev true a δ).bind λx=>(ev true b δ).bind λy=>(ev false c δ).bind λz=>match x,y with
   |.gb ks vs,.int i=>.ok ((mz ks vs i).getD z)
   |_,_=>.bad
 | .om a b,δ=>(ev true a δ).bind λx=>(ev true b δ).bind λy=>match x,y with
   |.gb ks vs,.int i=>vh (mz ks vs i)
   |_,_=>.bad
 | .Cb neg b a,δ=>(ev true b δ).bind λy=>(ev true a δ).bind λx=>match x,y with
   |.gb ks _,.int i=>.ok (.bl (if neg then !decide (i∈ks) else decide (i∈ks)))
   |_,_=>.bad
 | .yi a,δ=>(ev true a δ).bind λx=>match x with
   |.gb ks _=>.ok (.int ks.length)
   |_=>.bad
noncomputable def cv(m:Bool):List Ex->gk->R (List D)
 |[],_=>.ok []
 |e::es,δ=>(ev m e δ).bind λx=>(cv m es δ).bind λxs=>.ok (x::xs)
noncomputable def Cc:Option Ex->gk->R (Option Int)
 |none,_=>.ok none
 |some e,δ=>(ev true e δ).bind λx=>G' x
noncomputable def AM:Option Tx->gk->R Bool
 |none,_=>.ok true
 |some c,δ=>fe c δ
noncomputable def fe:Tx->gk->R Bool
 |.leaf e,δ=>(ev true e δ).bind λx=>truth x
 |.not a,δ=>(fe a δ).bind λt=>.ok (!t)
 |.and a b,δ=>(fe a δ).bind λt=>if t then fe b δ else .ok false
 |.or a b,δ=>(fe a δ).bind λt=>if t then .ok true else fe b δ
end
end
mutual
noncomputable def aa(m:Bool):Ex->List Nat
 |.var i=>if m then[] else[i]
 |.bb _ a=>aa true a
 |.ae _ a b=>aa true a++aa true b
 |.not a=>aa true a
 |.and a b=>aa true a++aa false b
 |.or a b=>aa true a++aa false b
 |.ite c a b=>aj c++aa false a++aa false b
 |.tup es=>ag false es
 |.lst es=>ag false es
 |.xv a l h=>aa true a++nu l++nu h
 |.call _ es=>ag false es
 |.Ll it caps _ es=>aa true it++((ag false es).filterMap λi=>if i<1 then none else caps[i-1]?)
 |.comp _ its caps n cond elt=>ag true its++((qu cond++aa false elt).filterMap λi=>if i<n then none else caps[i-n]?)
 |.get a b c=>aa true a++aa true b++aa false c
 |.om a b=>aa true a++aa true b
 |.Cb _ a b=>aa true a++aa true b
 |.yi a=>aa true a
 |_=>[]
noncomputable def ag(m:Bool):List Ex->List Nat
 |[]=>[]
 |e::es=>aa m e++ag m es
noncomputable def nu:Option Ex->List Nat
 |none=>[]
 |some e=>aa true e
noncomputable def qu:Option Tx->List Nat
 |none=>[]
 |some c=>aj c
noncomputable def aj:Tx->List Nat
 |.leaf e=>aa true e
 |.not a=>aj a
 |.and a b=>aj a++aj b
 |.or a b=>aj a++aj b
end
noncomputable def cq(δ:gk)(i:Nat):gk:=match δ[i]? with
 |some (some (true,.lst xs))=>δ.set i (some (false,.lst xs))
 |some (some (true,.gb ks vs))=>δ.set i (some (false,.gb ks vs))
 |_=>δ
noncomputable def av:List Nat->gk->gk
 |[],δ=>δ
 |i::is,δ=>av is (cq δ i)
noncomputable def bj:Ex->Bool
 |.lst _=>true
 |.comp .. =>true
 |.Ll .. =>true
 |.bb .list _=>true
 |.ae .add _ _=>true
 |.xv .. =>true
 |_=>false
noncomputable def ay:D->Bool
 |.lst _=>true
 |_=>false
inductive Sm where
 |new (i:Nat)
 |asg (i:Nat) (e:Ex)
 |put (i:Nat) (ix e:Ex)
 |dput (i:Nat) (ix e:Ex)
 |app (i:Nat) (e:Ex)
 |ret (e:Ex)
 |ite (c:Tx) (a b:List Sm)
 |loop (k:AL) (its:List Ex) (tg:List Nat) (body:List Sm)
 |Cd (c:Tx) (body:List Sm)
 |Lm (c:Nat)
 |RT (body:List Sm) (cs:List Nat) (as:Option Nat) (h:List Sm)
 |pass
 |pow (i j f:Nat)
 |ED (i f:Nat) (p r:Ex)
 |DW
inductive Out where
 |nx (δ:gk)|bk (δ:gk)|ct (δ:gk)|rt (d:D)|xc (c:Nat) (δ:gk)|bad
noncomputable def Out.of{α:Type}(r:R α)(δ:gk)(f:α->Out):Out:=match r with
 |.ok a=>f a|.exc c=>.xc c δ|.bad=>.bad
@[simp] theorem Out.of_ok {α : Type} (a : α) (δ : gk) (f : α -> Out) : Out.of (.ok a) δ f = f a := rfl
@[simp] theorem Out.Ln {α : Type} (c : Nat) (δ : gk) (f : α -> Out) : Out.of (.exc c : R α) δ f = .xc c δ := rfl
@[simp] theorem Out.RU {α : Type} (δ : gk) (f : α -> Out) : Out.of (.bad : R α) δ f = .bad := rfl
noncomputable def sets(δ:gk):List Nat->List D->gk
 |i::is,d::ds=>sets (δ.set i (some (false,d))) is ds
 |_,_=>δ
noncomputable def forM(f:D->gk->Out):List D->gk->Out
 |[],δ=>.nx δ
 |x::r,δ=>match f x δ with
  |.nx δ'=>forM f r δ'
  |.ct δ'=>forM f r δ'
  |.bk δ'=>.nx δ'
  |.rt d=>.rt d
  |_=>.bad
noncomputable def A_(c:gk->R Bool)(fz:gk->gk)(b:gk->Out):Nat->gk->Out
 |0,_=>.bad
 |n+1,δ=>match c (fz δ) with
  |.ok true=>(match b (fz δ) with
   |.nx δ'=>A_ c fz b n δ'
   |.ct δ'=>A_ c fz b n δ'
   |.bk δ'=>.nx δ'
   |.rt d=>.rt d
   |_=>.bad)
  |.ok false=>.nx (fz δ)
  |_=>.bad
noncomputable def putD(δ:gk)(i:Nat)(k v:D):Out:=match δ[i]?,k with
 |some (some (true,.lst xs)),.int j=>match Ca xs.length j with
  |some n=>.nx (δ.set i (some (true,.lst (xs.set n v))))
  |none=>.bad
 |_,_=>.bad
noncomputable def Dq:List Int->List D->Int->D->List D
 |k::ks,v::vs,j,x=>(if k=j then x else v)::Dq ks vs j x
 |_,_,_,_=>[]
noncomputable def AO(δ:gk)(i:Nat)(k v:D):Out:=match δ[i]?,k with
 |some (some (true,.gb ks vs)),.int j=>if ks.length<gx then(if j∈ks then .nx (δ.set i (some (true,.gb ks (Dq ks vs j v)))) else .nx (δ.set i (some (true,.gb (ks++[j]) (vs++[v]))))) else .bad
 |_,_=>.bad
noncomputable def tj(δ:gk)(i:Nat):Bool:=match δ[i]? with
 |some (some (true,.lst _))=>true
 |_=>false
noncomputable def Dr(δ:gk)(i:Nat):Bool:=match δ[i]? with
 |some (some (true,.gb _ _))=>true
 |_=>false
noncomputable def Cv(δ:gk)(i:Nat)(v:D):Out:=match δ[i]? with
 |some (some (true,.lst xs))=>if xs.length<gx then .nx (δ.set i (some (true,.lst (xs++[v])))) else .bad
 |_=>.bad
noncomputable def v_(r:List Int):D:=.lst (r.map .int)
noncomputable def Ai(old new:Int)(r:List Int):List Int:=r.map λx=>if x=old then new else x
noncomputable def gy:List D->Option (List Int)
 |[]=>some []
 |.int i::r=>(gy r).map (i::·)
 |_=>none
noncomputable def ft:List D->Option (List (List Int))
 |[]=>some []
 |.tup xs::r=>(gy xs).bind λq=>(ft r).map (q::·)
 |_=>none
noncomputable def qv:R D->Option (List (List Int))
 |.ok (.lst xs)=>ft xs
 |_=>none
noncomputable def unset(δ:gk)(i:Nat):Bool:=match δ[i]? with
 |some none=>true
 |_=>false
noncomputable def jy(t:List (Int×Int)):D:=.gb (t.map (·.1)) (t.map λx=>.int x.2)
noncomputable def tabOf(ks:List Int)(vs:List D):Option (List (Int×Int)):=(intsOf vs).bind λxs=>if ks.length=xs.length then some (ks.zip xs) else none
noncomputable def m_:D->Option Sx
 |.tup [.tup rows,.int g]=>(ft rows).map λr=>(r,g)
 |_=>none
noncomputable def oq(r:List Int):D:=.tup (r.map .int)
noncomputable def fk(s:Sx):D:=.tup [.tup (s.1.map oq),.int s.2]
noncomputable def Nb{α:Type}:R α->Option α
 |.ok a=>some a
 |_=>none
noncomputable def BI(Φ:Nat->List D->R D)(f:Nat)(d:D):Option D:=
 (m_ d).bind λs=>(zg (λs w=>(Nb (Φ f [fk s,.int 0,.int w])).bind m_) s.1.length [((s,0),1)]).bind λt=>
  match(xu t).map (·.1) with
  |[]=>none
  |x::r=>if r.length<=900/\-1<=jf x r/\jf x r<=5000 then(A7 (q_ (xu t)) (jf x r+1).toNat []).map jy else none
noncomputable def xw(Φ:Nat->List D->R D)(f:Nat)(t:List (Int×Int))(p r:Int):Option (List (Int×Int)):=match Φ f [.int r] with
 |.ok (.lst row)=>(intsOf row).bind λrow=>if(t.map (·.1)).Nodup/\row.length<=5000/\(qt (1-2*(r%2)) row (p+2*r) t).length<=5000 then some (qt (1-2*(r%2)) row (p+2*r) t) else none
 |_=>none
noncomputable def EE(Φ:Nat->List D->R D)(f:Nat)(δ:gk)(i:Nat)(p r:R D):Out:=match δ[i]?,p,r with
 |some (some (true,.gb ks vs)),.ok (.int p),.ok (.int r)=>(match(tabOf ks vs).bind λt=>xw Φ f t p r with
  |some t=>.nx (δ.set i (some (true,jy t)))
  |none=>.bad)
 |_,_,_=>.bad
noncomputable def i_:List (List Int)->Option (List (Int×Int))
 |[]=>some []
 |[a,b]::r=>(i_ r).map ((a,b)::·)
 |_=>none
noncomputable def Ds(δ:gk):Out:=match(qv (bx δ 0)).bind i_ with
 |some l=>if δ.length=6/\l.length<=900 then .rt (.int (rings l)) else .bad
 |none=>.bad
section
variable(Φ:Nat->List D->R D)(G:List D)(n:Nat)
mutual
noncomputable def bg:Sm->gk->Out
 |.new i,δ=>.nx (δ.set i (some (true,.gb [] [])))
 |.asg i e,δ=>Out.of (ev Φ G false e (av (aa false e) δ)) (av (aa false e) δ) λd=>.nx ((av (aa false e) δ).set i (some (bj e&&ay d,d)))
 | .put i ix e,δ=>if tj (av (aa false e++aa true ix) δ) i then Out.of (ev Φ G false e (av (aa false e++aa true ix) δ)) (av (aa false e++aa true ix) δ) λv=>
   Out.of (ev Φ G true ix (av (aa false e++aa true ix) δ)) (av (aa false e++aa true ix) δ) λk=>putD (av (aa false e++aa true ix) δ) i k v else .bad
 | .dput i ix e,δ=>if Dr (av (aa false e++aa true ix) δ) i then Out.of (ev Φ G false e (av (aa false e++aa true ix) δ)) (av (aa false e++aa true ix) δ) λv=>
   Out.of (ev Φ G true ix (av (aa false e++aa true ix) δ)) (av (aa false e++aa true ix) δ) λk=>AO (av (aa false e++aa true ix) δ) i k v else .bad
 |.app i e,δ=>if tj (av (aa false e) δ) i then Out.of (ev Φ G false e (av (aa false e) δ)) (av (aa false e) δ) λv=>Cv (av (aa false e) δ) i v else .bad
 |.ret e,δ=>Out.of (ev Φ G false e (av (aa false e) δ)) (av (aa false e) δ) λd=>.rt d
 |.ite c a b,δ=>Out.of (fe Φ G c (av (aj c) δ)) (av (aj c) δ) λt=>if t then ao a (av (aj c) δ) else ao b (av (aj c) δ)
 | .loop k its tg body,δ=>Out.of ((cv Φ G false its (av (ag false its) δ)).bind (a_ k)).quiet (av (ag false its) δ) λxs=>
   forM (λx δ'=>match spread tg.length x with
    |none=>.bad
    |some ts=>ao body (sets δ' tg ts)) xs (av (ag false its) δ)
 |.Cd c body,δ=>A_ (fe Φ G c) (av (aj c)) (ao body) n δ
 |.Lm c,δ=>.xc c δ
 | .RT body cs as h,δ=>match ao body δ with
   | .xc c' δ'=>if cs.contains c' then(match as with
     |none=>(match ao h δ' with
      |.xc _ _=>.bad
      |o=>o)
     |some i=>match ao h (δ'.set i (some (false,.Ah c'))) with
      |.nx RV=>.nx (RV.set i none)
      |.rt d=>.rt d
      |_=>.bad) else .bad
   |o=>o
 |.pass,δ=>.nx δ
 |.pow i j f,δ=>(match(Nb (bx δ j)).bind (BI Φ f) with
  |some r=>.nx (δ.set i (some (false,r)))
  |none=>.bad)
 |.ED i f p r,δ=>EE Φ f (av (aa false p++aa false r) δ) i (ev Φ G false p (av (aa false p++aa false r) δ)) (ev Φ G false r (av (aa false p++aa false r) δ))
 |.DW,δ=>Ds δ
noncomputable def ao:List Sm->gk->Out
 |[],δ=>.nx δ
 |s::ss,δ=>match bg s δ with
  |.nx δ'=>ao ss δ'
  |o=>o
end
end
structure Fn where
 np:Nat
 ns:Nat
 body:List Sm
noncomputable def tm(F:Fn)(ds:List D):gk:=ds.map (λd=>some (false,d))++List.replicate (F.ns-F.np) none
noncomputable def Out.val:Out->R D
 |.nx _=>.ok .cx
 |.rt d=>.ok d
 |.xc c _=>.exc c
 |_=>.bad
structure Prog where
 fns:List Fn
 dv:List D
noncomputable def bc(P:Prog):Nat->Nat->List D->R D
 |0,_,_=>.bad
 |k+1,f,ds=>match P.fns[f]? with
  |some F=>if ds.length=F.np then(ao (bc P k) P.dv 1000 F.body (tm F ds)).val else .bad
  |none=>.bad
end Py
namespace L2.Snd
open PySem PySem.Spec PyProof.Rows L2 Py
noncomputable def Ov(a C:Addr):HO:=.ext λh=>∃o,h.get? a=some o/\o.cls=.ref C/\o.dict=none/\∃vs,o.data=.fields vs
def Nc(K:PySem.W.Frag)(H:Hp)(a:Addr)(xs:List V):Prop:=
 (∃o,H a=some (.av o (.lst xs)))\/
  ∃(o:Obj)(its:Array Value)(n:Nat),K.lookup a=some o/\o.cls=.type "list"/\o.dict=none/\o.data=.seq its n/\its.size<=sizeLine/\Vals xs its.toList
theorem Nc.T5{K:PySem.W.Frag}(h:Nc K H a xs):ki K H a xs:=h.elim (λ⟨o,e⟩=>.inl (.inr ⟨o,e⟩)) .inr
section
variable(K:PySem.W.Frag)(cl:Nat->Addr)(F:Addr->Prop)(H:Hp)
mutual
noncomputable def Rep:D->V->Prop
 |.cx,v=>v=.cx
 |.bl b,v=>v=.bl b
 |.int i,v=>v=.int i
 |.str x,v=>v=.str ⟨x.toArray⟩
 |.tup xs,v=>∃a vs,v=.ref a/\ju K H a vs/\au xs vs
 |.lst xs,v=>∃a vs,v=.ref a/\F a/\H a=some (.lst vs)/\au xs vs
 |.gb ks ds,v=>∃(a:Addr)(kvs:List (Key×V)),v=.ref a/\F a/\H a=some (.dK kvs)/\kvs.map (·.1)=ks.map Sum.inl/\au ds (kvs.map (·.2))
 |.Ah c,v=>∃a,v=.ref a/\F a/\H a=some (Ov a (cl c))
 |.gu ns,v=>∃a,v=.ref a/\Nc K H a (ns.map V.int)
noncomputable def au:List D->List V->Prop
 |[],vs=>vs=[]
 |d::ds,vs=>∃v r,vs=v::r/\Rep d v/\au ds r
end
def Own(d:D)(a:Addr):Prop:=match d with
 |.lst xs=>∃vs,H a=some (.lst vs)/\au K cl F H xs vs
 |.gb ks ds=>∃kvs:List (Key×V),H a=some (.dK kvs)/\kvs.map (·.1)=ks.map Sum.inl/\au K cl F H ds (kvs.map (·.2))
 |_=>False
def Got(d:D)(v:V):Prop:=Rep K cl F H d v\/∃p,v=.ref p/\Own K cl F H d p
end
structure gq(F:Addr->Prop)(H H':Hp):Prop where
 fr:∀a o,F a->H a=some o->H' a=some o
 tp:∀a xs,H a=some (.tup xs)->H' a=some (.tup xs)
 fz:∀a o u,H a=some (.av o u)->H' a=some (.av o u)
theorem gq.of_same(h:iw H H'):gq F H H':=⟨λa o _ e=>h a o e,λa xs e=>h a _ e,λa o u e=>h a _ e⟩
theorem gq.upd(hp:¬F p)(ht:∀xs,H p≠some (.tup xs))(hf:∀o u,H p≠some (.av o u)):gq F H (upd H p o):=by
 refine⟨λa o' fa e=>?_,λa xs e=>?_,λa o' u e=>?_⟩
 ·rw[aA (by rintro rfl;exact hp fa)];exact e
 ·rw[aA (by rintro rfl;exact ht xs e)];exact e
 ·rw[aA (by rintro rfl;exact hf o' u e)];exact e
theorem gq.JE{K:PySem.W.Frag}(P:gq F H H')(h:ju K H a xs):ju K H' a xs:=by
 rcases h with(h|⟨o,h⟩)|h
 ·exact .inl (.inl (P.tp _ _ h))
 ·exact .inl (.inr ⟨o,P.fz _ _ _ h⟩)
 ·exact .inr h
theorem gq.VB{K:PySem.W.Frag}(P:gq F H H')(h:Nc K H a xs):Nc K H' a xs:=by
 rcases h with⟨o,h⟩|h
 ·exact .inl ⟨o,P.fz _ _ _ h⟩
 ·exact .inr h
section
variable{K:PySem.W.Frag}{cl:Nat->Addr}{F F':Addr->Prop}{H H':Hp}
mutual
theorem Rep.mono(P:gq F H H')(s:∀a,F a->F' a):∀{d:D}{v:V},Rep K cl F H d v->Rep K cl F' H' d v
 |.cx,_,h=>by simpa[Rep] using h
 |.bl _,_,h=>by simpa[Rep] using h
 |.int _,_,h=>by simpa[Rep] using h
 |.str _,_,h=>by simpa[Rep] using h
 |.tup xs,_,h=>by
  simp only[Rep] at h⊢;obtain⟨a,vs,e,q,r⟩:=h;exact⟨a,vs,e,P.JE q,au.mono P s r⟩
 |.lst xs,_,h=>by
  simp only[Rep] at h⊢;obtain⟨a,vs,e,fa,q,r⟩:=h;exact⟨a,vs,e,s a fa,P.fr _ _ fa q,au.mono P s r⟩
 |.gb _ _,_,h=>by
  simp only[Rep] at h⊢;obtain⟨a,kvs,e,fa,q,k,r⟩:=h;exact⟨a,kvs,e,s a fa,P.fr _ _ fa q,k,au.mono P s r⟩
 |.Ah c,_,h=>by
  simp only[Rep] at h⊢;obtain⟨a,e,fa,q⟩:=h;exact⟨a,e,s a fa,P.fr _ _ fa q⟩
 |.gu ns,_,h=>by
  simp only[Rep] at h⊢;obtain⟨a,e,q⟩:=h;exact⟨a,e,P.VB q⟩
theorem au.mono(P:gq F H H')(s:∀a,F a->F' a):∀{ds:List D}{vs:List V},au K cl F H ds vs->au K cl F' H' ds vs
 |[],_,h=>by simpa[au] using h
 |d::ds,_,h=>by
  simp only[au] at h⊢;obtain⟨v,r,e,h1,h2⟩:=h;exact⟨v,r,e,Rep.mono P s h1,au.mono P s h2⟩
end
theorem Own.mono(h:Own K cl F H d a)(P:gq F H H')(s:∀a,F a->F' a)(ha:H' a=H a):Own K cl F' H' d a:=by
 cases d with
 |lst xs=>obtain⟨vs,e,r⟩:=h;exact⟨vs,ha.trans e,r.mono P s⟩
 |gb ks ds=>obtain⟨kvs,e,k,r⟩:=h;exact⟨kvs,ha.trans e,k,r.mono P s⟩
 |_=>exact h.elim
theorem Own.at(h:Own K cl F H d a):(∃vs,H a=some (.lst vs))\/∃kvs,H a=some (.dK kvs):=by
 cases d with
 |lst xs=>obtain⟨vs,e,r⟩:=h;exact .inl ⟨vs,e⟩
 |gb ks ds=>obtain⟨kvs,e,k,r⟩:=h;exact .inr ⟨kvs,e⟩
 |_=>exact h.elim
theorem Own.some(h:Own K cl F H d a):H a≠none:=by
 rcases h.at with⟨_,e⟩|⟨_,e⟩<;>rw[e]<;>exact λz=>nomatch z
theorem au.nil:au K cl F H [] []:=by simp[au]
theorem au.cons{d:D}{ds:List D}{v:V}{vs:List V}(h:Rep K cl F H d v)(r:au K cl F H ds vs):au K cl F H (d::ds) (v::vs):=by
 simp only[au];exact⟨v,vs,rfl,h,r⟩
theorem au.cons_inv{d:D}{ds:List D}{vs:List V}(h:au K cl F H (d::ds) vs):∃v r,vs=v::r/\Rep K cl F H d v/\au K cl F H ds r:=by simpa only[au] using h
theorem au.nil_inv{vs:List V}(h:au K cl F H [] vs):vs=[]:=by simpa only[au] using h
theorem au.length:∀{ds:List D}{vs:List V},au K cl F H ds vs->vs.length=ds.length
 |[],vs,h=>by rw[h.nil_inv];rfl
 |d::ds,vs,h=>by
  obtain⟨v,r,rfl,_,h2⟩:=h.cons_inv;rw[gm,gm,au.length h2]
theorem au.append:∀{ds es:List D}{vs us:List V},au K cl F H ds vs->au K cl F H es us->au K cl F H (ds++es) (vs++us)
 |[],_,vs,_,h,h'=>by rw[h.nil_inv];exact h'
 |d::ds,_,vs,_,h,h'=>by
  obtain⟨v,r,rfl,h1,h2⟩:=h.cons_inv;exact(au.append h2 h').cons h1|>λz=>z
theorem au.get:∀{ds:List D}{vs:List V}{i:Nat}{d:D},au K cl F H ds vs->ds[i]?=some d->∃v,vs[i]?=some v/\Rep K cl F H d v
 |[],_,_,_,_,e=>by simp at e
 |d::ds,vs,0,d',h,e=>by
  obtain⟨v,r,rfl,h1,h2⟩:=h.cons_inv;simp at e;subst e;exact⟨v,by simp,h1⟩
 |d::ds,vs,i+1,d',h,e=>by
  obtain⟨v,r,rfl,h1,h2⟩:=h.cons_inv;obtain⟨u,h3,h4⟩:=au.get (i:=i) h2 (by simpa using e);exact⟨u,by simpa using h3,h4⟩
theorem au.take:∀(n:Nat){ds:List D}{vs:List V},au K cl F H ds vs->au K cl F H (ds.take n) (vs.take n)
 |0,_,_,_=>by simpa using au.nil
 |_+1,[],vs,h=>by rw[h.nil_inv];simpa using au.nil
 |n+1,d::ds,vs,h=>by
  obtain⟨v,r,rfl,h1,h2⟩:=h.cons_inv;simpa using au.cons h1 (au.take n h2)
theorem au.drop:∀(n:Nat){ds:List D}{vs:List V},au K cl F H ds vs->au K cl F H (ds.drop n) (vs.drop n)
 |0,_,_,h=>by simpa using h
 |_+1,[],vs,h=>by rw[h.nil_inv];simpa using au.nil
 |n+1,d::ds,vs,h=>by
  obtain⟨v,r,rfl,h1,h2⟩:=h.cons_inv;simpa using au.drop n h2
theorem au.set:∀(n:Nat){ds:List D}{vs:List V}{d:D}{v:V},au K cl F H ds vs->Rep K cl F H d v->au K cl F H (ds.set n d) (vs.set n v)
 |_,[],vs,_,_,h,_=>by rw[h.nil_inv];simpa using au.nil
 |0,d::ds,vs,_,_,h,h'=>by
  obtain⟨v,r,rfl,h1,h2⟩:=h.cons_inv;simpa using au.cons h' h2
 |n+1,d::ds,vs,_,_,h,h'=>by
  obtain⟨v,r,rfl,h1,h2⟩:=h.cons_inv;simpa using au.cons h1 (au.set n h2 h')
end
structure Up(F:Addr->Prop)(H:Hp)(F':Addr->Prop)(H':Hp):Prop where
 same:iw H H'
 sub:∀a,F a->F' a
 new:∀a,F' a->F a\/(H a=none/\H' a≠none)
theorem Up.refl(F:Addr->Prop)(H:Hp):Up F H F H:=⟨iw.refl H,λ_ h=>h,λ_ h=>.inl h⟩
theorem Up.trans(a:Up F H F1 H1)(b:Up F1 H1 F2 H2):Up F H F2 H2:=
 ⟨a.same.trans b.same,λx h=>b.sub x (a.sub x h),λx h=>by
  rcases b.new x h with z|⟨z1,z2⟩
  ·rcases a.new x z with y|⟨y1,y2⟩
   ·exact .inl y
   ·refine .inr ⟨y1,λe=>?_⟩
    exact y2 (b.same.free e)
  ·exact .inr ⟨a.same.free z1,z2⟩⟩
theorem Up.alloc(hp:H p=none):Up F H F (L2.upd H p o):=
 ⟨λb u e=>by rw[aA (aB e hp)];exact e,λ_ h=>h,λ_ h=>.inl h⟩
noncomputable def Cw(F:Addr->Prop)(p:Addr):Addr->Prop:=λa=>F a\/a=p
theorem Up.freeze(u:Up F H F' H')(hp:H p=none)(Nd:H' p≠none):Up F H (Cw F' p) H':=
 ⟨u.same,λa h=>.inl (u.sub a h),λa h=>h.elim (u.new a) λe=>.inr (by subst e;exact⟨hp,Nd⟩)⟩
def AQ(F:Addr->Prop)(H:Hp):Prop:=∀a,F a->H a≠none
theorem AQ.up(t:AQ F H)(u:Up F H F' H'):AQ F' H':=λa h=>by
 rcases u.new a h with z|⟨_,z⟩
 ·exact λe=>t a z (u.same.free e)
 ·exact z
theorem AQ.fresh(t:AQ F H)(h:H p=none):¬F p:=λz=>t p z h
section
variable{K:PySem.W.Frag}{cl:Nat->Addr}{F F':Addr->Prop}{H H':Hp}{d:D}{v:V}
theorem Rep.up(h:Rep K cl F H d v)(u:Up F H F' H'):Rep K cl F' H' d v:=h.mono (gq.of_same u.same) u.sub
theorem au.up(h:au K cl F H ds vs)(u:Up F H F' H'):au K cl F' H' ds vs:=h.mono (gq.of_same u.same) u.sub
theorem Own.up(h:Own K cl F H d a)(u:Up F H F' H'):Own K cl F' H' d a:=by
 refine h.mono (gq.of_same u.same) u.sub ?_;rcases h.at with⟨_,e⟩|⟨_,e⟩<;>rw[e]<;>exact u.same _ _ e
theorem Got.up(h:Got K cl F H d v)(u:Up F H F' H'):Got K cl F' H' d v:=h.elim (λz=>.inl (z.up u)) λ⟨p,e,o⟩=>.inr ⟨p,e,o.up u⟩
end
structure ja(K:PySem.W.Frag)(cl:Nat->Addr)(F:Addr->Prop)(H:Hp)(σ:St)(δ:gk):Prop where
 len:σ.length=δ.length
 Af:AQ F H
 sh:∀(i:Nat) d,δ[i]?=some (some (false,d))->∃v,σ[i]?=some (some v)/\Rep K cl F H d v
 ow:∀(i:Nat) d,δ[i]?=some (some (true,d))->∃a,σ[i]?=some (some (.ref a))/\¬F a/\Own K cl F H d a
theorem ja.up{K:PySem.W.Frag}(h:ja K cl F H σ δ)(u:Up F H F' H'):ja K cl F' H' σ δ:=by
 refine⟨h.len,h.Af.up u,λi d e=>?_,λi d e=>?_⟩
 ·obtain⟨v,h1,h2⟩:=h.sh i d e
  exact⟨v,h1,h2.up u⟩
 ·obtain⟨a,h1,h2,h3⟩:=h.ow i d e
  exact⟨a,h1,λz=>(u.new a z).elim h2 λy=>h3.some y.1,h3.up u⟩
def Nf(K:PySem.W.Frag)(cl:Nat->Addr)(F':Addr->Prop)(H H':Hp)(d:D)(v:V):Prop:=∃p,v=.ref p/\H p=none/\¬F' p/\Own K cl F' H' d p
def Res(K:PySem.W.Frag)(cl:Nat->Addr)(fr:Bool)(F':Addr->Prop)(H H':Hp)(d:D)(v:V):Prop:=
 if(fr&&ay d)=true then Nf K cl F' H H' d v else Rep K cl F' H' d v
def Gives(K:PySem.W.Frag)(cl:Nat->Addr)(m fr:Bool)(F':Addr->Prop)(H H':Hp)(d:D)(v:V):Prop:=
 if m=true then Got K cl F' H' d v else Res K cl fr F' H H' d v
section
variable{K:PySem.W.Frag}{cl:Nat->Addr}{F F':Addr->Prop}{H H':Hp}{d:D}{v:V}{fr:Bool}
theorem Nf.got(h:Nf K cl F' H H' d v):Got K cl F' H' d v:=let⟨p,e,_,_,o⟩:=h;.inr ⟨p,e,o⟩
theorem Res.got(h:Res K cl fr F' H H' d v):Got K cl F' H' d v:=by
 unfold Res at h;split at h
 ·exact h.got
 ·exact .inl h
theorem Res.gives(h:Res K cl fr F' H H' d v):Gives K cl m fr F' H H' d v:=by
 unfold Gives;split
 ·exact h.got
 ·exact h
theorem Res.wa(h:Rep K cl F' H' d v)(hn:(fr&&ay d)=false):Res K cl fr F' H H' d v:=by
 unfold Res;rw[az (by rw[hn];exact jw)];exact h
theorem Gives.got(h:Gives K cl m fr F' H H' d v):Got K cl F' H' d v:=by
 unfold Gives at h;split at h
 ·exact h
 ·exact h.got
theorem Res.keep(h:Res K cl fr F' H H' d v)(u:Up F H F' H'):∃F2,Up F H F2 H'/\(∀a,F' a->F2 a)/\Rep K cl F2 H' d v:=by
 unfold Res at h;split at h
 ·obtain⟨p,rfl,hp,nf,o⟩:=h
  refine⟨Cw F' p,u.freeze hp o.some,λa z=>.inl z,?_⟩
  cases d with
  |lst xs=>
   obtain⟨vs,e,r⟩:=o;simp only[Rep];exact⟨p,vs,rfl,.inr rfl,e,r.mono (gq.of_same (iw.refl _)) λa z=>.inl z⟩
  |gb ks ds=>rename_i hc;simp[ay] at hc
  |_=>exact o.elim
 ·exact⟨F',u,λ_ z=>z,h⟩
end
def Meet{α:Type}(r:R α)(P:α->Prop)(E:Nat->Prop):Prop:=match r with
 |.ok a=>P a|.exc c=>E c|.bad=>False
theorem Meet.bind{α β:Type}{r:R α}{f:α->R β}{P:β->Prop}{E:Nat->Prop}(h:Meet (r.bind f) P E):Meet r (λa=>Meet (f a) P E) E:=by
 cases r<;>exact h
theorem Meet.mono{α:Type}{r:R α}{P P':α->Prop}{E E':Nat->Prop}(h:Meet r P E)(hP:∀a,r=.ok a->P a->P' a)(hE:∀c,E c->E' c):Meet r P' E':=by
 cases r with
 |ok a=>exact hP a rfl h
 |exc c=>exact hE c h
 |bad=>exact h
def ar(K:PySem.W.Frag)(cl:Nat->Addr)(XE:Nat->Hp->Prop)(m fr:Bool)(F:Addr->Prop)(H:Hp)(Q:VK)(r:R D):Prop:=
 Meet r (λd=>∀F' v H',Up F H F' H'->Gives K cl m fr F' H H' d v->Q v H') λc=>∀F' H',Up F H F' H'->XE c H'
def se(XE:Nat->Hp->Prop)(F:Addr->Prop)(H:Hp)(Q:Bool->Hp->Prop)(r:R Bool):Prop:=
 Meet r (λb=>∀F' H',Up F H F' H'->Q b H') λc=>∀F' H',Up F H F' H'->XE c H'
def xx(K:PySem.W.Frag)(cl:Nat->Addr)(XE:Nat->Hp->Prop)(m:Bool)(F:Addr->Prop)(H:Hp)(Q:List V->Hp->Prop)(r:R (List D)):Prop:=
 Meet r (λds=>∀F' vs H',Up F H F' H'->(if m=true then Paired (Got K cl F' H') ds vs else au K cl F' H' ds vs)->Q vs H') λc=>∀F' H',Up F H F' H'->XE c H'
section
variable{K:PySem.W.Frag}{cl:Nat->Addr}{XE:Nat->Hp->Prop}{m fr:Bool}{F F':Addr->Prop}{H H' H0:Hp}{Q:VK}{r:R D}{d:D}{v:V}
theorem Nf.base(h:Nf K cl F' H0 H' d v)(s:iw H H0):Nf K cl F' H H' d v:=let⟨p,e,hp,n,o⟩:=h;⟨p,e,s.free hp,n,o⟩
theorem Res.base(h:Res K cl fr F' H0 H' d v)(s:iw H H0):Res K cl fr F' H H' d v:=by
 unfold Res at h⊢;split
 ·rename_i c;rw[bp c] at h;exact h.base s
 ·rename_i c;rw[az c] at h;exact h
theorem Gives.base(h:Gives K cl m fr F' H0 H' d v)(s:iw H H0):Gives K cl m fr F' H H' d v:=by
 unfold Gives at h⊢;split
 ·rename_i c;rw[bp c] at h;exact h
 ·rename_i c;rw[az c] at h;exact h.base s
theorem ar.up(h:ar K cl XE m fr F H Q r)(u:Up F H F' H'):ar K cl XE m fr F' H' Q r:=
 Meet.mono h (λd _ q F2 v H2 u2 g=>q F2 v H2 (u.trans u2) (g.base u.same)) λc q F2 H2 u2=>q F2 H2 (u.trans u2)
theorem se.up{Q:Bool->Hp->Prop}{r:R Bool}(h:se XE F H Q r)(u:Up F H F' H'):se XE F' H' Q r:=
 Meet.mono h (λd _ q F2 H2 u2=>q F2 H2 (u.trans u2)) λc q F2 H2 u2=>q F2 H2 (u.trans u2)
theorem xx.up{Q:List V->Hp->Prop}{r:R (List D)}(h:xx K cl XE m F H Q r)(u:Up F H F' H'):xx K cl XE m F' H' Q r:=
 Meet.mono h (λd _ q F2 vs H2 u2 g=>q F2 vs H2 (u.trans u2) g) λc q F2 H2 u2=>q F2 H2 (u.trans u2)
theorem ar.here(h:ar K cl XE m fr F H Q (.ok d))(g:Res K cl fr F H H d v):Q v H:=h F v H (Up.refl F H) g.gives
theorem ar.lj(h:ar K cl XE m fr F H Q (.ok d))(g:Rep K cl F H d v)(hn:(fr&&ay d)=false):Q v H:=h.here (.wa g hn)
end
section
variable(X:Cx)(cl:Nat->Addr)(XE:Nat->St->Hp->Prop)(Φ:Nat->List D->R D)(G:List D)
structure cw(m:Bool)(ex:Ex)(e:Expr):Prop where
 ok:∃t,PE X e t/\∀F σ δ H Q,ja X.K cl F H σ δ->ar X.K cl (λc=>XE c σ) m (bj ex) F H Q (ev Φ G m ex δ)->t σ H Q
structure Cy(tx:Tx)(e:Expr):Prop where
 ok:∃t,PT X e t/\∀F σ δ H Q,ja X.K cl F H σ δ->se (λc=>XE c σ) F H Q (fe Φ G tx δ)->t σ H Q
structure Ha(tx:Tx)(e:Expr):Prop where
 ok:∃t,PW X e t/\∀F σ δ H Q,ja X.K cl F H σ δ->se (λc=>XE c σ) F H Q (fe Φ G tx δ)->t σ H Q
structure Dt(m:Bool)(exs:List Ex)(es:List Expr):Prop where
 ok:∃t,PA X es t/\∀F σ δ H Q,ja X.K cl F H σ δ->xx X.K cl (λc=>XE c σ) m F H Q (cv Φ G m exs δ)->t σ H Q
end
section
variable{X:Cx}{cl:Nat->Addr}{XE:Nat->St->Hp->Prop}{YE:Nat->Hp->Prop}{Φ:Nat->List D->R D}{G:List D}{m:Bool}
theorem Lo(hN:X.N[i]?=some x)(hv:Ea X.env.scope x)(hd:(x==("__debug__":Str))=false)(um:(x==("__classdict__":Str))=false):
  cw X cl XE Φ G m (.var i) (.Name x pos):=by
 refine⟨_,iR hN hv hd um,λF σ δ H Q S h=>?_⟩;simp only[ev] at h
 cases e:δ[i]? with
 |none=>cases m<;>simp[bx,cg,e] at h<;>exact False.elim h
 |some o=>
  cases o with
  |none=>cases m<;>simp[bx,cg,e] at h<;>exact False.elim h
  |some p=>
   obtain⟨b,d⟩:=p
   cases b with
   |false=>
    obtain⟨v,h1,h2⟩:=S.sh i d e;refine⟨v,h1,?_⟩;cases m<;>simp[bx,cg,e] at h<;>exact h F v H (Up.refl F H) (Res.gives (.wa h2 (by simp[bj])))
   |true=>
    obtain⟨a,h1,h2,h3⟩:=S.ow i d e;refine⟨.ref a,h1,?_⟩
    cases m with
    |false=>simp[bx,e] at h;exact False.elim h
    |true=>
     simp[cg,e] at h;exact h F _ H (Up.refl F H) (by unfold Gives;rw[bp rfl];exact .inr ⟨a,rfl,h3⟩)
theorem Lp:cw X cl XE Φ G m (.cst (.int i)) (.Constant (.int i) j pos):=
 ⟨_,aH,λF σ δ H Q S h=>ar.lj h (by simp[Rep]) (by simp[bj])⟩
theorem Ow:cw X cl XE Φ G m (.cst (.bl i)) (.Constant (.bool i) j pos):=
 ⟨_,NR,λF σ δ H Q S h=>ar.lj h (by simp[Rep]) (by simp[bj])⟩
theorem iB(hg:Gl X x)(hm:X.mg x=some u)(r:RelV v u)(hd:(x==("__debug__":Str))=false)(hr:∀d,G[g]?=some d->∀F H,Rep X.K cl F H d v):
  cw X cl XE Φ G m (.glob g) (.Name x pos):=by
 refine⟨_,mH hg hm r hd,λF σ δ H Q S h=>?_⟩;simp only[ev] at h
 cases e:G[g]? with
 |none=>rw[e] at h;exact False.elim h
 |some d=>rw[e] at h;exact ar.lj h (hr d e F H) (by simp[bj])
theorem two{a b:Expr}{o:D->D->R D}(ia:∀F σ δ H Q,ja X.K cl F H σ δ->ar X.K cl (λc=>XE c σ) true (bj ea) F H Q (ev Φ G true ea δ)->ta σ H Q)
  (ib:∀F σ δ H Q,ja X.K cl F H σ δ->ar X.K cl (λc=>XE c σ) true (bj eb) F H Q (ev Φ G true eb δ)->tb σ H Q)
  (ho:∀(YE:Nat->Hp->Prop) F H x y p q Q,AQ F H->Got X.K cl F H p x->Got X.K cl F H q y->ar X.K cl YE m fr F H Q (o p q)->r x y H Q)
  (S:ja X.K cl F H σ δ) (h:ar X.K cl (λc=>XE c σ) m fr F H Q ((ev Φ G true ea δ).bind λx=>(ev Φ G true eb δ).bind λy=>o x y)):za r ta tb σ H Q:=by
 refine ia F σ δ H _ S (Meet.mono h.bind (λp _ hp F1 x H1 u1 g1=>?_) λc z=>z);have Aj:ar X.K cl (λc=>XE c σ) m fr F1 H1 Q ((ev Φ G true eb δ).bind λy=>o p y):=ar.up hp u1;refine ib F1 σ δ H1 _ (S.up u1) (Meet.mono Aj.bind (λq _ hq F2 y H2 u2 g2=>?_) λc z=>z);exact ho _ F2 H2 x y p q Q ((S.up u1).up u2).Af (g1.got.up u2) g2.got (ar.up hq u2)
theorem iY(hr:vf X (binaryOp op) r)(ia:cw X cl XE Φ G true ea a)(ib:cw X cl XE Φ G true eb b)
  (ho:∀(YE:Nat->Hp->Prop) F H x y p q Q,AQ F H->Got X.K cl F H p x->Got X.K cl F H q y->ar X.K cl YE m (bj (.ae o ea eb)) F H Q (ae o p q)->r x y H Q):cw X cl XE Φ G m (.ae o ea eb) (.BinOp a op b pos):=by
 obtain⟨ta,pa,ia⟩:=ia;obtain⟨tb,pb,ib⟩:=ib;exact⟨_,cI hr pa pb,λF σ δ H Q S h=>two (a:=a) (b:=b) (o:=ae o) ia ib ho S (by simpa only[ev] using h)⟩
theorem Ox(hr:Jv X r)(hs:uw b)(ia:cw X cl XE Φ G true ea a)(ib:cw X cl XE Φ G true eb b)
  (ho:∀(YE:Nat->Hp->Prop) F H x y p q Q,AQ F H->Got X.K cl F H p x->Got X.K cl F H q y->ar X.K cl YE m (bj (.ae .at ea eb)) F H Q (ae .at p q)->r x y H Q):cw X cl XE Φ G m (.ae .at ea eb) (.Subscript a b pos):=by
 obtain⟨ta,pa,ia⟩:=ia;obtain⟨tb,pb,ib⟩:=ib;exact⟨_,xN hr pa pb hs,λF σ δ H Q S h=>two (a:=a) (b:=b) (o:=ae .at) ia ib ho S (by simpa only[ev] using h)⟩
theorem Oy(hr:Ql X (unaryOp op) r)(ia:cw X cl XE Φ G true ea a)
  (ho:∀(YE:Nat->Hp->Prop) F H x p Q,AQ F H->Got X.K cl F H p x->ar X.K cl YE m (bj (.bb o ea)) F H Q (bb o p)->r x H Q):cw X cl XE Φ G m (.bb o ea) (.UnaryOp op a pos):=by
 obtain⟨ta,pa,ia⟩:=ia;refine⟨_,tJ hr pa,λF σ δ H Q S h=>?_⟩;simp only[ev] at h;exact ia F σ δ H _ S (Meet.mono (Meet.bind h) (λp _ hp F1 x H1 u1 g1=>ho _ F1 H1 x p Q (S.up u1).Af g1.got (ar.up hp u1)) λc z=>z)
theorem bP:Dt X cl XE Φ G m [] []:=⟨_,c_,λF σ δ H Q S h=>by
 simp only[cv] at h;refine h F [] H (Up.refl F H) ?_;cases m
 ·rw[az jw];exact au.nil
 ·rw[bp rfl];exact .nil⟩
theorem bD(hs:starEach (a::as) X.env=(false,eval a X.env)::starEach as X.env)(ia:cw X cl XE Φ G m ea a)(ir:Dt X cl XE Φ G m es as):
  Dt X cl XE Φ G m (ea::es) (a::as):=by
 obtain⟨ta,pa,ia⟩:=ia;obtain⟨tr,pr,ir⟩:=ir;refine⟨_,aw pa pr hs,λF σ δ H Q S h=>?_⟩;simp only[cv] at h;refine ia F σ δ H _ S (Meet.mono (Meet.bind h) (λp _ hp F1 x H1 u1 g1=>?_) λc z=>z)
 cases m with
 |true=>
  have Aj:xx X.K cl (λc=>XE c σ) true F1 H1 Q ((cv Φ G true es δ).bind λxs=>.ok (p::xs)):=xx.up hp u1;refine ir F1 σ δ H1 _ (S.up u1) (Meet.mono (Meet.bind Aj) (λps _ hq F2 xs H2 u2 g2=>?_) λc z=>z);rw[bp rfl] at g2;exact hq F2 (x::xs) H2 u2 (by rw[bp rfl];exact .cons (g1.got.up u2) g2)
 |false=>
  unfold Gives at g1;rw[az jw] at g1;obtain⟨T6,T7,sub,rp⟩:=g1.keep u1;have Aj:xx X.K cl (λc=>XE c σ) false T6 H1 Q ((cv Φ G false es δ).bind λxs=>.ok (p::xs)):=xx.up hp T7;refine ir T6 σ δ H1 _ (S.up T7) (Meet.mono (Meet.bind Aj) (λps _ hq F2 xs H2 u2 g2=>?_) λc z=>z);rw[az jw] at g2;exact hq F2 (x::xs) H2 u2 (by rw[az jw];exact .cons (rp.up u2) g2)
end
theorem iZ:∀{ds es:List D},nr ds es=true->ds.length=es.length
 |[],[],_=>rfl
 |[],_::_,h=>by simp[nr] at h
 |_::_,[],h=>by simp[nr] at h
 |a::as,b::bs,h=>by
  simp only[nr,qc] at h;rw[gm,gm,iZ h.2]
theorem i6:∀(ds es:List D),ds.length=es.length->nr ds es=(List.range ds.length).all λj=>e_ (ds.getD j .cx) (es.getD j .cx)
 |[],[],_=>by simp[nr]
 |[],_::_,h=>by simp at h
 |_::_,[],h=>by simp at h
 |a::as,b::bs,h=>by
  have ih:=i6 as bs (by simpa using h);rw[nr,ih,gm,List.range_succ_eq_map,List.all_cons,List.all_map];rfl
section
variable{X:Cx}{pins:List (Addr×Obj)}{σ:St}{H:Hp}{s:Shared}{cl:Nat->Addr}{F:Addr->Prop}
theorem Got.tup{xs:List D}{v:V}(h:Got X.K cl F H (.tup xs) v):∃a vs,v=.ref a/\ju X.K H a vs/\au X.K cl F H xs vs:=by
 rcases h with h|⟨p,_,o⟩
 ·simpa only[Rep] using h
 ·exact o.elim
theorem Got.lst(h:Got X.K cl F H (.lst xs) v):∃a vs,v=.ref a/\H a=some (.lst vs)/\au X.K cl F H xs vs:=by
 rcases h with h|⟨p,e,o⟩
 ·simp only[Rep] at h
  obtain⟨a,vs,e,_,q,r⟩:=h;exact⟨a,vs,e,q,r⟩
 ·obtain⟨vs,q,r⟩:=o
  exact⟨p,vs,e,q,r⟩
theorem Got.int(h:Got X.K cl F H (.int i) v):v=.int i:=by
 rcases h with h|⟨p,_,o⟩
 ·simpa only[Rep] using h
 ·exact o.elim
theorem Got.bl(h:Got X.K cl F H (.bl i) v):v=.bl i:=by
 rcases h with h|⟨p,_,o⟩
 ·simpa only[Rep] using h
 ·exact o.elim
theorem Got.cx(h:Got X.K cl F H .cx v):v=.cx:=by
 rcases h with h|⟨p,_,o⟩
 ·simpa only[Rep] using h
 ·exact o.elim
theorem Got.str(h:Got X.K cl F H (.str x) v):v=.str ⟨x.toArray⟩:=by
 rcases h with h|⟨p,_,o⟩
 ·simpa only[Rep] using h
 ·exact o.elim
theorem Got.gu(h:Got X.K cl F H (.gu ns) v):∃a,v=.ref a/\Nc X.K H a (ns.map V.int):=by
 rcases h with h|⟨p,_,o⟩
 ·simpa only[Rep] using h
 ·exact o.elim
theorem Got.gb(h:Got X.K cl F H (.gb ks ds) v):∃a kvs,v=.ref a/\H a=some (.dK kvs)/\kvs.map (·.1)=ks.map Sum.inl/\au X.K cl F H ds (kvs.map (·.2)):=by
 rcases h with h|⟨p,e,o⟩
 ·simp only[Rep] at h
  obtain⟨a,kvs,e,_,h1,h2,h3⟩:=h;exact⟨a,kvs,e,h1,h2,h3⟩
 ·obtain⟨kvs,h1,h2,h3⟩:=o
  exact⟨p,kvs,e,h1,h2,h3⟩
theorem gR(I:Inv X pins σ H s)(h1:H a=some (.lst xs))(h2:ju X.K H a ys):False:=by
 obtain⟨its,_,⟨o,ho,hc,n,hd⟩,_⟩:=I.tuple h2;obtain⟨_,yf,n2,_,e⟩:=I.dq a _ h1;rw[ho] at e;have:=ud e;subst this;exact absurd (show Value.type "list"=Value.type "tuple" from hc) (by decide)
theorem tT(I:Inv X pins σ H s):∀(n:Nat)(d e:D)(v:V),dj n d=true->dj n e=true->Got X.K cl F H d v->Got X.K cl F H e v->e_ d e=true:=by
 intro n
 induction n using Nat.strongRecOn with
 |ind N Qu=>
  have many:∀(n:Nat),n<N->∀(ds es:List D)(vs:List V),nt n ds=true->nt n es=true->au X.K cl F H ds vs->au X.K cl F H es vs->nr ds es=true:=by
   intro n hn;have ih:=Qu n hn;intro ds
   induction ds with
   |nil=>
    intro es vs _ _ r1 r2;rw[r1.nil_inv] at r2
    cases es with
    |nil=>rfl
    |cons e es=>obtain⟨_,_,z,_⟩:=r2.cons_inv;cases z
   |cons d ds DR=>
    intro es vs p1 p2 r1 r2;obtain⟨v,r,rfl,a1,a2⟩:=r1.cons_inv
    cases es with
    |nil=>have z:=r2.nil_inv;cases z
    |cons e es=>
     obtain⟨v',r',z,b1,b2⟩:=r2.cons_inv;cases z;simp only[nt,qc] at p1 p2;simp only[nr,qc];exact⟨ih d e v p1.1 p2.1 (.inl a1) (.inl b1),DR es r p1.2 p2.2 a2 b2⟩
  intro d e v pd pe gd ge
  cases d with
  |tup xs=>
   obtain⟨a,vs,rfl,q,r⟩:=gd.tup
   cases e with
   |tup ys=>
    obtain⟨a',Ag,z,q',r'⟩:=ge.tup;cases z;have:=I.vt q q';subst this;simp only[dj,qc,DN] at pd pe;simpa only[e_] using many (N-1) (Nat.sub_lt pd.1 Nat.one_pos) xs ys vs pd.2 pe.2 r r'
   |lst ys=>
    obtain⟨a',Ag,z,q',r'⟩:=ge.lst;cases z;exact(gR I q' q).elim
   |int i=>have z:=ge.int;cases z
   |bl i=>have z:=ge.bl;cases z
   |cx=>have z:=ge.cx;cases z
   |str i=>have z:=ge.str;cases z
   |gb _ _=>simp[dj] at pe
   |Ah _=>simp[dj] at pe
   |gu _=>simp[dj] at pe
  |lst xs=>
   obtain⟨a,vs,rfl,q,r⟩:=gd.lst
   cases e with
   |tup ys=>
    obtain⟨a',Ag,z,q',r'⟩:=ge.tup;cases z;exact(gR I q q').elim
   |lst ys=>
    obtain⟨a',Ag,z,q',r'⟩:=ge.lst;cases z;rw[q] at q';cases q';simp only[dj,qc,DN] at pd pe;simpa only[e_] using many (N-1) (Nat.sub_lt pd.1 Nat.one_pos) xs ys vs pd.2 pe.2 r r'
   |int i=>have z:=ge.int;cases z
   |bl i=>have z:=ge.bl;cases z
   |cx=>have z:=ge.cx;cases z
   |str i=>have z:=ge.str;cases z
   |gb _ _=>simp[dj] at pe
   |Ah _=>simp[dj] at pe
   |gu _=>simp[dj] at pe
  |gb _ _=>simp[dj] at pd
  |Ah _=>simp[dj] at pd
  |gu _=>simp[dj] at pd
  |cx=>
   have z:=gd.cx;subst z
   cases e with
   |cx=>rfl
   |tup ys=>obtain⟨_,_,z,_⟩:=ge.tup;cases z
   |lst ys=>obtain⟨_,_,z,_⟩:=ge.lst;cases z
   |int i=>have z:=ge.int;cases z
   |bl i=>have z:=ge.bl;cases z
   |str i=>have z:=ge.str;cases z
   |gb _ _=>simp[dj] at pe
   |Ah _=>simp[dj] at pe
   |gu _=>simp[dj] at pe
  |bl b=>
   have z:=gd.bl;subst z
   cases e with
   |cx=>have z:=ge.cx;cases z
   |tup ys=>obtain⟨_,_,z,_⟩:=ge.tup;cases z
   |lst ys=>obtain⟨_,_,z,_⟩:=ge.lst;cases z
   |int i=>have z:=ge.int;cases z
   |bl i=>have z:=ge.bl;cases z;simp[e_]
   |str i=>have z:=ge.str;cases z
   |gb _ _=>simp[dj] at pe
   |Ah _=>simp[dj] at pe
   |gu _=>simp[dj] at pe
  |int b=>
   have z:=gd.int;subst z
   cases e with
   |cx=>have z:=ge.cx;cases z
   |tup ys=>obtain⟨_,_,z,_⟩:=ge.tup;cases z
   |lst ys=>obtain⟨_,_,z,_⟩:=ge.lst;cases z
   |int i=>have z:=ge.int;cases z;simp[e_]
   |bl i=>have z:=ge.bl;cases z
   |str i=>have z:=ge.str;cases z
   |gb _ _=>simp[dj] at pe
   |Ah _=>simp[dj] at pe
   |gu _=>simp[dj] at pe
  |str b=>
   have z:=gd.str;subst z
   cases e with
   |cx=>have z:=ge.cx;cases z
   |tup ys=>obtain⟨_,_,z,_⟩:=ge.tup;cases z
   |lst ys=>obtain⟨_,_,z,_⟩:=ge.lst;cases z
   |int i=>have z:=ge.int;cases z
   |bl i=>have z:=ge.bl;cases z
   |str i=>have z:=ge.str;simp at z;simp[e_,z]
   |gb _ _=>simp[dj] at pe
   |Ah _=>simp[dj] at pe
   |gu _=>simp[dj] at pe
end
theorem iC(x y:List Nat):((⟨x.toArray⟩:Str)==⟨y.toArray⟩)=(x==y):=by
 rw[Bool.eq_iff_iff];simp
theorem au.at{K:PySem.W.Frag}(r:au K cl F H ds vs)(h:i<ds.length):∃v,vs[i]?=some v/\Rep K cl F H (ds.getD i .cx) v:=by
 obtain⟨v,h1,h2⟩:=r.get (i:=i) (d:=ds.getD i .cx) (by simp[List.getD,uc h]);exact⟨v,h1,h2⟩
theorem i7:∀{ds:List D}{i:Nat},nt n ds=true->i<ds.length->dj n (ds.getD i .cx)=true
 |[],_,_,h=>by simp at h
 |d::ds,0,p,_=>by simp only[nt,qc] at p;simpa using p.1
 |d::ds,i+1,p,h=>by
  simp only[nt,qc] at p;simpa using i7 (i:=i) p.2 (by simpa using h)
section
variable{X:Cx}{pins:List (Addr×Obj)}{σ:St}{H:Hp}{s:Shared}{cl:Nat->Addr}{F:Addr->Prop}
theorem dX(I:Inv X pins σ H s)(ih:∀(d e:D)(x y:V)(u w:Value),dj n d=true->dj n e=true->Got X.K cl F H d x->Got X.K cl F H e y->RelV x u->RelV y w->SeqAt.EqAt A s u w (e_ d e))
  (r1:au X.K cl F H ds vs) (r2:au X.K cl F H es ws) (p1:nt n ds=true) (p2:nt n es=true) (q1:Vals vs us) (q2:Vals ws zs)
  (j:Nat) (h1:j<us.toArray.size) (h2:j<zs.toArray.size):SeqAt.EqAt A s us.toArray[j] zs.toArray[j] (e_ (ds.getD j .cx) (es.getD j .cx)):=by
 have l1:j<ds.length:=by rw[←r1.length,q1.length];simpa using h1
 have l2:j<es.length:=by rw[←r2.length,q2.length];simpa using h2
 obtain⟨v,e1,a1⟩:=r1.at l1;obtain⟨w,e2,a2⟩:=r2.at l2;obtain⟨u,f1,b1⟩:=q1.get e1;obtain⟨z,f2,b2⟩:=q2.get e2;have g1:us.toArray[j]=u:=by
  have:j<us.length:=by simpa using h1
  simpa[this] using f1
 have g2:zs.toArray[j]=z:=by
  have:j<zs.length:=by simpa using h2
  simpa[this] using f2
 rw[g1,g2];exact ih _ _ v w u z (i7 p1 l1) (i7 p2 l2) (.inl a1) (.inl a2) b1 b2
theorem rC(I:Inv X pins σ H s){A:Around}(hu:A.units<cLine)(ih:∀(d e:D)(x y:V)(u w:Value),dj n d=true->dj n e=true->Got X.K cl F H d x->Got X.K cl F H e y->RelV x u->RelV y w->SeqAt.EqAt A.in1 s u w (e_ d e))
  (p1:nt n ds=true) (p2:nt n es=true) (h1:ju X.K H a vs) (h2:ju X.K H b ws) (r1:au X.K cl F H ds vs) (r2:au X.K cl F H es ws):
  ∃items zk e,s.heap.IsTuple a items/\s.heap.IsTuple b zk/\(∀j (g1:j<items.size)(g2:j<zk.size),SeqAt.EqAt A.in1 s items[j] zk[j] (e j))/\
   ((List.range (min items.size zk.size)).all e&&items.size==zk.size)=nr ds es:=by
 obtain⟨its,q1,t1,_⟩:=I.tuple h1;obtain⟨yf,q2,t2,_⟩:=I.tuple h2;refine⟨its.toArray,yf.toArray,λj=>e_ (ds.getD j .cx) (es.getD j .cx),t1,t2,dX I ih r1 r2 p1 p2 q1 q2,?_⟩;have l1:its.toArray.size=ds.length:=by rw[rz,←q1.length,r1.length]
 have l2:yf.toArray.size=es.length:=by rw[rz,←q2.length,r2.length]
 rw[l1,l2];by_cases hl:ds.length=es.length
 ·rw[i6 ds es hl,hl];simp
 ·have:nr ds es=false:=by
   cases h:nr ds es with
   |false=>rfl
   |true=>exact absurd (iZ h) hl
  rw[this];simp[hl]
theorem rD(I:Inv X pins σ H s)(hu:A.units<cLine)(ih:∀(d e:D)(x y:V)(u w:Value),dj n d=true->dj n e=true->Got X.K cl F H d x->Got X.K cl F H e y->RelV x u->RelV y w->SeqAt.EqAt A.in1 s u w (e_ d e))
  (p1:nt n ds=true) (p2:nt n es=true) (h1:H a=some (.lst vs)) (h2:H b=some (.lst ws)) (r1:au X.K cl F H ds vs) (r2:au X.K cl F H es ws):
  SeqAt.RcAt A s (.ref a) (.ref b) (nr ds es)/\SeqAt.RcNeAt A s (.ref a) (.ref b) (!nr ds es):=by
 obtain⟨its,q1,t1,_⟩:=I.list (ki.of (K:=X.K) h1);obtain⟨yf,q2,t2,_⟩:=I.list (ki.of (K:=X.K) h2);have l1:its.toArray.size=ds.length:=by rw[rz,←q1.length,r1.length]
 have l2:yf.toArray.size=es.length:=by rw[rz,←q2.length,r2.length]
 by_cases hl:ds.length=es.length
 ·have hs:its.toArray.size=yf.toArray.size:=by rw[l1,l2,hl]
  have e1:=SeqAt.RcAt.lists (e:=λj=>e_ (ds.getD j .cx) (es.getD j .cx)) t1.isList t2.isList hs hu (dX I ih r1 r2 p1 p2 q1 q2);have e2:=SeqAt.RcNeAt.lists (e:=λj=>e_ (ds.getD j .cx) (es.getD j .cx)) t1.isList t2.isList hs hu (dX I ih r1 r2 p1 p2 q1 q2);rw[l1,←i6 ds es hl] at e1 e2;exact⟨e1,e2⟩
 ·have:nr ds es=false:=by
   cases h:nr ds es with
   |false=>rfl
   |true=>exact absurd (iZ h) hl
  rw[this];have hs:(its.toArray.size !=yf.toArray.size)=true:=by rw[l1,l2];simpa using hl
  exact⟨SeqAt.RcAt.lists_lengths t1.isList t2.isList hs hu,SeqAt.RcNeAt.lists_lengths t1.isList t2.isList hs hu⟩
theorem xX(I:Inv X pins σ H s):∀(n:Nat)(A:Around),A.units+n<cLine->∀(d e:D)(x y:V)(u w:Value),dj n d=true->dj n e=true->Got X.K cl F H d x->Got X.K cl F H e y->RelV x u->RelV y w->
  SeqAt.EqAt A s u w (e_ d e):=by
 intro n
 induction n using Nat.strongRecOn with
 |ind N Qu=>
  intro A hu d e x y u w pd pe gd ge rx ry;have Au:A.units<cLine:=by omega
  have Du:∀{a:Addr}{vs:List V},ju X.K H a vs->∃its,s.heap.IsTuple a its:=λh=>let⟨its,_,t,_⟩:=I.tuple h;⟨_,t⟩;have Dv:∀{a:Addr}{vs:List V},H a=some (.lst vs)->∃its,s.heap.IsList a its:=λh=>let⟨its,_,t,_⟩:=I.list (ki.of (K:=X.K) h);⟨_,t.isList⟩
  cases d with
  |gb _ _=>simp[dj] at pd
  |Ah _=>simp[dj] at pd
  |gu _=>simp[dj] at pd
  |tup ds=>
   obtain⟨a,vs,rfl,h1,r1⟩:=gd.tup;cases (show u=Value.ref a from rx);obtain⟨VC,t1⟩:=Du h1;have RW:=pd;simp only[dj,qc,DN] at pd
   cases e with
   |gb _ _=>simp[dj] at pe
   |Ah _=>simp[dj] at pe
   |gu _=>simp[dj] at pe
   |tup es=>
    obtain⟨b,ws,rfl,h2,r2⟩:=ge.tup;cases (show w=Value.ref b from ry);have RX:=pe;simp only[dj,qc,DN] at pe;by_cases qz:a=b
    ·subst qz
     rw[tT I N (.tup ds) (.tup es) (.ref a) RW RX gd ge];exact SeqAt.EqAt.same _
    ·obtain⟨i1,i2,ee,a1,a2,a3,a4⟩:=rC I (A:=A) Au (Qu (N-1) (Nat.sub_lt pd.1 Nat.one_pos) A.in1 (by show A.units+1+(N-1)<cLine;omega)) pd.2 pe.2 h1 h2 r1 r2
     have:=SeqAt.EqAt.of_refs qz (SeqAt.RcAt.tuples a1 a2 Au a3);rw[a4] at this;simpa only[e_] using this
   |lst es=>
    obtain⟨b,ws,rfl,h2,r2⟩:=ge.lst;cases (show w=Value.ref b from ry);obtain⟨Hb,t2⟩:=Dv h2;simpa only[e_] using SeqAt.EqAt.tuple_list t1 t2 Au
   |cx=>rw[ge.cx] at ry;cases ry;simpa only[e_] using SeqAt.EqAt.tuple_none t1 Au
   |bl b=>rw[ge.bl] at ry;cases ry;simpa only[e_] using SeqAt.EqAt.tuple_bool b t1 Au
   |int b=>rw[ge.int] at ry;obtain⟨t,rfl⟩:=ry;simpa only[e_] using SeqAt.EqAt.tuple_int b t t1 Au
   |str b=>rw[ge.str] at ry;obtain⟨t,rfl⟩:=ry;simpa only[e_] using SeqAt.EqAt.tuple_str _ t t1 Au
  |lst ds=>
   obtain⟨a,vs,rfl,h1,r1⟩:=gd.lst;cases (show u=Value.ref a from rx);obtain⟨VC,t1⟩:=Dv h1;have RW:=pd;simp only[dj,qc,DN] at pd
   cases e with
   |gb _ _=>simp[dj] at pe
   |Ah _=>simp[dj] at pe
   |gu _=>simp[dj] at pe
   |lst es=>
    obtain⟨b,ws,rfl,h2,r2⟩:=ge.lst;cases (show w=Value.ref b from ry);have RX:=pe;simp only[dj,qc,DN] at pe;by_cases qz:a=b
    ·subst qz
     rw[tT I N (.lst ds) (.lst es) (.ref a) RW RX gd ge];exact SeqAt.EqAt.same _
    ·have:=SeqAt.EqAt.of_refs qz (rD I (A:=A) Au (Qu (N-1) (Nat.sub_lt pd.1 Nat.one_pos) A.in1 (by show A.units+1+(N-1)<cLine;omega)) pd.2 pe.2 h1 h2 r1 r2).1
     simpa only[e_] using this
   |tup es=>
    obtain⟨b,ws,rfl,h2,r2⟩:=ge.tup;cases (show w=Value.ref b from ry);obtain⟨Hb,t2⟩:=Du h2;simpa only[e_] using SeqAt.EqAt.list_tuple t1 t2 Au
   |cx=>rw[ge.cx] at ry;cases ry;simpa only[e_] using SeqAt.EqAt.list_none t1 Au
   |bl b=>rw[ge.bl] at ry;cases ry;simpa only[e_] using SeqAt.EqAt.list_bool b t1 Au
   |int b=>rw[ge.int] at ry;obtain⟨t,rfl⟩:=ry;simpa only[e_] using SeqAt.EqAt.list_int b t t1 Au
   |str b=>rw[ge.str] at ry;obtain⟨t,rfl⟩:=ry;simpa only[e_] using SeqAt.EqAt.list_str _ t t1 Au
  |cx=>
   rw[gd.cx] at rx;cases rx
   cases e with
   |gb _ _=>simp[dj] at pe
   |Ah _=>simp[dj] at pe
   |gu _=>simp[dj] at pe
   |tup es=>obtain⟨b,ws,rfl,h2,r2⟩:=ge.tup;cases (show w=Value.ref b from ry);obtain⟨Hb,t2⟩:=Du h2;simpa only[e_] using SeqAt.EqAt.none_tuple t2 Au
   |lst es=>obtain⟨b,ws,rfl,h2,r2⟩:=ge.lst;cases (show w=Value.ref b from ry);obtain⟨Hb,t2⟩:=Dv h2;simpa only[e_] using SeqAt.EqAt.none_list t2 Au
   |cx=>rw[ge.cx] at ry;simpa only[e_,mw] using aT (y:=.cx) (x:=.cx) rfl ry rfl rfl
   |bl b=>rw[ge.bl] at ry;simpa only[e_,mw] using aT (y:=.cx) (x:=.bl b) rfl ry rfl rfl
   |int b=>rw[ge.int] at ry;simpa only[e_,mw] using aT (y:=.cx) (x:=.int b) rfl ry rfl rfl
   |str b=>rw[ge.str] at ry;simpa only[e_,mw] using aT (y:=.cx) (x:=.str _) rfl ry rfl rfl
  |bl c=>
   rw[gd.bl] at rx
   cases e with
   |gb _ _=>simp[dj] at pe
   |Ah _=>simp[dj] at pe
   |gu _=>simp[dj] at pe
   |tup es=>cases rx;obtain⟨b,ws,rfl,h2,r2⟩:=ge.tup;cases (show w=Value.ref b from ry);obtain⟨Hb,t2⟩:=Du h2;simpa only[e_] using SeqAt.EqAt.bool_tuple c t2 Au
   |lst es=>cases rx;obtain⟨b,ws,rfl,h2,r2⟩:=ge.lst;cases (show w=Value.ref b from ry);obtain⟨Hb,t2⟩:=Dv h2;simpa only[e_] using SeqAt.EqAt.bool_list c t2 Au
   |cx=>rw[ge.cx] at ry;simpa only[e_,mw] using aT (y:=.bl c) (x:=.cx) rx ry rfl rfl
   |bl b=>rw[ge.bl] at ry;simpa only[e_,mw] using aT (y:=.bl c) (x:=.bl b) rx ry rfl rfl
   |int b=>rw[ge.int] at ry;simpa only[e_,mw] using aT (y:=.bl c) (x:=.int b) rx ry rfl rfl
   |str b=>rw[ge.str] at ry;simpa only[e_,mw] using aT (y:=.bl c) (x:=.str _) rx ry rfl rfl
  |int c=>
   rw[gd.int] at rx
   cases e with
   |gb _ _=>simp[dj] at pe
   |Ah _=>simp[dj] at pe
   |gu _=>simp[dj] at pe
   |tup es=>obtain⟨t,rfl⟩:=rx;obtain⟨b,ws,rfl,h2,r2⟩:=ge.tup;cases (show w=Value.ref b from ry);obtain⟨Hb,t2⟩:=Du h2;simpa only[e_] using SeqAt.EqAt.int_tuple c t t2 Au
   |lst es=>obtain⟨t,rfl⟩:=rx;obtain⟨b,ws,rfl,h2,r2⟩:=ge.lst;cases (show w=Value.ref b from ry);obtain⟨Hb,t2⟩:=Dv h2;simpa only[e_] using SeqAt.EqAt.int_list c t t2 Au
   |cx=>rw[ge.cx] at ry;simpa only[e_,mw] using aT (y:=.int c) (x:=.cx) rx ry rfl rfl
   |bl b=>rw[ge.bl] at ry;simpa only[e_,mw] using aT (y:=.int c) (x:=.bl b) rx ry rfl rfl
   |int b=>rw[ge.int] at ry;simpa only[e_,mw] using aT (y:=.int c) (x:=.int b) rx ry rfl rfl
   |str b=>rw[ge.str] at ry;simpa only[e_,mw] using aT (y:=.int c) (x:=.str _) rx ry rfl rfl
  |str c=>
   rw[gd.str] at rx
   cases e with
   |gb _ _=>simp[dj] at pe
   |Ah _=>simp[dj] at pe
   |gu _=>simp[dj] at pe
   |tup es=>obtain⟨t,rfl⟩:=rx;obtain⟨b,ws,rfl,h2,r2⟩:=ge.tup;cases (show w=Value.ref b from ry);obtain⟨Hb,t2⟩:=Du h2;simpa only[e_] using SeqAt.EqAt.str_tuple _ t t2 Au
   |lst es=>obtain⟨t,rfl⟩:=rx;obtain⟨b,ws,rfl,h2,r2⟩:=ge.lst;cases (show w=Value.ref b from ry);obtain⟨Hb,t2⟩:=Dv h2;simpa only[e_] using SeqAt.EqAt.str_list _ t t2 Au
   |cx=>rw[ge.cx] at ry;simpa only[e_,mw] using aT (y:=.str _) (x:=.cx) rx ry rfl rfl
   |bl b=>rw[ge.bl] at ry;simpa only[e_,mw] using aT (y:=.str _) (x:=.bl b) rx ry rfl rfl
   |int b=>rw[ge.int] at ry;simpa only[e_,mw] using aT (y:=.str _) (x:=.int b) rx ry rfl rfl
   |str b=>
    rw[ge.str] at ry;have:=aT (A:=A) (s:=s) (y:=.str _) (x:=.str _) rx ry rfl rfl;have e:mw (.str ⟨c.toArray⟩) (.str ⟨b.toArray⟩)=(c==b):=iC c b;rw[e] at this;simpa only[e_] using this
noncomputable def Hc(K:PySem.W.Frag)(cl:Nat->Addr)(neg:Bool):R2:=λx y H Q=>∃F p q,Got K cl F H p x/\Got K cl F H q y/\dj 9 p=true/\dj 9 q=true/\Bm p q=true/\Q (.bl (if neg then !e_ p q else e_ p q)) H
theorem Lq(hu:X.A.units+20<cLine):vf X (compareOp .Eq) (Hc X.K cl false):=by
 intro pins s σ H x y v u Q I rx ry h;obtain⟨F,p,q,g1,g2,p1,p2,k,hq⟩:=h;rw[az jw] at hq;have ih:=xX (cl:=cl) (F:=F) I 8 X.A.in1 (by show X.A.units+1+8<cLine;omega);cases p<;>cases q<;>first|(simp[Bm] at k;done)|skip
 ·rename_i a b
  have e1:=g1.bl;have e2:=g2.bl;subst e1 e2;exact xG pins s σ H _ _ v u Q I rx ry ⟨rfl,by rw[mO];exact hq⟩
 ·rename_i a b
  have e1:=g1.int;have e2:=g2.int;subst e1 e2;exact xG pins s σ H _ _ v u Q I rx ry ⟨rfl,by rw[hZ];exact hq⟩
 ·rename_i a b
  have e1:=g1.str;have e2:=g2.str;subst e1 e2;exact xG pins s σ H _ _ v u Q I rx ry ⟨rfl,by rw[iA,iC];exact hq⟩
 ·rename_i ds es
  obtain⟨a,vs,rfl,h1,r1⟩:=g1.tup;obtain⟨b,ws,rfl,h2,r2⟩:=g2.tup;cases (show v=Value.ref a from rx);cases (show u=Value.ref b from ry);simp only[dj,qc] at p1 p2;obtain⟨i1,i2,ee,a1,a2,a3,a4⟩:=rC I (A:=X.A) (by omega) ih p1.2 p2.2 h1 h2 r1 r2;refine SeqAt.RcAt.tuples a1 a2 (by omega) a3 X.prog X.w X.xe _ ?_;rw[a4];exact⟨.bl _,H,I,rfl,hq⟩
 ·rename_i ds es
  obtain⟨a,vs,rfl,h1,r1⟩:=g1.lst;obtain⟨b,ws,rfl,h2,r2⟩:=g2.lst;cases (show v=Value.ref a from rx);cases (show u=Value.ref b from ry);simp only[dj,qc] at p1 p2;exact(rD I (A:=X.A) (by omega) ih p1.2 p2.2 h1 h2 r1 r2).1 X.prog X.w X.xe _ ⟨.bl _,H,I,rfl,hq⟩
theorem Lr(hu:X.A.units+20<cLine):vf X (compareOp .NotEq) (Hc X.K cl true):=by
 intro pins s σ H x y v u Q I rx ry h;obtain⟨F,p,q,g1,g2,p1,p2,k,hq⟩:=h;rw[bp rfl] at hq;have ih:=xX (cl:=cl) (F:=F) I 8 X.A.in1 (by show X.A.units+1+8<cLine;omega);cases p<;>cases q<;>first|(simp[Bm] at k;done)|skip
 ·rename_i a b
  have e1:=g1.bl;have e2:=g2.bl;subst e1 e2;exact xH pins s σ H _ _ v u Q I rx ry ⟨rfl,by rw[mO];exact hq⟩
 ·rename_i a b
  have e1:=g1.int;have e2:=g2.int;subst e1 e2;exact xH pins s σ H _ _ v u Q I rx ry ⟨rfl,by rw[hZ];exact hq⟩
 ·rename_i a b
  have e1:=g1.str;have e2:=g2.str;subst e1 e2;exact xH pins s σ H _ _ v u Q I rx ry ⟨rfl,by rw[iA,iC];exact hq⟩
 ·rename_i ds es
  obtain⟨a,vs,rfl,h1,r1⟩:=g1.tup;obtain⟨b,ws,rfl,h2,r2⟩:=g2.tup;cases (show v=Value.ref a from rx);cases (show u=Value.ref b from ry);simp only[dj,qc] at p1 p2;obtain⟨i1,i2,ee,a1,a2,a3,a4⟩:=rC I (A:=X.A) (by omega) ih p1.2 p2.2 h1 h2 r1 r2;refine SeqAt.RcNeAt.tuples a1 a2 (by omega) a3 X.prog X.w X.xe _ ?_;rw[a4];exact⟨.bl _,H,I,rfl,hq⟩
 ·rename_i ds es
  obtain⟨a,vs,rfl,h1,r1⟩:=g1.lst;obtain⟨b,ws,rfl,h2,r2⟩:=g2.lst;cases (show v=Value.ref a from rx);cases (show u=Value.ref b from ry);simp only[dj,qc] at p1 p2;exact(rD I (A:=X.A) (by omega) ih p1.2 p2.2 h1 h2 r1 r2).2 X.prog X.w X.xe _ ⟨.bl _,H,I,rfl,hq⟩
end
theorem i8(h:n<=gx):n<=sizeLine:=qe h (by decide)
section
variable{X:Cx}{cl:Nat->Addr}{XE:Nat->St->Hp->Prop}{YE:Nat->Hp->Prop}{Φ:Nat->List D->R D}{G:List D}{m fr:Bool}{F:Addr->Prop}{H:Hp}{Q:VK}{x y:V}{p q:D}
theorem ar.no(h:ar X.K cl YE m fr F H Q .bad):False:=h
theorem ar.int(h:ar X.K cl YE m fr F H Q (.ok (.int i))):Q (.int i) H:=ar.lj h (by simp[Rep]) (by simp[ay])
theorem ar.bl(h:ar X.K cl YE m fr F H Q (.ok (.bl i))):Q (.bl i) H:=ar.lj h (by simp[Rep]) (by simp[ay])
theorem ar.EF{p:Addr}(h:ar X.K cl YE m true F H Q (.ok (.lst ds)))(r:au X.K cl F H ds vs)(hF:¬F p)(hp:H p=none):Q (.ref p) (L2.upd H p (.lst vs)):=by
 refine h F (.ref p) _ (Up.alloc hp) (Res.gives ?_);unfold Res;rw[bp (by simp[ay])];exact⟨p,rfl,hp,hF,vs,ah,r.up (Up.alloc hp)⟩
theorem ar.Hd{p:Addr}(h:ar X.K cl YE m fr F H Q (.ok (.tup ds)))(r:au X.K cl F H ds vs)(hp:H p=none):Q (.ref p) (L2.upd H p (.tup vs)):=by
 refine h F (.ref p) _ (Up.alloc hp) (Res.gives (.wa ?_ (by simp[ay])));simp only[Rep];exact⟨p,vs,rfl,.inl (.inl ah),r.up (Up.alloc hp)⟩
theorem Ls(t:AQ F H)(g1:Got X.K cl F H p x)(g2:Got X.K cl F H q y)(h:ar X.K cl YE m true F H Q (ae .add p q)):DU (λi j=>.int (i+j)) x y H Q\/Od x y H Q\/Ey X.K x y H Q:=by
 cases p<;>cases q<;>first|exact(show False from h).elim|skip
 ·rw[g1.int,g2.int]
  exact .inl ⟨_,_,rfl,rfl,ar.int h⟩
 ·rename_i ds es
  have h':ar X.K cl YE m true F H Q (if ds.length+es.length<=gx then .ok (.tup (ds++es)) else .bad):=h;by_cases hc:ds.length+es.length<=gx
  ·rw[bp hc] at h'
   obtain⟨a,vs,rfl,h1,r1⟩:=g1.tup;obtain⟨b,ws,rfl,h2,r2⟩:=g2.tup;refine .inr (.inr ⟨a,b,vs,ws,rfl,rfl,h1,h2,by rw[r1.length,r2.length];exact i8 hc,λe=>?_,λ_ e=>?_,λ_ _ l hl=>ar.Hd h' (r1.append r2) hl⟩)
   ·subst e
    have e:ds=[]:=by have:=r1.length;cases ds with|nil=>rfl|cons _ _=>simp at this
    subst e;exact ar.lj h' (by rw[List.nil_append];simp only[Rep];exact⟨b,ws,rfl,h2,r2⟩) (by simp[ay])
   ·subst e
    have e:es=[]:=by have:=r2.length;cases es with|nil=>rfl|cons _ _=>simp at this
    subst e;exact ar.lj h' (by rw[Ci];simp only[Rep];exact⟨a,vs,rfl,h1,r1⟩) (by simp[ay])
  ·rw[az hc] at h';exact h'.no.elim
 ·rename_i ds es
  have h':ar X.K cl YE m true F H Q (if ds.length+es.length<=gx then .ok (.lst (ds++es)) else .bad):=h;by_cases hc:ds.length+es.length<=gx
  ·rw[bp hc] at h'
   obtain⟨a,vs,rfl,h1,r1⟩:=g1.lst;obtain⟨b,ws,rfl,h2,r2⟩:=g2.lst;exact .inr (.inl ⟨a,b,vs,ws,rfl,rfl,h1,h2,by rw[r1.length,r2.length];exact i8 hc,λl hl=>ar.EF h' (r1.append r2) (t.fresh hl) hl⟩)
  ·rw[az hc] at h';exact h'.no.elim
theorem mU[∀i j,Decidable (C i j)]{f:Int->Int->D}(ho:∀p q,(∃i j,p=.int i/\q=.int j/\ae o p q=if C i j then .ok (f i j) else .bad)\/ae o p q=.bad)
  (hk:∀i j,Rep X.K cl F H (f i j) (k i j)) (hn:∀i j,ay (f i j)=false) (g1:Got X.K cl F H p x) (g2:Got X.K cl F H q y) (h:ar X.K cl YE m fr F H Q (ae o p q)):rI C k x y H Q:=by
 rcases ho p q with⟨i,j,rfl,rfl,e⟩|e
 ·rw[e] at h
  by_cases hc:C i j
  ·rw[bp hc] at h
   exact⟨i,j,g1.int,g2.int,hc,ar.lj h (hk i j) (by rw[hn];simp)⟩
  ·rw[az hc] at h;exact h.no.elim
 ·rw[e] at h;exact h.no.elim
theorem cM{f:Int->Int->D}(ho:∀p q,(∃i j,p=.int i/\q=.int j/\ae o p q=.ok (f i j))\/ae o p q=.bad)
  (hk:∀i j,Rep X.K cl F H (f i j) (k i j)) (hn:∀i j,ay (f i j)=false) (g1:Got X.K cl F H p x) (g2:Got X.K cl F H q y) (h:ar X.K cl YE m fr F H Q (ae o p q)):DU k x y H Q:=by
 rcases ho p q with⟨i,j,rfl,rfl,e⟩|e
 ·rw[e] at h
  exact⟨i,j,g1.int,g2.int,ar.lj h (hk i j) (by rw[hn];simp)⟩
 ·rw[e] at h;exact h.no.elim
theorem Lu(p q:D):(∃i j,p=.int i/\q=.int j/\ae .sub p q=.ok (.int (i-j)))\/ae .sub p q=.bad:=by
 cases p<;>cases q<;>first|exact .inr rfl|exact .inl ⟨_,_,rfl,rfl,rfl⟩
theorem Lv(p q:D):(∃i j,p=.int i/\q=.int j/\ae .mul p q=if(-(2^64)<i/\i<2^64)\/(-(2^64)<j/\j<2^64) then R.ok (.int (i*j)) else R.bad)\/ae .mul p q=.bad:=by
 cases p<;>cases q<;>first|exact .inr rfl|exact .inl ⟨_,_,rfl,rfl,rfl⟩
theorem Lw(p q:D):(∃i j,p=.int i/\q=.int j/\ae .mod p q=if 0<j then R.ok (.int (i%j)) else R.bad)\/ae .mod p q=.bad:=by
 cases p<;>cases q<;>first|exact .inr rfl|exact .inl ⟨_,_,rfl,rfl,rfl⟩
theorem He(p q:D):(∃i j,p=.int i/\q=.int j/\ae .fdiv p q=if 0<j/\j<1073741824 then R.ok (.int (i/j)) else R.bad)\/ae .fdiv p q=.bad:=by
 cases p<;>cases q<;>first|exact .inr rfl|exact .inl ⟨_,_,rfl,rfl,rfl⟩
theorem JF(p q:D):(∃i j,p=.int i/\q=.int j/\ae .lt p q=.ok (.bl (decide (i<j))))\/ae .lt p q=.bad:=by
 cases p<;>cases q<;>first|exact .inr rfl|exact .inl ⟨_,_,rfl,rfl,rfl⟩
theorem JG(p q:D):(∃i j,p=.int i/\q=.int j/\ae .le p q=.ok (.bl (decide (i<=j))))\/ae .le p q=.bad:=by
 cases p<;>cases q<;>first|exact .inr rfl|exact .inl ⟨_,_,rfl,rfl,rfl⟩
theorem JH(p q:D):(∃i j,p=.int i/\q=.int j/\ae .gt p q=.ok (.bl (decide (j<i))))\/ae .gt p q=.bad:=by
 cases p<;>cases q<;>first|exact .inr rfl|exact .inl ⟨_,_,rfl,rfl,rfl⟩
theorem JI(p q:D):(∃i j,p=.int i/\q=.int j/\ae .ge p q=.ok (.bl (decide (j<=i))))\/ae .ge p q=.bad:=by
 cases p<;>cases q<;>first|exact .inr rfl|exact .inl ⟨_,_,rfl,rfl,rfl⟩
theorem Oz(g1:Got X.K cl F H p x)(g2:Got X.K cl F H q y)(h:ar X.K cl YE m fr F H Q (ae .eq p q)):Hc X.K cl false x y H Q:=by
 have h':ar X.K cl YE m fr F H Q (if(dj 9 p&&dj 9 q&&Bm p q)=true then .ok (.bl (e_ p q)) else .bad):=h;by_cases hc:(dj 9 p&&dj 9 q&&Bm p q)=true
 ·rw[bp hc] at h'
  simp only[qc] at hc;exact⟨F,p,q,g1,g2,hc.1.1,hc.1.2,hc.2,by rw[az jw];exact ar.bl h'⟩
 ·rw[az hc] at h';exact h'.no.elim
theorem OA(g1:Got X.K cl F H p x)(g2:Got X.K cl F H q y)(h:ar X.K cl YE m fr F H Q (ae .ne p q)):Hc X.K cl true x y H Q:=by
 have h':ar X.K cl YE m fr F H Q (if(dj 9 p&&dj 9 q&&Bm p q)=true then .ok (.bl (!e_ p q)) else .bad):=h;by_cases hc:(dj 9 p&&dj 9 q&&Bm p q)=true
 ·rw[bp hc] at h'
  simp only[qc] at hc;exact⟨F,p,q,g1,g2,hc.1.1,hc.1.2,hc.2,by rw[bp rfl];exact ar.bl h'⟩
 ·rw[az hc] at h';exact h'.no.elim
theorem iD(g:Got X.K cl F H d v)(h:flat d=true):pz v=true:=by
 cases d with
 |cx=>rw[g.cx];rfl
 |bl b=>rw[g.bl];rfl
 |int b=>rw[g.int];rfl
 |str b=>rw[g.str];rfl
 |_=>simp[flat] at h
theorem rE(g:Got X.K cl F H d v)(g':Got X.K cl F H e w)(h:flat d=true)(h':flat e=true):mw v w=e_ d e:=by
 cases d with
 |cx=>rw[g.cx];cases e with
  |cx=>rw[g'.cx];simp only[mw,e_]
  |bl b=>rw[g'.bl];simp only[mw,e_]
  |int b=>rw[g'.int];simp only[mw,e_]
  |str b=>rw[g'.str];simp only[mw,e_]
  |_=>simp[flat] at h'
 |bl c=>rw[g.bl];cases e with
  |cx=>rw[g'.cx];simp only[mw,e_]
  |bl b=>rw[g'.bl];simp only[mw,e_]
  |int b=>rw[g'.int];simp only[mw,e_]
  |str b=>rw[g'.str];simp only[mw,e_]
  |_=>simp[flat] at h'
 |int c=>rw[g.int];cases e with
  |cx=>rw[g'.cx];simp only[mw,e_]
  |bl b=>rw[g'.bl];simp only[mw,e_]
  |int b=>rw[g'.int];simp only[mw,e_]
  |str b=>rw[g'.str];simp only[mw,e_]
  |_=>simp[flat] at h'
 |str c=>rw[g.str];cases e with
  |cx=>rw[g'.cx];simp only[mw,e_]
  |bl b=>rw[g'.bl];simp only[mw,e_]
  |int b=>rw[g'.int];simp only[mw,e_]
  |str b=>rw[g'.str];simp only[mw,e_];exact iC c b
  |_=>simp[flat] at h'
 |_=>simp[flat] at h
theorem eY:∀{ds:List D}{vs:List V},au X.K cl F H ds vs->ds.all flat=true->vs.all pz=true
 |[],vs,r,_=>by rw[r.nil_inv];rfl
 |d::ds,vs,r,h=>by
  obtain⟨v,r',rfl,a1,a2⟩:=r.cons_inv;rw[List.all_cons,qc] at h⊢;exact⟨iD (.inl a1) h.1,eY a2 h.2⟩
theorem rF(g:Got X.K cl F H p x)(h:flat p=true):∀{ds:List D}{vs:List V},au X.K cl F H ds vs->ds.all flat=true->Qo x vs=inD p ds
 |[],vs,r,_=>by rw[r.nil_inv];rfl
 |d::ds,vs,r,hf=>by
  obtain⟨v,r',rfl,a1,a2⟩:=r.cons_inv;rw[List.all_cons,qc] at hf;have ih:=rF g h a2 hf.2;unfold Qo inD at ih⊢;rw[D7,D7,ih,rE (.inl a1) g hf.1 h]
theorem OB(neg:Bool)(g1:Got X.K cl F H p x)(g2:Got X.K cl F H q y)(h:ar X.K cl YE m fr F H Q ((isin p q).bind λb=>.ok (.bl (if neg then !b else b)))):Tu X.K neg x y H Q:=by
 cases q with
 |lst es=>
  have h':ar X.K cl YE m fr F H Q ((if(flat p&&es.all flat)=true then R.ok (inD p es) else R.bad).bind λb=>.ok (.bl (if neg then !b else b))):=h;by_cases hc:(flat p&&es.all flat)=true
  ·rw[bp hc] at h'
   simp only[qc] at hc;obtain⟨a,vs,rfl,h1,r1⟩:=g2.lst;exact⟨a,vs,rfl,.inl (ki.of h1),iD g1 hc.1,eY r1 hc.2,by rw[rF g1 hc.1 r1 hc.2];exact ar.bl h'⟩
  ·rw[az hc] at h';exact(show False from h').elim
 |tup es=>
  have h':ar X.K cl YE m fr F H Q ((if(flat p&&es.all flat)=true then R.ok (inD p es) else R.bad).bind λb=>.ok (.bl (if neg then !b else b))):=h;by_cases hc:(flat p&&es.all flat)=true
  ·rw[bp hc] at h'
   simp only[qc] at hc;obtain⟨a,vs,rfl,h1,r1⟩:=g2.tup;exact⟨a,vs,rfl,.inr h1,iD g1 hc.1,eY r1 hc.2,by rw[rF g1 hc.1 r1 hc.2];exact ar.bl h'⟩
  ·rw[az hc] at h';exact(show False from h').elim
 |_=>exact(show False from h).elim
theorem xY(r:au X.K cl F H ds vs)(h:rn ds i=some d):∃v,GR vs i=some v/\Rep X.K cl F H d v:=by
 unfold rn at h
 cases e:Ca ds.length i with
 |none=>rw[e] at h;cases h
 |some j=>
  rw[e] at h;obtain⟨v,h1,h2⟩:=r.get (i:=j) (d:=d) h;refine⟨v,?_,h2⟩;show(DV vs.length i).bind (λj=>vs[j]?)=some v;rw[r.length];have e':DV ds.length i=some j:=e;rw[e'];exact h1
theorem OC(g1:Got X.K cl F H p x)(g2:Got X.K cl F H q y)(h:ar X.K cl YE m false F H Q (ae .at p q)):vz X.K x y H Q\/Dm X.K x y H Q:=by
 cases p<;>cases q<;>first|exact(show False from h).elim|skip
 ·rename_i ds i
  have h':ar X.K cl YE m false F H Q (vh (rn ds i)):=h
  cases e:rn ds i with
  |none=>rw[e] at h';exact(show False from h').elim
  |some d=>
   rw[e] at h';obtain⟨a,vs,rfl,h1,r1⟩:=g1.tup;obtain⟨v,e1,e2⟩:=xY r1 e;exact .inr ⟨a,vs,i,v,rfl,g2.int,h1,e1,ar.lj h' e2 (by simp)⟩
 ·rename_i ds i
  have h':ar X.K cl YE m false F H Q (vh (rn ds i)):=h
  cases e:rn ds i with
  |none=>rw[e] at h';exact(show False from h').elim
  |some d=>
   rw[e] at h';obtain⟨a,vs,rfl,h1,r1⟩:=g1.lst;obtain⟨v,e1,e2⟩:=xY r1 e;exact .inl ⟨a,vs,i,v,rfl,g2.int,ki.of h1,e1,ar.lj h' e2 (by simp)⟩
 ·rename_i ns i
  have h':ar X.K cl YE m false F H Q (vh ((rn ns i).map .int)):=h
  cases e:rn ns i with
  |none=>rw[e] at h';exact(show False from h').elim
  |some d=>
   rw[e] at h';obtain⟨a,rfl,h1⟩:=g1.gu;refine .inl ⟨a,_,i,.int d,rfl,g2.int,h1.T5,?_,ar.int h'⟩;unfold rn at e;show(DV (ns.map V.int).length i).bind (λj=>(ns.map V.int)[j]?)=_;rw[dz]
   cases e2:Ca ns.length i with
   |none=>rw[e2] at e;cases e
   |some j=>
    rw[e2] at e;have e3:DV ns.length i=some j:=e2;rw[e3];show(ns.map V.int)[j]?=_;rw[AA];have e4:ns[j]?=some d:=e;rw[e4];rfl
end
noncomputable def p_(o:D->R D):List D->R D
 |[x]=>o x
 |_=>.bad
theorem Paired.one{α β:Type}{P:α->β->Prop}{a:α}{l:List β}(h:Paired P [a] l):∃b,l=[b]/\P a b:=by
 cases h with|cons h r=>cases r;exact⟨_,rfl,h⟩
section
variable{X:Cx}{cl:Nat->Addr}{XE:Nat->St->Hp->Prop}{YE:Nat->Hp->Prop}{Φ:Nat->List D->R D}{G:List D}{m fr:Bool}
theorem eZ{id:String}(RY:∀δ,ev Φ G m ex δ=(cv Φ G true exs δ).bind o)
  (hc:og X (.builtin id) r) (hg:Gl X x) (hm:X.mg x=none) (hv:bootBuiltins x=some (.builtin id)) (hn:x≠"__name__") (yx:(x==("__debug__":Str))=false)
  (he:starEach (e::es) X.env=(false,eval e X.env)::starEach es X.env) (Bo:(backTo pos (starEach es X.env)).any (·.1)=false) (ia:Dt X cl XE Φ G true exs (e::es))
  (ho:∀(YE:Nat->Hp->Prop) F H vs ds Q,AQ F H->Paired (Got X.K cl F H) ds vs->ar X.K cl YE m (bj ex) F H Q (o ds)->r vs H Q):cw X cl XE Φ G m ex (.Call (.Name x p) (e::es) [] pos):=by
 obtain⟨ta,pa,ia⟩:=ia;refine⟨_,eM hc hg hm hv pa hn yx he Bo,λF σ δ H Q S h=>?_⟩;rw[RY] at h;refine ia F σ δ H _ S (Meet.mono (Meet.bind h) (λds _ hd F1 vs H1 u1 g1=>?_) λc z=>z);rw[bp rfl] at g1;exact ho _ F1 H1 vs ds Q (S.up u1).Af g1 (ar.up hd u1)
theorem lF{id:String}(RY:∀δ,ev Φ G m ex δ=(cv Φ G true exs δ).bind o)
  (hc:og X (.type id) r) (hg:Gl X x) (hm:X.mg x=none) (hv:bootBuiltins x=some (.type id)) (hn:x≠"__name__") (yx:(x==("__debug__":Str))=false)
  (he:starEach (e::es) X.env=(false,eval e X.env)::starEach es X.env) (Bo:(backTo pos (starEach es X.env)).any (·.1)=false) (ia:Dt X cl XE Φ G true exs (e::es))
  (ho:∀(YE:Nat->Hp->Prop) F H vs ds Q,AQ F H->Paired (Got X.K cl F H) ds vs->ar X.K cl YE m (bj ex) F H Q (o ds)->r vs H Q):cw X cl XE Φ G m ex (.Call (.Name x p) (e::es) [] pos):=by
 obtain⟨ta,pa,ia⟩:=ia;refine⟨_,fT hc hg hm hv pa hn yx he Bo,λF σ δ H Q S h=>?_⟩;rw[RY] at h;refine ia F σ δ H _ S (Meet.mono (Meet.bind h) (λds _ hd F1 vs H1 u1 g1=>?_) λc z=>z);rw[bp rfl] at g1;exact ho _ F1 H1 vs ds Q (S.up u1).Af g1 (ar.up hd u1)
theorem OE(δ:gk):ev Φ G m (.bb o a) δ=(cv Φ G true [a] δ).bind (p_ (bb o)):=by
 simp only[ev,cv];cases ev Φ G true a δ<;>rfl
variable{F:Addr->Prop}{H:Hp}{Q:VK}{x y:V}{p q:D}
theorem Lx(g:Paired (Got X.K cl F H) ds vs)(h:ar X.K cl YE m fr F H Q (p_ (bb .len) ds)):
  ∃p ys,vs=[.ref p]/\(ki X.K H p ys\/ju X.K H p ys)/\Q (.int ys.length) H:=by
 match ds,g,h with
 |[],_,h=>exact(show False from h).elim
 |_::_::_,_,h=>exact(show False from h).elim
 |[d],g,h=>
  obtain⟨v,rfl,gv⟩:=Paired.one g;have h:ar X.K cl YE m fr F H Q (bb .len d):=h;cases d<;>first|exact(show False from h).elim|skip
  ·rename_i ds
   obtain⟨a,ws,rfl,h1,r1⟩:=gv.tup;exact⟨a,ws,rfl,.inr h1,by rw[r1.length];exact ar.int h⟩
  ·rename_i ds
   obtain⟨a,ws,rfl,h1,r1⟩:=gv.lst;exact⟨a,ws,rfl,.inl (ki.of h1),by rw[r1.length];exact ar.int h⟩
  ·rename_i ns
   obtain⟨a,rfl,h1⟩:=gv.gu;exact⟨a,_,rfl,.inl h1.T5,by rw[dz];exact ar.int h⟩
theorem Hf(t:AQ F H)(g:Paired (Got X.K cl F H) ds vs)(h:ar X.K cl YE m true F H Q (p_ (bb .list) ds)):
  ∃p ys,vs=[.ref p]/\(ki X.K H p ys\/ju X.K H p ys)/\∀l,H l=none->Q (.ref l) (L2.upd H l (.lst ys)):=by
 match ds,g,h with
 |[],_,h=>exact(show False from h).elim
 |_::_::_,_,h=>exact(show False from h).elim
 |[d],g,h=>
  obtain⟨v,rfl,gv⟩:=Paired.one g;have h:ar X.K cl YE m true F H Q (bb .list d):=h;cases d<;>first|exact(show False from h).elim|skip
  ·rename_i ds
   obtain⟨a,ws,rfl,h1,r1⟩:=gv.tup;exact⟨a,ws,rfl,.inr h1,λl hl=>ar.EF h r1 (t.fresh hl) hl⟩
  ·rename_i ds
   obtain⟨a,ws,rfl,h1,r1⟩:=gv.lst;exact⟨a,ws,rfl,.inl (ki.of h1),λl hl=>ar.EF h r1 (t.fresh hl) hl⟩
theorem xZ(g:Paired (Got X.K cl F H) ds vs)(h:ar X.K cl YE m false F H Q (p_ (bb .tuple) ds)):
  ∃p ys,vs=[.ref p]/\((ki X.K H p ys/\∀l,H l=none->Q (.ref l) (L2.upd H l (.tup ys)))\/(ju X.K H p ys/\Q (.ref p) H)):=by
 match ds,g,h with
 |[],_,h=>exact(show False from h).elim
 |_::_::_,_,h=>exact(show False from h).elim
 |[d],g,h=>
  obtain⟨v,rfl,gv⟩:=Paired.one g;have h:ar X.K cl YE m false F H Q (bb .tuple d):=h;cases d<;>first|exact(show False from h).elim|skip
  ·rename_i ds
   obtain⟨a,ws,rfl,h1,r1⟩:=gv.tup;exact⟨a,ws,rfl,.inr ⟨h1,ar.lj h (by simp only[Rep];exact⟨a,ws,rfl,h1,r1⟩) (by simp)⟩⟩
  ·rename_i ds
   obtain⟨a,ws,rfl,h1,r1⟩:=gv.lst;exact⟨a,ws,rfl,.inl ⟨ki.of h1,λl hl=>ar.Hd h r1 hl⟩⟩
theorem Ly(g:Got X.K cl F H p x)(h:ar X.K cl YE m fr F H Q (bb .neg p)):rU (λi=>.int (-i)) x H Q:=by
 cases p<;>first|exact(show False from h).elim|skip;exact⟨_,g.int,ar.int h⟩
theorem ar.Dp(g:Got X.K cl F H p x)(h:ar X.K cl YE m fr F H Q ((Dp p).bind f)):∃c,x=.bl c/\ar X.K cl YE m fr F H Q (f c):=by
 cases p with
 |bl c=>exact⟨c,g.bl,h⟩
 |_=>exact(show False from h).elim
theorem Lz(ia:cw X cl XE Φ G true ea a):cw X cl XE Φ G m (.not ea) (.UnaryOp .Not a pos):=by
 obtain⟨ta,pa,ia⟩:=ia;refine⟨_,KH pa,λF σ δ H Q S h=>?_⟩;simp only[ev] at h;refine ia F σ δ H _ S (Meet.mono (Meet.bind h) (λp _ hp F1 x H1 u1 g1=>?_) λc z=>z);obtain⟨c,e,hc⟩:=ar.Dp g1.got (ar.up hp u1);exact⟨c,e,ar.bl hc⟩
theorem LA(ia:cw X cl XE Φ G m ex a):cw X cl XE Φ G m ex (.BoolOp op [a] pos):=by
 obtain⟨ta,pa,ia⟩:=ia;exact⟨_,KD pa,ia⟩
theorem ar.weak(h:ar X.K cl YE m false F H Q r):ar X.K cl YE m fr F H Q r:=by
 refine Meet.mono h (λd _ q F' v H' u g=>?_) λc z=>z;unfold Gives at g;by_cases hm:m=true
 ·rw[bp hm] at g
  exact q F' v H' u (by unfold Gives;rw[bp hm];exact g)
 ·rw[az hm] at g
  obtain⟨F2,u2,_,rp⟩:=g.keep u;exact q F2 v H' u2 (by unfold Gives;rw[az hm];exact .wa rp (by simp))
theorem ar.EG(h:ar X.K cl YE m fr F H Q r):ar X.K cl YE false fr F H Q r:=
 Meet.mono h (λd _ q F' v H' u g=>q F' v H' u (Res.gives (by unfold Gives at g;rw[az jw] at g;exact g))) λc z=>z
theorem LB(ia:cw X cl XE Φ G true ea a)(ib:cw X cl XE Φ G false eb (.BoolOp .And (b::rest) pos)):cw X cl XE Φ G m (.and ea eb) (.BoolOp .And (a::b::rest) pos):=by
 obtain⟨ta,pa,ia⟩:=ia;obtain⟨tb,pb,ib⟩:=ib;refine⟨_,KG pa pb,λF σ δ H Q S h=>?_⟩;simp only[ev] at h;refine ia F σ δ H _ S (Meet.mono (Meet.bind h) (λp _ hp F1 x H1 u1 g1=>?_) λc z=>z);obtain⟨c,e,hc⟩:=ar.Dp g1.got (ar.up hp u1);refine⟨c,e,?_⟩
 cases c with
 |true=>
  rw[bp rfl];exact ib F1 σ δ H1 Q (S.up u1) (ar.EG hc).weak
 |false=>
  rw[az jw];exact ar.bl hc
theorem LC(ic:Cy X cl XE Φ G ec c)(ia:cw X cl XE Φ G false ea a)(ib:cw X cl XE Φ G false eb b):cw X cl XE Φ G m (.ite ec ea eb) (.IfExp c a b pos):=by
 obtain⟨tc,pc,ic⟩:=ic;obtain⟨ta,pa,ia⟩:=ia;obtain⟨tb,pb,ib⟩:=ib;refine⟨_,xA pc pa pb,λF σ δ H Q S h=>?_⟩;simp only[ev] at h;refine ic F σ δ H _ S (Meet.mono (Meet.bind h) (λt _ hp F1 H1 u1=>?_) λc z=>z);have hp:=ar.up (K:=X.K) (cl:=cl) hp u1
 cases t with
 |true=>
  show ta σ H1 Q;exact ia F1 σ δ H1 Q (S.up u1) (ar.EG hp).weak
 |false=>
  show tb σ H1 Q;exact ib F1 σ δ H1 Q (S.up u1) (ar.EG hp).weak
theorem LD(hl:exs.length<=gx)(ia:Dt X cl XE Φ G false exs es):cw X cl XE Φ G m (.tup exs) (.Tuple es k pos):=by
 obtain⟨ta,pa,ia⟩:=ia;refine⟨_,mP pa,λF σ δ H Q S h=>?_⟩;simp only[ev] at h;refine ia F σ δ H _ S (Meet.mono (Meet.bind h) (λds GN hp F1 vs H1 u1 g1=>?_) λc z=>z);rw[az jw] at g1;have hlen:ds.length=exs.length:=by
  have:∀(es:List Ex)(ds:List D),cv Φ G false es δ=.ok ds->ds.length=es.length:=by
   intro es
   induction es with
   |nil=>intro ds h;simp only[cv] at h;cases h;rfl
   |cons e es ih=>
    intro ds h;simp only[cv] at h
    cases q:ev Φ G false e δ with
    |ok x=>
     rw[q] at h
     cases q2:cv Φ G false es δ with
     |ok xs=>rw[q2] at h;cases h;rw[gm,gm,ih xs q2]
     |exc c=>rw[q2] at h;cases h
     |bad=>rw[q2] at h;cases h
    |exc c=>rw[q] at h;cases h
    |bad=>rw[q] at h;cases h
  exact this exs ds GN
 exact⟨by rw[g1.length,hlen];exact i8 hl,λl Jk=>ar.Hd (ar.up hp u1) g1 Jk⟩
theorem LF(hl:exs.length<=gx)(ia:Dt X cl XE Φ G false exs es):cw X cl XE Φ G m (.lst exs) (.List es pos):=by
 obtain⟨ta,pa,ia⟩:=ia;refine⟨_,KR pa,λF σ δ H Q S h=>?_⟩;simp only[ev] at h;refine ia F σ δ H _ S (Meet.mono (Meet.bind h) (λds GN hp F1 vs H1 u1 g1=>?_) λc z=>z);rw[az jw] at g1;have hlen:ds.length=exs.length:=by
  have:∀(es:List Ex)(ds:List D),cv Φ G false es δ=.ok ds->ds.length=es.length:=by
   intro es
   induction es with
   |nil=>intro ds h;simp only[cv] at h;cases h;rfl
   |cons e es ih=>
    intro ds h;simp only[cv] at h
    cases q:ev Φ G false e δ with
    |ok x=>
     rw[q] at h
     cases q2:cv Φ G false es δ with
     |ok xs=>rw[q2] at h;cases h;rw[gm,gm,ih xs q2]
     |exc c=>rw[q2] at h;cases h
     |bad=>rw[q2] at h;cases h
    |exc c=>rw[q] at h;cases h
    |bad=>rw[q] at h;cases h
  exact this exs ds GN
 exact⟨by rw[g1.length,hlen];exact i8 hl,λl Jk=>ar.EF (ar.up hp u1) g1 ((S.up u1).Af.fresh Jk) Jk⟩
end
section
variable{X:Cx}{cl:Nat->Addr}{XE:Nat->St->Hp->Prop}{YE:Nat->Hp->Prop}{Φ:Nat->List D->R D}{G:List D}{m fr:Bool}
structure Qv(X:Cx)(cl:Nat->Addr)(XE:Nat->St->Hp->Prop)(Φ:Nat->List D->R D)(G:List D)(ex:Option Ex)(e:Option Expr):Prop where
 ok:∃t,PO X e t/\∀F σ δ H Q,ja X.K cl F H σ δ->
 Meet (Cc Φ G ex δ) (λo=>∀F' H',Up F H F' H'->Q o H') (λc=>∀F' H',Up F H F' H'->XE c σ H')->t σ H Q
theorem x6:Qv X cl XE Φ G none none:=⟨_,tM,λF σ δ H Q S h=>by simp only[Cc] at h;exact h F H (Up.refl F H)⟩
theorem x8(ia:cw X cl XE Φ G true ex e):Qv X cl XE Φ G (some ex) (some e):=by
 obtain⟨ta,pa,ia⟩:=ia;refine⟨_,tN pa,λF σ δ H Q S h=>?_⟩;simp only[Cc] at h;refine ia F σ δ H _ S (Meet.mono (Meet.bind h) (λp _ hp F1 x H1 u1 g1=>?_) λc z=>z)
 cases p with
 |int i=>exact⟨i,g1.got.int,hp F1 H1 u1⟩
 |_=>exact(show False from hp).elim
variable{F:Addr->Prop}{H:Hp}{Q:VK}{x y:V}{p q:D}
theorem fV(n d:Nat)(o:Option Int):HT.d_ n d o=Py.d_ n d o:=by cases o<;>rfl
theorem x9(r:au X.K cl F H ds vs)(l h:Option Int):au X.K cl F H (cut ds l h) (zc vs l h):=by
 unfold cut zc;rw[r.length,fV,fV];exact(r.drop _).take _
theorem Hg{ds:List D}(e:Py.d_ ds.length 0 l=0/\Py.d_ ds.length ds.length h=ds.length):cut ds l h=ds:=by
 unfold cut;rw[e.1,e.2];simp
theorem LG(t:AQ F H)(g:Got X.K cl F H p x)(hp:ar X.K cl YE m true F H Q (xv p l h)):K4 X.K x l h H Q\/Ob X.K x l h H Q\/Jy X.K x l h H Q\/Oe x l h H Q:=by
 cases p with
 |lst ds=>
  obtain⟨a,vs,rfl,h1,r1⟩:=g.lst;exact .inl ⟨a,vs,rfl,ki.of h1,λp' Nd=>ar.EF hp (x9 r1 l h) (t.fresh Nd) Nd⟩
 |tup ds=>
  obtain⟨a,vs,rfl,h1,r1⟩:=g.tup;by_cases hw:HT.d_ vs.length 0 l=0/\HT.d_ vs.length vs.length h=vs.length
  ·refine .inr (.inr (.inl ⟨a,vs,rfl,h1,hw,ar.lj hp ?_ (by simp[ay])⟩))
   have Ng:Py.d_ ds.length 0 l=0/\Py.d_ ds.length ds.length h=ds.length:=by
    rw[r1.length,fV,fV] at hw;exact hw
   rw[Hg Ng];simp only[Rep];exact⟨a,vs,rfl,h1,r1⟩
  ·exact .inr (.inl ⟨a,vs,rfl,h1,hw,λp' Nd=>ar.Hd hp (x9 r1 l h) Nd⟩)
 |str z=>
  have hp:ar X.K cl YE m true F H Q (if z.length<=gx then .ok (.str (cut z l h)) else .bad):=hp;by_cases hc:z.length<=gx
  ·rw[bp hc] at hp
   refine .inr (.inr (.inr ⟨⟨z.toArray⟩,?_,i8 (show z.toArray.size<=gx by simpa using hc),?_⟩))
   ·rcases g with g|⟨a,_,o⟩
    ·simpa[Rep] using g
    ·exact o.elim
   ·rw[vN]
    have e:(⟨z.toArray⟩:Str).length=z.length:=by show z.toArray.size=_;simp
    rw[e,fV,fV];exact ar.lj hp (by simp[Rep,cut]) (by simp[ay])
  ·rw[az hc] at hp;exact(show False from hp).elim
 |_=>exact(show False from hp).elim
theorem LH{lo hi:Option Ex}(ia:cw X cl XE Φ G true ea a)(il:Qv X cl XE Φ G lo le)(ih:Qv X cl XE Φ G hi he):cw X cl XE Φ G m (.xv ea lo hi) (.Subscript a (.Slice le he none p2) pos):=by
 obtain⟨ta,pa,ia⟩:=ia;obtain⟨tl,pl,il⟩:=il;obtain⟨th,ph,ih⟩:=ih;refine⟨_,oO (CV.or (K2.or (G7.or Lc))) pa pl ph,λF σ δ H Q S h=>?_⟩;simp only[ev] at h;refine ia F σ δ H _ S (Meet.mono (Meet.bind h) (λp _ hp F1 x H1 u1 g1=>?_) λc z=>z);have Aj:ar X.K cl (λc=>XE c σ) m true F1 H1 Q ((Cc Φ G lo δ).bind λl=>(Cc Φ G hi δ).bind λh=>xv p l h):=ar.up hp u1;refine il F1 σ δ H1 _ (S.up u1) (Meet.mono (Meet.bind Aj) (λl _ hl F2 H2 u2=>?_) λc z=>z);have Rm:ar X.K cl (λc=>XE c σ) m true F2 H2 Q ((Cc Φ G hi δ).bind λh=>xv p l h):=ar.up hl u2;refine ih F2 σ δ H2 _ ((S.up u1).up u2) (Meet.mono (Meet.bind Rm) (λh' _ hh F3 H3 u3=>?_) λc z=>z);exact LG (((S.up u1).up u2).up u3).Af ((g1.got.up u2).up u3) (ar.up hh u3)
theorem Hh(r:au X.K cl F H ds vs){i:Nat}(h:vs[i]?=some v):∃d,ds[i]?=some d/\Rep X.K cl F H d v:=by
 have hl:=r.length;have hi:i<ds.length:=by
  by_cases hc:i<vs.length
  ·omega
  ·rw[I_ (by omega)] at h;cases h
 obtain⟨v',h1,h2⟩:=r.get (i:=i) (d:=ds[i]) (by simp[hi]);rw[h] at h1;cases h1;exact⟨ds[i],by simp[hi],h2⟩
theorem oS(e:D):∀(ds:List D)(j:Nat),zj e ds=some j->∃z,ds[j]?=some z/\e_ z e=true/\∀(k:Nat) z',k<j->ds[k]?=some z'->e_ z' e=false
 |[],j,h=>by simp[zj] at h
 |d::ds,j,h=>by
  unfold zj at h;by_cases hc:e_ d e=true
  ·rw[bp hc] at h
   cases h;exact⟨d,by simp,hc,λk z' hk=>absurd hk (Ji k)⟩
  ·rw[az hc] at h
   cases q:zj e ds with
   |none=>rw[q] at h;cases h
   |some i=>
    rw[q] at h;cases h;obtain⟨z,h1,h2,h3⟩:=oS e ds i q;refine⟨z,by simpa using h1,h2,λk z' hk hz=>?_⟩
    cases k with
    |zero=>simp at hz;subst hz;simpa using hc
    |succ k=>exact h3 k z' (by have:k+1<i+1:=hk;omega) (by simpa using hz)
theorem yA(g1:Got X.K cl F H p x)(g2:Got X.K cl F H q y)(h:ar X.K cl YE m fr F H Q (ae .index p q)):Ez x [y] H Q:=by
 cases p<;>first|exact(show False from h).elim|skip;rename_i ds;have h':ar X.K cl YE m fr F H Q (if(flat q&&ds.all flat)=true then vh ((zj q ds).map λn=>.int n) else .bad):=h;by_cases hc:(flat q&&ds.all flat)=true
 ·rw[bp hc] at h'
  simp only[qc] at hc;obtain⟨a,vs,rfl,h1,r1⟩:=g1.lst
  cases e:zj q ds with
  |none=>rw[e] at h';exact(show False from h').elim
  |some j=>
   rw[e] at h';obtain⟨z,e1,e2,e3⟩:=oS q ds j e;obtain⟨v,f1,f2⟩:=r1.get e1;have fl:∀(k:Nat) d,ds[k]?=some d->flat d=true:=λk d hk=>List.all_eq_true.mp hc.2 d (FP hk);refine⟨a,vs,y,j,v,rfl,rfl,h1,iD g2 hc.1,eY r1 hc.2,f1,by rw[rE (.inl f2) g2 (fl j z e1) hc.1];exact e2,λk z' hk hz=>?_,ar.int h'⟩;obtain⟨d,d1,d2⟩:=Hh r1 hz;rw[rE (.inl d2) g2 (fl k d d1) hc.1];exact e3 k d hk d1
 ·rw[az hc] at h';exact h'.no.elim
theorem Hi{id:String}(slot:Slot "list" name id)(K6:typeOf (.builtin id)=pure (.type "method_descriptor"))(hm:GS X id r)
  (ia:cw X cl XE Φ G true ea a) (ib:cw X cl XE Φ G true eb b) (iy:attributeBase a name X.env (eval a X.env)=eval a X.env) (iz:(apos.endLine==dy.line)=true)
  (hs:starEach [b] X.env=[(false,eval b X.env)])
  (hl:∀p q,(∃ds,p=.lst ds)\/ae o p q=.bad) (hx:∀δ c,ev Φ G true eb δ≠.exc c)
  (ho:∀(YE:Nat->Hp->Prop) F H x y p q Q,Got X.K cl F H p x->Got X.K cl F H q y->ar X.K cl YE m (bj (.ae o ea eb)) F H Q (ae o p q)->r x [y] H Q):cw X cl XE Φ G m (.ae o ea eb) (.Call (.Attribute a name apos) [b] [] dy):=by
 obtain⟨ta,pa,ia⟩:=ia;obtain⟨tb,pb,ib⟩:=ib;have xy:starEach (b::[]) X.env=(false,eval b X.env)::starEach [] X.env:=hs;refine⟨_,Jw PySem.F.plainAttrs_list slot K6 hm pa (aw pb c_ xy) iy (by rw[hs];rfl) iz xy rfl,λF σ δ H Q S h=>?_⟩;simp only[ev] at h;refine ia F σ δ H _ S (Meet.mono (Meet.bind h) (λp _ hp F1 x H1 u1 g1=>?_) λc z=>z);have Aj:ar X.K cl (λc=>XE c σ) m (bj (.ae o ea eb)) F1 H1 Q ((ev Φ G true eb δ).bind λy=>ae o p y):=ar.up hp u1;refine⟨?_,?_⟩
 ·rcases hl p .cx with⟨ds,rfl⟩|_
  ·obtain⟨l,vs,rfl,h1,r1⟩:=g1.got.lst
   exact .inl ⟨rfl,vs,ki.of h1⟩
  ·by_cases hc:∃ds,p=.lst ds
   ·obtain⟨ds,rfl⟩:=hc
    obtain⟨l,vs,rfl,h1,r1⟩:=g1.got.lst;exact .inl ⟨rfl,vs,ki.of h1⟩
   ·exfalso
    cases e:ev Φ G true eb δ with
    |ok y=>
     rw[e] at Aj;rcases hl p y with z|z
     ·exact hc z
     ·have:ar X.K cl (λc=>XE c σ) m (bj (.ae o ea eb)) F1 H1 Q (ae o p y):=Aj
      rw[z] at this;exact this
    |exc c=>
     exact hx δ c e
    |bad=>rw[e] at Aj;exact Aj
 ·show bo tb du σ H1 _
  refine ib F1 σ δ H1 _ (S.up u1) (Meet.mono (Meet.bind Aj) (λq _ hq F2 y H2 u2 g2=>?_) λc z=>z);exact ho _ F2 H2 x y p q Q (g1.got.up u2) g2.got (ar.up hq u2)
theorem boot_isinstance:bootBuiltins "isinstance"=some (.builtin "isinstance"):=by first|exact PySem.boot_isinstance|rfl|decide+kernel
theorem boot_int:bootBuiltins "int"=some (.type "int"):=by first|exact PySem.boot_int|rfl|decide+kernel
theorem boot_bool:bootBuiltins "bool"=some (.type "bool"):=by first|exact PySem.boot_bool|rfl|decide+kernel
theorem boot_tuple:bootBuiltins "tuple"=some (.type "tuple"):=by first|exact PySem.boot_tuple|rfl|decide+kernel
theorem boot_list:bootBuiltins "list"=some (.type "list"):=by first|exact PySem.boot_list|rfl|decide+kernel
theorem boot_max:bootBuiltins "max"=some (.builtin "max"):=by first|exact PySem.boot_max|rfl|decide+kernel
noncomputable def tyName:D->String
 |.cx=>"NoneType"|.bl _=>"bool"|.int _=>"int"|.str _=>"str"|.tup _=>"tuple"|.lst _=>"list"|_=>""
theorem Hj{pins:List (Addr×Obj)}{σ:St}{s:Shared}{A:Around}{E:Value->Shared->Prop}{QQ:Value->Shared->Prop}{u c:Value}{b:Bool}(I:Inv X pins σ H s)(g:Got X.K cl F H p x)(hp:dj 1000 p=true)(rx:RelV x u)
  (e:PySem.W.kitOne X.K (.type (tyName p)) c=some b) (h:∀tk,QQ (.bool b) {s with toks:=tk}):wpAny (model X.prog X.w) A (call (.builtin "isinstance") [u,c]) QQ E s:=by
 cases p with
 |cx=>rw[g.cx] at rx;cases rx;exact PySem.W.kia_one PySem.W.kitx_none I.DS True.intro e (λz=>nomatch z) h
 |bl y=>rw[g.bl] at rx;cases rx;exact PySem.W.kia_one PySem.W.kitx_bool I.DS True.intro e (λz=>nomatch z) h
 |int i=>rw[g.int] at rx;obtain⟨t,rfl⟩:=rx;exact PySem.W.kia_one PySem.W.kitx_int I.DS True.intro e (λz=>nomatch z) h
 |str y=>rw[g.str] at rx;obtain⟨t,rfl⟩:=rx;exact PySem.W.kia_one PySem.W.kitx_str I.DS True.intro e (λz=>nomatch z) h
 |tup ds=>
  obtain⟨a,vs,rfl,h1,r1⟩:=g.tup;cases (show u=Value.ref a from rx);obtain⟨its,_,⟨o,ho,hc,_⟩,_⟩:=I.tuple h1;exact PySem.W.kia_one PySem.W.kitx_tuple I.DS ⟨o,ho,hc⟩ e (λz=>nomatch z) h
 |lst ds=>
  obtain⟨a,vs,rfl,h1,r1⟩:=g.lst;cases (show u=Value.ref a from rx);obtain⟨_,_,n,_,h2⟩:=I.dq a _ h1;exact PySem.W.kia_one PySem.W.kitx_list I.DS ⟨_,h2,rfl⟩ e (λz=>nomatch z) h
 |_=>simp[dj] at hp
noncomputable def RZ(K:PySem.W.Frag)(cl:Nat->Addr)(T:String):List V->Hp->VK->Prop:=λxs H Q=>∃F d x b,xs=[x,.ty T]/\Got K cl F H d x/\dj 1000 d=true/\PySem.W.kitOne K (.type (tyName d)) (.type T)=some b/\Q (.bl b) H
theorem yB(T:String):og X (.builtin "isinstance") (RZ X.K cl T):=by
 intro pins s σ H xs us Q I r h;obtain⟨F,d,x,b,rfl,g,hp,e,q⟩:=h;obtain⟨u,w,rfl,ru,vg⟩:=vals2 r;cases (show w=Value.type T from vg);exact Hj I g hp ru e λtk=>⟨.bl b,H,I.tok tk,rfl,q⟩
noncomputable def Dw(T:String)(d:D):Bool:=match d with
 |.bl _=>T=="bool"||T=="int"
 |d=>T==tyName d
theorem LI(K:PySem.W.Frag)(T:String)(hT:T="int"\/T="bool"\/T="tuple"\/T="list"\/T="str")(d:D)(hp:dj 1000 d=true):PySem.W.kitOne K (.type (tyName d)) (.type T)=some (Dw T d):=by
 rcases hT with rfl|rfl|rfl|rfl|rfl<;>cases d<;>first|(simp[dj] at hp;done)|rfl|decide+kernel
theorem mV(hT:T="int"\/T="bool"\/T="tuple"\/T="list"\/T="str")
  (hg:Gl X "isinstance") (hm:X.mg "isinstance"=none) (Hk:Gl X Tn) (EH:X.mg Tn=none) (hv:bootBuiltins Tn=some (.type T)) (hn:Tn≠"__name__") (yx:(Tn==("__debug__":Str))=false) (ia:cw X cl XE Φ G true ea a)
  (hs:starEach [a,.Name Tn p2] X.env=[(false,eval a X.env),(false,eval (.Name Tn p2) X.env)]) (As:bj (.bb o ea)=false)
  (ho:∀d,(bb o d=.ok (.bl (Dw T d))/\dj 1000 d=true)\/bb o d=.bad):cw X cl XE Φ G m (.bb o ea) (.Call (.Name "isinstance" p1) [a,.Name Tn p2] [] pos):=by
 obtain⟨ta,pa,ia⟩:=ia;have pt:PE X (.Name Tn p2) (tC (.ty T)):=Gr Hk EH hv rfl hn yx;have xy:starEach (a::[.Name Tn p2]) X.env=(false,eval a X.env)::starEach [.Name Tn p2] X.env:=hs;refine⟨_,eM (yB (cl:=cl) T) hg hm boot_isinstance (aw pa (aw pt c_ rfl) xy) (by decide) (by decide) xy rfl,λF σ δ H Q S h=>?_⟩;simp only[ev] at h;refine ia F σ δ H _ S (Meet.mono (Meet.bind h) (λd _ hp F1 x H1 u1 g1=>?_) λc z=>z);have Aj:=ar.up hp u1;rcases ho d with⟨e,pl⟩|e
 ·rw[e] at Aj
  exact⟨F1,d,x,_,rfl,g1.got,pl,LI X.K T hT d pl,ar.bl Aj⟩
 ·rw[e] at Aj;exact Aj.no.elim
theorem yC(d:D):(bb .isInt d=.ok (.bl (Dw "int" d))/\dj 1000 d=true)\/bb .isInt d=.bad:=by
 cases d<;>first|exact .inl ⟨rfl,by simp[dj]⟩|exact .inr rfl|skip
 all_goals exact Classical.byCases (λhc=>.inl ⟨bp hc,hc⟩) λhc=>.inr (az hc)
theorem vQ(d:D):(bb .isBool d=.ok (.bl (Dw "bool" d))/\dj 1000 d=true)\/bb .isBool d=.bad:=by
 cases d<;>first|exact .inl ⟨rfl,by simp[dj]⟩|exact .inr rfl|skip
 all_goals exact Classical.byCases (λhc=>.inl ⟨bp hc,hc⟩) λhc=>.inr (az hc)
theorem yD(d:D):(bb .isTup d=.ok (.bl (Dw "tuple" d))/\dj 1000 d=true)\/bb .isTup d=.bad:=by
 cases d<;>first|exact .inl ⟨rfl,by simp[dj]⟩|exact .inr rfl|skip
 all_goals exact Classical.byCases (λhc=>.inl ⟨bp hc,hc⟩) λhc=>.inr (az hc)
theorem yE(d:D):(bb .zi d=.ok (.bl (Dw "list" d))/\dj 1000 d=true)\/bb .zi d=.bad:=by
 cases d<;>first|exact .inl ⟨rfl,by simp[dj]⟩|exact .inr rfl|skip
 all_goals exact Classical.byCases (λhc=>.inl ⟨bp hc,hc⟩) λhc=>.inr (az hc)
end
noncomputable def uy(K:PySem.W.Frag)(cl:Nat->Addr)(Φ:Nat->List D->R D)(f:Nat):Sp:=λvs H Q E=>∃F ds,AQ F H/\au K cl F H ds vs/\
 Meet (Φ f ds) (λd=>∀F' v H',Up F H F' H'->Rep K cl F' H' d v->Q v H') λc=>∀F' H',Up F H F' H'->E (.ref (cl c)) none H'
noncomputable def OG(cl:Nat->Addr)(YE:Nat->Hp->Prop):XK:=λk _ H'=>∃c,k=.ref (cl c)/\YE c H'
section
variable{X:Cx}{cl:Nat->Addr}{XE:Nat->St->Hp->Prop}{YE:Nat->Hp->Prop}{Φ:Nat->List D->R D}{G:List D}{m fr:Bool}
def wb(CX:M6)(X:Cx)(σ:St)(E:XK):Prop:=∀(pins:List (Addr×Obj))(H:Hp)(s:Shared)(e:Value)(s':Shared),Inv X pins σ H s->CX X.stack H s E e s'->X.xe e s'
theorem Hl(Fo:nh X.prog X.w X.K X.mg X.base CX k f fd ps sp)(hr:lh k X.A)
  (hb:Binds X.K fd ps []) (hx:wb CX X σ E) (I:Inv X pins σ H s) (r:Vals vs us) (h:sp vs H Q E):wpAny (model X.prog X.w) X.A (call (.ref f) us) (EP X pins σ Q) X.xe s:=by
 have hl:(us++[]).length=ps.length:=by rw[Ci,←r.length];exact Fo.len _ _ _ _ h
 have Qw:=hb s us I.DS hl;rw[Ci] at Qw;refine wpAny_call (codeAny_mono (Fo.run X.A X.stack s H ⟨us,[]⟩ us vs Q E hr I.Rk Qw r h) λr s' hq=>?_)
 cases r with
 |error e=>exact hx pins H s e s' I hq
 |ok fl=>
  cases fl with
  |ret u=>exact I.after hq
  |next=>exact False.elim hq
  |brk=>exact False.elim hq
  |cont=>exact False.elim hq
theorem oU{E:St->XK}(Fo:nh X.prog X.w X.K X.mg X.base CX k f fd ps sp)(hr:lh k X.A)(hg:Gl X x)(hm:X.mg x=some (.ref f))
  (hk:PySem.W.keepIn X.K (.ref f)=true) (hb:Binds X.K fd ps []) (hx:∀σ,wb CX X σ (E σ)) (ha:PA X (e::es) t) (yx:(x==("__debug__":Str))=false)
  (he:starEach (e::es) X.env=(false,eval e X.env)::starEach es X.env) (Bo:(backTo pos (starEach es X.env)).any (·.1)=false):
  PE X (.Call (.Name x p) (e::es) [] pos) (λσ H Q=>t σ H λvs H1=>sp vs H1 Q (E σ)):=by
 intro pins s σ H Q I h;refine wpAny_Call_Name_kw (mG I hg hm ?_ yx);refine PySem.W.callWith_K (h₀:=X.base) I.ok.mod.Bm hk (fv (ha pos pins s σ H _ I h) λus s1 ⟨vs,H1,I1,r,q⟩=>⟨I1.DS,?_⟩) he Bo;exact Hl Fo hr hb (hx σ) I1 r q
theorem Hn(Fo:nh X.prog X.w X.K X.mg X.base CX k fa fd ps (uy X.K cl Φ f))(hr:lh k X.A)
  (hg:Gl X x) (hm:X.mg x=some (.ref fa)) (hk:PySem.W.keepIn X.K (.ref fa)=true) (hb:Binds X.K fd ps []) (hx:∀σ,wb CX X σ (OG cl λc=>XE c σ)) (yx:(x==("__debug__":Str))=false)
  (he:starEach (e::es) X.env=(false,eval e X.env)::starEach es X.env) (Bo:(backTo pos (starEach es X.env)).any (·.1)=false) (ia:Dt X cl XE Φ G false exs (e::es)):
  cw X cl XE Φ G m (.call f exs) (.Call (.Name x p) (e::es) [] pos):=by
 obtain⟨ta,pa,ia⟩:=ia;refine⟨_,oU Fo hr hg hm hk hb hx pa yx he Bo,λF σ δ H Q S h=>?_⟩;simp only[ev] at h;refine ia F σ δ H _ S (Meet.mono (Meet.bind h) (λds _ hp F1 vs H1 u1 g1=>?_) λc z=>z);rw[az jw] at g1;refine⟨F1,ds,(S.up u1).Af,g1,Meet.mono (ar.up hp u1) (λd _ q F2 v H2 u2 r2=>q F2 v H2 u2 (Res.gives (.wa r2 (by simp[bj])))) λc z F2 H2 u2=>⟨c,rfl,z F2 H2 u2⟩⟩
variable{F:Addr->Prop}{H:Hp}{Q:VK}{x y:V}{p q:D}
theorem mW:∀{ks:List Int}{ds:List D}{kvs:List (Key×V)}(i:Int),kvs.map (·.1)=ks.map Sum.inl->au X.K cl F H ds (kvs.map (·.2))->
  (match mz ks ds i with|some d=>∃v,f_ kvs (Sum.inl i)=some v/\Rep X.K cl F H d v|none=>f_ kvs (Sum.inl i)=none)/\decide (i∈ks)=(f_ kvs (Sum.inl i)).isSome
 |[],ds,kvs,i,h,r=>by
  have:kvs=[]:=by cases kvs with|nil=>rfl|cons _ _=>simp at h
  subst this;have:ds=[]:=by have:=r.length;cases ds with|nil=>rfl|cons _ _=>simp at this
  subst this;exact⟨rfl,rfl⟩
 |k::ks,ds,kvs,i,h,r=>by
  cases kvs with
  |nil=>simp at h
  |cons kv kvs=>
   obtain⟨kk,v⟩:=kv;simp only[fu,Kk] at h;obtain⟨h1,h2⟩:=h;subst h1
   cases ds with
   |nil=>have:=r.length;simp at this
   |cons d ds=>
    obtain⟨v',r',z,a1,a2⟩:=r.cons_inv;have z':v=v'/\kvs.map (·.2)=r':=by simpa using z
    obtain⟨rfl,rfl⟩:=z';obtain⟨Qx,DR⟩:=mW i h2 a2;by_cases hc:k=i
    ·subst hc
     have e1:f_ ((Sum.inl k,v)::kvs) (Sum.inl k:Key)=some v:=eO rfl;refine⟨?_,?_⟩
     ·simp only[mz,b_]
      exact⟨v,e1,a1⟩
     ·rw[e1];simp
    ·have e1:f_ ((Sum.inl k,v)::kvs) (Sum.inl i:Key)=f_ kvs (Sum.inl i):=eQ (λz=>hc (D9 z))
     refine⟨?_,?_⟩
     ·simp only[mz,az hc]
      rw[e1];exact Qx
     ·rw[e1,←DR]
      simp only[oz,decide_eq_decide];constructor
      ·rintro(z|z)
       ·exact absurd z.symm hc
       ·exact z
      ·exact .inr
theorem Ho(hu:X.A.units+1<cLine)(hs:GF b)(ia:cw X cl XE Φ G true ea a)(ib:cw X cl XE Φ G true eb b):cw X cl XE Φ G m (.om ea eb) (.Subscript a b pos):=by
 obtain⟨ta,pa,ia⟩:=ia;obtain⟨tb,pb,ib⟩:=ib;refine⟨_,GI hu pa pb hs,λF σ δ H Q S h=>?_⟩;simp only[ev] at h;refine ia F σ δ H _ S (Meet.mono (Meet.bind h) (λp _ hp F1 x H1 u1 g1=>?_) λc z=>z);refine ib F1 σ δ H1 _ (S.up u1) (Meet.mono (Meet.bind (ar.up hp u1)) (λq _ hq F2 y H2 u2 g2=>?_) λc z=>z);have JJ:=ar.up (K:=X.K) (cl:=cl) hq u2;obtain⟨ks,ds,i,rfl,rfl⟩:∃ks ds i,p=.gb ks ds/\q=.int i:=by
  cases p<;>cases q<;>first|exact(show False from JJ).elim|exact⟨_,_,_,rfl,rfl⟩
 obtain⟨l,kvs,rfl,h1,h2,h3⟩:=(g1.got.up u2).gb;have JK:ar X.K cl (λc=>XE c σ) m (bj (.om ea eb)) F2 H2 Q (vh (mz ks ds i)):=JJ;have lk:=(mW i h2 h3).1
 cases e:mz ks ds i with
 |none=>rw[e] at JK;exact(show False from JK).elim
 |some d=>
  rw[e] at JK lk;obtain⟨v,e1,e2⟩:=lk;refine⟨l,v,rfl,?_,ar.lj JK e2 (by simp[bj])⟩;rw[g2.got.int];have:=rk.k (k:=Sum.inl i) h1;rw[e1] at this;exact this
theorem vR:og X (.builtin "len") (λxs H Q=>∃a kvs,xs=[V.ref a]/\H a=some (.dK kvs)/\Q (.int kvs.length) H):=by
 intro pins s σ H xs us Q I r h;obtain⟨a,kvs,rfl,ha,q⟩:=h;obtain⟨u,rfl,ru⟩:=vals1 r;cases ru;exact N8 I (.inl ha) λt s' I'=>⟨.int kvs.length,H,I',⟨t,rfl⟩,q⟩
noncomputable def OH:D->R D
 |.gb ks _=>.ok (.int ks.length)
 |_=>.bad
theorem Hq{p pos:Pos}(hg:Gl X "len")(hm:X.mg "len"=none)(hs:starEach [a] X.env=[(false,eval a X.env)])(ia:cw X cl XE Φ G true ea a):cw X cl XE Φ G m (.yi ea) (.Call (.Name "len" p) [a] [] pos):=by
 have xy:starEach (a::[]) X.env=(false,eval a X.env)::starEach [] X.env:=hs;refine eZ (exs:=[ea]) (o:=p_ OH) (λδ=>?_) vR hg hm PySem.boot_len (by decide) (by decide) xy rfl (bD xy ia bP) λYE F H vs ds Q t g h=>?_
 ·simp only[ev,cv]
  cases ev Φ G true ea δ with
  |ok d=>cases d<;>rfl
  |exc c=>rfl
  |bad=>rfl
 ·match ds,g,h with
  |[],_,h=>exact(show False from h).elim
  |_::_::_,_,h=>exact(show False from h).elim
  |[d],g,h=>
   obtain⟨v,rfl,gv⟩:=Paired.one g;have h:ar X.K cl YE m (bj (.yi ea)) F H Q (OH d):=h;obtain⟨ks,ws,rfl⟩:∃ks ws,d=.gb ks ws:=by
    cases d<;>first|exact(show False from h).elim|exact⟨_,_,rfl⟩
   obtain⟨l,kvs,rfl,h1,h2,h3⟩:=gv.gb;have hl:kvs.length=ks.length:=by have:=congrArg List.length h2;simpa using this
   exact⟨l,kvs,rfl,h1,by rw[hl];exact ar.int h⟩
theorem LJ{t:R Bool}(g:Got X.K cl F H p x){Q:Bool->Hp->Prop}(h:se YE F H Q (truth p)):∃k,KP X.K x H k/\Q k H:=by
 cases p with
 |cx=>rw[g.cx];exact⟨false,rfl,h F H (Up.refl F H)⟩
 |bl b=>rw[g.bl];exact⟨b,rfl,h F H (Up.refl F H)⟩
 |int i=>
  rw[g.int];refine⟨_,rfl,?_⟩;have e:(i !=0)=decide (i≠0):=by
   by_cases hc:i=0
   ·subst hc;rfl
   ·simp[hc]
  rw[e];exact h F H (Up.refl F H)
 |str z=>exact(show False from h).elim
 |tup ds=>
  obtain⟨a,vs,rfl,h1,r1⟩:=g.tup;refine⟨!ds.isEmpty,.inr (.inl ⟨vs,h1,?_⟩),h F H (Up.refl F H)⟩;have:=r1.length;cases ds<;>cases vs<;>simp at this⊢
 |lst ds=>
  obtain⟨a,vs,rfl,h1,r1⟩:=g.lst;refine⟨!ds.isEmpty,.inl ⟨vs,ki.of h1,?_⟩,h F H (Up.refl F H)⟩;have:=r1.length;cases ds<;>cases vs<;>simp at this⊢
 |gb _ _=>exact(show False from h).elim
 |Ah _=>exact(show False from h).elim
 |gu _=>exact(show False from h).elim
theorem Hr(he:∀whole,isTrue e X.env whole=(do let v←whole;standAt e.pos;holding [v] (truthy v)))(ia:cw X cl XE Φ G true ex e):Cy X cl XE Φ G (.leaf ex) e:=by
 obtain⟨ta,pa,ia⟩:=ia;refine⟨_,xI pa he,λF σ δ H Q S h=>?_⟩;simp only[fe] at h;refine ia F σ δ H _ S (Meet.mono (Meet.bind h) (λp _ hp F1 x H1 u1 g1=>?_) λc z=>z);exact LJ (t:=.bad) g1.got (se.up hp u1)
theorem Hs(ia:Cy X cl XE Φ G tx e):Cy X cl XE Φ G (.not tx) (.UnaryOp .Not e pos):=by
 obtain⟨ta,pa,ia⟩:=ia;refine⟨_,KC pa,λF σ δ H Q S h=>?_⟩;simp only[fe] at h;exact ia F σ δ H _ S (Meet.mono (Meet.bind h) (λb _ hp F1 H1 u1=>hp F1 H1 u1) λc z=>z)
theorem yF(ia:Cy X cl XE Φ G tx e):Ha X cl XE Φ G tx (.BoolOp .And [e] pos):=by
 obtain⟨ta,pa,ia⟩:=ia;exact⟨_,Gu pa,ia⟩
theorem Ht(ia:Cy X cl XE Φ G tx e):Ha X cl XE Φ G tx (.BoolOp .Or [e] pos):=by
 obtain⟨ta,pa,ia⟩:=ia;exact⟨_,Kz pa,ia⟩
theorem Hu(ia:Cy X cl XE Φ G ta a)(ib:Ha X cl XE Φ G tb (.BoolOp .And (b::rest) pos)):Ha X cl XE Φ G (.and ta tb) (.BoolOp .And (a::b::rest) pos):=by
 obtain⟨ra,pa,ia⟩:=ia;obtain⟨rb,pb,ib⟩:=ib;refine⟨_,KA pa pb,λF σ δ H Q S h=>?_⟩;simp only[fe] at h;refine ia F σ δ H _ S (Meet.mono (Meet.bind h) (λc _ hp F1 H1 u1=>?_) λc z=>z);have hp:=se.up hp u1
 cases c with
 |true=>exact ib F1 σ δ H1 Q (S.up u1) hp
 |false=>exact hp F1 H1 (Up.refl F1 H1)
theorem LK(ia:Cy X cl XE Φ G ta a)(ib:Ha X cl XE Φ G tb (.BoolOp .Or (b::rest) pos)):Ha X cl XE Φ G (.or ta tb) (.BoolOp .Or (a::b::rest) pos):=by
 obtain⟨ra,pa,ia⟩:=ia;obtain⟨rb,pb,ib⟩:=ib;refine⟨_,NT pa pb,λF σ δ H Q S h=>?_⟩;simp only[fe] at h;refine ia F σ δ H _ S (Meet.mono (Meet.bind h) (λc _ hp F1 H1 u1=>?_) λc z=>z);have hp:=se.up hp u1
 cases c with
 |true=>exact hp F1 H1 (Up.refl F1 H1)
 |false=>exact ib F1 σ δ H1 Q (S.up u1) hp
theorem Ha.t(h:Ha X cl XE Φ G tx e):Cy X cl XE Φ G tx e:=let⟨t,p,q⟩:=h;⟨t,p.pt,q⟩
end
noncomputable def tE(K:PySem.W.Frag)(cl:Nat->Addr)(XE:Nat->St->Hp->Prop)(Φ:Nat->List D->R D)(G:List D)(m:Bool)(ex:Ex):TE:=λσ H Q=>∃F δ,ja K cl F H σ δ/\ar K cl (λc=>XE c σ) m (bj ex) F H Q (ev Φ G m ex δ)
noncomputable def tO(K:PySem.W.Frag)(cl:Nat->Addr)(XE:Nat->St->Hp->Prop)(Φ:Nat->List D->R D)(G:List D)(c:Option Tx):TT:=λσ H Q=>∃F δ,ja K cl F H σ δ/\se (λc=>XE c σ) F H Q (AM Φ G c δ)
section
variable{X:Cx}{cl:Nat->Addr}{XE:Nat->St->Hp->Prop}{YE:Nat->Hp->Prop}{Φ:Nat->List D->R D}{G:List D}{m fr:Bool}
theorem cw.pe(h:cw X cl XE Φ G m ex e):PE X e (tE X.K cl XE Φ G m ex):=by
 obtain⟨t,p,q⟩:=h;exact λpins s σ H Q I ⟨F,δ,S,z⟩=>p pins s σ H Q I (q F σ δ H Q S z)
def Nh(X:Cx)(cl:Nat->Addr)(XE:Nat->St->Hp->Prop)(Φ:Nat->List D->R D)(G:List D)(c:Option Tx)(ifs:List Expr):Prop:=M8 X ifs (tO X.K cl XE Φ G c)
theorem oV:Nh X cl XE Φ G none []:=λpins s σ H Q I ⟨F,δ,S,z⟩=>GZ pins s σ H Q I (by simp only[AM] at z;exact z F H (Up.refl F H))
theorem yG(h:Cy X cl XE Φ G tx e):Nh X cl XE Φ G (some tx) [e]:=by
 obtain⟨t,p,q⟩:=h;exact λpins s σ H Q I ⟨F,δ,S,z⟩=>G0 p pins s σ H Q I (q F σ δ H Q S (by simpa only[AM] using z))
def Hv(m:Bool)(F:Addr->Prop)(H H':Hp):Prop:=if m=true then iw H H' else gq F H H'
structure Wk(K:PySem.W.Frag)(cl:Nat->Addr)(m:Bool)(J:It)(xs:List D)(P:(Addr->Prop)->Hp->Prop):Prop where
 st:∀F H F' H',P F H->Hv m F H H'->(∀a,F a->F' a)->P F' H'
 go:∀F H (i:Nat) x,P F H->xs[i]?=some x->J.go i H/\∀v H',J.NW i H v H'->Up F H F H'/\Rep K cl F H' x v
 stop:∀F H,P F H->J.stop xs.length H
structure DX(X:Cx)(cl:Nat->Addr)(XE:Nat->St->Hp->Prop)(Φ:Nat->List D->R D)(G:List D)(m:Bool)(k:AL)(its:List Ex)(tg iter:Expr):Prop where
 ok:∃wi,PI X tg iter wi/\∀F σ δ H R,ja X.K cl F H σ δ->
 Meet ((cv Φ G m its δ).bind (a_ k)) (λxs=>∀F' H' J P,Up F H F' H'->Wk X.K cl m J xs P->P F' H'->R J H') (λc=>∀F' H',Up F H F' H'->XE c σ H')->wi σ H R
theorem PI.or(h:PI X tg iter wi)(h':PI X tg iter VD):PI X tg iter (λσ H R=>wi σ H R\/VD σ H R):=λpins s σ H R I z=>z.elim (h pins s σ H R I) (h' pins s σ H R I)
theorem tU{a:Addr}{xs:List D}:Wk X.K cl m (Q_ X.K a) xs (λF H=>(m=true\/F a)/\∃vs,H a=some (.lst vs)/\au X.K cl F H xs vs) where
 st:=λF H F' H' ⟨hm,vs,h1,r1⟩ hs sub=>by
  unfold Hv at hs;by_cases hc:m=true
  ·rw[bp hc] at hs
   exact⟨.inl hc,vs,hs _ _ h1,r1.mono (gq.of_same hs) sub⟩
  ·rw[az hc] at hs
   have fa:F a:=hm.resolve_left hc;exact⟨.inr (sub a fa),vs,hs.fr _ _ fa h1,r1.mono hs sub⟩
 go:=λF H i x ⟨_,vs,h1,r1⟩ hx=>by
  obtain⟨v,h2,h3⟩:=r1.get hx;refine⟨⟨vs,v,ki.of h1,h2⟩,λw H' hy=>?_⟩;obtain⟨rfl,hy⟩:=hy;have:=hy vs (ki.of h1);rw[h2] at this;cases this;exact⟨Up.refl F _,h3⟩
 stop:=λF H ⟨_,vs,h1,r1⟩=>⟨vs,ki.of h1,by rw[r1.length];exact fm _⟩
theorem yH{a:Addr}{xs:List D}:Wk X.K cl m (Ra X.K a) xs (λF H=>∃vs,ju X.K H a vs/\au X.K cl F H xs vs) where
 st:=λF H F' H' ⟨vs,h1,r1⟩ hs sub=>by
  have xy:gq F H H':=by
   unfold Hv at hs;by_cases hc:m=true
   ·rw[bp hc] at hs;exact gq.of_same hs
   ·rw[az hc] at hs;exact hs
  exact⟨vs,xy.JE h1,r1.mono xy sub⟩
 go:=λF H i x ⟨vs,h1,r1⟩ hx=>by
  obtain⟨v,h2,h3⟩:=r1.get hx;refine⟨⟨vs,v,h1,h2⟩,λw H' hy=>?_⟩;obtain⟨rfl,hy⟩:=hy;have:=hy vs h1;rw[h2] at this;cases this;exact⟨Up.refl F _,h3⟩
 stop:=λF H ⟨vs,h1,r1⟩=>⟨vs,h1,by rw[r1.length];exact fm _⟩
theorem rG{lo:Int}(h:(cj lo n)[i]?=some x):i<n/\x=.int (lo+i):=by
 unfold cj at h;rw[AA] at h;by_cases hc:i<n
 ·rw[List.getElem?_range hc] at h
  simp at h;exact⟨hc,h.symm⟩
 ·rw[I_ (by simp;omega)] at h;cases h
theorem LL{lo:Int}{n:Nat}:Wk X.K cl m (KL lo n) (cj lo n) (λ_ _=>True) where
 st:=λ_ _ _ _ _ _ _=>trivial
 go:=λF H i x _ hx=>by
  obtain⟨hi,rfl⟩:=rG hx;refine⟨hi,λv H' hy=>?_⟩;obtain⟨rfl,rfl⟩:=hy;exact⟨Up.refl F _,by simp[Rep]⟩
 stop:=λF H _=>by show n<=(cj lo n).length;simp[cj]
theorem lG:∀{xs:List D}{n i:Nat}{x:D},(gg n xs)[i]?=some x->∃y,xs[i]?=some y/\x=.tup [.int ((n+i:Nat):Int),y]
 |[],n,i,x,h=>by simp[gg] at h
 |y::xs,n,0,x,h=>by simp[gg] at h;exact⟨y,by simp,h.symm⟩
 |y::xs,n,i+1,x,h=>by
  obtain⟨z,h1,h2⟩:=lG (xs:=xs) (n:=n+1) (i:=i) (by simpa[gg] using h);exact⟨z,by simpa using h1,by rw[h2];congr 3;omega⟩
theorem lH:∀(xs:List D)(n:Nat),(gg n xs).length=xs.length
 |[],_=>rfl
 |_::xs,n=>by simp[gg,lH xs (n+1)]
theorem Hw{a:Addr}{xs:List D}:Wk X.K cl m (RI X.K a) (gg 0 xs) (λF H=>∃vs,ju X.K H a vs/\au X.K cl F H xs vs) where
 st:=(yH (X:=X) (cl:=cl) (m:=m) (a:=a) (xs:=xs)).st
 go:=λF H i x ⟨vs,h1,r1⟩ hx=>by
  obtain⟨y,e1,rfl⟩:=lG hx;obtain⟨v,h2,h3⟩:=r1.get e1;refine⟨⟨vs,v,h1,h2⟩,λw H' hy=>?_⟩;obtain⟨t,z,ht,rfl,rfl,hy⟩:=hy;have:=hy vs h1;rw[h2] at this;cases this;refine⟨Up.alloc ht,?_⟩;simp only[Rep];refine⟨t,_,rfl,ju.of ah,au.cons ?_ (au.cons (h3.up (Up.alloc ht)) au.nil)⟩;simp[Rep]
 stop:=λF H ⟨vs,h1,r1⟩=>⟨vs,h1,by rw[lH,r1.length];exact fm _⟩
theorem tV{α:Type}{P:Prop}[Decidable P]{a:α}{c:Nat}(h:(if P then R.ok a else R.bad)=R.exc c):False:=by split at h<;>cases h
theorem dY(h:Meet (a_ k ss) P E):∃xs,A9 k ss=.ok xs/\P xs:=by
 unfold a_ at h
 cases e:A9 k ss with
 |ok xs=>
  rw[e] at h;simp only[R.my] at h;by_cases hc:xs.length<=gx
  ·rw[bp hc] at h;exact⟨xs,rfl,h⟩
  ·rw[az hc] at h;exact(show False from h).elim
 |exc c=>
  exfalso;cases k<;>rcases ss with _|⟨d,_|⟨d',_|⟨Xh,ss⟩⟩⟩<;>first|cases e|(cases d<;>first|cases e|exact tV e|(cases d'<;>first|cases e|exact tV e))
 |bad=>rw[e] at h;exact(show False from h).elim
theorem oW(g:if m=true then Paired (Got X.K cl F H) ds vs else au X.K cl F H ds vs):Paired (Got X.K cl F H) ds vs:=by
 by_cases hc:m=true
 ·rw[bp hc] at g;exact g
 ·rw[az hc] at g
  clear hc
  induction ds generalizing vs with
  |nil=>rw[g.nil_inv];exact .nil
  |cons d ds ih=>obtain⟨v,r,rfl,a1,a2⟩:=g.cons_inv;exact .cons (.inl a1) (ih a2)
theorem LM(hg:Gl X "range")(hm:X.mg "range"=none)(hs:starEach [a] X.env=[(false,eval a X.env)])(ia:cw X cl XE Φ G m ea a):DX X cl XE Φ G m .g_ [ea] tg (.Call (.Name "range" p) [a] [] pos):=by
 obtain⟨ta,pa,ia⟩:=bD (es:=[]) (as:=[]) hs ia bP;refine⟨_,kX hg hm pa hs,λF σ δ H R S h=>?_⟩;refine ia F σ δ H _ S (Meet.mono (Meet.bind h) (λds _ hd F1 vs H1 u1 g1=>?_) λc z=>z);obtain⟨xs,e,hx⟩:=dY hd;have g2:=oW g1
 match ds,e,g2 with
 |[],e,_=>cases e
 |x::_::_,e,_=>cases x<;>cases e
 |[d],e,g2=>
  obtain⟨v,rfl,gv⟩:=Paired.one g2;obtain⟨n,rfl⟩:∃n,d=.int n:=by
   cases d<;>first|exact⟨_,rfl⟩|cases e
  have e:(if-(gx:Int)<=n/\n<=gx then Py.R.ok (cj 0 n.toNat) else Py.R.bad)=Py.R.ok xs:=e;by_cases hc: -(gx:Int)<=n/\n<=(gx:Int)
  ·rw[bp hc] at e
   cases e;rw[gv.int];have hl:(gx:Int)=100000:=rfl;exact⟨n,rfl,by have:=hc.1;omega,by have:=hc.2;omega,hx F1 H1 _ _ u1 LL trivial⟩
  ·rw[az hc] at e;cases e
theorem Hx(hg:Gl X "enumerate")(hm:X.mg "enumerate"=none)(hs:starEach [a] X.env=[(false,eval a X.env)])(ia:cw X cl XE Φ G m ea a):
  DX X cl XE Φ G m .enum [ea] (.Tuple elts tk Cp) (.Call (.Name "enumerate" p) [a] [] pos):=by
 obtain⟨ta,pa,ia⟩:=bD (es:=[]) (as:=[]) hs ia bP;refine⟨_,G6 hg hm pa hs,λF σ δ H R S h=>?_⟩;refine ia F σ δ H _ S (Meet.mono (Meet.bind h) (λds _ hd F1 vs H1 u1 g1=>?_) λc z=>z);obtain⟨xs,e,hx⟩:=dY hd;have g2:=oW g1
 match ds,e,g2 with
 |[],e,_=>cases e
 |x::_::_,e,_=>cases x<;>cases e
 |[d],e,g2=>
  obtain⟨v,rfl,gv⟩:=Paired.one g2;obtain⟨ys,rfl⟩:∃ys,d=.tup ys:=by
   cases d<;>first|exact⟨_,rfl⟩|cases e
  cases e;obtain⟨b,ws,rfl,h1,r1⟩:=gv.tup;exact⟨b,rfl,⟨ws,h1⟩,hx F1 H1 _ _ u1 Hw ⟨ws,h1,r1⟩⟩
theorem yI(ia:cw X cl XE Φ G m ea a):DX X cl XE Φ G m .seq [ea] tg a:=by
 obtain⟨ta,pa,ia⟩:=ia;refine⟨_,PI.or (tI pa) (mL pa),λF σ δ H R S h=>?_⟩;simp only[cv] at h
 cases e:ev Φ G m ea δ with
 |bad=>rw[e] at h;exact(show False from h).elim
 |exc c=>
  rw[e] at h;refine .inl (ia F σ δ H _ S ?_);rw[e];exact h
 |ok d=>
  rw[e] at h;obtain⟨xs,e2,hx⟩:=dY (show Meet (a_ .seq [d]) _ _ from h);cases d<;>first|(cases e2;done)|skip
  ·rename_i ys
   cases e2;refine .inr (ia F σ δ H _ S ?_);rw[e];intro F1 v H1 u1 g1;obtain⟨b,ws,rfl,h1,r1⟩:=g1.got.tup;exact⟨b,rfl,⟨ws,h1⟩,hx F1 H1 _ _ u1 yH ⟨ws,h1,r1⟩⟩
  ·rename_i ys
   cases e2;refine .inl (ia F σ δ H _ S ?_);rw[e];intro F1 v H1 u1 g1;by_cases hc:m=true
   ·obtain⟨b,ws,rfl,h1,r1⟩:=g1.got.lst
    exact⟨b,rfl,⟨ws,ki.of h1⟩,hx F1 H1 _ _ u1 tU ⟨.inl hc,ws,h1,r1⟩⟩
   ·unfold Gives at g1
    rw[az hc] at g1;obtain⟨F2,u2,_,rp⟩:=g1.keep u1;simp only[Rep] at rp;obtain⟨b,ws,rfl,fa,h1,r1⟩:=rp;exact⟨b,rfl,⟨ws,ki.of h1⟩,hx F2 H1 _ _ u2 tU ⟨.inr fa,ws,h1,r1⟩⟩
end
noncomputable def ik(σ:St):List Nat->List V->St
 |i::is,v::vs=>ik (σ.set i (some v)) is vs
 |_,_=>σ
theorem fW:∀(is:List Nat)(vs:List V)(σ:St),(ik σ is vs).length=σ.length
 |[],_,σ=>rfl
 |_::_,[],σ=>rfl
 |i::is,v::vs,σ=>by rw[ik,fW is vs];simp
theorem dA:∀(is:List Nat)(vs:List V)(σ:St)(j:Nat),j∉is->(ik σ is vs)[j]?=σ[j]?
 |[],_,σ,j,_=>rfl
 |_::_,[],σ,j,_=>rfl
 |i::is,v::vs,σ,j,h=>by
  rw[ik,dA is vs _ j λz=>h (o_ _ z),AW];rintro rfl;exact h si
section
variable{X:Cx}{cl:Nat->Addr}{XE:Nat->St->Hp->Prop}{YE:Nat->Hp->Prop}{Φ:Nat->List D->R D}{G:List D}{m fr:Bool}
def FY(X:Cx)(cl:Nat->Addr)(C2:List Nat)(g:TG)(tg:Expr):Prop:=PG X tg g/\∀F H σ v x ts Q,spread C2.length x=some ts->Rep X.K cl F H x v->(∀vs,au X.K cl F H ts vs->Q (ik σ C2 vs) H)->g v σ H Q
theorem JL(hN:X.N.Nodup)(hi:X.N[i]?=some x)(hx:Loc X.env.scope x)(hf:X.fn x=true\/X.env.scope.names.lookup x=some .local):FY X cl [i] (bw i) (.Name x pos):=by
 refine⟨hX hN hi hx hf,λF H σ v x ts Q hs r q=>?_⟩;have:ts=[x]:=by simpa[spread] using hs.symm
 subst this;exact q [v] (au.cons r au.nil)
theorem JM(hc:X.calm=true)(hN:X.N.Nodup)(hi:X.N[i]?=some x)(hx:Loc X.env.scope x)(hf:X.fn x=true\/X.env.scope.names.lookup x=some .local)
  (hj:X.N[j]?=some y) (hy:Loc X.env.scope y) (OI:X.fn y=true\/X.env.scope.names.lookup y=some .local):
  FY X cl [i,j] (Eg X.K 2 (uq (bw i) (uq (bw j) Ef))) (.Tuple [.Name x p1,.Name y p2] k pos):=by
 refine⟨KJ hc (oI (hX hN hi hx hf) (oI (hX hN hj hy OI) Gx)),λF H σ v d ts Q hs r q=>?_⟩
 cases d with
 |tup xs=>
  have xy:(if xs.length=2 then some xs else none)=some ts:=hs;by_cases hl:xs.length=2
  ·rw[bp hl] at xy
   cases xy;simp only[Rep] at r;obtain⟨a,vs,rfl,h1,r1⟩:=r;have hv:vs.length=2:=by rw[r1.length,hl]
   match vs,hv,h1,r1 with
   |[v1,v2],_,h1,r1=>exact⟨a,[v1,v2],rfl,h1,rfl,v1,[v2],rfl,v2,[],rfl,rfl,q [v1,v2] r1⟩
  ·rw[az hl] at xy;cases xy
 |_=>cases hs
theorem yJ(S:ja X.K cl F H σ δ)(u:Up F H F' H')(hl:di.length=ntg+caps.length)
  (hc:∀j,ntg<=j->di[j]?=(ux σ caps ntg)[j]?) (G9:ts.length=ntg) (r:au X.K cl F' H' ts vs):
  ja X.K cl F' H' (ik di (List.range ntg) vs) (ts.map (λt=>some (false,t))++dk δ caps):=by
 have S':=S.up u;have hv:vs.length=ntg:=by rw[r.length,G9]
 --the targets
 have VE:∀(n k:Nat)(ws:List V)(τ:St),ws.length=n->k+n<=τ.length->∀i,i<n->(ik τ (List.range' k n) ws)[k+i]?=(ws[i]?).map some:=by
  intro n
  induction n with
  |zero=>intro k ws τ _ _ i hi;exact absurd hi (Ji i)
  |succ n ih=>
   intro k ws τ hw Xi i hi
   match ws,hw with
   |w::ws,hw=>
    have Ng:ws.length=n:=by simpa using hw
    rw[List.range'_succ,ik]
    cases i with
    |zero=>
     rw[dA _ _ _ _ (by simp[List.mem_range'];omega)];simp[Cg (show k<τ.length by omega)]
    |succ i=>
     have:=ih (k+1) ws (τ.set k (some w)) Ng (by simp;omega) i (by omega);rw[show k+(i+1)=k+1+i by omega,this];simp
 have OJ:(ik di (List.range ntg) vs).length=ntg+caps.length:=by rw[fW,hl]
 have R0:∀i,i<ntg->(ik di (List.range ntg) vs)[i]?=(vs[i]?).map some:=λi hi=>by
  have:=VE ntg 0 vs di hv (by omega) i hi;rw[List.range_eq_range'];simpa using this
 have OL:∀i,ntg<=i->(ik di (List.range ntg) vs)[i]?=(ux σ caps ntg)[i]?:=λi hi=>by
  rw[dA _ _ _ _ (by simp;omega)];exact hc i hi
 have OM:∀k,(ux σ caps ntg)[ntg+k]?=(caps[k]?).map λj=>(σ[j]?).getD none:=λk=>by
  unfold ux;rw[Dd (by simp),Kd,AA];simp
 have ON:∀k,(ts.map (λt=>(some (false,t):Slot))++dk δ caps)[ntg+k]?=(caps[k]?).map λj=>(δ[j]?).getD none:=λk=>by
  rw[Dd (by simp[G9]),dz,G9];unfold dk;rw[AA];simp
 have OO:∀i,i<ntg->(ts.map (λt=>(some (false,t):Slot))++dk δ caps)[i]?=(ts[i]?).map λt=>some (false,t):=λi hi=>by
  rw[De (by simp[G9];exact hi),AA]
 refine⟨by rw[OJ];simp[dk,G9],S'.Af,λi d e=>?_,λi d e=>?_⟩
 ·by_cases hi:i<ntg
  ·rw[OO i hi] at e
   cases q:ts[i]? with
   |none=>rw[q] at e;cases e
   |some t=>
    rw[q] at e;have:t=d:=by simpa using e
    subst this;obtain⟨v,h1,h2⟩:=r.get q;exact⟨v,by rw[R0 i hi,h1];rfl,h2⟩
  ·obtain⟨k,rfl⟩:∃k,i=ntg+k:=⟨i-ntg,by omega⟩
   rw[ON k] at e
   cases q:caps[k]? with
   |none=>rw[q] at e;cases e
   |some j=>
    rw[q] at e;have e':(δ[j]?).getD none=some (false,d):=by simpa using e
    have e2:δ[j]?=some (some (false,d)):=by
     cases z:δ[j]? with
     |none=>rw[z] at e';cases e'
     |some o=>rw[z] at e';simp at e';rw[e']
    obtain⟨v,h1,h2⟩:=S'.sh j d e2;exact⟨v,by rw[OL _ (by omega),OM k,q];simp[h1],h2⟩
 ·by_cases hi:i<ntg
  ·rw[OO i hi] at e
   cases q:ts[i]? with
   |none=>rw[q] at e;cases e
   |some t=>rw[q] at e;simp at e
  ·obtain⟨k,rfl⟩:∃k,i=ntg+k:=⟨i-ntg,by omega⟩
   rw[ON k] at e
   cases q:caps[k]? with
   |none=>rw[q] at e;cases e
   |some j=>
    rw[q] at e;have e':(δ[j]?).getD none=some (true,d):=by simpa using e
    have e2:δ[j]?=some (some (true,d)):=by
     cases z:δ[j]? with
     |none=>rw[z] at e';cases e'
     |some o=>rw[z] at e';simp at e';rw[e']
    obtain⟨a,h1,h2,h3⟩:=S'.ow j d e2;exact⟨a,by rw[OL _ (by omega),OM k,q];simp[h1],h2,h3⟩
theorem i9{cond:Option Tx}
   (hw:∀F σ δ H R,ja X.K cl F H σ δ->Meet ((cv Φ G true its δ).bind (a_ k)) (λxs=>∀F' H' J P,Up F H F' H'->Wk X.K cl true J xs P->P F' H'->R J H') (λc=>∀F' H',Up F H F' H'->XE c σ H')->wi σ H R)
   (hg:∀F H σ v x ts Q,spread ntg x=some ts->Rep X.K cl F H x v->(∀vs,au X.K cl F H ts vs->Q (ik σ (List.range ntg) vs) H)->g v σ H Q)
   (S:ja X.K cl F H σ δ) (h:ar X.K cl (λc=>XE c σ) m true F H Q (ev Φ G m (.comp k its caps ntg cond elt) δ)):
   BF wi g (tO X.K cl (λ_ _ _=>False) Φ G cond) (tE X.K cl (λ_ _ _=>False) Φ G false elt) caps ntg σ H Q:=by
 simp only[ev] at h;generalize hf:(λx=>match spread ntg x with
       |none=>(.bad:R (Option D))
       | some ts=>
         (AM Φ G cond (ts.map (λt=>some (false,t))++dk δ caps)).bind λb=>
           if b then(ev Φ G false elt (ts.map (λt=>some (false,t))++dk δ caps)).bind λy=>.ok (some y) else .ok none)=f at h
 have h0:Meet ((cv Φ G true its δ).bind (a_ k)) (λxs=>ar X.K cl (λc=>XE c σ) m true F H Q (R.bind (R.quiet (ji f xs)) λys=>.ok (.lst ys))) (λc=>∀F' H',Up F H F' H'->XE c σ H'):=by
   have h1:=Meet.bind h
   cases e:cv Φ G true its δ with
   |ok ss=>rw[e] at h1;exact Meet.bind h1
   |exc c=>rw[e] at h1;exact h1
   |bad=>rw[e] at h1;exact h1
 have Ni:Meet ((cv Φ G true its δ).bind (a_ k)) (λxs=>xs.length<=gx/\ar X.K cl (λc=>XE c σ) m true F H Q (R.bind (R.quiet (ji f xs)) λys=>.ok (.lst ys))) (λc=>∀F' H',Up F H F' H'->XE c σ H'):=by
   refine Meet.mono h0 (λxs e z=>⟨?_,z⟩) λc z=>z
   cases e1:cv Φ G true its δ with
   | ok ss=>
     rw[e1] at e;have e:a_ k ss=.ok xs:=e;unfold a_ at e
     cases e2:A9 k ss with
     | ok ys=>
       rw[e2] at e;simp only[R.my] at e;by_cases hc:ys.length<=gx
       · rw[bp hc] at e;cases e;exact hc
       · rw[az hc] at e;cases e
     |exc c=>rw[e2] at e;cases e
     |bad=>rw[e2] at e;cases e
   |exc c=>rw[e1] at e;cases e
   |bad=>rw[e1] at e;cases e
 clear h h0;unfold BF;refine hw F σ δ H _ S (Meet.mono Ni (λxs _ hx F1 H1 J P u1 W1 p1 q hq=>?_) λc z=>z);obtain⟨hlen,hx⟩:=hx
 cases ho:ji f xs with
 |exc c=>rw[ho] at hx;exact(show False from hx).elim
 |bad=>rw[ho] at hx;exact(show False from hx).elim
 | ok out=>
   rw[ho] at hx;have hx:ar X.K cl (λc=>XE c σ) m true F H Q (.ok (.lst out)):=hx;have nq:∀b o,H1 b=some o->b≠q:=λb o e z=>by rw[z,hq] at e;cases e
   have VF:¬F1 q:=(S.up u1).Af.fresh hq;refine⟨λi n di H'=>n=xs.length-i/\i<=xs.length/\di.length=ntg+caps.length/\(∀j,ntg<=j->di[j]?=(ux σ caps ntg)[j]?)/\
     ∃F' ys ds rest,Up F1 H1 F' H'/\¬F' q/\H' q=some (.lst ys)/\au X.K cl F' H' ds ys/\ds.length<=i/\ji f (xs.drop i)=.ok rest/\out=ds++rest,⟨xs.length,?_⟩,?_⟩
   · refine⟨by simp,DQ _,by simp[ux],λj _=>rfl,F1,[],[],out,Up.alloc hq,VF,ah,au.nil,fm _,by simpa using ho,rfl⟩
   · rintro i n di H' ⟨rfl,hi,hl,hc,F',ys,ds,rest,u2,nF,T8,r2,G5,x_,Hy⟩
     have pH:P F' H':=W1.st F1 H1 F' H' p1 (by unfold Hv;rw[bp rfl];exact u2.same) u2.sub;by_cases qr:i<xs.length
     · refine .inr ?_
       obtain⟨go,yl⟩:=W1.go F' H' i xs[i] pH (by simp[qr]);refine⟨go,λv H2 hy=>?_⟩;obtain⟨u3,rx⟩:=yl v H2 hy;have hd:xs.drop i=xs[i]::xs.drop (i+1):=MW qr;rw[hd] at x_;simp only[ji] at x_
       cases Qy:f xs[i] with
       |exc c=>rw[Qy] at x_;cases x_
       |bad=>rw[Qy] at x_;cases x_
       | ok o=>
         rw[Qy] at x_;simp only[R.my] at x_
         cases BJ:ji f (xs.drop (i+1)) with
         |exc c=>rw[BJ] at x_;cases x_
         |bad=>rw[BJ] at x_;cases x_
         | ok JN=>
           rw[BJ] at x_;simp only[R.my,R.ok.injEq] at x_;have lz:=Qy;rw[←hf] at lz;dsimp only at lz
           cases vw:spread ntg xs[i] with
           |none=>rw[vw] at lz;cases lz
           | some ts=>
             rw[vw] at lz;dsimp only at lz;have G9:ts.length=ntg:=by
               match ntg,xs[i],vw with
               |0,d,vw=>cases d<;>cases vw
               | 1,d,vw=>
                 have:[d]=ts:=by simpa[spread] using vw
                 subst this;rfl
               | n+2,d,vw=>
                 cases d<;>first|(cases vw;done)|skip;simp only[spread] at vw;split at vw
                 · rename_i hh;cases vw;exact hh
                 · cases vw
             refine hg F' H2 di v xs[i] ts _ vw rx λvs rv=>?_;have R1:Up F1 H1 F' H2:=u2.trans u3;have S2:ja X.K cl F' H2 (ik di (List.range ntg) vs) (ts.map (λt=>some (false,t))++dk δ caps):=yJ S (u1.trans R1) hl hc G9 rv;have K9:(ik di (List.range ntg) vs).length=ntg+caps.length:=by rw[fW];exact hl
             have FW:∀j,ntg<=j->(ik di (List.range ntg) vs)[j]?=(ux σ caps ntg)[j]?:=λj hj=>by
               rw[dA _ _ _ _ (by simp;omega)];exact hc j hj
             have JJ:H2 q=some (.lst ys):=u3.same _ _ T8
             cases hb:AM Φ G cond (ts.map (λt=>some (false,t))++dk δ caps) with
             |exc c=>rw[hb] at lz;cases lz
             |bad=>rw[hb] at lz;cases lz
             | ok b=>
               rw[hb] at lz;simp only[R.my] at lz;refine⟨F',_,S2,?_⟩;rw[hb];intro F3 H3 u4;have S3:=S2.up u4;have JK:H3 q=some (.lst ys):=u4.same _ _ JJ;have T9:¬F3 q:=λz=>(u4.new q z).elim nF λy=>by rw[JJ] at y;cases y.1
               have r3:au X.K cl F3 H3 ds ys:=(r2.up u3).up u4
               cases b with
               | false=>
                 rw[az jw] at lz;cases lz;show∃m',_;refine⟨xs.length-(i+1),by omega,rfl,qr,K9,FW,F3,ys,ds,JN,R1.trans u4,T9,JK,r3,by omega,BJ,?_⟩;rw[Hy,←x_]
               | true=>
                 rw[bp rfl] at lz
                 cases Qz:ev Φ G false elt (ts.map (λt=>some (false,t))++dk δ caps) with
                 |exc c=>rw[Qz] at lz;cases lz
                 |bad=>rw[Qz] at lz;cases lz
                 | ok y=>
                   rw[Qz] at lz;simp only[R.my] at lz;cases lz;show tE X.K cl (λ_ _ _=>False) Φ G false elt _ H3 _;refine⟨F3,_,S3,?_⟩;rw[Qz];intro F4 w H4 u5 gv;unfold Gives at gv;rw[az jw] at gv;obtain⟨F5,u6,VG,vg⟩:=gv.keep u5;have R4:H4 q=some (.lst ys):=u6.same _ _ JK;have R5:¬F5 q:=λz=>(u6.new q z).elim T9 λy=>by rw[JK] at y;cases y.1
                   have r4:au X.K cl F5 H4 ds ys:=r3.up u6;have pr:gq F5 H4 (L2.upd H4 q (.lst (ys++[w]))):=gq.upd R5 (λzs e=>by rw[R4] at e;cases e) (λo u e=>by rw[R4] at e;cases e);have u7:Up F1 H1 F5 H4:=(R1.trans u4).trans u6;refine⟨ys,xs.length-(i+1),R4,?_,by omega,rfl,qr,K9,FW,F5,ys++[w],ds++[y],JN,⟨λb o e=>?_,u7.sub,λa z=>?_⟩,R5,ah,?_,?_,BJ,?_⟩
                   · rw[r4.length];exact Ja (qe G5 (Nat.le_of_lt qr)) (Ja hlen (by decide))
                   · rw[aA (nq b o e)];exact u7.same b o e
                   · rcases u7.new a z with y|⟨y1,y2⟩
                     · exact .inl y
                     · refine .inr ⟨y1,?_⟩
                       rw[aA (by rintro rfl;exact R5 z)];exact y2
                   · exact(r4.mono pr λ_ z=>z).append (au.cons (vg.mono pr λ_ z=>z) au.nil)
                   · rw[rj,List.length_singleton];omega
                   · rw[Hy,←x_];simp
     · have ya:i=xs.length:=by omega
       subst ya;refine .inl ⟨W1.stop F' H' pH,?_⟩;have hr:rest=[]:=by
         rw[List.drop_length] at x_;simp only[ji] at x_;cases x_;rfl
       subst hr;rw[Ci] at Hy;subst Hy;refine hx F' (.ref q) H' (u1.trans u2) (Res.gives ?_);unfold Res;rw[bp (by simp[ay])];exact⟨q,rfl,u1.same.free hq,nF,ys,T8,r2⟩
end
section
variable{X:Cx}{cl:Nat->Addr}{XE:Nat->St->Hp->Prop}{YE:Nat->Hp->Prop}{Φ:Nat->List D->R D}{G:List D}{m fr:Bool}
theorem Hz{cond:Option Tx}
  (hc:X.calm=true) (hi:DX X cl XE Φ G true k its tg iter) (Sc:nj X N' caps ntg scope) (hg:∀je C s H fp,FY (dg X N' scope je C s H fp λ_ _=>False) cl (List.range ntg) g tg)
  (ht:∀je C s H fp,Nh (dg X N' scope je C s H fp λ_ _=>False) cl (λ_ _ _=>False) Φ G cond ifs) (he:∀je C s H fp,cw (dg X N' scope je C s H fp λ_ _=>False) cl (λ_ _ _=>False) Φ G false elt e)
  (hs:∀x,foldedSetIterable iter X.env x=pure x):cw X cl XE Φ G m (.comp k its caps ntg cond elt) (.ListComp e [⟨tg,iter,ifs,0⟩] scope pos):=by
 obtain⟨wi,pi,hw⟩:=hi;refine⟨_,G4 (tc:=tO X.K cl (λ_ _ _=>False) Φ G cond) (te:=tE X.K cl (λ_ _ _=>False) Φ G false elt) hc pi Sc (λje C s H fp=>(hg je C s H fp).1) (λje C s H fp=>ht je C s H fp) (λje C s H fp=>(he je C s H fp).pe) hs,λF σ δ H Q S h=>?_⟩;exact i9 (g:=g) hw (λF H σ v x ts Q h1 h2 h3=>(hg [] 0 X.h_ X.bq []).2 F H σ v x ts Q (by rw[List.length_range];exact h1) h2 h3) S h
theorem oX{cond:Option Tx}(hN:X.N.Nodup)(hy:X.N[i]?=some y)(hx:Loc X.env.scope y)
  (hf:X.fn y=true\/X.env.scope.names.lookup y=some .local) (Cu:swapsWith (.ListComp e [⟨tg,iter,ifs,0⟩] scope pos) (some (.Name y py)) A6.line X.env=pure true)
  (hc:X.calm=true) (hi:DX X cl XE Φ G true k its tg iter) (Sc:nj X N' caps ntg scope) (hg:∀je C s H fp,FY (dg X N' scope je C s H fp λ_ _=>False) cl (List.range ntg) g tg)
  (ht:∀je C s H fp,Nh (dg X N' scope je C s H fp λ_ _=>False) cl (λ_ _ _=>False) Φ G cond ifs) (he:∀je C s H fp,cw (dg X N' scope je C s H fp λ_ _=>False) cl (λ_ _ _=>False) Φ G false elt e)
  (hs:∀x,foldedSetIterable iter X.env x=pure x):∃t,PS X (.Assign [.Name y py] (.ListComp e [⟨tg,iter,ifs,0⟩] scope pos) A6) (jn t (bw i))/\
   ∀F σ δ H Q,ja X.K cl F H σ δ->ar X.K cl (λc=>XE c σ) false true F H Q (ev Φ G false (.comp k its caps ntg cond elt) δ)->t σ H Q:=by
 obtain⟨wi,pi,hw⟩:=hi;refine⟨_,gQ (tc:=tO X.K cl (λ_ _ _=>False) Φ G cond) (te:=tE X.K cl (λ_ _ _=>False) Φ G false elt) hN hy hx hf Cu hc pi Sc (λje C s H fp=>(hg je C s H fp).1) (λje C s H fp=>ht je C s H fp) (λje C s H fp=>(he je C s H fp).pe) hs,λF σ δ H Q S h=>?_⟩;exact i9 (g:=g) hw (λF H σ v x ts Q h1 h2 h3=>(hg [] 0 X.h_ X.bq []).2 F H σ v x ts Q (by rw[List.length_range];exact h1) h2 h3) S h
structure nc(K:PySem.W.Frag)(cl:Nat->Addr)(cu:Addr->Prop)(bq:Hp)(F:Addr->Prop)(H:Hp)(σ:St)(δ:gk):Prop where
 sees:ja K cl F H σ δ
 up:Up cu bq F H
 new:∀(i:Nat) d a,δ[i]?=some (some (true,d))->σ[i]?=some (some (.ref a))->bq a=none
 ds:∀(i j:Nat) d e a,i≠j->δ[i]?=some (some (true,d))->δ[j]?=some (some (true,e))->σ[i]?=some (some (.ref a))->σ[j]?≠some (some (.ref a))
section
variable{cu F F':Addr->Prop}{bq H H':Hp}{σ di:St}{δ δ':gk}{K:PySem.W.Frag}
theorem nc.to(f:nc K cl cu bq F H σ δ)(u:Up F H F' H'):nc K cl cu bq F' H' σ δ:=⟨f.sees.up u,f.up.trans u,f.new,f.ds⟩
theorem Own.fz(h:Own K cl F H d a):H a≠none/\Rep K cl (Cw F a) H d (.ref a):=by
 have pr:gq F H H:=gq.of_same (iw.refl H)
 cases d with
 |lst xs=>
  obtain⟨vs,e,r⟩:=h;refine⟨by rw[e];exact Kf _,?_⟩;simp only[Rep];exact⟨a,vs,rfl,.inr rfl,e,r.mono pr λb z=>.inl z⟩
 |gb ks ds=>
  obtain⟨kvs,e,k,r⟩:=h;refine⟨by rw[e];exact Kf _,?_⟩;simp only[Rep];exact⟨a,kvs,rfl,.inr rfl,e,k,r.mono pr λb z=>.inl z⟩
 |_=>exact h.elim
theorem nc.R6(f:nc K cl cu bq F H σ δ)(i:Nat)(e:δ[i]?=some (some (true,d))):∃F',(∀a,F a->F' a)/\nc K cl cu bq F' H σ (δ.set i (some (false,d))):=by
  obtain⟨a,h1,h2,h3⟩:=f.sees.ow i _ e;obtain⟨e1,r1⟩:=h3.fz;have hn:=f.new i _ a e h1;have hi:i<δ.length:=by
   by_cases hc:i<δ.length
   ·exact hc
   ·rw[I_ (by omega)] at e;cases e
  have sub:∀b,F b->Cw F a b:=λb z=>.inl z;have pr:gq F H H:=gq.of_same (iw.refl H);have other:∀j,j≠i->(δ.set i (some (false,d)))[j]?=δ[j]?:=λj hj=>AW (jt hj);have here:(δ.set i (some (false,d)))[i]?=some (some (false,d)):=by simp[Cg hi]
  have pj:∀d',(δ.set i (some (false,d)))[i]?≠some (some (true,d')):=λd' z=>by rw[here] at z;cases z
  refine⟨Cw F a,sub,⟨by rw[Jh];exact f.sees.len,λb z=>z.elim (f.sees.Af b) λy=>(by rw[y];exact e1),λj d' z=>?_,λj d' z=>?_⟩,⟨f.up.same,λb z=>.inl (f.up.sub b z),λb z=>z.elim (f.up.new b) λy=>.inr ?_⟩,λj d' b z w=>?_,λj k d1 d2 b DY z z' w=>?_⟩
  ·by_cases hj:j=i
   ·subst hj
    rw[here] at z;cases z;exact⟨.ref a,h1,r1⟩
   ·rw[other j hj] at z
    obtain⟨v,q1,q2⟩:=f.sees.sh j d' z;exact⟨v,q1,q2.mono pr sub⟩
  ·have hj:j≠i:=by rintro rfl;exact pj d' z
   rw[other j hj] at z;obtain⟨b,q1,q2,q3⟩:=f.sees.ow j d' z;refine⟨b,q1,λy=>y.elim q2 λy=>?_,q3.mono pr sub rfl⟩;subst y;exact f.ds i j _ d' b (jt hj) e z h1 q1
  ·rw[y];exact⟨hn,e1⟩
  ·have hj:j≠i:=by rintro rfl;exact pj d' z
   rw[other j hj] at z;exact f.new j d' b z w
  ·have hj:j≠i:=by rintro rfl;exact pj d1 z
   have hk:k≠i:=by rintro rfl;exact pj d2 z'
   rw[other j hj] at z;rw[other k hk] at z';exact f.ds j k d1 d2 b DY z z' w
theorem nc.cq(f:nc K cl cu bq F H σ δ)(i:Nat):∃F',(∀a,F a->F' a)/\nc K cl cu bq F' H σ (cq δ i):=by
 unfold Py.cq;split
 ·exact f.R6 i (by assumption)
 ·exact f.R6 i (by assumption)
 ·exact⟨F,λ_ z=>z,f⟩
theorem nc.av:∀(is:List Nat){F:Addr->Prop}{δ:gk},nc K cl cu bq F H σ δ->∃F',(∀a,F a->F' a)/\nc K cl cu bq F' H σ (av is δ)
 |[],F,δ,f=>⟨F,λ_ z=>z,f⟩
 |i::is,F,δ,f=>by
  obtain⟨F1,s1,f1⟩:=f.cq i;obtain⟨F2,s2,f2⟩:=nc.av is f1;exact⟨F2,λa z=>s2 a (s1 a z),f2⟩
theorem nc.set(f:nc K cl cu bq F H σ δ)(i:Nat)(r:Rep K cl F H d v):nc K cl cu bq F H (σ.set i (some v)) (δ.set i (some (false,d))):=by
 have hl:=f.sees.len;have DZ:∀j,j≠i->(σ.set i (some v))[j]?=σ[j]?:=λj hj=>AW (jt hj);have A':∀j,j≠i->(δ.set i (some (false,d)))[j]?=δ[j]?:=λj hj=>AW (jt hj);have here:∀o,(δ.set i (some (false,d)))[i]?=some o->o=some (false,d)/\(σ.set i (some v))[i]?=some (some v):=λo z=>by
  by_cases hi:i<δ.length
  ·rw[Cg hi] at z
   exact⟨(ud z).symm,Cg (by rw[hl];exact hi)⟩
  ·rw[I_ (by simpa using hi)] at z;cases z
 have pj:∀e,(δ.set i (some (false,d)))[i]?≠some (some (true,e)):=λe z=>by have:=(here _ z).1;cases this
 refine⟨⟨by simp[hl],f.sees.Af,λj e z=>?_,λj e z=>?_⟩,f.up,λj e b z w=>?_,λj k e e' b DY z z' w=>?_⟩
 ·by_cases hj:j=i
  ·subst hj
   obtain⟨q1,q2⟩:=here _ z;cases q1;exact⟨v,q2,r⟩
  ·rw[A' j hj] at z
   obtain⟨u,q1,q2⟩:=f.sees.sh j e z;exact⟨u,by rw[DZ j hj];exact q1,q2⟩
 ·have hj:j≠i:=by rintro rfl;exact pj e z
  rw[A' j hj] at z;obtain⟨b,q1,q2⟩:=f.sees.ow j e z;exact⟨b,by rw[DZ j hj];exact q1,q2⟩
 ·have hj:j≠i:=by rintro rfl;exact pj e z
  rw[A' j hj] at z;rw[DZ j hj] at w;exact f.new j e b z w
 ·have hj:j≠i:=by rintro rfl;exact pj e z
  have hk:k≠i:=by rintro rfl;exact pj e' z'
  rw[A' j hj] at z;rw[A' k hk] at z';rw[DZ j hj] at w;rw[DZ k hk];exact f.ds j k e e' b DY z z' w
theorem nc.own(f:nc K cl cu bq F H σ δ)(i:Nat)(u:Up F H F' H')(hp:H p=none)(nF:¬F' p)(o:Own K cl F' H' d p):nc K cl cu bq F' H' (σ.set i (some (.ref p))) (δ.set i (some (true,d))):=by
 have f':=f.to u;have hl:=f.sees.len;have DZ:∀j,j≠i->(σ.set i (some (V.ref p)))[j]?=σ[j]?:=λj hj=>AW (jt hj);have A':∀j,j≠i->(δ.set i (some (true,d)))[j]?=δ[j]?:=λj hj=>AW (jt hj);have here:∀o,(δ.set i (some (true,d)))[i]?=some o->o=some (true,d)/\(σ.set i (some (V.ref p)))[i]?=some (some (V.ref p)):=λo z=>by
  by_cases hi:i<δ.length
  ·rw[Cg hi] at z
   exact⟨(ud z).symm,Cg (by rw[hl];exact hi)⟩
  ·rw[I_ (by simpa using hi)] at z;cases z
 have old:∀(j:Nat) e b,δ[j]?=some (some (true,e))->σ[j]?=some (some (V.ref b))->b≠p:=λj e b z w y=>by
  obtain⟨b',q1,q2,q3⟩:=f.sees.ow j e z;rw[w] at q1;have:b=b':=by simpa using q1
  subst this;rw[y] at q3;exact q3.some hp
 refine⟨⟨by simp[hl],f'.sees.Af,λj e z=>?_,λj e z=>?_⟩,f'.up,λj e b z w=>?_,λj k e e' b DY z z' w=>?_⟩
 ·have hj:j≠i:=by rintro rfl;have:=(here _ z).1;cases this
  rw[A' j hj] at z;obtain⟨v,q1,q2⟩:=f'.sees.sh j e z;exact⟨v,by rw[DZ j hj];exact q1,q2⟩
 ·by_cases hj:j=i
  ·subst hj
   obtain⟨q1,q2⟩:=here _ z;cases q1;exact⟨p,q2,nF,o⟩
  ·rw[A' j hj] at z
   obtain⟨b,q1,q2⟩:=f'.sees.ow j e z;exact⟨b,by rw[DZ j hj];exact q1,q2⟩
 ·by_cases hj:j=i
  ·subst hj
   obtain⟨q1,q2⟩:=here _ z;rw[q2] at w;have:p=b:=by simpa using w
   subst this;exact f.up.same.free hp
  ·rw[A' j hj] at z
   rw[DZ j hj] at w;exact f.new j e b z w
 ·by_cases hj:j=i
  ·subst hj
   obtain⟨q1,q2⟩:=here _ z;rw[q2] at w;have:p=b:=by simpa using w
   subst this;rw[A' k (jt DY)] at z';rw[DZ k (jt DY)];exact λy=>old k e' p z' y rfl
  ·rw[A' j hj] at z
   rw[DZ j hj] at w;by_cases hk:k=i
   ·subst hk
    obtain⟨q1,q2⟩:=here _ z';rw[q2];intro y;have:p=b:=by simpa using y
    exact old j e b z w this.symm
   ·rw[A' k hk] at z'
    rw[DZ k hk];exact f.ds j k e e' b DY z z' w
theorem nc.write(f:nc K cl cu bq F H σ δ)(i:Nat)(e:δ[i]?=some (some (true,d)))(hp:σ[i]?=some (some (.ref p)))(hd:(∃vs,o=.lst vs)\/∃kvs,o=.dK kvs)(ho:Own K cl F (L2.upd H p o) d' p):
  nc K cl cu bq F (L2.upd H p o) σ (δ.set i (some (true,d'))):=by
 obtain⟨p',q1,q2,q3⟩:=f.sees.ow i d e;rw[hp] at q1;have:p=p':=by simpa using q1
 subst this;have hi:i<δ.length:=by
  by_cases hc:i<δ.length
  ·exact hc
  ·rw[I_ (by omega)] at e;cases e
 have pr:gq F H (L2.upd H p o):=by
  refine gq.upd q2 (λxs z=>?_) λo' u z=>?_
  ·rcases q3.at with⟨_,y⟩|⟨_,y⟩<;>(rw[y] at z;cases z)
  ·rcases q3.at with⟨_,y⟩|⟨_,y⟩<;>(rw[y] at z;cases z)
 have h0:=f.new i d p e hp;have A':∀j,j≠i->(δ.set i (some (true,d')))[j]?=δ[j]?:=λj hj=>AW (jt hj);have here:(δ.set i (some (true,d')))[i]?=some (some (true,d')):=Cg hi;have nn:∀b,(L2.upd H p o b)=none->H b=none:=λb z=>by
  by_cases hb:b=p
  ·subst hb;rw[ah] at z;cases z
  ·rw[aA hb] at z;exact z
 refine⟨⟨by simp[f.sees.len],λb z y=>f.sees.Af b z (nn b y),λj x z=>?_,λj x z=>?_⟩,⟨λb u z=>?_,f.up.sub,λb z=>?_⟩,λj x b z w=>?_,λj k x x' b DY z z' w=>?_⟩
 ·have hj:j≠i:=by rintro rfl;rw[here] at z;cases z
  rw[A' j hj] at z;obtain⟨v,r1,r2⟩:=f.sees.sh j x z;exact⟨v,r1,r2.mono pr λ_ y=>y⟩
 ·by_cases hj:j=i
  ·subst hj
   rw[here] at z;cases z;exact⟨p,hp,q2,ho⟩
  ·rw[A' j hj] at z
   obtain⟨b,r1,r2,r3⟩:=f.sees.ow j x z;refine⟨b,r1,r2,r3.mono pr (λ_ y=>y) (aA ?_)⟩;rintro rfl;exact f.ds i j d x b (jt hj) e z hp r1
 ·rw[aA (aB z h0)]
  exact f.up.same b u z
 ·rcases f.up.new b z with y|⟨y1,y2⟩
  ·exact .inl y
  ·exact .inr ⟨y1,λw=>y2 (nn b w)⟩
 ·by_cases hj:j=i
  ·subst hj
   rw[hp] at w;have:p=b:=by simpa using w
   subst this;exact h0
  ·rw[A' j hj] at z
   exact f.new j x b z w
 ·by_cases hj:j=i
  ·subst hj
   rw[A' k (jt DY)] at z';exact f.ds j k d x' b DY e z' w
  ·rw[A' j hj] at z
   by_cases hk:k=i
   ·subst hk
    exact f.ds j k x d b DY z e w
   ·rw[A' k hk] at z'
    exact f.ds j k x x' b DY z z' w
end
end
noncomputable def lp(K:PySem.W.Frag)(cl:Nat->Addr)(XE:Nat->St->Hp->Prop)(cu:Addr->Prop)(bq:Hp)(D:Ends):Out->Prop
 |.nx δ=>∀F σ H,nc K cl cu bq F H σ δ->D.nx σ H
 |.bk δ=>∀F σ H,nc K cl cu bq F H σ δ->D.bk σ H
 |.ct δ=>∀F σ H,nc K cl cu bq F H σ δ->D.ct σ H
 |.rt d=>∀F v H,Up cu bq F H->Rep K cl F H d v->D.rt v H
 |.xc c δ=>∀F σ H,nc K cl cu bq F H σ δ->XE c σ H
 |.bad=>False
section
variable(X:Cx)(cl:Nat->Addr)(XE:Nat->St->Hp->Prop)(Φ:Nat->List D->R D)(G:List D)(n:Nat)
structure Ak(sm:Sm)(st:Stmt):Prop where
 ok:∃t,PS X st t/\∀cu bq F σ δ H D,nc X.K cl cu bq F H σ δ->lp X.K cl XE cu bq D (bg Φ G n sm δ)->t D σ H
structure Av(R7:List Sm)(R8:List Stmt):Prop where
 ok:∃t,Di X R8 t/\∀cu bq F σ δ H D,nc X.K cl cu bq F H σ δ->lp X.K cl XE cu bq D (ao Φ G n R7 δ)->t D σ H
end
section
variable{X:Cx}{cl:Nat->Addr}{XE:Nat->St->Hp->Prop}{Φ:Nat->List D->R D}{G:List D}{n:Nat}{K:PySem.W.Frag}{cu F F':Addr->Prop}{bq H H':Hp}{σ:St}{δ:gk}{W:Ends}
theorem HA:Av X cl XE Φ G n [] []:=⟨_,mJ,λcu bq F σ δ H D f h=>by simp only[ao] at h;exact h F σ H f⟩
theorem yK{st:Stmt}(h1:Ak X cl XE Φ G n sm st)(h2:Av X cl XE Φ G n R7 R8):Av X cl XE Φ G n (sm::R7) (st::R8):=by
 obtain⟨t,p1,i1⟩:=h1;obtain⟨u,p2,i2⟩:=h2;refine⟨_,aF p1 p2,λcu bq F σ δ H D f h=>?_⟩;simp only[ao] at h;refine i1 cu bq F σ δ H _ f ?_
 cases e:bg Φ G n sm δ with
 |nx δ'=>rw[e] at h;exact λF' di H' f'=>i2 cu bq F' di δ' H' D f' h
 |bk δ'=>rw[e] at h;exact h
 |ct δ'=>rw[e] at h;exact h
 |rt d=>rw[e] at h;exact h
 |xc c δ'=>rw[e] at h;exact h
 |bad=>rw[e] at h;exact h
theorem lp.of_ok{α:Type}{r:R α}{k:α->Out}{P:α->Prop}(h:lp K cl XE cu bq W (Out.of r δ k))(hk:∀a,r=.ok a->lp K cl XE cu bq W (k a)->P a):Meet r P (λc=>∀F σ H,nc K cl cu bq F H σ δ->XE c σ H):=by
 cases r with
 |ok a=>exact hk a rfl h
 |exc c=>exact h
 |bad=>exact h
theorem gS{e:Expr}{t:TE}(ie:∀F σ δ H Q,ja X.K cl F H σ δ->ar X.K cl (λc=>XE c σ) m (bj ex) F H Q (ev Φ G m ex δ)->t σ H Q)(f:nc X.K cl cu bq F H σ δ)
  (h:lp X.K cl XE cu bq W (Out.of (ev Φ G m ex δ) δ k)) (hQ:∀d F' v H',Up F H F' H'->Gives X.K cl m (bj ex) F' H H' d v->lp X.K cl XE cu bq W (k d)->Q v H'):t σ H Q:=by
 refine ie F σ δ H Q f.sees (Meet.mono (h.of_ok (P:=λd=>lp X.K cl XE cu bq W (k d)) λa _ z=>z) (λd _ z F' v H' u g=>hQ d F' v H' u g z) λc z F' H' u=>z F' σ H' (f.to u))
theorem HB(hN:X.N.Nodup)(hi:X.N[i]?=some x)(hx:Loc X.env.scope x)(hf:X.fn x=true\/X.env.scope.names.lookup x=some .local)(hs:swapsWith e (some (.Name x pos')) pos.line X.env=pure false)
  (ie:cw X cl XE Φ G false ex e):Ak X cl XE Φ G n (.asg i ex) (.Assign [.Name x pos'] e pos):=by
 obtain⟨t,pe,ie⟩:=ie;refine⟨_,qS hN hi hx pe hs hf,λcu bq F σ δ H D f h=>?_⟩;simp only[bg] at h;obtain⟨F1,s1,f1⟩:=f.av (aa false ex);refine gS (e:=e) (m:=false) ie f1 h λd F' v H' u g z=>?_;have g':Res X.K cl (bj ex) F' H H' d v:=by unfold Gives at g;rw[az jw] at g;exact g
 show D.nx (σ.set i (some v)) H';unfold Res at g';by_cases hc:(bj ex&&ay d)=true
 ·rw[bp hc] at g'
  obtain⟨p,rfl,hp,nF,o⟩:=g';rw[hc] at z;exact z F' _ H' (f1.own i u hp nF o)
 ·rw[az hc] at g'
  rw[Bool.not_eq_true _|>.mp hc] at z;exact z F' _ H' ((f1.to u).set i g')
theorem oY(As:bj ex=true)(ie:∃t,PS X (.Assign [.Name x pos'] e pos) (jn t (bw i))/\∀F σ δ H Q,ja X.K cl F H σ δ->ar X.K cl (λc=>XE c σ) false true F H Q (ev Φ G false ex δ)->t σ H Q):
  Ak X cl XE Φ G n (.asg i ex) (.Assign [.Name x pos'] e pos):=by
 obtain⟨t,pe,ie⟩:=ie;refine⟨_,pe,λcu bq F σ δ H D f h=>?_⟩;simp only[bg] at h;obtain⟨F1,s1,f1⟩:=f.av (aa false ex);refine gS (ex:=ex) (e:=e) (m:=false) (λF σ δ H Q S z=>ie F σ δ H Q S (by rw[As] at z;exact z)) f1 h λd F' v H' u g z=>?_;have g':Res X.K cl (bj ex) F' H H' d v:=by unfold Gives at g;rw[az jw] at g;exact g
 show D.nx (σ.set i (some v)) H';unfold Res at g';by_cases hc:(bj ex&&ay d)=true
 ·rw[bp hc] at g'
  obtain⟨p,rfl,hp,nF,o⟩:=g';rw[hc] at z;exact z F' _ H' (f1.own i u hp nF o)
 ·rw[az hc] at g'
  rw[Bool.not_eq_true _|>.mp hc] at z;exact z F' _ H' ((f1.to u).set i g')
theorem HC(hN:X.N.Nodup)(hi:X.N[i]?=some x)(hx:Loc X.env.scope x)(hf:X.fn x=true\/X.env.scope.names.lookup x=some .local)(hs:swapsWith (.Dict [] [] p) (some (.Name x pos')) pos.line X.env=pure false):
  Ak X cl XE Φ G n (.new i) (.Assign [.Name x pos'] (.Dict [] [] p) pos):=by
 refine⟨_,qS hN hi hx bQ hs hf,λcu bq F σ δ H D f h=>?_⟩;simp only[bg] at h;intro a ha;exact h F _ _ (f.own i (d:=.gb [] []) (Up.alloc ha) ha (f.sees.Af.fresh ha) ⟨[],ah,rfl,au.nil⟩)
theorem HD(ie:cw X cl XE Φ G false ex e):Ak X cl XE Φ G n (.ret ex) (.Return (some e) pos):=by
 obtain⟨t,pe,ie⟩:=ie;refine⟨_,dS pe,λcu bq F σ δ H D f h=>?_⟩;simp only[bg] at h;obtain⟨F1,s1,f1⟩:=f.av (aa false ex);refine gS (e:=e) (m:=false) ie f1 h λd F' v H' u g z=>?_;have g':Res X.K cl (bj ex) F' H H' d v:=by unfold Gives at g;rw[az jw] at g;exact g
 obtain⟨F2,u2,_,rp⟩:=g'.keep u;exact z F2 v H' (f1.up.trans u2) rp
theorem LN{sa sb:List Sm}(ic:Cy X cl XE Φ G tx c)(ia:Av X cl XE Φ G n sa a)(ib:Av X cl XE Φ G n sb b):Ak X cl XE Φ G n (.ite tx sa sb) (.If c a b pos):=by
 obtain⟨tc,pc,ic⟩:=ic;obtain⟨ta,pa,ia⟩:=ia;obtain⟨tb,pb,ib⟩:=ib;refine⟨_,xB pc pa pb,λcu bq F σ δ H D f h=>?_⟩;simp only[bg] at h;obtain⟨F1,s1,f1⟩:=f.av (aj tx);refine ic F1 σ _ H _ f1.sees (Meet.mono (h.of_ok (P:=λt=>lp X.K cl XE cu bq D (if t then ao Φ G n sa (Py.av (aj tx) δ) else ao Φ G n sb (Py.av (aj tx) δ))) λa _ z=>z) (λt _ z F' H' u=>?_) λc z F' H' u=>z F' σ H' (f1.to u))
 cases t with
 |true=>rw[bp rfl] at z⊢;exact ia cu bq F' σ _ H' D (f1.to u) z
 |false=>rw[az jw] at z⊢;exact ib cu bq F' σ _ H' D (f1.to u) z
theorem vS{st:Stmt}(h:PS X st (EA XE c)):Ak X cl XE Φ G n (.Lm c) st:=⟨_,h,λcu bq F σ δ H D f z=>by simp only[bg] at z;exact z F σ H f⟩
theorem HE(hN:X.N[i]?=some x)(hv:Ea X.env.scope x)(hd:(x==("__debug__":Str))=false)(um:(x==("__classdict__":Str))=false)
  (iy:attributeBase (.Name x p) "append" X.env (eval (.Name x p) X.env)=eval (.Name x p) X.env) (iz:(apos.endLine==dy.line)=true) (hs:starEach [e] X.env=[(false,eval e X.env)])
  (Cu:swapsWith (.Call (.Attribute (.Name x p) "append" apos) [e] [] dy) none pos.line X.env=pure false)
  (ie:cw X cl XE Φ G false ex e):Ak X cl XE Φ G n (.app i ex) (.Expr (.Call (.Attribute (.Name x p) "append" apos) [e] [] dy) pos):=by
 obtain⟨t,pe,ie⟩:=ie;have xy:starEach (e::[]) X.env=(false,eval e X.env)::starEach [] X.env:=hs;refine⟨_,tG (Jw PySem.F.plainAttrs_list PySem.F.slot_list_append PySem.F.type_list_append lC (iR hN hv hd um) (aw pe c_ xy) iy (by rw[hs];rfl) iz xy rfl) Cu,λcu bq F σ δ H D f h=>?_⟩;simp only[bg] at h;obtain⟨F1,s1,f1⟩:=f.av (aa false ex);generalize Nj:Py.av (aa false ex) δ=Ba at h f1;by_cases ho:tj Ba i=true
 ·rw[bp ho] at h
  obtain⟨xs,e0⟩:∃xs,Ba[i]?=some (some (true,.lst xs)):=by
   unfold tj at ho;split at ho
   ·rename_i xs e;exact⟨xs,e⟩
   ·cases ho
  obtain⟨a,q1,q2,q3⟩:=f1.sees.ow i _ e0;obtain⟨T_,w1,w2⟩:=id q3;refine⟨.ref a,q1,.inl ⟨rfl,T_,ki.of w1⟩,?_⟩;refine gS (e:=e) (m:=false) ie f1 h λd F' v H' u g z=>?_;have g':Res X.K cl (bj ex) F' H H' d v:=by unfold Gives at g;rw[az jw] at g;exact g
  obtain⟨F2,u2,OP,rp⟩:=g'.keep u;have f2:=f1.to u2;obtain⟨a',FZ,OQ,vs,w1,w2⟩:=f2.sees.ow i _ e0;rw[q1] at FZ;have:a=a':=by simpa using FZ
  subst this;simp only[Cv,e0] at z;by_cases hl:xs.length<gx
  ·rw[bp hl] at z
   refine⟨a,vs,v,rfl,rfl,w1,by rw[w2.length];exact Bi hl (by decide),?_⟩;have pr:gq F2 H' (L2.upd H' a (.lst (vs++[v]))):=gq.upd OQ (λys y=>by rw[w1] at y;cases y) λo u y=>by rw[w1] at y;cases y
   exact z F2 σ _ (f2.write i e0 q1 (.inl ⟨_,rfl⟩) ⟨_,ah,(w2.mono pr λ_ y=>y).append (au.cons (rp.mono pr λ_ y=>y) au.nil)⟩)
  ·rw[az hl] at z;exact z.elim
 ·rw[az ho] at h;exact h.elim
end
section
variable{X:Cx}{cl:Nat->Addr}{XE:Nat->St->Hp->Prop}{Φ:Nat->List D->R D}{G:List D}{n:Nat}{K:PySem.W.Frag}{cu F F':Addr->Prop}{bq H H':Hp}{σ:St}{δ:gk}{W:Ends}
theorem LO(h:Ca n j=some k):DV n j=some k:=by
 unfold Ca at h;unfold DV;by_cases h0:0<=j
 ·rw[bp h0] at h⊢
  exact h
 ·rw[az h0] at h⊢
  exact h
theorem HF(hN:X.N[i]?=some x)(hv:Ea X.env.scope x)(hd:(x==("__debug__":Str))=false)(um:(x==("__classdict__":Str))=false)
  (Cu:swapsWithSole [.Subscript (.Name x p) ie ps] e pos.line X.env=pure false) (hw:swappedStores [.Subscript (.Name x p) ie ps] e X.env=pure none) (h1:(assignEach [.Subscript (.Name x p) ie ps] X.env).map (·.2)=[assign (.Subscript (.Name x p) ie ps) X.env])
  (ha:∀v,assign (.Subscript (.Name x p) ie ps) X.env v=(do
   let ov←holding [v] (eval (.Name x p) X.env)
   let iv←holding [v,ov] (eval ie X.env)
   standAt ps
   holding [v,ov,iv] (setItem ov iv v)
   release [v,ov,iv] []))
  (i1:cw X cl XE Φ G false ex e) (i2:cw X cl XE Φ G true ix ie):Ak X cl XE Φ G n (.put i ix ex) (.Assign [.Subscript (.Name x p) ie ps] e pos):=by
 obtain⟨t,pe,i1⟩:=i1;obtain⟨u,pi,i2⟩:=i2;refine⟨_,mK pe (xC (iR hN hv hd um) pi oP ha) Cu hw h1,λcu bq F σ δ H W f h=>?_⟩;simp only[bg] at h;obtain⟨F1,s1,f1⟩:=f.av (aa false ex++aa true ix);generalize Nj:Py.av (aa false ex++aa true ix) δ=Ba at h f1;by_cases ho:tj Ba i=true
 ·rw[bp ho] at h
  obtain⟨xs,e0⟩:∃xs,Ba[i]?=some (some (true,.lst xs)):=by
   unfold tj at ho;split at ho
   ·rename_i xs e;exact⟨xs,e⟩
   ·cases ho
  refine gS (e:=e) (m:=false) i1 f1 h λd F' v H' uu g z=>?_;have g':Res X.K cl (bj ex) F' H H' d v:=by unfold Gives at g;rw[az jw] at g;exact g
  obtain⟨F2,u2,OP,rp⟩:=g'.keep uu;have f2:=f1.to u2;obtain⟨a,q1,q2,T_,VH,VI⟩:=f2.sees.ow i _ e0;refine⟨.ref a,q1,?_⟩;refine gS (e:=ie) (m:=true) i2 f2 z λk F3 y H3 u3 g3 z3=>?_;have f3:=f2.to u3;obtain⟨a',FZ,OQ,vs,w1,w2⟩:=f3.sees.ow i _ e0;rw[q1] at FZ;have:a=a':=by simpa using FZ
  subst this
  cases k with
  |int j=>
   simp only[putD,e0] at z3
   cases hj:Ca xs.length j with
   |none=>rw[hj] at z3;exact z3.elim
   |some m=>
    rw[hj] at z3;rw[g3.got.int];refine⟨a,vs,j,m,rfl,rfl,w1,LO (by rw[w2.length];exact hj),?_⟩;have pr:gq F3 H3 (L2.upd H3 a (.lst (vs.set m v))):=gq.upd OQ (λys y=>by rw[w1] at y;cases y) λo u y=>by rw[w1] at y;cases y
    exact z3 F3 σ _ (f3.write i e0 q1 (.inl ⟨_,rfl⟩) ⟨_,ah,(w2.mono pr λ_ y=>y).set m ((rp.up u3).mono pr λ_ y=>y)⟩)
  |_=>simp only[putD,e0] at z3<;>exact z3.elim
 ·rw[az ho] at h;exact h.elim
theorem HG(rv:Rep K cl F H d v):∀{ks:List Int}{ds:List D}{kvs:List (Key×V)},kvs.map (·.1)=ks.map Sum.inl->au K cl F H ds (kvs.map (·.2))->
  (j∈ks->(putK kvs (Sum.inl j:Key) v).map (·.1)=ks.map Sum.inl/\au K cl F H (Dq ks ds j d) ((putK kvs (Sum.inl j:Key) v).map (·.2)))/\
  (j∉ks->(putK kvs (Sum.inl j:Key) v).map (·.1)=(ks++[j]).map Sum.inl/\au K cl F H (ds++[d]) ((putK kvs (Sum.inl j:Key) v).map (·.2))):=by
 intro ks ds kvs hk r;have EI:(kvs.any λkv=>decide (kv.1=(Sum.inl j:Key)))=decide (j∈ks):=by
  clear r
  induction kvs generalizing ks with
  |nil=>cases ks with|nil=>rfl|cons _ _=>simp at hk
  |cons kv kvs ih=>
   cases ks with
   |nil=>simp at hk
   |cons k ks=>
    simp only[fu,Kk] at hk;rw[D7,ih hk.2,hk.1];by_cases e:k=j
    ·subst e;simp
    ·have e':¬(Sum.inl k:Key)=Sum.inl j:=λz=>e (D9 z)
     simp[e,e',jt e]
 refine⟨λhj=>?_,λhj=>?_⟩
 ·unfold putK
  rw[EI,bp (Ad hj)];clear EI hj
  induction kvs generalizing ks ds with
  |nil=>
   cases ks with
   |nil=>cases ds with|nil=>exact⟨rfl,au.nil⟩|cons _ _=>exact⟨rfl,au.nil⟩
   |cons _ _=>simp at hk
  |cons kv kvs ih=>
   cases ks with
   |nil=>simp at hk
   |cons k ks=>
    simp only[fu,Kk] at hk
    cases ds with
    |nil=>have:=r.length;simp at this
    |cons d0 ds=>
     obtain⟨v0,r0,z,a1,a2⟩:=r.cons_inv;have z':kv.2=v0/\kvs.map (·.2)=r0:=by simpa using z
     obtain⟨rfl,rfl⟩:=z';obtain⟨Qx,DR⟩:=ih hk.2 a2;by_cases e:k=j
     ·have e':kv.1=(Sum.inl j:Key):=by rw[hk.1,e]
      simp only[fu,bp e',Dq,bp e];exact⟨by rw[Qx,hk.1],au.cons rv DR⟩
     ·have e':¬kv.1=(Sum.inl j:Key):=by rw[hk.1];exact λz=>e (D9 z)
      simp only[fu,az e',Dq,az e];exact⟨by rw[Qx,hk.1],au.cons a1 DR⟩
 ·unfold putK
  rw[EI,az (by simpa using hj)];rw[Ac,Ac,Ac,hk];exact⟨rfl,r.append (au.cons rv au.nil)⟩
theorem yL(hu:X.A.units+1<cLine)(hN:X.N[i]?=some x)(hv:Ea X.env.scope x)(hd:(x==("__debug__":Str))=false)(um:(x==("__classdict__":Str))=false)
  (hs:swapsWith e (some (.Subscript (.Name x p) ie ps)) pos.line X.env=pure false) (i1:cw X cl XE Φ G false ex e) (i2:cw X cl XE Φ G true ix ie):Ak X cl XE Φ G n (.dput i ix ex) (.Assign [.Subscript (.Name x p) ie ps] e pos):=by
 obtain⟨t,pe,i1⟩:=i1;obtain⟨u,pi,i2⟩:=i2;refine⟨_,GJ hu (iR hN hv hd um) pi pe hs,λcu bq F σ δ H W f h=>?_⟩;simp only[bg] at h;obtain⟨F1,s1,f1⟩:=f.av (aa false ex++aa true ix);generalize Nj:Py.av (aa false ex++aa true ix) δ=Ba at h f1;by_cases ho:Dr Ba i=true
 ·rw[bp ho] at h
  obtain⟨ks,ds,e0⟩:∃ks ds,Ba[i]?=some (some (true,.gb ks ds)):=by
   unfold Dr at ho;split at ho
   ·rename_i ks ds e;exact⟨ks,ds,e⟩
   ·cases ho
  refine gS (e:=e) (m:=false) i1 f1 h λd F' v H' uu g z=>?_;have g':Res X.K cl (bj ex) F' H H' d v:=by unfold Gives at g;rw[az jw] at g;exact g
  obtain⟨F2,u2,OP,rp⟩:=g'.keep uu;have f2:=f1.to u2;obtain⟨a,q1,q2,Xj,VH,VI,Xk⟩:=f2.sees.ow i _ e0;refine⟨.ref a,q1,?_⟩;refine gS (e:=ie) (m:=true) i2 f2 z λk F3 y H3 u3 g3 z3=>?_;have f3:=f2.to u3;obtain⟨a',FZ,OQ,kvs,w1,w2,w3⟩:=f3.sees.ow i _ e0;rw[q1] at FZ;have:a=a':=by simpa using FZ
  subst this
  cases k with
  |int j=>
   simp only[AO,e0] at z3;by_cases hl:ks.length<gx
   ·rw[bp hl] at z3
    rw[g3.got.int];have VJ:kvs.length=ks.length:=by have:=congrArg List.length w2;simpa using this
    refine⟨a,_,rfl,BB.k (k:=Sum.inl j) w1 (by rw[VJ];exact Bi hl (by decide)),?_⟩;have pr:gq F3 H3 (L2.upd H3 a (.dK (putK kvs (Sum.inl j) v))):=gq.upd OQ (λys y=>by rw[w1] at y;cases y) λo u y=>by rw[w1] at y;cases y
    have rv:=(rp.up u3).mono (F':=F3) pr λ_ y=>y;have pk:=HG (j:=j) rv w2 (w3.mono (F':=F3) pr λ_ y=>y);by_cases hj:j∈ks
    ·rw[bp hj] at z3
     exact z3 F3 σ _ (f3.write i e0 q1 (.inr ⟨_,rfl⟩) ⟨_,ah,(pk.1 hj).1,(pk.1 hj).2⟩)
    ·rw[az hj] at z3
     exact z3 F3 σ _ (f3.write i e0 q1 (.inr ⟨_,rfl⟩) ⟨_,ah,(pk.2 hj).1,(pk.2 hj).2⟩)
   ·rw[az hl] at z3;exact z3.elim
  |_=>simp only[AO,e0] at z3<;>exact z3.elim
 ·rw[az ho] at h;exact h.elim
theorem nc.rebase(f:nc K cl cu bq F H σ δ):∃Hm,nc K cl F Hm F H σ δ/\∀F' H',Up F Hm F' H'->Up cu bq F' H'/\gq F H H'/\(∀a,F a->F' a)/\∀di δ',nc K cl F Hm F' H' di δ'->nc K cl cu bq F' H' di δ':=by
 classical
 let Cz:Addr->Prop:=λa=>∃(i:Nat)(d:D),δ[i]?=some (some (true,d))/\σ[i]?=some (some (.ref a))
 let Hm:Hp:=λa=>if Cz a then none else H a
 have h1:∀a,Cz a->Hm a=none:=λa h=>bp h;have h2:∀a,¬Cz a->Hm a=H a:=λa h=>az h;have sub:∀a o,Hm a=some o->H a=some o:=λa o e=>by
  by_cases hm:Cz a
  ·rw[h1 a hm] at e;cases e
  ·rw[h2 a hm] at e;exact e
 have R9:∀a o,bq a=some o->¬Cz a:=λa o e ⟨i,d,e1,e2⟩=>by rw[f.new i d a e1 e2] at e;cases e
 have old:∀a o,bq a=some o->Hm a=some o:=λa o e=>by rw[h2 a (R9 a o e)];exact f.up.same a o e
 have nF:∀a,F a->¬Cz a:=λa fa ⟨i,d,e1,e2⟩=>by
  obtain⟨a',q1,q2,_⟩:=f.sees.ow i d e1;rw[e2] at q1;have:a=a':=by simpa using q1
  subst this;exact q2 fa
 have at':∀a,Cz a->(∃vs,H a=some (.lst vs))\/∃kvs,H a=some (.dK kvs):=λa ⟨i,d,e1,e2⟩=>by
  obtain⟨a',q1,q2,o⟩:=f.sees.ow i d e1;rw[e2] at q1;have:a=a':=by simpa using q1
  subst this;exact o.at
 refine⟨Hm,⟨f.sees,⟨sub,λ_ h=>h,λ_ h=>.inl h⟩,λi d a e1 e2=>h1 a ⟨i,d,e1,e2⟩,f.ds⟩,λF' H' u=>?_⟩;have up:Up cu bq F' H':=by
  refine⟨λa o e=>u.same a o (old a o e),λa h=>u.sub a (f.up.sub a h),λa h=>?_⟩;rcases u.new a h with z|⟨z1,z2⟩
  ·rcases f.up.new a z with y|⟨y1,y2⟩
   ·exact .inl y
   ·refine .inr ⟨y1,λw=>?_⟩
    cases q:H a with
    |none=>exact y2 q
    |some o=>
     have:=u.same a o (by rw[h2 a (nF a z)];exact q);rw[w] at this;cases this
  ·refine .inr ⟨?_,z2⟩
   cases q:bq a with
   |none=>rfl
   |some o=>rw[old a o q] at z1;cases z1
 refine⟨up,⟨λa o fa e=>u.same a o (by rw[h2 a (nF a fa)];exact e),λa xs e=>u.same a _ (by rw[h2 a λm=>(at' a m).elim (λ⟨_,z⟩=>by rw[e] at z;cases z) λ⟨_,z⟩=>by rw[e] at z;cases z];exact e),
  λa o w e=>u.same a _ (by rw[h2 a λm=>(at' a m).elim (λ⟨_,z⟩=>by rw[e] at z;cases z) λ⟨_,z⟩=>by rw[e] at z;cases z];exact e)⟩,u.sub,λdi δ' g=>⟨g.sees,up,λi d a e1 e2=>?_,g.ds⟩⟩
 have z:=g.new i d a e1 e2
 cases q:bq a with
 |none=>rfl
 |some o=>rw[old a o q] at z;cases z
theorem nc.sets:∀(is:List Nat){ds:List D}{vs:List V}{σ:St}{δ:gk},nc K cl cu bq F H σ δ->au K cl F H ds vs->nc K cl cu bq F H (ik σ is vs) (sets δ is ds)
 |[],_,_,_,_,f,_=>by simpa[ik,Py.sets] using f
 |i::is,[],vs,_,_,f,r=>by rw[r.nil_inv];simpa[ik,Py.sets] using f
 |i::is,d::ds,vs,σ,δ,f,r=>by
  obtain⟨v,r',rfl,h1,h2⟩:=r.cons_inv;simp only[ik,Py.sets];exact nc.sets is (f.set i h1) h2
end
section
variable{X:Cx}{cl:Nat->Addr}{XE:Nat->St->Hp->Prop}{Φ:Nat->List D->R D}{G:List D}{n:Nat}{K:PySem.W.Frag}{cu F F':Addr->Prop}{bq H H':Hp}{σ:St}{δ:gk}{W:Ends}
theorem PS.yo{st:Stmt}(h:PS X.yo st t):PS X st t:=λpins s σ H D I hw=>
 Ae (h pins s σ H D (I.Ap _) hw) (λ_ _ q=>q.qp) λ_ _ z=>False.elim z
theorem yM(hc:X.calm=true)(hi:DX X.yo cl (λ_ _ _=>False) Φ G false k its tg iter)(hg:FY X.yo cl C2 g tg)
  (hb:Av X.yo cl (λ_ _ _=>False) Φ G n body b) (hs:∀x,foldedSetIterable iter X.env x=pure x):Ak X cl XE Φ G n (.loop k its C2 body) (.For tg iter b [] pos):=by
 obtain⟨wi,pi,hw⟩:=hi;obtain⟨pg,VL⟩:=hg;obtain⟨tb,pb,ib⟩:=hb;refine⟨_,PS.yo (xE (X:=X.yo) PassesOwn.never hc pi pg pb hs),λcu bq F σ δ H W f h=>?_⟩;simp only[bg] at h;obtain⟨F1,s1,f1⟩:=f.av (ag false its);generalize Nj:Py.av (ag false its) δ=Ba at h f1;refine hw F1 σ Ba H _ f1.sees ?_
 cases e:(cv Φ G false its Ba).bind (a_ k) with
 |bad=>rw[e] at h;exact h
 |exc c=>rw[e] at h;exact(show False from h).elim
 |ok xs=>
  rw[e] at h;have h:lp X.K cl XE cu bq W (forM (λx δ'=>match spread C2.length x with
    |none=>.bad
    |some ts=>ao Φ G n body (sets δ' C2 ts)) xs Ba):=h
  generalize Ua:(λx δ'=>match spread C2.length x with
    |none=>Out.bad
    |some ts=>ao Φ G n body (sets δ' C2 ts))=fb at h
  intro F2 H2 J P u2 W2 p2;refine⟨λi m di H'=>m=xs.length-i/\i<=xs.length/\∃F' δ',nc X.K cl cu bq F' H' di δ'/\P F' H'/\lp X.K cl XE cu bq W (forM fb (xs.drop i) δ'),⟨_,rfl,DQ _,F2,Ba,f1.to u2,p2,by simpa using h⟩,?_⟩;rintro i m di H' ⟨rfl,hi,F',δ',f',pH,h'⟩;by_cases qr:i<xs.length
  ·refine .inr ?_
   obtain⟨go,yl⟩:=W2.go F' H' i xs[i] pH (by simp[qr]);refine⟨go,λBA H3=>∃F3 OR,nc X.K cl cu bq F3 H3 BA OR/\P F3 H3/\lp X.K cl XE cu bq W (forM fb (xs.drop (i+1)) OR),λBA H3 z=>⟨xs.length-(i+1),by omega,rfl,qr,z⟩,λv H3 hy=>?_⟩;obtain⟨u3,rv⟩:=yl v H3 hy;have f3:=f'.to u3;have p3:P F' H3:=W2.st F' H' F' H3 pH (by unfold Hv;rw[az jw];exact gq.of_same u3.same) λ_ z=>z;rw[MW qr,Py.forM.eq_2] at h'
   cases vw:spread C2.length xs[i] with
   |none=>
    have:fb xs[i] δ'=.bad:=by rw[←Ua];simp only[vw]
    rw[this] at h';exact h'.elim
   |some ts=>
    have hx:fb xs[i] δ'=ao Φ G n body (sets δ' C2 ts):=by rw[←Ua];simp only[vw]
    rw[hx] at h';refine VL F' H3 di v xs[i] ts _ vw rv λvs VM=>?_;have f4:=f3.sets C2 VM;obtain⟨Hm,f5,back⟩:=f4.rebase;refine ib F' Hm F' _ _ H3 _ f5 ?_
    cases e2:ao Φ G n body (sets δ' C2 ts) with
    |nx C3=>
     rw[e2] at h';intro F6 DT H6 f6;obtain⟨up,pr,sb,bk⟩:=back F6 H6 f6.up;exact⟨F6,C3,bk DT C3 f6,W2.st F' H3 F6 H6 p3 (by unfold Hv;rw[az jw];exact pr) sb,h'⟩
    |ct C3=>
     rw[e2] at h';intro F6 DT H6 f6;obtain⟨up,pr,sb,bk⟩:=back F6 H6 f6.up;exact⟨F6,C3,bk DT C3 f6,W2.st F' H3 F6 H6 p3 (by unfold Hv;rw[az jw];exact pr) sb,h'⟩
    |bk C3=>
     rw[e2] at h';intro F6 DT H6 f6;obtain⟨up,pr,sb,bk⟩:=back F6 H6 f6.up;exact h' F6 DT H6 (bk DT C3 f6)
    |rt d=>
     rw[e2] at h';intro F6 v6 H6 u6 r6;exact h' F6 v6 H6 (back F6 H6 u6).1 r6
    |xc c C3=>rw[e2] at h';exact(show False from h').elim
    |bad=>rw[e2] at h';exact h'
  ·have ei:i=xs.length:=by omega
   subst ei;refine .inl ⟨W2.stop F' H' pH,?_⟩;rw[List.drop_length,Py.forM.eq_1] at h';exact h' F' di H' f'
theorem vT(hi:Cy X.yo cl (λ_ _ _=>False) Φ G tx c)(hb:Av X.yo cl (λ_ _ _=>False) Φ G n body b):Ak X cl XE Φ G n (.Cd tx body) (.While c b [] pos):=by
 obtain⟨tc,pc,ic⟩:=hi;obtain⟨tb,pb,ib⟩:=hb;refine⟨_,PS.yo (oJ (X:=X.yo) PassesOwn.never pc pb),λcu bq F σ δ H W f h=>?_⟩;simp only[bg] at h;refine⟨λm di H'=>∃F' δ',nc X.K cl cu bq F' H' di δ'/\lp X.K cl XE cu bq W (A_ (fe Φ G tx) (Py.av (aj tx)) (ao Φ G n body) m δ'),⟨n,F,δ,f,h⟩,?_⟩;rintro m di H' ⟨F',δ',f',h'⟩
 cases m with
 |zero=>exact h'.elim
 |succ m=>
  obtain⟨F1,s1,f1⟩:=f'.av (aj tx);simp only[A_] at h';refine ic F1 di _ H' _ f1.sees ?_
  cases e:fe Φ G tx (Py.av (aj tx) δ') with
  |bad=>rw[e] at h';exact h'
  |exc c=>rw[e] at h';exact(show False from h').elim
  |ok t=>
   rw[e] at h';intro F2 H2 u2
   cases t with
   |true=>
    rw[bp rfl];refine⟨λBA H3=>∃F3 OR,nc X.K cl cu bq F3 H3 BA OR/\lp X.K cl XE cu bq W (A_ (fe Φ G tx) (Py.av (aj tx)) (ao Φ G n body) m OR),λBA H3 z=>⟨m,Jg m,z⟩,?_⟩;refine ib cu bq F2 di _ H2 _ (f1.to u2) ?_
    cases e2:ao Φ G n body (Py.av (aj tx) δ') with
    |nx C3=>rw[e2] at h';exact λF6 DT H6 f6=>⟨F6,C3,f6,h'⟩
    |ct C3=>rw[e2] at h';exact λF6 DT H6 f6=>⟨F6,C3,f6,h'⟩
    |bk C3=>rw[e2] at h';exact λF6 DT H6 f6=>h' F6 DT H6 f6
    |rt d=>rw[e2] at h';exact h'
    |xc c C3=>rw[e2] at h';exact(show False from h').elim
    |bad=>rw[e2] at h';exact h'
   |false=>
    rw[az jw];exact h' F2 di H2 (f1.to u2)
end
section
variable{P:Program}{w:World}{K:PySem.W.Frag}{mg:Str->Option Value}{base:Heap}{cl:Nat->Addr}{Pg:Prog}
theorem oZ{Fn:Py.Fn}(hf:Pg.fns[f]?=some Fn)(h:uy K cl (bc Pg k) f vs H Q E):vs.length=Fn.np:=by
 obtain⟨F,ds,tr,r,z⟩:=h;rw[r.length]
 cases k with
 |zero=>exact z.elim
 |succ k=>
  simp only[bc,hf] at z;by_cases hl:ds.length=Fn.np
  ·exact hl
  ·rw[az hl] at z;exact z.elim
theorem vU{Fn:Py.Fn}(tr:AQ F H)(r:au K cl F H ds vs)(hl:ds.length=Fn.np)(hn:Fn.ns=N.length)(hp:Fn.np<=Fn.ns):nc K cl F H F H (start N vs) (tm Fn ds):=by
 have Ub:=r.length;have get:∀(i:Nat)(o:Bool×D),(tm Fn ds)[i]?=some (some o)->∃d,ds[i]?=some d/\o=(false,d):=λi o z=>by
  unfold tm at z;by_cases hi:i<ds.length
  ·rw[De (by simpa using hi),AA] at z
   cases e:ds[i]? with
   |none=>rw[e] at z;cases z
   |some d=>rw[e] at z;cases z;exact⟨d,rfl,rfl⟩
  ·rw[Dd (by simpa using hi),MX] at z
   split at z<;>cases z
 refine⟨⟨?_,tr,λi d z=>?_,λi d z=>?_⟩,Up.refl F H,λi d a z _=>?_,λi j d e a _ z _ _=>?_⟩
 ·unfold start tm
  rw[rj,rj,dz,dz,Kd,Kd];omega
 ·obtain⟨d',e1,e2⟩:=get i _ z
  cases e2;obtain⟨v,e3,rv⟩:=r.get e1;refine⟨v,?_,rv⟩;unfold start;rw[De (by
   have:=(List.getElem?_eq_some_iff.mp e3).1;simpa using this),AA,e3]
  rfl
 ·obtain⟨d',_,e2⟩:=get i _ z;cases e2
 ·obtain⟨d',_,e2⟩:=get i _ z;cases e2
 ·obtain⟨d',_,e2⟩:=get i _ z;cases e2
noncomputable abbrev Uc(P:Program)(w:World)(K:PySem.W.Frag)(mg:Str->Option Value)(base:Heap)(N:List Str)(qual:Str)(scope:Scope)(f:Addr)(cd:Value)(A:Around)(outer:List Env)(s:Shared)(H:Hp)(E:XK):Cx:=
 A4 (yg P w) P w K mg base N qual scope f cd A outer s H E
theorem yN{st:Stmt}{Fn:Py.Fn}(F:GX K x qual st fa fd)(S:ur N ps (de st))(hf:Pg.fns[f]?=some Fn)(Ud:Fn.np=ps.length)(Ld:Fn.ns=N.length)
  (hb:∀(cd:Value)(A:Around)(outer:List Env)(s:Shared)(H:Hp)(E:XK),lh k (A.deeper (envOfC qual (de st) s.heap.objs.size fa cd))->
   Av (Uc P w K mg base N qual (de st) fa cd A outer s H E) cl (λc _ H'=>E (.ref (cl c)) none H') (bc Pg j) Pg.dv 1000 Fn.body (l_ st)):
  nh P w K mg base (yg P w) (k+1) fa fd ps (uy K cl (bc Pg (j+1)) f):=by
 obtain⟨oc,od,kV,doc,pm,an,yd,ct,KU,rfl,lk,um⟩:=F.ex;refine Js lk um S (λvs H Q E h=>by rw[oZ hf h,Ud]) λA outer s H vs Q E hr h=>?_;have Ub:=oZ hf h;obtain⟨F0,ds,tr,r,z⟩:=h;obtain⟨t,pt,it⟩:=hb yd A outer s H E hr;have hl:ds.length=Fn.np:=by rw[←r.length];exact Ub
 have hle:Fn.np<=Fn.ns:=by
  rw[Ud,Ld];have:=congrArg List.length S.pre;rw[Bj] at this;omega
 refine⟨t,pt,it F0 H F0 (start N vs) (tm Fn ds) H _ (vU tr r hl Ld hle) ?_⟩;simp only[bc,hf,bp hl] at z
 cases e:ao (bc Pg j) Pg.dv 1000 Fn.body (tm Fn ds) with
 |nx δ=>rw[e] at z;exact λF' di H' f'=>z F' .cx H' f'.up (by simp[Rep])
 |rt d=>rw[e] at z;exact λF' v H' u rp=>z F' v H' u rp
 |xc c δ=>rw[e] at z;exact λF' di H' f'=>z F' H' f'.up
 |bk δ=>rw[e] at z;exact z.elim
 |ct δ=>rw[e] at z;exact z.elim
 |bad=>rw[e] at z;exact z.elim
theorem yO:nh P w K mg base (yg P w) k fa fd ps (uy K cl (bc Pg 0) f):=
 ⟨λvs H Q E ⟨F,ds,_,_,z⟩=>z.elim,λA outer s H args us vs Q E _ _ _ _ ⟨F,ds,_,_,z⟩=>z.elim⟩
end
end L2.Snd
namespace L2
open PySem PySem.Spec PyProof.Rows
theorem vV{P:Program}{w:World}{K:PySem.W.Frag}{mg mb:Str->Option Value}{CX:M6}{k:Nat}{fa a:Addr}{fd:FuncData}{x:Str}{sp:Sp}{da:Shared}{vs:List Value}{ns:List Int}
  (KX:K.In da.heap) (Ld:da.heap.Ns mainGlobals mg) (hb:da.heap.Ns builtinsNs mb) (Qw:∀x:Str,x≠"__name__"->mb x=bootBuiltins x) (R_:da.heap.NoLimit) (hg:da.gens= #[])
  (ha:da.heap.get? a=some {cls:=.type "list",data:=.seq vs.toArray}) (hi:IntsAre vs ns) (hl:ns.length<=sizeLine) (hr:lh k callerA)
  (F:∀base:Heap,K.In base->base.Ns mainGlobals mg->(∀b o,da.heap.get? b=some o->(∀its n,o.data≠.seq its n)->base.get? b=some o)->nh P w K mg base CX k fa fd [x] sp) (OS:∀(s:Shared)(u:Value),BindsTo s fd ⟨[u],[]⟩ [(x,u)])
  (vw:∀H:Hp,K' H->ki K H a (ns.map V.int)->sp [.ref a] H (λv _=>v=.bl true) λ_ _ _=>False)
  (VN:∀H e s',CX [] H da (λ_ _ _=>False) e s'->False):
  codeAny (model P w) callerA (.call (.ref fa) ⟨[.ref a],[]⟩) (λr s'=>r=.ok (.ret (.bool true))/\OldK da.heap s'.heap/\s'.os=da.os/\AllBare s'.gens) da:=by
 have rv:=oj hi;have R':=hi.length
 --from an abstract heap in which nothing but the LP may be tracked
 have core:∀H:Hp,K' H->ki K H a (ns.map V.int)->pf P w H da.heap->(∀b,H b≠none->b=a)->(H a≠none->K.lookup a=none)->
   codeAny (model P w) callerA (.call (.ref fa) ⟨[.ref a],[]⟩) (λr s'=>r=.ok (.ret (.bool true))/\OldK da.heap s'.heap/\s'.os=da.os/\AllBare s'.gens) da:=by
  intro H hO hS dq hA hK;have Bb:∀{b:Addr}{o:Obj},da.heap.get? b=some o->H b=none->(AY da.heap H).get? b=some o:=λe n=>wZ e n;have N4:∀{b:Addr}{o:Obj}{es:Array DictEntry}{ep:Nat},da.heap.get? b=some o->o.data=.dict es ep->H b=none:=λ{b o es ep} e d=>by
   cases q:H b with
   |none=>rfl
   |some u=>
    have e':b=a:=hA b (by rw[q];simp);subst e';rw[ha] at e;cases e;have d':Data.seq vs.toArray _=Data.dict es ep:=d;cases d'
  have VO:∀{b:Addr}{o:Obj},da.heap.get? b=some o->(∀its n,o.data≠.seq its n)->H b=none:=λ{b o} e nd=>by
   cases q:H b with
   |none=>rfl
   |some u=>
    have e':b=a:=hA b (by rw[q];simp);subst e';rw[ha] at e;cases e;exact(nd _ _ rfl).elim
  have QC:∀{b:Addr}{m:Str->Option Value},da.heap.Ns b m->(AY da.heap H).Ns b m:=λ{b m} ⟨o,es,ep,e,d,r⟩=>⟨o,es,ep,Bb e (N4 e d),d,r⟩
  have Ue:K.In (AY da.heap H):=λb o e=>Bb (KX b o e) (by
   cases q:H b with
   |none=>rfl
   |some u=>
    have e':b=a:=hA b (by rw[q];simp);subst e';rw[hK (by rw[q];simp)] at e;cases e)
  have hM:Mod K mg (AY da.heap H):=⟨Ue,QC Ld,⟨mb,QC hb,Qw⟩,let⟨mc,h1,h2⟩:=R_;⟨mc,QC h1,h2⟩⟩
  have e0:GB P w K mg (AY da.heap H) callerA [] da H:=⟨rfl,hM,λb o e=>Gp e,Nat.le_of_eq (vE _ _),trivial,λb hb=>absurd (show b∈([]:List Addr) from hb) (by simp),dq,.of_eq hg⟩
  refine codeAny_mono ((F _ Ue (QC Ld) λb o e nd=>Bb e (VO e nd)).run callerA [] da H ⟨[.ref a],[]⟩ [.ref a] [.ref a] _ _ hr e0 (OS da (.ref a)) (.cons rfl .nil) (vw H hO hS)) λr s' h=>?_
  cases r with
  |error e=>exact(VN H e s' h).elim
  |ok fl=>
   cases fl with
   |next=>exact False.elim h
   |brk=>exact False.elim h
   |cont=>exact False.elim h
   |ret u=>
    obtain⟨v,H',os,bare,un,Sa,r',q⟩:=h;have q':v=.bl true:=q;subst q';obtain rfl:u=Value.bool true:=r';refine⟨rfl,OldK.of_keep λb o e=>?_,os,bare⟩
    cases q:H b with
    |none=>exact un.keep b o e q (by intro z;exact absurd (show b∈([]:List Addr) from z) (by simp)) (by simp)
    |some u=>
     rcases hO b with z|⟨ob,xs,z⟩
     ·rw[q] at z;cases z
     ·have z2:=un.sy b ob _ z
      obtain⟨e1,_⟩:=dq b _ z;obtain⟨e2,_⟩:=Sa b _ z2;rw[e] at e1;cases e1;exact e2
 cases hk:K.lookup a with
 |some o=>
  --the LP is one of the module's own objects
  have e:=KX a o hk;rw[ha] at e;cases e;refine core (λ_=>none) (λ_=>.inl rfl) (.inr ⟨_,vs.toArray,_,hk,rfl,rfl,rfl,by rw[rz,R'];exact hl,by simpa using rv⟩) (λb u z=>by have z':(none:Option HO)=some u:=z;cases z') (λb z=>absurd rfl z) λz=>absurd rfl z
 |none=>
  refine core (λb=>if b=a then some (.av {cls:=.type "list",data:=.seq vs.toArray} (.lst (ns.map V.int))) else none) (λb=>?_) (.inl (.inr ⟨{cls:=.type "list",data:=.seq vs.toArray},bp rfl⟩)) (λb u z=>?_) (λb z=>?_) λ_=>hk
  ·by_cases hb:b=a
   ·exact .inr ⟨_,_,bp hb⟩
   ·exact .inl (az hb)
  ·by_cases hb:b=a
   ·have z':=(bp hb).symm.trans z
    cases z';subst hb;exact⟨ha,by rw[dz];exact hl,vs,_,rv,ha⟩
   ·have z':=(az hb).symm.trans z
    cases z'
  ·by_cases hb:b=a
   ·exact hb
   ·exact absurd (az hb) z
theorem yP(O:OwnCls x C bm Qs mg h)(k:∀a o,h.get? a=some o->(∀its n,o.data≠.seq its n)->b.get? a=some o):OwnCls x C bm Qs mg b:=by
 obtain⟨tl,N,nm,q,bs,hdct,sn,sub,ab,col,dd,k0,k1,k2,k3,k5,mN,hC,hN,Na,T⟩:=O.obj;have ns:∀{N:Addr}{m:Str->Option Value},h.Ns N m->b.Ns N m:=λ{N m} ⟨o,es,ep,e,d,r⟩=>⟨o,es,ep,k _ _ e λits n z=>(by rw[d] at z;cases z),d,r⟩
 refine⟨O.bound,tl,N,nm,q,bs,hdct,sn,sub,ab,col,dd,k0,k1,k2,k3,k5,mN,k _ _ hC (λits n z=>by cases z),ns hN,Na,?_⟩;clear hC hN Na
 induction T with
 |base=>exact .base
 |own hA hN Na _ ih=>exact .own (k _ _ hA λits n z=>by cases z) (ns hN) Na ih
namespace Snd
open Py
theorem LQ{K:PySem.W.Frag}(e:Φ f [.gu ns]=.ok (.bl true))(hO:K' H)(hS:ki K H a (ns.map V.int)):uy K cl Φ f [.ref a] H (λv _=>v=.bl true) λ_ _ _=>False:=by
 refine⟨λ_=>False,[.gu ns],λ_ z=>z.elim,au.cons ?_ au.nil,?_⟩
 ·simp only[Rep]
  refine⟨a,rfl,?_⟩;rcases hS with(h|⟨o,h⟩)|h
  ·rcases hO a with z|⟨o,xs,z⟩
   ·rw[z] at h;cases h
   ·rw[z] at h;cases h
  ·exact .inl ⟨o,h⟩
  ·exact .inr h
 ·rw[e]
  intro F' v H' u r;simpa only[Rep] using r
theorem LR(h:yg P w [] H s (λ_ _ _=>False) e s'):False:=by
 obtain⟨a,C,H',_,_,_,_,_,_,z⟩:=h;exact z
end Snd
end L2
namespace L2.Snd
open PySem PySem.Spec PyProof.Rows L2 Py
section
variable{X:Cx}{cl:Nat->Addr}{XE:Nat->St->Hp->Prop}{YE:Nat->Hp->Prop}{Φ:Nat->List D->R D}{G:List D}{n:Nat}{m fr:Bool}
theorem Sb(ho:vf X (compareOp op) r)(ha:PE X a ta)(hb:PE X b tb):PC X op a b (za r ta tb):=
 λpins s σ H Q I h=>KO ha hb I h λv u s2 x y H2 I2 rx ry q=>ho pins s2 σ H2 x y v u Q I2 rx ry q
structure yj(X:Cx)(cl:Nat->Addr)(XE:Nat->St->Hp->Prop)(Φ:Nat->List D->R D)(G:List D)(op:CmpOp)(ex:Ex)(a b:Expr):Prop where
 ok:∃t,PC X op a b t/\∀F σ δ H Q,ja X.K cl F H σ δ->ar X.K cl (λc=>XE c σ) true false F H Q (ev Φ G true ex δ)->t σ H Q
 bl:∀δ d,ev Φ G true ex δ=.ok d->∃b,d=.bl b
 md:∀m δ,ev Φ G m ex δ=ev Φ G true ex δ
theorem yj.t(h:yj X cl XE Φ G op ex a b)(hm:behindInMarks op b=false):Cy X cl XE Φ G (.leaf ex) (.Compare a [op] [b] pos):=by
 obtain⟨t,pc,i⟩:=h.ok;refine⟨_,mI pc hm,λF σ δ H Q S z=>i F σ δ H _ S ?_⟩;simp only[fe] at z;refine Meet.mono (Meet.bind z) (λd e q F' v H' u g=>?_) λc q=>q;obtain⟨b',rfl⟩:=h.bl δ d e;have gv:v=.bl b':=g.got.bl;exact⟨b',gv,q F' H' u⟩
theorem dZ(hr:vf X (compareOp op) r)(ia:cw X cl XE Φ G true ea a)(ib:cw X cl XE Φ G true eb b)
  (ho:∀(YE:Nat->Hp->Prop) F H x y p q Q,AQ F H->Got X.K cl F H p x->Got X.K cl F H q y->ar X.K cl YE true false F H Q (ae o p q)->r x y H Q) (VP:∀p q d,ae o p q=.ok d->∃b,d=.bl b):yj X cl XE Φ G op (.ae o ea eb) a b:=by
 obtain⟨ta,pa,ia⟩:=ia;obtain⟨tb,pb,ib⟩:=ib;refine⟨⟨_,Sb hr pa pb,λF σ δ H Q S h=>two (a:=a) (b:=b) (o:=ae o) ia ib ho S (by simpa only[ev] using h)⟩,λδ d e=>?_,λm δ=>by simp only[ev]⟩;simp only[ev] at e
 cases e1:ev Φ G true ea δ with
 |ok p=>
  cases e2:ev Φ G true eb δ with
  |ok q=>rw[e1,e2] at e;exact VP p q d e
  |exc c=>rw[e1,e2] at e;cases e
  |bad=>rw[e1,e2] at e;cases e
 |exc c=>rw[e1] at e;cases e
 |bad=>rw[e1] at e;cases e
variable{ea eb:Ex}{a b:Expr}{pos:Pos}
theorem OT(p q d:D)(h:ae .lt p q=.ok d):∃b,d=.bl b:=by
 rcases JF p q with⟨i,j,_,_,e⟩|e<;>rw[e] at h<;>cases h;exact⟨_,rfl⟩
theorem OU(p q d:D)(h:ae .le p q=.ok d):∃b,d=.bl b:=by
 rcases JG p q with⟨i,j,_,_,e⟩|e<;>rw[e] at h<;>cases h;exact⟨_,rfl⟩
theorem OV(p q d:D)(h:ae .gt p q=.ok d):∃b,d=.bl b:=by
 rcases JH p q with⟨i,j,_,_,e⟩|e<;>rw[e] at h<;>cases h;exact⟨_,rfl⟩
theorem OW(p q d:D)(h:ae .ge p q=.ok d):∃b,d=.bl b:=by
 rcases JI p q with⟨i,j,_,_,e⟩|e<;>rw[e] at h<;>cases h;exact⟨_,rfl⟩
theorem LS(p q:D):ae .eq p q=if dj 9 p&&dj 9 q&&Bm p q then .ok (.bl (e_ p q)) else .bad:=by cases p<;>cases q<;>rfl
theorem LU(p q:D):ae .ne p q=if dj 9 p&&dj 9 q&&Bm p q then .ok (.bl (!e_ p q)) else .bad:=by cases p<;>cases q<;>rfl
theorem tW(p q:D):ae .kj p q=(isin p q).bind λb=>.ok (.bl (!b)):=by cases p<;>cases q<;>rfl
theorem OX(p q d:D)(h:ae .eq p q=.ok d):∃b,d=.bl b:=by
 rw[LS] at h;split at h<;>cases h;exact⟨_,rfl⟩
theorem OY(p q d:D)(h:ae .ne p q=.ok d):∃b,d=.bl b:=by
 rw[LU] at h;split at h<;>cases h;exact⟨_,rfl⟩
theorem LV(p q d:D)(h:ae .kj p q=.ok d):∃b,d=.bl b:=by
 rw[tW] at h;cases e:isin p q<;>rw[e] at h<;>cases h;exact⟨_,rfl⟩
theorem Sd(ia:cw X cl XE Φ G true ea a)(ib:cw X cl XE Φ G true eb b):yj X cl XE Φ G .Lt (.ae .lt ea eb) a b:=dZ NZ ia ib (λYE F H x y p q Q t g1 g2 h=>cM (k:=λi j=>.bl (decide (i<j))) JF (λ_ _=>by simp[Rep]) (λ_ _=>rfl) g1 g2 h) OT
theorem Se(ia:cw X cl XE Φ G true ea a)(ib:cw X cl XE Φ G true eb b):yj X cl XE Φ G .LtE (.ae .le ea eb) a b:=dZ N0 ia ib (λYE F H x y p q Q t g1 g2 h=>cM (k:=λi j=>.bl (decide (i<=j))) JG (λ_ _=>by simp[Rep]) (λ_ _=>rfl) g1 g2 h) OU
theorem Sf(ia:cw X cl XE Φ G true ea a)(ib:cw X cl XE Φ G true eb b):yj X cl XE Φ G .Gt (.ae .gt ea eb) a b:=dZ N1 ia ib (λYE F H x y p q Q t g1 g2 h=>cM (k:=λi j=>.bl (decide (j<i))) JH (λ_ _=>by simp[Rep]) (λ_ _=>rfl) g1 g2 h) OV
theorem Sg(ia:cw X cl XE Φ G true ea a)(ib:cw X cl XE Φ G true eb b):yj X cl XE Φ G .GtE (.ae .ge ea eb) a b:=dZ N3 ia ib (λYE F H x y p q Q t g1 g2 h=>cM (k:=λi j=>.bl (decide (j<=i))) JI (λ_ _=>by simp[Rep]) (λ_ _=>rfl) g1 g2 h) OW
theorem Sh(hu:X.A.units+20<cLine)(ia:cw X cl XE Φ G true ea a)(ib:cw X cl XE Φ G true eb b):yj X cl XE Φ G .Eq (.ae .eq ea eb) a b:=dZ (Lq (cl:=cl) hu) ia ib (λYE F H x y p q Q t g1 g2 h=>Oz g1 g2 h) OX
theorem Si(hu:X.A.units+20<cLine)(ia:cw X cl XE Φ G true ea a)(ib:cw X cl XE Φ G true eb b):yj X cl XE Φ G .NotEq (.ae .ne ea eb) a b:=dZ (Lr (cl:=cl) hu) ia ib (λYE F H x y p q Q t g1 g2 h=>OA g1 g2 h) OY
theorem OZ(ia:cw X cl XE Φ G true ea a)(ib:cw X cl XE Φ G true eb b):yj X cl XE Φ G .NotIn (.ae .kj ea eb) a b:=dZ mS ia ib (λYE F H x y p q Q t g1 g2 h=>OB true g1 g2 (by rw[tW] at h;simpa using h)) LV
theorem O0(neg:Bool)(hu:X.A.units+20<cLine)(ia:cw X cl XE Φ G true ea a)(ib:cw X cl XE Φ G true eb b):yj X cl XE Φ G (if neg then .NotIn else .In) (.Cb neg ea eb) a b:=by
 have Ug:X.A.units+1<cLine:=Ja (Kg (by decide) _) hu;obtain⟨ta,pa,ia⟩:=ia;obtain⟨tb,pb,ib⟩:=ib;have rd:∀F σ δ H Q,ja X.K cl F H σ δ->ar X.K cl (λc=>XE c σ) true false F H Q (ev Φ G true (.Cb neg ea eb) δ)->ta σ H λy H1=>tb σ H1 λx H2=>∃a o,x=.ref a/\rk H2 a y o/\Q (.bl (if neg then !o.isSome else o.isSome)) H2:=λF σ δ H Q S h=>by
  simp only[ev] at h;refine ia F σ δ H _ S (Meet.mono (Meet.bind h) (λq _ hp F1 y H1 u1 g1=>?_) λc z=>z);refine ib F1 σ δ H1 _ (S.up u1) (Meet.mono (Meet.bind (ar.up hp u1)) (λp _ hq F2 x H2 u2 g2=>?_) λc z=>z);have JJ:=ar.up (K:=X.K) (cl:=cl) hq u2;obtain⟨ks,ds,i,rfl,rfl⟩:∃ks ds i,p=.gb ks ds/\q=.int i:=by
   cases p<;>cases q<;>first|exact(show False from JJ).elim|exact⟨_,_,_,rfl,rfl⟩
  obtain⟨l,kvs,rfl,h1,h2,h3⟩:=g2.got.gb;refine⟨l,_,rfl,by rw[(g1.got.up u2).int];exact rk.k (k:=Sum.inl i) h1,?_⟩;rw[←(mW i h2 h3).2];exact ar.bl JJ
 refine⟨?_,λδ d e=>?_,λm δ=>by simp only[ev]⟩
 ·cases neg with
  |true=>exact⟨_,vK Ug pa pb,rd⟩
  |false=>exact⟨_,KY Ug pa pb,rd⟩
 ·simp only[ev] at e
  cases e1:ev Φ G true ea δ with
  |ok p=>
   cases e2:ev Φ G true eb δ with
   |ok q=>
    rw[e1,e2] at e;simp only[R.my] at e;cases q<;>cases p<;>first|(cases e;exact⟨_,rfl⟩)|cases e
   |exc c=>rw[e1,e2] at e;cases e
   |bad=>rw[e1,e2] at e;cases e
  |exc c=>rw[e1] at e;cases e
  |bad=>rw[e1] at e;cases e
theorem yQ(hN:X.N[i]?=some x:=by rfl)(hv:Ea X.env.scope x:=by first|exact Or.inl rfl|exact Or.inr (Or.inl rfl)|exact Or.inr (Or.inr rfl))(hd:(x==("__debug__":Str))=false:=by decide)(um:(x==("__classdict__":Str))=false:=by decide):
  cw X cl XE Φ G m (.var i) (.Name x pos):=Lo hN hv hd um
theorem O1(ia:cw X cl XE Φ G true ea a)(ib:cw X cl XE Φ G true eb b):cw X cl XE Φ G m (.ae .add ea eb) (.BinOp a .Add b pos):=iY (A3.or (K8.or xS)) ia ib λYE F H x y p q Q t g1 g2 h=>Ls t g1 g2 h
theorem O2(ia:cw X cl XE Φ G true ea a)(ib:cw X cl XE Φ G true eb b):cw X cl XE Φ G m (.ae .sub ea eb) (.BinOp a .Sub b pos):=iY qV ia ib λYE F H x y p q Q t g1 g2 h=>cM (k:=λi j=>.int (i-j)) Lu (λ_ _=>by simp[Rep]) (λ_ _=>rfl) g1 g2 h
theorem O3(ia:cw X cl XE Φ G true ea a)(ib:cw X cl XE Φ G true eb b):cw X cl XE Φ G m (.ae .mul ea eb) (.BinOp a .Mult b pos):=iY iS ia ib λYE F H x y p q Q t g1 g2 h=>mU (C:=λi j=>(-(2^64)<i/\i<2^64)\/(-(2^64)<j/\j<2^64)) (k:=λi j=>.int (i*j)) Lv (λ_ _=>by simp[Rep]) (λ_ _=>rfl) g1 g2 h
theorem O4(ia:cw X cl XE Φ G true ea a)(ib:cw X cl XE Φ G true eb b):cw X cl XE Φ G m (.ae .mod ea eb) (.BinOp a .Mod b pos):=iY xF ia ib λYE F H x y p q Q t g1 g2 h=>mU (C:=λi j=>0<j) (k:=λi j=>.int (i%j)) Lw (λ_ _=>by simp[Rep]) (λ_ _=>rfl) g1 g2 h
theorem LW(ia:cw X cl XE Φ G true ea a)(ib:cw X cl XE Φ G true eb b):cw X cl XE Φ G m (.ae .fdiv ea eb) (.BinOp a .FloorDiv b pos):=iY GA ia ib λYE F H x y p q Q t g1 g2 h=>mU (C:=λi j=>0<j/\j<1073741824) (k:=λi j=>.int (i/j)) He (λ_ _=>by simp[Rep]) (λ_ _=>rfl) g1 g2 h
theorem O5(ia:cw X cl XE Φ G true ea a):cw X cl XE Φ G m (.bb .neg ea) (.UnaryOp .USub a pos):=Oy mM ia λYE F H x p Q t g h=>Ly g h
theorem x_at(ia:cw X cl XE Φ G true ea a)(ib:cw X cl XE Φ G true eb b)(hs:uw b:=by exact λ_ _=>rfl):cw X cl XE Φ G m (.ae .at ea eb) (.Subscript a b pos):=Ox (CT.or xO) hs ia ib λYE F H x y p q Q t g1 g2 h=>OC g1 g2 h
theorem LX(hu:X.A.units+20<cLine)(ia:cw X cl XE Φ G true ea a)(ib:cw X cl XE Φ G true eb b)(hs:GF b:=by exact λ_ _=>rfl):cw X cl XE Φ G m (.om ea eb) (.Subscript a b pos):=Ho (Ja (Kg (by decide) _) hu) hs ia ib
theorem vW(δ:gk)(c:Nat):ev Φ G m (.var i) δ≠.exc c:=by
 simp only[ev];cases m<;>simp only[cg,bx]<;>(intro z;split at z<;>first|(split at z<;>cases z)|cases z)
theorem HH{i:Nat}{apos dy:Pos}(ia:cw X cl XE Φ G true ea a)(ib:cw X cl XE Φ G true (.var i) b)(iy:attributeBase a "index" X.env (eval a X.env)=eval a X.env:=by rfl)(iz:(apos.endLine==dy.line)=true:=by rfl)(hs:starEach [b] X.env=[(false,eval b X.env)]:=by rfl):
  cw X cl XE Φ G m (.ae .index ea (.var i)) (.Call (.Attribute a "index" apos) [b] [] dy):=Hi PySem.F.slot_list_index PySem.F.type_list_index xT ia ib iy iz hs (λp q=>by cases p<;>first|exact .inl ⟨_,rfl⟩|exact .inr rfl) (λδ c=>vW δ c) λYE F H x y p q Q g1 g2 h=>yA g1 g2 h
theorem O6{p:Pos}(hm:X.mg "len"=none)(ia:cw X cl XE Φ G true ea a)(hg:Gl X "len":=by rfl)(hs:starEach (a::[]) X.env=(false,eval a X.env)::starEach [] X.env:=by rfl):cw X cl XE Φ G m (.bb .len ea) (.Call (.Name "len" p) [a] [] pos):=
 eZ (exs:=[ea]) (o:=p_ (bb .len)) OE eV hg hm PySem.boot_len (by decide) (by decide) hs rfl (bD hs ia bP) λYE F H vs ds Q t g h=>Lx g h
theorem LY{p:Pos}(hm:X.mg "len"=none)(ia:cw X cl XE Φ G true ea a)(hg:Gl X "len":=by rfl)(hs:starEach [a] X.env=[(false,eval a X.env)]:=by rfl):cw X cl XE Φ G m (.yi ea) (.Call (.Name "len" p) [a] [] pos):=Hq hg hm hs ia
theorem LZ{p:Pos}(hm:X.mg "list"=none)(ia:cw X cl XE Φ G true ea a)(hg:Gl X "list":=by rfl)(hs:starEach (a::[]) X.env=(false,eval a X.env)::starEach [] X.env:=by rfl):cw X cl XE Φ G m (.bb .list ea) (.Call (.Name "list" p) [a] [] pos):=
 lF (exs:=[ea]) (o:=p_ (bb .list)) OE eW hg hm boot_list (by decide) (by decide) hs rfl (bD hs ia bP) λYE F H vs ds Q t g h=>Hf t g h
theorem HI{p:Pos}(hm:X.mg "tuple"=none)(ia:cw X cl XE Φ G true ea a)(hg:Gl X "tuple":=by rfl)(hs:starEach (a::[]) X.env=(false,eval a X.env)::starEach [] X.env:=by rfl):cw X cl XE Φ G m (.bb .tuple ea) (.Call (.Name "tuple" p) [a] [] pos):=
 lF (exs:=[ea]) (o:=p_ (bb .tuple)) OE kR hg hm boot_tuple (by decide) (by decide) hs rfl (bD hs ia bP) λYE F H vs ds Q t g h=>xZ g h
theorem HJ{p1 p2:Pos}(hm:X.mg "isinstance"=none)(EH:X.mg "int"=none)(ia:cw X cl XE Φ G true ea a)(hg:Gl X "isinstance":=by rfl)(Hk:Gl X "int":=by rfl)(hs:starEach [a,.Name "int" p2] X.env=[(false,eval a X.env),(false,eval (.Name "int" p2) X.env)]:=by rfl):
  cw X cl XE Φ G m (.bb .isInt ea) (.Call (.Name "isinstance" p1) [a,.Name "int" p2] [] pos):=mV (T:="int") (by simp) hg hm Hk EH boot_int (by decide) (by decide) ia hs rfl yC
theorem yR{p1 p2:Pos}(hm:X.mg "isinstance"=none)(EH:X.mg "bool"=none)(ia:cw X cl XE Φ G true ea a)(hg:Gl X "isinstance":=by rfl)(Hk:Gl X "bool":=by rfl)(hs:starEach [a,.Name "bool" p2] X.env=[(false,eval a X.env),(false,eval (.Name "bool" p2) X.env)]:=by rfl):
  cw X cl XE Φ G m (.bb .isBool ea) (.Call (.Name "isinstance" p1) [a,.Name "bool" p2] [] pos):=mV (T:="bool") (by simp) hg hm Hk EH boot_bool (by decide) (by decide) ia hs rfl vQ
theorem HK{p1 p2:Pos}(hm:X.mg "isinstance"=none)(EH:X.mg "tuple"=none)(ia:cw X cl XE Φ G true ea a)(hg:Gl X "isinstance":=by rfl)(Hk:Gl X "tuple":=by rfl)(hs:starEach [a,.Name "tuple" p2] X.env=[(false,eval a X.env),(false,eval (.Name "tuple" p2) X.env)]:=by rfl):
  cw X cl XE Φ G m (.bb .isTup ea) (.Call (.Name "isinstance" p1) [a,.Name "tuple" p2] [] pos):=mV (T:="tuple") (by simp) hg hm Hk EH boot_tuple (by decide) (by decide) ia hs rfl yD
theorem HL{p1 p2:Pos}(hm:X.mg "isinstance"=none)(EH:X.mg "list"=none)(ia:cw X cl XE Φ G true ea a)(hg:Gl X "isinstance":=by rfl)(Hk:Gl X "list":=by rfl)(hs:starEach [a,.Name "list" p2] X.env=[(false,eval a X.env),(false,eval (.Name "list" p2) X.env)]:=by rfl):
  cw X cl XE Φ G m (.bb .zi ea) (.Call (.Name "isinstance" p1) [a,.Name "list" p2] [] pos):=mV (T:="list") (by simp) hg hm Hk EH boot_list (by decide) (by decide) ia hs rfl yE
theorem L1(ia:cw X cl XE Φ G m ea a)(ir:Dt X cl XE Φ G m es as)(hs:starEach (a::as) X.env=(false,eval a X.env)::starEach as X.env:=by rfl):Dt X cl XE Φ G m (ea::es) (a::as):=bD hs ia ir
theorem O7{exs:List Ex}{es:List Expr}{k:Nat}(ia:Dt X cl XE Φ G false exs es)(hl:exs.length<=gx:=by decide):cw X cl XE Φ G m (.tup exs) (.Tuple es k pos):=LD hl ia
theorem O8(ia:Dt X cl XE Φ G false exs es)(hl:exs.length<=gx:=by decide):cw X cl XE Φ G m (.lst exs) (.List es pos):=LF hl ia
theorem Sj(h:yj X cl XE Φ G op ex a b)(hm:behindInMarks op b=false:=by rfl):Cy X cl XE Φ G (.leaf ex) (.Compare a [op] [b] pos):=h.t hm
theorem L3(ia:cw X cl XE Φ G true ex e)(he:∀whole,isTrue e X.env whole=(do let v←whole;standAt e.pos;holding [v] (truthy v)):=by intro _;rfl):Cy X cl XE Φ G (.leaf ex) e:=Hr he ia
theorem yS(hN:X.N.Nodup)(hi:X.N[i]?=some x:=by rfl)(hx:Loc X.env.scope x:=by first|exact Or.inl rfl|exact Or.inr rfl)(hf:X.fn x=true\/X.env.scope.names.lookup x=some .local:=by first|exact .inl rfl|exact .inr rfl):FY X cl [i] (bw i) (.Name x pos):=JL hN hi hx hf
theorem JO{i j:Nat}{x y:Str}{k:Nat}{p1 p2:Pos}(hN:X.N.Nodup)(hc:X.calm=true:=by rfl)(hi:X.N[i]?=some x:=by rfl)(hx:Loc X.env.scope x:=by first|exact Or.inl rfl|exact Or.inr rfl)(hf:X.fn x=true\/X.env.scope.names.lookup x=some .local:=by first|exact .inl rfl|exact .inr rfl)
  (hj:X.N[j]?=some y:=by rfl) (hy:Loc X.env.scope y:=by first|exact Or.inl rfl|exact Or.inr rfl) (OI:X.fn y=true\/X.env.scope.names.lookup y=some .local:=by first|exact .inl rfl|exact .inr rfl):
  FY X cl [i,j] (Eg X.K 2 (uq (bw i) (uq (bw j) Ef))) (.Tuple [.Name x p1,.Name y p2] k pos):=JM hc hN hi hx hf hj hy OI
theorem O9{tg:Expr}{p:Pos}(hm:X.mg "range"=none)(ia:cw X cl XE Φ G m ea a)(hg:Gl X "range":=by rfl)(hs:starEach [a] X.env=[(false,eval a X.env)]:=by rfl):DX X cl XE Φ G m .g_ [ea] tg (.Call (.Name "range" p) [a] [] pos):=LM hg hm hs ia
theorem L4{elts:List Expr}{tk:Nat}{Cp p:Pos}(hm:X.mg "enumerate"=none)(ia:cw X cl XE Φ G m ea a)(hg:Gl X "enumerate":=by rfl)(hs:starEach [a] X.env=[(false,eval a X.env)]:=by rfl):DX X cl XE Φ G m .enum [ea] (.Tuple elts tk Cp) (.Call (.Name "enumerate" p) [a] [] pos):=Hx hg hm hs ia
noncomputable def Bc(Nx:List Str)(kx:Str->Option NameKind)(N':List Str)(caps:List Nat)(ntg:Nat)(scope:Scope):Bool:=
 scope.kind== .function&&scope.names.all (λy=>y.2 != .cell)&&scope.names.all (λy=>y.2 != .local||scope.names.lookup y.1==some .local)
  &&scope.names.all (λy=>y.2 != .free||(kx y.1==some .cell||kx y.1==some .free))&&N'.length==ntg+caps.length
  &&(List.range caps.length).all (λi=>match caps[i]?,N'[ntg+i]? with
   |some j,some x=>Nx[j]?==some x&&scope.names.lookup x==some .free
   |_,_=>true)
theorem lI(h:Bc X.N X.env.kindOf N' caps ntg scope=true):nj X N' caps ntg scope:=by
 unfold Bc at h;simp only[qc,List.all_eq_true,Bool.or_eq_true,bne_iff_ne,beq_iff_eq] at h;obtain⟨⟨⟨⟨⟨h1,h2⟩,h3⟩,h4⟩,h5⟩,h6⟩:=h;refine⟨h1,h2,λy hy e=>(h3 y hy).resolve_left λz=>z e,λy hy e=>(h4 y hy).resolve_left λz=>z e,h5,λi j x e1 e2=>?_⟩;have hi:i<caps.length:=(List.getElem?_eq_some_iff.mp e1).1;have z:=h6 i (List.mem_range.mpr hi);rw[e1,e2] at z;simp only[qc,beq_iff_eq] at z;exact z
noncomputable def QD(X:Cx)(tg:Expr)(caps:List Nat):List Str:=(match tg with
 |.Name x _=>[x]
 |.Tuple [.Name x _,.Name y _] _ _=>[x,y]
 |_=>[])++caps.map λi=>X.N.getD i ""
noncomputable abbrev L5(X:Cx)(tg:Expr)(caps:List Nat)(scope:Scope)(je:List (Str×Addr))(C:Addr)(s:Shared)(H:Hp)(fp:List Addr)(E:Value->Shared->Prop):Cx:=dg X (QD X tg caps) scope je C s H fp E
noncomputable def QE:List Str->Bool
 |[]=>true
 |x::r=>!r.contains x&&QE r
theorem JP:∀{l:List Str},QE l=true->l.Nodup
 |[],_=>Bv
 |x::r,h=>by
  simp only[QE,qc,Bool.not_eq_true',List.contains_eq_mem,decide_eq_false_iff_not] at h;exact List.nodup_cons.mpr ⟨h.1,JP h.2⟩
noncomputable def Uh(tg:Expr)(sc:Scope)(n:Nat):Bool:=match tg with
 |.Name x _=>n==1&&sc.names.lookup x==some .local
 |.Tuple [.Name x _,.Name y _] _ _=>n==2&&(sc.names.lookup x==some .local&&sc.names.lookup y==some .local)
 |_=>false
noncomputable def QF(X:Cx)(tg:Expr)(caps:List Nat)(n:Nat)(sc:Scope):Bool:=Bc X.N X.env.kindOf (QD X tg caps) caps n sc&&(Uh tg (relabel sc X.env) n&&QE (QD X tg caps))
theorem JQ(h:QF X tg caps ntg scope=true)(hc:X.calm=true):nj X (QD X tg caps) caps ntg scope/\∃g,∀je C s H fp E,FY (L5 X tg caps scope je C s H fp E) cl (List.range ntg) g tg:=by
 simp only[QF,qc] at h;obtain⟨h1,h2,h3⟩:=h;refine⟨lI h1,?_⟩;have nd:=JP h3;unfold Uh at h2;split at h2
 ·simp only[qc,beq_iff_eq] at h2
  obtain⟨rfl,hx⟩:=h2;exact⟨_,λje C s H fp E=>JL (X:=L5 X _ caps scope je C s H fp E) nd rfl (.inl hx) (.inr hx)⟩
 ·simp only[qc,beq_iff_eq] at h2
  obtain⟨rfl,hx,hy⟩:=h2;exact⟨Eg X.K 2 (uq (bw 0) (uq (bw 1) Ef)),λje C s H fp E=>JM (X:=L5 X (.Tuple [.Name _ _,.Name _ _] _ _) caps scope je C s H fp E) hc nd rfl (.inl hx) (.inr hx) rfl (.inl hy) (.inr hy)⟩
 ·cases h2
theorem L6{cond:Option Tx}(hi:DX X cl XE Φ G true k its tg iter)
  (ht:∀je C s H fp,Nh (L5 X tg caps scope je C s H fp λ_ _=>False) cl (λ_ _ _=>False) Φ G cond ifs) (he:∀je C s H fp,cw (L5 X tg caps scope je C s H fp λ_ _=>False) cl (λ_ _ _=>False) Φ G false elt e)
  (Sc:QF X tg caps ntg scope=true:=by rfl) (hc:X.calm=true:=by rfl) (hs:∀x,foldedSetIterable iter X.env x=pure x:=by intro _;rfl):cw X cl XE Φ G m (.comp k its caps ntg cond elt) (.ListComp e [⟨tg,iter,ifs,0⟩] scope pos):=by
 obtain⟨S,g,hg⟩:=JQ (cl:=cl) Sc hc;exact Hz hc hi S (λje C s H fp=>hg je C s H fp _) ht he hs
theorem jA:wb (yg X.prog X.w) X σ (OG cl λc=>(λ_ _ _=>False:Nat->St->Hp->Prop) c σ):=λpins H s e s' I ⟨_,_,_,_,_,_,_,_,_,_,_,z⟩=>z.elim
theorem yT(hx:X.ex=[])(t:M9 X cl XE)(σ:St):wb (yg X.prog X.w) X σ (OG cl λc=>XE c σ):=λpins H s e s' I z=>G_ hx t σ pins H s e s' I z
theorem x_call{k:Nat}{fa:Addr}{fd:FuncData}{ps:List Str}{f:Nat}{x:Str}{p:Pos}{exs:List Ex}{e:Expr}{es:List Expr}(Fo:nh X.prog X.w X.K X.mg X.base (yg X.prog X.w) k fa fd ps (uy X.K cl Φ f))(hr:lh k X.A)(hm:X.mg x=some (.ref fa))(hk:PySem.W.keepIn X.K (.ref fa)=true)(hb:Binds X.K fd ps [])
  (hx:∀σ,wb (yg X.prog X.w) X σ (OG cl λc=>XE c σ)) (ia:Dt X cl XE Φ G false exs (e::es)) (hg:Gl X x:=by rfl) (yx:(x==("__debug__":Str))=false:=by decide) (he:starEach (e::es) X.env=(false,eval e X.env)::starEach es X.env:=by rfl) (Bo:(backTo pos (starEach es X.env)).any (·.1)=false:=by rfl):
  cw X cl XE Φ G m (.call f exs) (.Call (.Name x p) (e::es) [] pos):=Hn Fo hr hg hm hk hb hx yx he Bo ia
theorem O_{i:Nat}{x:Str}{ex:Ex}{e:Expr}{pos':Pos}(hN:X.N.Nodup)(ie:cw X cl XE Φ G false ex e)(hi:X.N[i]?=some x:=by rfl)(hx:Loc X.env.scope x:=by first|exact Or.inl rfl|exact Or.inr rfl)(hf:X.fn x=true\/X.env.scope.names.lookup x=some .local:=by first|exact .inl rfl|exact .inr rfl)(hs:swapsWith e (some (.Name x pos')) pos.line X.env=pure false:=by rfl):
  Ak X cl XE Φ G n (.asg i ex) (.Assign [.Name x pos'] e pos):=HB hN hi hx hf hs ie
theorem L7{k:AL}{its:List Ex}{caps:List Nat}{ntg:Nat}{cond:Option Tx}{elt:Ex}{tg iter e:Expr}{ifs:List Expr}{scope:Scope}{py A6:Pos}{i:Nat}{y:Str}(hN:X.N.Nodup)(hi:DX X cl XE Φ G true k its tg iter)
  (ht:∀je C s H fp,Nh (L5 X tg caps scope je C s H fp λ_ _=>False) cl (λ_ _ _=>False) Φ G cond ifs) (he:∀je C s H fp,cw (L5 X tg caps scope je C s H fp λ_ _=>False) cl (λ_ _ _=>False) Φ G false elt e)
  (Sc:QF X tg caps ntg scope=true:=by rfl) (hy:X.N[i]?=some y:=by rfl) (hx:Loc X.env.scope y:=by first|exact Or.inl rfl|exact Or.inr rfl) (hf:X.fn y=true\/X.env.scope.names.lookup y=some .local:=by first|exact .inl rfl|exact .inr rfl) (Cu:swapsWith (.ListComp e [⟨tg,iter,ifs,0⟩] scope pos) (some (.Name y py)) A6.line X.env=pure true:=by rfl)
  (hc:X.calm=true:=by rfl) (hs:∀x,foldedSetIterable iter X.env x=pure x:=by intro _;rfl):Ak X cl XE Φ G n (.asg i (.comp k its caps ntg cond elt)) (.Assign [.Name y py] (.ListComp e [⟨tg,iter,ifs,0⟩] scope pos) A6):=by
 obtain⟨S,g,hg⟩:=JQ (cl:=cl) Sc hc;exact oY rfl (oX hN hy hx hf Cu hc hi S (λje C s H fp=>hg je C s H fp _) ht he hs)
theorem O'{i:Nat}{x:Str}{pos' p:Pos}(hN:X.N.Nodup)(hi:X.N[i]?=some x:=by rfl)(hx:Loc X.env.scope x:=by first|exact Or.inl rfl|exact Or.inr rfl)(hf:X.fn x=true\/X.env.scope.names.lookup x=some .local:=by first|exact .inl rfl|exact .inr rfl)(hs:swapsWith (.Dict [] [] p) (some (.Name x pos')) pos.line X.env=pure false:=by rfl):
  Ak X cl XE Φ G n (.new i) (.Assign [.Name x pos'] (.Dict [] [] p) pos):=HC hN hi hx hf hs
theorem Pa{i:Nat}{x:Str}{ex:Ex}{e:Expr}{p apos dy:Pos}(ie:cw X cl XE Φ G false ex e)(hN:X.N[i]?=some x:=by rfl)(hv:Ea X.env.scope x:=by first|exact Or.inl rfl|exact Or.inr (Or.inl rfl)|exact Or.inr (Or.inr rfl))(hd:(x==("__debug__":Str))=false:=by decide)(um:(x==("__classdict__":Str))=false:=by decide)
  (iy:attributeBase (.Name x p) "append" X.env (eval (.Name x p) X.env)=eval (.Name x p) X.env:=by rfl) (iz:(apos.endLine==dy.line)=true:=by rfl) (hs:starEach [e] X.env=[(false,eval e X.env)]:=by rfl)
  (Cu:swapsWith (.Call (.Attribute (.Name x p) "append" apos) [e] [] dy) none pos.line X.env=pure false:=by rfl):Ak X cl XE Φ G n (.app i ex) (.Expr (.Call (.Attribute (.Name x p) "append" apos) [e] [] dy) pos):=HE hN hv hd um iy iz hs Cu ie
theorem Pb{i:Nat}{x:Str}{ex ix:Ex}{e ie:Expr}{p ps:Pos}(i1:cw X cl XE Φ G false ex e)(i2:cw X cl XE Φ G true ix ie)(hN:X.N[i]?=some x:=by rfl)(hv:Ea X.env.scope x:=by first|exact Or.inl rfl|exact Or.inr (Or.inl rfl)|exact Or.inr (Or.inr rfl))(hd:(x==("__debug__":Str))=false:=by decide)(um:(x==("__classdict__":Str))=false:=by decide)
  (Cu:swapsWithSole [.Subscript (.Name x p) ie ps] e pos.line X.env=pure false:=by rfl) (hw:swappedStores [.Subscript (.Name x p) ie ps] e X.env=pure none:=by rfl) (h1:(assignEach [.Subscript (.Name x p) ie ps] X.env).map (·.2)=[assign (.Subscript (.Name x p) ie ps) X.env]:=by rfl)
  (ha:∀v,assign (.Subscript (.Name x p) ie ps) X.env v=(do
   let ov←holding [v] (eval (.Name x p) X.env)
   let iv←holding [v,ov] (eval ie X.env)
   standAt ps
   holding [v,ov,iv] (setItem ov iv v)
   release [v,ov,iv] []):=by intro _;rfl):Ak X cl XE Φ G n (.put i ix ex) (.Assign [.Subscript (.Name x p) ie ps] e pos):=HF hN hv hd um Cu hw h1 ha i1 i2
theorem L8{i:Nat}{x:Str}{ex ix:Ex}{e ie:Expr}{p ps:Pos}(hu:X.A.units+20<cLine)(i1:cw X cl XE Φ G false ex e)(i2:cw X cl XE Φ G true ix ie)(hN:X.N[i]?=some x:=by rfl)(hv:Ea X.env.scope x:=by first|exact Or.inl rfl|exact Or.inr (Or.inl rfl)|exact Or.inr (Or.inr rfl))(hd:(x==("__debug__":Str))=false:=by decide)(um:(x==("__classdict__":Str))=false:=by decide)
  (hs:swapsWith e (some (.Subscript (.Name x p) ie ps)) pos.line X.env=pure false:=by rfl):Ak X cl XE Φ G n (.dput i ix ex) (.Assign [.Subscript (.Name x p) ie ps] e pos):=yL (Ja (Kg (by decide) _) hu) hN hv hd um hs i1 i2
theorem L9{b:List Stmt}(hi:DX X.yo cl (λ_ _ _=>False) Φ G false k its tg iter)(hg:FY X.yo cl C2 g tg)(hb:Av X.yo cl (λ_ _ _=>False) Φ G n body b)(hc:X.calm=true:=by rfl)(hs:∀x,foldedSetIterable iter X.env x=pure x:=by intro _;rfl):
  Ak X cl XE Φ G n (.loop k its C2 body) (.For tg iter b [] pos):=yM hc hi hg hb hs
theorem HM{c:Nat}{x tx:Str}{bm TZ:List Value}{B Bn newId Qs EB TY:String}{j:Nat}{p np dy:Pos}(t:M9 X cl XE)(O:OwnCls x (cl c) bm newId X.mg X.base)(Fn:ExcBaseFacts Bn newId TY TZ)(RQ:bm.contains (.type Bn)=true)(FB:ExcBaseFacts B Qs EB bm)
  (hc:X.calm=true:=by rfl) (hx:X.ex=[]:=by rfl) (hg:Gl X x:=by rfl) (yx:(x==("__debug__":Str))=false:=by decide):Ak X cl XE Φ G n (.Lm c) (.Raise (some (.Call (.Name x np) [.Constant (.str tx) j p] [] dy)) none pos):=vS (xW hc hx t hg yx O Fn RQ FB)
end
theorem VQ{α:Type}:∀{us:List α},us.length=1->∃a,us=[a]
 |[a],_=>⟨a,rfl⟩
theorem QX{α:Type}:∀{us:List α},us.length=2->∃a b,us=[a,b]
 |[a,b],_=>⟨a,b,rfl⟩
theorem VR{α:Type}:∀{us:List α},us.length=3->∃a b c,us=[a,b,c]
 |[a,b,c],_=>⟨a,b,c,rfl⟩
theorem VS{α:Type}:∀{us:List α},us.length=4->∃a b c d,us=[a,b,c,d]
 |[a,b,c,d],_=>⟨a,b,c,d,rfl⟩
variable{X:Cx}{cl:Nat->Addr}{XE:Nat->St->Hp->Prop}{YE:Nat->Hp->Prop}{Φ:Nat->List D->R D}{G:List D}{n:Nat}{m fr:Bool}
variable{ea eb:Ex}{a b:Expr}{pos:Pos}
end L2.Snd
namespace L2.Snd
open PySem PySem.Spec PyProof.Rows L2 Py
section
variable{X:Cx}{cl:Nat->Addr}{XE:Nat->St->Hp->Prop}{YE:Nat->Hp->Prop}{Φ:Nat->List D->R D}{G:List D}{n:Nat}{m fr:Bool}
theorem lJ{K:PySem.W.Frag}:∀{xs:List D}{ws:List V},au K cl F H xs ws->xs.all tf=true->∃ys:List Int,ws=ys.map V.int/\ys.length=xs.length/\(∀y∈ys,-1000000<=y/\y<=1000000)/\A8 xs=some ys.sum
 |[],ws,r,_=>⟨[],by simpa[au] using r,rfl,by simp,rfl⟩
 |d::xs,ws,r,h=>by
  rw[List.all_cons,qc] at h;obtain⟨v,r',rfl,rv,rr⟩:=(by simpa only[au] using r:∃v r,ws=v::r/\Rep K cl F H d v/\au K cl F H xs r)
  obtain⟨ys,rfl,hl,hb,hs⟩:=lJ rr h.2
  cases d with
  |int i=>
   have rv:v=.int i:=by simpa only[Rep] using rv
   have hi: -1000000<=i/\i<=1000000:=of_decide_eq_true h.1;refine⟨i::ys,by rw[rv];rfl,by simp[hl],?_,?_⟩
   ·intro y hy
    rcases List.mem_cons.mp hy with h|h
    ·rw[h];exact hi
    ·exact hb y h
   ·rw[A8,hs];simp
  |_=>exact absurd h.1 (λz=>by cases z)
theorem L_(g:Paired (Got X.K cl F H) ds vs)(h:ar X.K cl YE m fr F H Q (p_ (bb .sum) ds)):
  ∃(p:Addr)(ys:List Int),vs=[.ref p]/\ki X.K H p (ys.map V.int)/\ys.length<=1000/\(∀y∈ys,-1000000<=y/\y<=1000000)/\Q (.int ys.sum) H:=by
 match ds,g,h with
 |[],_,h=>exact(show False from h).elim
 |_::_::_,_,h=>exact(show False from h).elim
 |[d],g,h=>
  obtain⟨v,rfl,gv⟩:=Paired.one g;have h:ar X.K cl YE m fr F H Q (bb .sum d):=h
  cases d with
  |lst xs=>
   obtain⟨a,ws,rfl,h1,r1⟩:=gv.lst;have h:ar X.K cl YE m fr F H Q (if xs.length<=1000/\xs.all tf=true then vh ((A8 xs).map .int) else .bad):=h;by_cases hc:xs.length<=1000/\xs.all tf=true
   ·rw[bp hc] at h
    obtain⟨ys,rfl,hl,hb,hs⟩:=lJ r1 hc.2;rw[hs] at h;exact⟨a,ys,rfl,ki.of h1,by omega,hb,ar.int h⟩
   ·rw[az hc] at h
    exact(show False from h).elim
  |_=>exact(show False from h).elim
theorem Pc{ea:Ex}{a:Expr}{pos p:Pos}(hm:X.mg "sum"=none)(ia:cw X cl XE Φ G true ea a)(hc:X.calm=true:=by rfl)(hg:Gl X "sum":=by rfl)(hs:starEach (a::[]) X.env=(false,eval a X.env)::starEach [] X.env:=by rfl):cw X cl XE Φ G m (.bb .sum ea) (.Call (.Name "sum" p) [a] [] pos):=
 eZ (exs:=[ea]) (o:=p_ (bb .sum)) OE (kT hc) hg hm boot_sum (by decide) (by decide) hs rfl (bD hs ia bP) λYE F H vs ds Q t g h=>L_ g h
def AR(K:PySem.W.Frag)(mg:Str->Option Value)(x:Str)(d:D):Prop:=∃(v:V)(u:Value),mg x=some u/\RelV v u/\∀(cl:Nat->Addr)(F:Addr->Prop)(H:Hp),Rep K cl F H d v
theorem lK:∀ys:List (Int×Tok),Vals (ys.map λy=>V.int y.1) (ys.map λy=>Value.int y.1 y.2)
 |[]=>.nil
 |y::r=>.cons ⟨y.2,rfl⟩ (lK r)
theorem lL{K:PySem.W.Frag}:∀ys:List (Int×Tok),au K cl F H (ys.map λy=>D.int y.1) (ys.map λy=>V.int y.1)
 |[]=>by simp[au]
 |y::r=>by
  simp only[fu,au];exact⟨_,_,rfl,by simp[Rep],lL r⟩
theorem d4{K:PySem.W.Frag}(ys:List (Int×Tok))(hm:mg x=some (.ref a))(hl:K.lookup a=some ⟨.type "tuple",od,.seq (ys.map λy=>Value.int y.1 y.2).toArray k,sl⟩)(hn:ys.length<=sizeLine):AR K mg x (.tup (ys.map λy=>D.int y.1)):=
 ⟨.ref a,.ref a,hm,rfl,λcl F H=>by
  simp only[Rep];exact⟨a,_,rfl,.inr ⟨_,_,_,hl,rfl,rfl,by simpa using hn,by simpa using lK ys⟩,lL ys⟩⟩
end
noncomputable def oq(r:List Int):D:=.tup (r.map .int)
structure wd(H:Hp)(L:Addr)(as:List Addr)(R:List (List Int)):Prop where
 top:H L=some (.lst (as.map V.ref))
 len:as.length=R.length
 row:∀(j:Nat) a r,as[j]?=some a->R[j]?=some r->H a=some (.lst (r.map V.int))
 nd:as.Nodup
 ne:∀a∈as,a≠L
section
variable{X:Cx}{cl:Nat->Addr}{XE:Nat->St->Hp->Prop}{YE:Nat->Hp->Prop}{Φ:Nat->List D->R D}{G:List D}{n:Nat}{m fr:Bool}
theorem o0{K:PySem.W.Frag}:∀{r:List Int}{ws:List V},au K cl F H (r.map D.int) ws->ws=r.map V.int
 |[],ws,h=>by simpa[au] using h
 |x::r,ws,h=>by
  obtain⟨v,t,rfl,h1,h2⟩:=au.cons_inv (by simpa using h);have h1:v=.int x:=by simpa only[Rep] using h1
  rw[h1,o0 h2];rfl
noncomputable def CA(K:PySem.W.Frag)(cl:Nat->Addr):TE:=λσ H Q=>∃F δ r,ja K cl F H σ δ/\δ[0]?=some (some (false,oq r))/\∀H' l,iw H H'->H' l=none->Q (.ref l) (upd H' l (.lst (r.map V.int)))
theorem HN(hm:X.mg "list"=none)(iv:cw X cl (λ_ _ _=>False) Φ G true (.var 0) (.Name x p2))(hg:Gl X "list")(hs:starEach [.Name x p2] X.env=[(false,eval (.Name x p2) X.env)]):
  PE X (.Call (.Name "list" p) [.Name x p2] [] pos) (CA X.K cl):=by
 obtain⟨ta,pa,ia⟩:=bD (es:=[]) (as:=[]) hs iv bP;have pe:=fT (p:=p) (pos:=pos) (X:=X) eW hg hm boot_list pa (by decide) (by decide) hs rfl;rintro pins s σ H Q I ⟨F,δ,r,S,e0,q⟩;refine pe pins s σ H Q I ?_;refine ia F σ δ H _ S ?_;have e1:cv Φ G true [.var 0] δ=.ok [oq r]:=by
  simp only[cv,ev,cg,e0,b_];rfl
 rw[e1];intro F' vs H' u g;rw[bp rfl] at g;obtain⟨v,rfl,gv⟩:=Paired.one g;obtain⟨a,ws,rfl,h1,r1⟩:=gv.tup;have:=o0 r1;subst this;exact⟨a,_,rfl,.inr h1,λl hl=>q H' l u.same hl⟩
theorem iw.up1(h:iw H H'):Up F H F H':=⟨h,λ_ z=>z,λ_ z=>.inl z⟩
theorem rH(hw:∀F σ δ H R,ja X.K cl F H σ δ->Meet ((cv Φ G true [(.var i)] δ).bind (a_ .seq)) (λxs=>∀F' H' J P,Up F H F' H'->Wk X.K cl true J xs P->P F' H'->R J H') (λc=>∀F' H',Up F H F' H'->XE c σ H')->wi σ H R)
  (S:ja X.K cl F H σ δ) (hi:δ[i]?=some (some (b,.lst (Rw.map oq)))) (hl:Rw.length<=1000)
  (q:∀H' L as,iw H H'->H L=none->(∀a∈as,H a=none)->wd H' L as Rw->Q (.ref L) H'):
  BF wi (bw 0) (tO X.K cl (λ_ _ _=>False) Φ G none) (CA X.K cl) [] 1 σ H Q:=by
 refine hw F σ δ H _ S ?_;have e:(cv Φ G true [(.var i)] δ).bind (a_ .seq)=.ok (Rw.map oq):=by
  have e1:cv Φ G true [(.var i)] δ=.ok [.lst (Rw.map oq)]:=by
   simp only[cv,ev,cg,hi,b_];rfl
  rw[e1];show a_ .seq [.lst (Rw.map oq)]=_;unfold a_;show(if(Rw.map oq).length<=gx then R.ok (Rw.map oq) else R.bad)=_;rw[bp (qe (by simpa using hl) (by decide))]
 rw[e];intro F1 H1 J P u1 W1 p1 L hL;have t1:AQ F1 H1:=(S.up u1).Af;have hsz:(1000:Nat)<sizeLine:=by decide
 refine⟨λj k di H'=>k=Rw.length-j/\j<=Rw.length/\di.length=1/\iw H1 H'/\∃as:List Addr,as.length=j/\wd H' L as (Rw.take j)/\∀a∈as,H1 a=none,⟨Rw.length,?_⟩,?_⟩
 ·refine⟨rfl,DQ _,by simp[ux],λa o z=>?_,[],rfl,⟨ah,by simp,by simp,by simp,by simp⟩,by simp⟩
  rw[aA (by rintro rfl;rw[hL] at z;cases z)];exact z
 ·rintro j k di H' ⟨rfl,hj,Pd,sm,as,Pe,F7,As⟩
  by_cases qr:j<Rw.length
  ·have pH:P F1 H':=W1.st F1 H1 F1 H' p1 (by unfold Hv;rw[bp rfl];exact sm) λ_ z=>z
   obtain⟨go,yl⟩:=W1.go F1 H' j (oq Rw[j]) pH (by simp[qr]);refine .inr ⟨go,λv H2 hy=>?_⟩;obtain⟨u3,rx⟩:=yl v H2 hy;show tO X.K cl (λ_ _ _=>False) Φ G none (di.set 0 (some v)) H2 _;refine⟨λ_=>False,[none],⟨by simp[Pd],λ_ z=>z.elim,λa d z=>?_,λa d z=>?_⟩,?_⟩
   ·cases a<;>simp at z
   ·cases a<;>simp at z
   ·simp only[AM]
    intro F4 H4 u4;rw[bp rfl];have s4:iw H' H4:=u3.same.trans u4.same;refine⟨F1,[some (false,oq Rw[j])],Rw[j],⟨by simp[Pd],t1.up (iw.up1 (sm.trans s4)),λa d z=>?_,λa d z=>?_⟩,rfl,λH5 l s5 QG=>?_⟩
    ·cases a with
     |zero=>
      have z:oq Rw[j]=d:=by simpa using z
      subst z;refine⟨v,?_,rx.up (iw.up1 u4.same)⟩;rw[Cg (by omega)]
     |succ a=>simp at z
    ·cases a<;>simp at z
    ·have Nk:iw H' H5:=s4.trans s5
     have nL:L≠l:=λz=>by
      have:=Nk _ _ F7.top;rw[z,QG] at this;cases this
     have na:∀a∈as,a≠l:=λa ha z=>by
      obtain⟨c,hc,e⟩:=List.mem_iff_getElem.mp ha;have FW:c<(Rw.take j).length:=by rw[←F7.len];exact hc
      have:=Nk _ _ (F7.row c a ((Rw.take j)[c]) (by rw[←e];simp[hc]) (uc FW));rw[z,QG] at this;cases this
     refine⟨as.map V.ref,Rw.length-(j+1),?_,?_,by omega,rfl,qr,by simp[Pd],λa o z=>?_,as++[l],by simp[Pe],⟨?_,?_,?_,?_,?_⟩,?_⟩
     ·rw[aA nL];exact Nk _ _ F7.top
     ·rw[dz,Pe];omega
     ·have z5:=(sm.trans Nk) _ _ z
      rw[aA (by rintro rfl;rw[hL] at z;cases z),aA (by rintro rfl;rw[QG] at z5;cases z5)];exact z5
     ·rw[ah];simp
     ·simp[Pe];omega
     ·intro c a r h1 h2
      have et:Rw.take (j+1)=Rw.take j++[Rw[j]]:=D4 qr;rw[et] at h2;by_cases hc:c<j
      ·rw[De (by omega)] at h1
       rw[De (by simp;omega)] at h2;have ha:a∈as:=FP h1;rw[aA (F7.ne a ha),aA (na a ha)];exact Nk _ _ (F7.row c a r h1 h2)
      ·have Km:c<(as++[l]).length:=(List.getElem?_eq_some_iff.mp h1).1
       have VT:c=j:=by simp[Pe] at Km;omega
       subst VT;have e1:a=l:=by
        rw[Dd (by omega)] at h1;simpa[Pe] using h1.symm
       have e2:r=Rw[c]:=by
        rw[Dd (by rw[Bj];omega)] at h2;have hm:min c Rw.length=c:=by omega
        simpa[hm] using h2.symm
       subst e1;rw[aA (jt nL),ah,e2]
     ·rw[List.nodup_append]
      refine⟨F7.nd,by simp,λa ha b hb=>?_⟩;have hb:b=l:=by simpa using hb
      rw[hb];exact na a ha
     ·intro a ha
      rcases List.mem_append.mp ha with h|h
      ·exact F7.ne a h
      ·have h:a=l:=by simpa using h
       rw[h];exact jt nL
     ·intro a ha
      rcases List.mem_append.mp ha with h|h
      ·exact As a h
      ·have h:a=l:=by simpa using h
       rw[h]
       cases z:H1 l with
       |none=>rfl
       |some o=>have:=(sm.trans Nk) _ _ z;rw[QG] at this;cases this
  ·have Qr:j=Rw.length:=by omega
   subst Qr;rw[Bk] at F7;have pH:P F1 H':=W1.st F1 H1 F1 H' p1 (by unfold Hv;rw[bp rfl];exact sm) λ_ z=>z;have st:=W1.stop F1 H' pH;rw[dz] at st;have back:∀a,H1 a=none->H a=none:=λa z=>by
    cases w:H a with
    |none=>rfl
    |some o=>have:=u1.same _ _ w;rw[z] at this;cases this
   exact .inl ⟨st,q H' L as (u1.same.trans sm) (back L hL) (λa ha=>back a (As a ha)) F7⟩
end
theorem uz(xs:List V)(k:Nat):zc xs (some (((k:Nat):Int)+1)) none=xs.drop (k+1):=by
 unfold zc;rw[show(((k:Nat):Int)+1)=((k+1:Nat):Int) by omega,HT.GL,HT.El];by_cases h:k+1<=xs.length
 ·rw[Nat.min_eq_left h,Kc (by simp)]
 ·rw[Nat.min_eq_right (by omega),List.drop_eq_nil_of_le (by omega),List.drop_eq_nil_of_le (by omega)];simp
theorem o5:∀{xs:List D}{r:List Int},gy xs=some r->xs=r.map D.int
 |[],r,h=>by simp only[gy,Option.some.injEq] at h;subst h;rfl
 |.int i::xs,r,h=>by
  simp only[gy,Option.map_eq_some_iff] at h;obtain⟨q,h1,rfl⟩:=h;rw[o5 h1];rfl
 |.cx::_,_,h=>by simp[gy] at h
 |.bl _::_,_,h=>by simp[gy] at h
 |.str _::_,_,h=>by simp[gy] at h
 |.tup _::_,_,h=>by simp[gy] at h
 |.lst _::_,_,h=>by simp[gy] at h
 |.gb _ _::_,_,h=>by simp[gy] at h
 |.Ah _::_,_,h=>by simp[gy] at h
 |.gu _::_,_,h=>by simp[gy] at h
theorem o6:∀{xs:List D}{R:List (List Int)},ft xs=some R->xs=R.map oq
 |[],r,h=>by simp only[ft,Option.some.injEq] at h;subst h;rfl
 |.tup i::xs,r,h=>by
  simp only[ft,Option.bind_eq_some_iff,Option.map_eq_some_iff] at h;obtain⟨q,h1,R,h2,rfl⟩:=h;rw[o5 h1,o6 h2];rfl
 |.cx::_,_,h=>by simp[ft] at h
 |.bl _::_,_,h=>by simp[ft] at h
 |.str _::_,_,h=>by simp[ft] at h
 |.int _::_,_,h=>by simp[ft] at h
 |.lst _::_,_,h=>by simp[ft] at h
 |.gb _ _::_,_,h=>by simp[ft] at h
 |.Ah _::_,_,h=>by simp[ft] at h
 |.gu _::_,_,h=>by simp[ft] at h
theorem HP(h:bx δ i=.ok d):δ[i]?=some (some (false,d)):=by
 unfold bx at h;split at h
 ·rename_i e;cases h;exact e
 ·cases h
theorem rJ{R:List (List Int)}(h:qv (bx δ i)=some R):δ[i]?=some (some (false,.lst (R.map oq))):=by
 cases e:bx δ i with
 |ok d=>
  rw[e] at h
  cases d with
  |lst xs=>
   have:=o6 (show ft xs=some R from h);subst this;exact HP e
  |_=>simp[qv] at h
 |exc c=>rw[e] at h;simp[qv] at h
 |bad=>rw[e] at h;simp[qv] at h
section
variable{X:Cx}{cl:Nat->Addr}{XE:Nat->St->Hp->Prop}{Φ:Nat->List D->R D}{G:List D}{n:Nat}
def Pf(X:Cx)(cl:Nat->Addr)(i j:Nat)(st:Stmt):Prop:=∃t,PS X st (jn t (bw j))/\∀F σ δ H Q b Rw,ja X.K cl F H σ δ->δ[i]?=some (some (b,.lst (Rw.map oq)))->Rw.length<=1000->
 (∀H' L as,iw H H'->H L=none->(∀a∈as,H a=none)->wd H' L as Rw->Q (.ref L) H')->t σ H Q
end
section
variable{X:Cx}{cl:Nat->Addr}{Φ:Nat->List D->R D}{G:List D}{n:Nat}
theorem HQ{i j:Nat}{x y z:Str}{p p2 cp tp zp py A6 pos:Pos}{scope:Scope}(N':List Str)(Sc:nj X N' [] 1 scope)(hN:X.N.Nodup)(hm:X.mg "list"=none)(Xl:N'=[x])
  (hi:DX X cl (λ_ _ _=>False) Φ G true .seq [.var i] (.Name x tp) (.Name z zp))
  (hg:∀je C s H fp,FY (dg X N' scope je C s H fp λ_ _=>False) cl [0] (bw 0) (.Name x tp))
  (he:∀je C s H fp,cw (dg X N' scope je C s H fp λ_ _=>False) cl (λ_ _ _=>False) Φ G true (.var 0) (.Name x p2))
  (hl:∀je C s H fp,Gl (dg X N' scope je C s H fp λ_ _=>False) "list"/\starEach [.Name x p2] (dg X N' scope je C s H fp λ_ _=>False).env=[(false,eval (.Name x p2) (dg X N' scope je C s H fp λ_ _=>False).env)])
  (hy:X.N[j]?=some y:=by rfl) (hx:Loc X.env.scope y:=by first|exact Or.inl rfl|exact Or.inr rfl) (hf:X.fn y=true\/X.env.scope.names.lookup y=some .local:=by first|exact .inl rfl|exact .inr rfl)
  (Cu:swapsWith (.ListComp (.Call (.Name "list" p) [.Name x p2] [] cp) [⟨.Name x tp,.Name z zp,[],0⟩] scope pos) (some (.Name y py)) A6.line X.env=pure true:=by rfl)
  (hc:X.calm=true:=by rfl) (hs:∀v,foldedSetIterable (.Name z zp) X.env v=pure v:=by intro _;rfl):
  Pf X cl i j (.Assign [.Name y py] (.ListComp (.Call (.Name "list" p) [.Name x p2] [] cp) [⟨.Name x tp,.Name z zp,[],0⟩] scope pos) A6):=by
 obtain⟨wi,pi,hw⟩:=hi;refine⟨_,gQ (tc:=tO X.K cl (λ_ _ _=>False) Φ G none) (te:=CA X.K cl) hN hy hx hf Cu hc pi Sc (λje C s H fp=>(hg je C s H fp).1) (λje C s H fp=>oV) (λje C s H fp=>HN hm (he je C s H fp) (hl je C s H fp).1 (hl je C s H fp).2) hs,λF σ δ H Q b Rw S hi hl q=>?_⟩;exact rH (X:=X) (XE:=λ_ _ _=>False) hw S hi hl q
theorem aD{i:Nat}{x:Str}{pos:Pos}(hN:X.N[i]?=some x:=by rfl)(hv:Ea X.env.scope x:=by first|exact Or.inl rfl|exact Or.inr (Or.inl rfl)|exact Or.inr (Or.inr rfl))(hd:(x==("__debug__":Str))=false:=by decide)(um:(x==("__classdict__":Str))=false:=by decide):PE X (.Name x pos) (bu i):=iR hN hv hd um
end
def BK(K:PySem.W.Frag)(d:D)(v:V):Prop:=∀(cl:Nat->Addr)(F:Addr->Prop)(H:Hp),Rep K cl F H d v
theorem cN{K:PySem.W.Frag}:BK K (.int i) (.int i):=λ_ _ _=>by simp[Rep]
theorem tX{K:PySem.W.Frag}:∀{ds:List D}{vs:List V},Paired (BK K) ds vs->∀(cl:Nat->Addr)(F:Addr->Prop)(H:Hp),au K cl F H ds vs
 |_,_,.nil,_,_,_=>au.nil
 |_,_,.cons a r,cl,F,H=>au.cons (a cl F H) (tX r cl F H)
theorem d5{K:PySem.W.Frag}(hl:K.lookup a=some ⟨.type "tuple",od,.seq us.toArray k,sl⟩)(hv:Vals vs us)(hd:Paired (BK K) ds vs)(hn:us.length<=sizeLine):BK K (.tup ds) (.ref a):=λcl F H=>by
 simp only[Rep];exact⟨a,vs,rfl,.inr ⟨_,_,_,hl,rfl,rfl,by simpa using hn,by simpa using hv⟩,tX hd cl F H⟩
theorem HR{K:PySem.W.Frag}(hm:mg x=some (.ref a))(g:BK K d (.ref a)):AR K mg x d:=⟨.ref a,.ref a,hm,rfl,g⟩
theorem bH(hr:lh (j+1) A):A.units+20<cLine:=Ja (Kg (by decide) _) hr.units
end L2.Snd
namespace L2
open PySem PySem.Spec PyProof.Rows
section
variable{X:Cx}{pins:List (Addr×Obj)}{σ:St}{H:Hp}{s:Shared}{d:Addr}{o:Obj}{u u':HO}{kvs:List (Key×V)}
theorem Inv.Ph(I:Inv X pins σ H s)(hd:H d=some u)(n1:∀xs,u≠.tup xs)(n2:∀x,u≠.own x)(n3:∀ps,u≠.Gn ps)(hz:∀ob v,X.bq d≠some (.av ob v))(new:fi X.prog X.w (upd H d u') s.heap d u'):Inv X pins σ (upd H d u') s:=by
 have nn:∀b,H b=none->upd H d u' b=none:=λb e=>by rw[aA (by rintro rfl;rw[hd] at e;cases e)];exact e
 refine⟨I.ok,I.os,I.bare,⟨I.base.keep,I.base.slot,λb ob e n hx=>nn b (I.base.free b ob e n hx),I.base.there,λb xs e=>?_,λb ob v e=>?_,λb ps e=>?_⟩,I.loc,I.cell,nn _ I.free,λx c e=>nn _ (I.qo x c e),λp hp=>?_,λb v e=>?_,I.len⟩
 ·have:=I.base.vo b xs e
  rw[aA (by rintro rfl;rw[hd] at this;exact n1 _ (ud this))];exact this
 ·rw[aA (by rintro rfl;exact hz _ _ e)];exact I.base.sy b ob v e
 ·obtain⟨more,this⟩:=I.base.vp b ps e
  exact⟨more,by rw[aA (by rintro rfl;rw[hd] at this;exact n3 _ (ud this))];exact this⟩
 ·obtain⟨p1,p2,p3,p4,p5⟩:=I.pin p hp
  exact⟨p1,nn _ p2,p3,p4,p5⟩
 ·by_cases hb:b=d
  ·subst hb
   rw[ah] at e;cases e;exact new
  ·rw[aA hb] at e
   refine(I.dq b v e).AX (λc w _ r=>r) (λc r=>?_) λc xs r=>?_
   ·rw[aA (by rintro rfl;rw[hd] at r;exact n2 _ (ud r))];exact r
   ·rw[aA (by rintro rfl;rw[hd] at r;exact n1 _ (ud r))];exact r
theorem KV.at{l:List (κ×V)}{r:List (κ×Value)}{i:Nat}{p:κ×V}(k:KV l r)(e:l[i]?=some p):∃q,r[i]?=some (p.1,q)/\RelV p.2 q:=by
 unfold KV at k
 induction k generalizing i with
 |nil=>simp at e
 | @cons a b x y h t ih=>
  cases i with
  |zero=>
   simp only[List.getElem?_cons_zero,Option.some.injEq] at e;subst e;refine⟨b.2,?_,h.2⟩;show some b=some (a.1,b.2);rw[h.1]
  |succ i=>simpa using ih (by simpa using e)
end
end L2
namespace L2.Snd
open PySem PySem.Spec PyProof.Rows L2 Py
end L2.Snd
namespace L2
open PySem PySem.Spec PyProof.Rows
theorem jB:∀{ys:List Int}{its:List Value},Vals (ys.map V.int) its->∃ps:List (Int×Tok),its=ps.map (λp=>Value.int p.1 p.2)/\ps.map (·.1)=ys
 |[],its,r=>by cases r;exact⟨[],rfl,rfl⟩
 |y::ys,its,r=>by
  cases r with
  |cons r1 r2=>
   obtain⟨t,rfl⟩:=r1;obtain⟨ps,rfl,rfl⟩:=jB r2;exact⟨(y,t)::ps,rfl,rfl⟩
variable{X:Cx}
theorem d6{ps:List (Int×Tok)}(h:i<ps.length):numAt ps.toArray i=(ps.map (·.1))[i]'(by simpa using h):=by
 simp[numAt,h]
theorem vX(hc:X.calm=true):og X (.builtin "max") (λxs H Q=>∃(p:Addr)(ys:List Int),xs=[.ref p]/\ki X.K H p (ys.map V.int)/\0<ys.length/\∀M,M∈ys->(∀a∈ys,a<=M)->Q (.int M) H):=by
 intro pins s σ H xs us Q I r h;obtain⟨p,ys,rfl,hq,hl,q⟩:=h;obtain⟨u,rfl,rx⟩:=vals1 r;cases rx;obtain⟨its,r',pl,hz⟩:=I.list hq;obtain⟨ps,rfl,rfl⟩:=jB r';have hn:0<ps.length:=by simpa using hl
 refine max_intList (xs:=ps.toArray) (I.ok.hd hc) (by have:=pl.isList;simpa[intItems] using this) (by simpa using hn) λv h' tk hv k=>?_;obtain⟨b1,b2⟩:=argBest_gt (numAt ps.toArray) (ps.toArray.size-1);generalize argBest (λi j=>decide (numAt ps.toArray i>numAt ps.toArray j)) (ps.toArray.size-1)=j at*;have hj:j<ps.length:=by simp at b1;omega
 have Sl:v=.int (numAt ps.toArray j) (ps[j].2):=by
  have:(ps.map λp=>Value.int p.1 p.2)[j]?=some v:=by simpa[intItems] using hv
  rw[AA,uc hj] at this;rw[d6 hj];simpa using this.symm
 subst Sl;refine⟨.int (numAt ps.toArray j),H,I.kept k,⟨_,rfl⟩,q _ ?_ λa ha=>?_⟩
 ·rw[d6 hj];exact yn _
 ·obtain⟨i,hi,rfl⟩:=List.mem_iff_getElem.mp ha
  have ya:i<ps.length:=by simpa using hi
  rw[←d6 ya];exact b2 i (by simp;omega)
end L2
namespace L2.Snd
open PySem PySem.Spec PyProof.Rows L2 Py
end L2.Snd
namespace L2
open PySem PyProof.Rows
variable{X:Cx}
end L2
namespace L2.Snd
open PySem PySem.Spec PyProof.Rows L2 Py
end L2.Snd
namespace Py
theorem lM:rings []=0:=rfl
theorem aE(a b:Int)(r:List (Int×Int)):rings ((a,b)::r)=(if a=b then 1 else 0)+rings (r.map (yh a b)):=by
 simp[rings,DW]
noncomputable def names(l:List (Int×Int)):List Int:=l.flatMap λp=>[p.1,p.2]
noncomputable def mp(f:Int->Int)(p:Int×Int):Int×Int:=(f p.1,f p.2)
theorem o7(h:x∈names (l.map (yh a b))):x=a\/x∈names l:=by
 simp only[names,Gi,Ck,oz,DO,or_false] at h⊢;obtain⟨_,⟨p,hp,rfl⟩,h⟩:=h;simp only[yh,sb] at h;rcases h with h|h
 ·split at h
  ·exact .inl h
  ·exact .inr ⟨p,hp,.inl h⟩
 ·split at h
  ·exact .inl h
  ·exact .inr ⟨p,hp,.inr h⟩
theorem bR(h:p∈l):p.1∈names l/\p.2∈names l:=by
 simp only[names,Gi,oz,DO,or_false];exact⟨⟨p,h,.inl rfl⟩,⟨p,h,.inr rfl⟩⟩
theorem dB(f:Int->Int):∀(n:Nat)(l:List (Int×Int)),l.length=n->(∀x∈names l,∀y∈names l,f x=f y->x=y)->rings (l.map (mp f))=rings l
 |0,[],_,_=>rfl
 |n+1,(a,b)::r,hn,h=>by
  have ma:a∈names ((a,b)::r):=(bR si).1;have mb:b∈names ((a,b)::r):=(bR (p:=(a,b)) si).2;have mr:∀x∈names r,x∈names ((a,b)::r):=λx hx=>by
   simp only[names,Jb,Bu];exact .inr hx
  show rings ((f a,f b)::r.map (mp f))=_;rw[aE,aE];have e1:(f a=f b)↔a=b:=⟨h a ma b mb,λe=>by rw[e]⟩
  have e2:(r.map (mp f)).map (yh (f a) (f b))=(r.map (yh a b)).map (mp f):=by
   rw[vj,vj];refine Bh λp hp=>?_;have q:=bR hp;have g:∀x∈names r,sb (f a) (f b) (f x)=f (sb a b x):=λx hx=>by
    unfold sb;by_cases Bz:x=b
    ·rw[bp Bz,bp (by rw[Bz])]
    ·rw[az Bz,az λe=>Bz (h x (mr x hx) b mb e)]
   simp only[Function.comp,mp,yh];rw[g _ q.1,g _ q.2]
  rw[e2,dB f n (r.map (yh a b)) (by rw[dz];simpa using hn) λx hx y hy=>by
   have Bz:x∈names ((a,b)::r):=(o7 hx).elim (λe=>e▸ma) (mr x);have MZ:y∈names ((a,b)::r):=(o7 hy).elim (λe=>e▸ma) (mr y);exact h x Bz y MZ]
  simp only[e1]
noncomputable def ck:Nat->List (List Int)
 |0=>[[]]
 |n+1=>(ck n).map (· ++[0])++(ck n).map (· ++[1])
noncomputable def sumF{α:Type}(g:α->Int)(l:List α):Int:=(l.map g).sum
theorem bS(g:α->Int)(a b:List α):sumF g (a++b)=sumF g a+sumF g b:=by
 simp[sumF,Ac,List.sum_append]
theorem bT(g:β->Int)(f:α->β)(a:List α):sumF g (a.map f)=sumF (λx=>g (f x)) a:=by
 simp[sumF,Jc]
theorem aV(g:α->Int)(x:α)(a:List α):sumF g (x::a)=g x+sumF g a:=by simp[sumF]
theorem jC(g:α->Int):sumF g ([]:List α)=0:=rfl
theorem aQ{α:Type}{g f:α->Int}{l:List α}(h:∀x∈l,g x=f x):sumF g l=sumF f l:=by
 unfold sumF;rw[Bh h]
theorem o8(g f:α->Int):∀l:List α,sumF (λx=>g x+f x) l=sumF g l+sumF f l
 |[]=>rfl
 |x::r=>by rw[aV,aV,aV,o8 g f r];omega
theorem fX:∀(n:Nat)(g:List Int->Int),sumF g (ck (n+1))=sumF (λw=>g (0::w)) (ck n)+sumF (λw=>g (1::w)) (ck n)
 |0,g=>by simp[ck,sumF]
 |n+1,g=>by
  have e:sumF g (ck (n+2))=sumF (λw=>g (w++[0])) (ck (n+1))+sumF (λw=>g (w++[1])) (ck (n+1)):=by
   show sumF g ((ck (n+1)).map (· ++[0])++(ck (n+1)).map (· ++[1]))=_;rw[bS,bT,bT]
  rw[e,fX n,fX n];have e2:∀c:Int,sumF (λw=>g (c::w)) (ck (n+1))=sumF (λw=>g (c::(w++[0]))) (ck n)+sumF (λw=>g (c::(w++[1]))) (ck n):=λc=>by
   show sumF _ ((ck n).map (· ++[0])++(ck n).map (· ++[1]))=_;rw[bS,bT,bT]
  rw[e2,e2];simp only[Je];omega
theorem cO:∀(n:Nat)(w:List Int),w∈ck n->w.length=n
 |0,w,h=>by simp[ck] at h;simp[h]
 |n+1,w,h=>by
  simp only[ck,Bu,Ck] at h;rcases h with⟨v,hv,rfl⟩|⟨v,hv,rfl⟩<;>simp[cO n v hv]
noncomputable abbrev Po:=Int->Int
noncomputable def mono(p:Int):Po:=λi=>if i=p then 1 else 0
noncomputable def tr(f:Po):Po:=λi=> -(f (i-2))-f (i+2)
noncomputable def jg:Nat->Po->Po
 |0,f=>f
 |n+1,f=>tr (jg n f)
noncomputable def HS(k:Int)(f:Po):Po:=λi=>f (i-k)
theorem Ma(k:Int)(f:Po):tr (HS k f)=HS k (tr f):=by
 funext i;show-(f (i-2-k))-f (i+2-k)= -(f (i-k-2))-f (i-k+2);rw[show i-2-k=i-k-2 by omega,show i+2-k=i-k+2 by omega]
theorem b6(k:Int)(f:Po):∀n,jg n (HS k f)=HS k (jg n f)
 |0=>rfl
 |n+1=>by show tr (jg n (HS k f))=HS k (tr (jg n f));rw[b6 k f n,Ma]
theorem bU(p k:Int):mono (p+k)=HS k (mono p):=by
 funext i;simp only[mono,HS];by_cases h:i=p+k
 ·rw[bp h,bp (by omega)]
 ·rw[az h,az (by omega)]
noncomputable abbrev X4:=Int×Int×Int×Int
noncomputable def Ce(r:X4)(w:Int):List (Int×Int):=if w=0 then[(r.1,r.2.1),(r.2.2.1,r.2.2.2)] else[(r.1,r.2.2.2),(r.2.1,r.2.2.1)]
noncomputable def cf:List X4->List Int->List (Int×Int)
 |r::rs,w::ws=>Ce r w++cf rs ws
 |_,_=>[]
noncomputable def Sn(a b:Int)(r:X4):X4:=(sb a b r.1,sb a b r.2.1,sb a b r.2.2.1,sb a b r.2.2.2)
noncomputable def D0(f:Int->Int)(r:X4):X4:=(f r.1,f r.2.1,f r.2.2.1,f r.2.2.2)
theorem tY(f:Int->Int)(r:X4)(w:Int):(Ce r w).map (mp f)=Ce (D0 f r) w:=by
 unfold Ce;split<;>rfl
theorem b7(f:Int->Int):∀(rs:List X4)(ws:List Int),(cf rs ws).map (mp f)=cf (rs.map (D0 f)) ws
 |[],_=>rfl
 |_::_,[]=>rfl
 |r::rs,w::ws=>by
  show(Ce r w++cf rs ws).map (mp f)=Ce (D0 f r) w++cf (rs.map (D0 f)) ws;rw[Ac,tY,b7 f rs ws]
noncomputable def vi(rs:List X4)(g:Nat):Po:=λi=>sumF (λw=>jg (g+rings (cf rs w)) (mono (rs.length-2*w.sum)) i) (ck rs.length)
theorem HU(g:Nat):vi [] g=jg g (mono 0):=by
 funext i;simp[vi,ck,sumF,cf,lM]
noncomputable def zl(p q:Int×Int)(rs:List X4):List X4:=(rs.map (Sn p.1 p.2)).map (Sn (sb p.1 p.2 q.1) (sb p.1 p.2 q.2))
noncomputable def Dx(p q:Int×Int):Nat:=(if p.1=p.2 then 1 else 0)+(if sb p.1 p.2 q.1=sb p.1 p.2 q.2 then 1 else 0)
theorem gT(p q:Int×Int)(rs:List X4)(ws:List Int):rings (p::q::cf rs ws)=Dx p q+rings (cf (zl p q rs) ws):=by
 obtain⟨a,b⟩:=p;obtain⟨c,d⟩:=q;rw[aE];show _+rings ((sb a b c,sb a b d)::(cf rs ws).map (mp (sb a b)))=_;rw[aE,b7];show _+(_+rings ((cf _ ws).map (mp (sb (sb a b c) (sb a b d)))))=_;rw[b7];simp only[Dx,zl];have e:∀x y:Int,D0 (sb x y)=Sn x y:=λ_ _=>rfl;rw[e,e];omega
theorem sum_cons(w:Int)(ws:List Int):(w::ws).sum=w+ws.sum:=by simp
theorem vY(r:X4)(rs:List X4)(g:Nat)(i:Int):vi (r::rs) g i=
  vi (zl (r.1,r.2.1) (r.2.2.1,r.2.2.2) rs) (g+Dx (r.1,r.2.1) (r.2.2.1,r.2.2.2)) (i-1)+vi (zl (r.1,r.2.2.2) (r.2.1,r.2.2.1) rs) (g+Dx (r.1,r.2.2.2) (r.2.1,r.2.2.1)) (i+1):=by
 have hl:∀p q,(zl p q rs).length=rs.length:=λp q=>by simp[zl]
 unfold vi;rw[gm,fX,hl,hl]
 congr 1
 ·refine aQ λw _=>?_
  rw[show cf (r::rs) (0::w)=(r.1,r.2.1)::(r.2.2.1,r.2.2.2)::cf rs w from rfl,gT,←Nat.add_assoc,sum_cons,
   show(((rs.length+1:Nat):Int)-2*(0+w.sum))=((rs.length:Int)-2*w.sum)+1 by omega,bU,b6]
  rfl
 ·refine aQ λw _=>?_
  rw[show cf (r::rs) (1::w)=(r.1,r.2.2.2)::(r.2.1,r.2.2.1)::cf rs w from rfl,gT,←Nat.add_assoc,sum_cons,
   show(((rs.length+1:Nat):Int)-2*(1+w.sum))=((rs.length:Int)-2*w.sum)+(-1) by omega,bU,b6]
  show jg _ _ (i-(-1))=_;rw[show i-(-1)=i+1 by omega]
noncomputable def Pj(r:X4):List Int:=[r.1,r.2.1,r.2.2.1,r.2.2.2]
theorem b8:∀(rs:List X4)(ws:List Int)(x:Int),x∈names (cf rs ws)->x∈rs.flatMap Pj
 |[],_,x,h=>by simp[cf,names] at h
 |_::_,[],x,h=>by simp[cf,names] at h
 |r::rs,w::ws,x,h=>by
  have h':x∈names (Ce r w)\/x∈names (cf rs ws):=by simpa[cf,names,Kh] using h
  simp only[Jb,Bu];rcases h' with h|h
  ·left
   unfold Ce at h;split at h<;>· simp only[names,Jb,List.flatMap_nil,Bu,oz,DO,or_false] at h;simp only[Pj,oz,DO,or_false];grind
  ·exact .inr (b8 rs ws x h)
theorem HV(f:Int->Int)(rs:List X4)(g:Nat)(h:∀x∈rs.flatMap Pj,∀y∈rs.flatMap Pj,f x=f y->x=y):vi (rs.map (D0 f)) g=vi rs g:=by
 funext i;unfold vi;rw[dz];refine aQ λw _=>?_;rw[←b7,dB f _ _ rfl λx hx y hy=>h x (b8 _ _ _ hx) y (b8 _ _ _ hy)]
noncomputable def cc:List Int->Int->Po
 |[],_,_=>0
 |x::xs,q,i=>(if i=q then x else 0)+cc xs (q-4) i
noncomputable def adds:List Int->List Int->List Int
 |x::xs,y::ys=>(x+y)::adds xs ys
 |[],ys=>ys
 |xs,[]=>xs
theorem tZ:∀(a b:List Int)(q i:Int),cc (adds a b) q i=cc a q i+cc b q i
 |[],b,q,i=>by cases b<;>simp[adds,cc]
 |x::xs,[],q,i=>by simp[adds,cc]
 |x::xs,y::ys,q,i=>by
  simp only[adds,cc,tZ xs ys];split<;>omega
theorem t4:∀(a:List Int)(q i:Int),cc (a++[0]) q i=cc a q i
 |[],q,i=>by simp[cc]
 |x::xs,q,i=>by simp only[Je,cc,t4 xs]
theorem So(a:List Int)(q i:Int):cc (0::a) q i=cc a (q-4) i:=by simp[cc]
theorem jD:∀(a:List Int)(q k i:Int),cc a q (i-k)=cc a (q+k) i
 |[],_,_,_=>rfl
 |x::xs,q,k,i=>by
  simp only[cc];rw[jD xs,show q-4+k=q+k-4 by omega]
  congr 1
  by_cases h:i-k=q
  ·rw[bp h,bp (by omega)]
  ·rw[az h,az (by omega)]
noncomputable def Pk(a:List Int):List Int:=adds (a++[0]) (0::a)
noncomputable def u_:Nat->List Int
 |0=>[1]
 |n+1=>Pk (u_ n)
noncomputable def sg(n:Nat):Int:=1-2*((n:Int)%2)
theorem HW(n:Nat):sg (n+1)= -sg n:=by unfold sg;omega
theorem rK(p:Int):∀(n:Nat)(i:Int),jg n (mono p) i=sg n*cc (u_ n) (p+2*n) i
 |0,i=>by
  have h:sg 0=1:=rfl;simp[jg,mono,u_,cc,h]
 |n+1,i=>by
  show-(jg n (mono p) (i-2))-jg n (mono p) (i+2)=_;rw[rK p n,rK p n,jD,show i+2=i-(-2) by omega,jD,HW];show _= -sg n*cc (adds (u_ n++[0]) (0::u_ n)) _ i;rw[tZ,t4,So,show p+2*((n+1:Nat):Int)=p+2*n+2 by omega,show p+2*(n:Int)+2-4=p+2*n+ -2 by omega,Int.neg_mul,Int.mul_add];omega
noncomputable def Bp:List Int->List Int
 |x::y::r=>(x+y)::Bp (y::r)
 |_=>[]
theorem jE:∀(x:Int)(r:List Int),adds (r++[0]) (x::r)=Bp (x::r)++[(x::r).getLast (List.cons_ne_nil _ _)]
 |x,[]=>by simp[adds,Bp]
 |x,y::r=>by
  show adds (y::(r++[0])) (x::y::r)=(x+y)::(Bp (y::r)++[_]);rw[List.getLast_cons (List.cons_ne_nil _ _),←jE y r];show(y+x)::adds (r++[0]) (y::r)=_;rw[Int.add_comm]
theorem jF:∀n,∃r,u_ n=1::r/\(1::r).getLast (List.cons_ne_nil _ _)=1/\r.length=n
 |0=>⟨[],rfl,rfl,rfl⟩
 |n+1=>by
  obtain⟨r,h1,h2,h3⟩:=jF n;refine⟨Bp (1::r)++[1],?_,by rw[List.getLast_cons (by simp)];simp,?_⟩
  ·show Pk (u_ n)=_
   rw[h1,Pk];show((1:Int)+0)::adds (r++[0]) (1::r)=_;rw[jE,h2];rfl
  ·have:∀(x:Int)(r:List Int),(Bp (x::r)).length=r.length:=by
    intro x r
    induction r generalizing x with
    |nil=>rfl
    |cons y r ih=>simp[Bp,ih]
   simp[this,h3]
theorem yU(n:Nat):u_ (n+1)=[1]++Bp (u_ n)++[1]:=by
 obtain⟨r,h1,h2,h3⟩:=jF n;show Pk (u_ n)=_;rw[h1,Pk];show((1:Int)+0)::adds (r++[0]) (1::r)=_;rw[jE,h2];rfl
theorem mX(n:Nat):(u_ n).length=n+1:=by
 obtain⟨r,h1,h2,h3⟩:=jF n;rw[h1,gm,h3]
section
variable{κ:Type}[DecidableEq κ]
noncomputable def Aw(g:κ->Int)(t:List (κ×Int)):Int:=sumF (λx=>x.2*g x.1) t
def bh(t:List (κ×Int)):Prop:=(t.map (·.1)).Nodup
noncomputable def val(t:List (κ×Int))(k:κ):Int:=Aw (λj=>if j=k then 1 else 0) t
theorem b9(g:κ->Int):Aw g []=0:=rfl
theorem gr(g:κ->Int)(a:κ)(m:Int)(r:List (κ×Int)):Aw g ((a,m)::r)=m*g a+Aw g r:=by simp[Aw,sumF]
theorem e8(g:κ->Int):∀(t:List (κ×Int))(k:κ)(n:Int),Aw g (cn t k n)=Aw g t+n*g k
 |[],k,n=>by simp[cn,gr,b9]
 |(a,m)::r,k,n=>by
  unfold cn;split
  ·rename_i h
   rw[gr,gr,h,Int.add_mul];omega
  ·rw[gr,gr,e8 g r k n];omega
theorem fY:∀(t:List (κ×Int))(k:κ)(n:Int),(cn t k n).map (·.1)=if k∈t.map (·.1) then t.map (·.1) else t.map (·.1)++[k]
 |[],k,n=>by simp[cn]
 |(a,m)::r,k,n=>by
  unfold cn;by_cases h:a=k
  ·rw[bp h];simp[h]
  ·have h':¬k=a:=λe=>h e.symm
   rw[az h];simp only[fu,fY r k n,oz,h',false_or];split<;>simp
theorem aS(h:bh t)(k:κ)(n:Int):bh (cn t k n):=by
 unfold bh at h⊢;rw[fY];split
 ·exact h
 ·rename_i hk
  rw[List.nodup_append];refine⟨h,by simp,λa ha b hb=>?_⟩;simp only[Gh] at hb;subst hb;rintro rfl;exact hk ha
theorem cP{k j:κ}(h:j∈(cn t k n).map (·.1)):j∈t.map (·.1)\/j=k:=by
 rw[fY] at h;split at h
 ·exact .inl h
 ·simp only[Bu,Gh] at h;exact h
theorem cQ(a:κ)(m:Int)(r:List (κ×Int))(k:κ):val ((a,m)::r) k=(if a=k then m else 0)+val r k:=by
 unfold val;rw[gr];split<;>simp
theorem cR:∀{t:List (κ×Int)}{k:κ},k∉t.map (·.1)->val t k=0
 |[],k,_=>rfl
 |(a,m)::r,k,h=>by
  simp only[fu,oz,not_or] at h;rw[cQ,az λe=>h.1 e.symm,cR h.2];rfl
theorem cS(t:List (κ×Int))(k:κ)(n:Int)(j:κ):val (cn t k n) j=val t j+(if k=j then n else 0):=by
 unfold val;rw[e8];split<;>simp
noncomputable def look(t:List (κ×Int))(k:κ):Option Int:=(t.find? λx=>decide (x.1=k)).map (·.2)
end
theorem yV:∀(t f:List (Int×Int))(i:Int),val (t.foldl (λf x=>cn (cn f (x.1+2) (-x.2)) (x.1+ -2) (-x.2)) f) i=val f i-val t (i-2)-val t (i+2)
 |[],f,i=>by simp[val,b9]
 |(p,n)::r,f,i=>by
  rw[Kl,yV r,cS,cS,cQ,cQ];have e1:(p+2=i)↔p=i-2:=by omega
  have e2:(p+ -2=i)↔p=i+2:=by omega
  simp only[e1,e2];split<;>split<;>omega
theorem HX(t:List (Int×Int)):val (BH t)=tr (val t):=by
 funext i;show val (t.foldl _ []) i=_;rw[yV];show 0-_-_= -(val t (i-2))-val t (i+2);omega
theorem e9{κ α:Type}[DecidableEq κ](f:List (κ×Int)->α->List (κ×Int))(hf:∀t x,bh t->bh (f t x)):∀(l:List α)(t:List (κ×Int)),bh t->bh (l.foldl f t)
 |[],t,h=>h
 |x::l,t,h=>e9 f hf l _ (hf t x h)
theorem fZ(t:List (Int×Int)):bh (BH t):=e9 _ (λt x h=>aS (aS h _ _) _ _) t [] Bv
theorem BL:∀(t f:List (Int×Int))(i:Int),val (zf f t) i=val f i+val t i
 |[],f,i=>by simp[zf,val,b9]
 |(p,n)::r,f,i=>by
  show val (zf (cn f p n) r) i=_;rw[BL r,cS,cQ];omega
theorem iE(h:bh f)(t:List (Int×Int)):bh (zf f t):=e9 _ (λt x h=>aS h _ _) t f h
noncomputable def va(b:Nat->List (Int×Int)):Nat->List (Int×Int)->List (Int×Int)
 |0,f=>f
 |n+1,f=>va b n (zf (BH f) (b n))
noncomputable def pq(b:Nat->Po):Nat->Po
 |0=>λ_=>0
 |n+1=>λi=>pq b n i+jg n (b n) i
theorem Mb(f g:Po):tr (λi=>f i+g i)=λi=>tr f i+tr g i:=by
 funext i;simp only[tr];omega
theorem t6(f g:Po):∀n,jg n (λi=>f i+g i)=λi=>jg n f i+jg n g i
 |0=>rfl
 |n+1=>by
  show tr (jg n _)=_;rw[t6 f g n,Mb];rfl
theorem yW(f:Po):∀n,jg n (tr f)=jg (n+1) f
 |0=>rfl
 |n+1=>by show tr (jg n (tr f))=_;rw[yW f n];rfl
theorem o9(b:Nat->List (Int×Int)):∀(n:Nat)(f:List (Int×Int))(i:Int),val (va b n f) i=jg n (val f) i+pq (λk=>val (b k)) n i
 |0,f,i=>by simp[va,jg,pq]
 |n+1,f,i=>by
  show val (va b n (zf (BH f) (b n))) i=_;rw[o9 b n];have e:val (zf (BH f) (b n))=λi=>tr (val f) i+val (b n) i:=by
   funext i;rw[BL,HX]
  rw[e,t6,yW];show _+_+_=_+(_+jg n (val (b n)) i);omega
theorem t7(b:Nat->List (Int×Int)):∀(n:Nat)(f:List (Int×Int)),bh f->bh (va b n f)
 |0,f,h=>h
 |n+1,f,h=>t7 b n _ (iE (fZ f) _)
theorem iF(x y:Int):∀l:List Int,y∈ins x l↔y=x\/y∈l
 |[]=>by simp[ins]
 |z::r=>by
  unfold ins;split
  ·simp
  ·simp only[oz,iF x y r]
   constructor
   ·rintro(h|h|h)
    ·exact .inr (.inl h)
    ·exact .inl h
    ·exact .inr (.inr h)
   ·rintro(h|h|h)
    ·exact .inr (.inl h)
    ·exact .inl h
    ·exact .inr (.inr h)
theorem bI(y:Int):∀l:List Int,y∈sortI l↔y∈l
 |[]=>by simp[sortI]
 |z::r=>by
  show y∈ins z (sortI r)↔_;rw[iF,bI y r,oz]
theorem pA:∀{a b:List Int},a.Pairwise (· <·)->b.Pairwise (· <·)->(∀x,x∈a↔x∈b)->a=b
 |[],[],_,_,_=>rfl
 |[],y::b,_,_,h=>by simpa using(h y).mpr (by simp)
 |x::a,[],_,_,h=>by simpa using(h x).mp (by simp)
 |x::a,y::b,ha,hb,h=>by
  rw[Kj] at ha hb;have QY:x=y:=by
   have h1:=(h x).mp (by simp);have h2:=(h y).mpr (by simp);rcases List.mem_cons.mp h1 with e|e
   ·exact e
   ·rcases List.mem_cons.mp h2 with e'|e'
    ·exact e'.symm
    ·have:=hb.1 x e
     have:=ha.1 y e';omega
  subst QY
  congr 1
  refine pA ha.2 hb.2 λz=>?_;have hz:=h z;simp only[oz] at hz;constructor
  ·intro m
   rcases hz.mp (.inr m) with e|e
   ·subst e;have:=ha.1 z m;omega
   ·exact e
  ·intro m
   rcases hz.mpr (.inr m) with e|e
   ·subst e;have:=hb.1 z m;omega
   ·exact e
noncomputable def told(v:Po)(s:List Int):List (Int×Int):=(s.filter λi=>decide (v i≠0)).map λi=>(i,v i)
theorem pB(h:s.Pairwise (· <·))(h':s'.Pairwise (· <·))(z:∀i,v i≠0->i∈s)(z':∀i,v i≠0->i∈s'):told v s=told v s':=by
 unfold told
 congr 1
 refine pA (h.filter _) (h'.filter _) λi=>?_;simp only[List.mem_filter,DN];exact⟨λq=>⟨z' i q.2,q.2⟩,λq=>⟨z i q.2,q.2⟩⟩
section
variable(sp:Int->Sx->Sx)(T:Sx->Po)(gd:Sx->Prop)
noncomputable def yk(f:List (Sk×Int))(x:Sk×Int):List (Sk×Int):=cn (cn f (sp 0 x.1.1,x.1.2+1) x.2) (sp 1 x.1.1,x.1.2+ -1) x.2
noncomputable def Dy(t:List (Sk×Int)):List (Sk×Int):=t.foldl (yk sp) []
noncomputable def wT(i:Int)(k:Sk):Int:=T k.1 (i-k.2)
structure Splits:Prop where
 sum:∀s,gd s->s.1≠[]->∀i,T s i=T (sp 0 s) (i-1)+T (sp 1 s) (i+1)
 len:∀w s,gd s->s.1≠[]->(sp w s).1.length+1=s.1.length
 gd:∀w s,gd s->s.1≠[]->gd (sp w s)
variable{sp T gd}
def BM(gd:Sx->Prop)(n:Nat)(t:List (Sk×Int)):Prop:=∀k∈t.map (·.1),gd k.1/\k.1.1.length=n
theorem yX(h:Splits sp T gd)(i:Int):∀(t f:List (Sk×Int)),(∀k∈t.map (·.1),gd k.1/\k.1.1≠[])->Aw (wT T i) (t.foldl (yk sp) f)=Aw (wT T i) f+Aw (wT T i) t
 |[],f,_=>by simp[b9]
 |((s,p),n)::r,f,hn=>by
  have hs:=hn (s,p) (by simp);rw[Kl,yX h i r _ λk hk=>hn k (by simp only[fu,oz];exact .inr hk),gr,yk,e8,e8];have e:wT T i (s,p)=wT T i (sp 0 s,p+1)+wT T i (sp 1 s,p+ -1):=by
   show T s (i-p)=T (sp 0 s) (i-(p+1))+T (sp 1 s) (i-(p+ -1));rw[h.sum s hs.1 hs.2 (i-p),show i-(p+1)=i-p-1 by omega,show i-(p+ -1)=i-p+1 by omega]
  rw[e,Int.mul_add];show Aw _ f+n*wT T i (sp 0 s,p+1)+n*wT T i (sp 1 s,p+ -1)+Aw _ r=_;omega
theorem mY(h:Splits sp T gd):∀(t f:List (Sk×Int)),BM gd (n+1) t->BM gd n f->BM gd n (t.foldl (yk sp) f)
 |[],f,_,hf=>hf
 |((s,p),m)::r,f,ht,hf=>by
  have hs:=ht (s,p) (by simp);have xy:s.1≠[]:=λe=>by have:=hs.2;rw[e] at this;cases this
  have hl:s.1.length=n+1:=hs.2;refine mY h r _ (λk hk=>ht k (by simp only[fu,oz];exact .inr hk)) λk hk=>?_;rcases cP hk with hk|rfl
  ·rcases cP hk with hk|rfl
   ·exact hf k hk
   ·have:=h.len 0 s hs.1 xy;exact⟨h.gd 0 s hs.1 xy,show(sp 0 s).1.length=n by omega⟩
  ·have:=h.len 1 s hs.1 xy;exact⟨h.gd 1 s hs.1 xy,show(sp 1 s).1.length=n by omega⟩
noncomputable def zm(sp:Int->Sx->Sx):Nat->List (Sk×Int)->List (Sk×Int)
 |0,t=>t
 |n+1,t=>zm sp n (Dy sp t)
theorem pC(h:Splits sp T gd)(i:Int):∀(n:Nat)(t:List (Sk×Int)),BM gd n t->Aw (wT T i) (zm sp n t)=Aw (wT T i) t/\BM gd 0 (zm sp n t)
 |0,t,ht=>⟨rfl,ht⟩
 |n+1,t,ht=>by
  have h1:=mY h t [] ht λk hk=>by simp at hk
  have h2:=yX h i t [] λk hk=>⟨(ht k hk).1,λe=>by have:=(ht k hk).2;rw[e] at this;cases this⟩
  obtain⟨q1,q2⟩:=pC h i n (Dy sp t) h1;exact⟨by rw[zm,q1];exact h2.trans (by simp[b9]),q2⟩
end
theorem jG:∀(f:List (Int×List (Int×Int)))(g p n k:Int),q_ (jq f g p n) k=if g=k then cn (q_ f k) p n else q_ f k
 |[],g,p,n,k=>by
  simp only[jq,q_]
 |(a,t)::r,g,p,n,k=>by
  unfold jq;by_cases h:a=g
  ·subst h
   rw[bp rfl];simp only[q_];split<;>rfl
  ·rw[az h]
   simp only[q_,jG r g p n k];by_cases h2:a=k
   ·subst h2
    rw[bp rfl,bp rfl,az λe=>h e.symm]
   ·rw[az h2,az h2]
theorem yY(k i:Int):∀(t:List (Sk×Int))(f:List (Int×List (Int×Int))),
  val (q_ (t.foldl (λf x=>jq f x.1.1.2 x.1.2 x.2) f) k) i=val (q_ f k) i+Aw (λy=>if y.1.2=k/\y.2=i then 1 else 0) t
 |[],f=>by simp[b9]
 |((s,p),n)::r,f=>by
  rw[Kl,yY k i r,jG,gr];by_cases h:s.2=k
  ·simp only[h,b_,true_and]
   rw[cS];split<;>simp<;>omega
  ·simp only[h,df,false_and,Int.mul_zero];omega
theorem HY(t:List (Sk×Int))(k i:Int):val (q_ (xu t) k) i=Aw (λy=>if y.1.2=k/\y.2=i then 1 else 0) t:=by
 show val (q_ (t.foldl _ []) k) i=_;rw[yY];show 0+_=_;omega
theorem vZ(f:List (Int×List (Int×Int)))(g p n a:Int):a∈(jq f g p n).map (·.1)↔a∈f.map (·.1)\/g=a:=by
 induction f with
 |nil=>simp[jq,eq_comm]
 |cons x f ih=>
  obtain⟨b,t⟩:=x;unfold jq;split
  ·rename_i h
   simp only[fu,oz,h];constructor
   ·exact λh=>.inl h
   ·rintro(h|h)
    ·exact h
    ·exact .inl h.symm
  ·simp only[fu,oz,ih,or_assoc]
theorem pD:∀(t:List (Sk×Int))(f:List (Int×List (Int×Int)))(a:Int),a∈(t.foldl (λf x=>jq f x.1.1.2 x.1.2 x.2) f).map (·.1)↔a∈f.map (·.1)\/∃k∈t.map (·.1),k.1.2=a
 |[],f,a=>by simp
 |((s,p),n)::r,f,a=>by
  rw[Kl,pD r,vZ];simp only[fu,oz];constructor
  ·rintro((h|h)|⟨k,h,h'⟩)
   ·exact .inl h
   ·exact .inr ⟨(s,p),.inl rfl,h⟩
   ·exact .inr ⟨k,.inr h,h'⟩
  ·rintro(h|⟨k,rfl|h,h'⟩)
   ·exact .inl (.inl h)
   ·exact .inl (.inr h')
   ·exact .inr ⟨k,h,h'⟩
theorem HZ(n:Nat)(c:Int)(f g:Po):jg n (λi=>c*f i+g i)=λi=>c*jg n f i+jg n g i:=by
 induction n with
 |zero=>rfl
 |succ n ih=>
  show tr (jg n _)=_;rw[ih];funext i;show-(c*jg n f (i-2)+jg n g (i-2))-(c*jg n f (i+2)+jg n g (i+2))=c*(-(jg n f (i-2))-jg n f (i+2))+(-(jg n g (i-2))-jg n g (i+2));rw[Int.mul_sub,Int.mul_neg];omega
theorem cT:∀n,jg n (λ_=>0)=λ_=>0
 |0=>rfl
 |n+1=>by show tr (jg n _)=_;rw[cT n];rfl
theorem yZ(hT:∀s,gd s->s.1=[]->T s=jg s.2.toNat (mono 0))(hg:∀s,gd s->0<=s.2)(i:Int):∀(m:Nat)(t:List (Sk×Int)),BM gd 0 t->(∀k∈t.map (·.1),k.1.2<(m:Int))->
  pq (λg j=>Aw (λy:Sk=>if y.1.2=((g:Nat):Int)/\y.2=j then 1 else 0) t) m i=Aw (wT T i) t:=by
 have VU:∀(m:Nat)(c:Int)(f g:Nat->Po)(i:Int),pq (λk j=>c*f k j+g k j) m i=c*pq f m i+pq g m i:=by
  intro m c f g i
  induction m with
  |zero=>simp[pq]
  |succ m ih=>
   show pq _ m i+jg m (λj=>c*f m j+g m j) i=c*(pq f m i+jg m (f m) i)+(pq g m i+jg m (g m) i);rw[ih,HZ,Int.mul_add];show c*pq f m i+pq g m i+(c*jg m (f m) i+jg m (g m) i)=_;omega
 have one:∀(m g:Nat)(p:Int)(i:Int),g<m->pq (λk j=>if(g:Int)=(k:Nat)/\p=j then 1 else 0) m i=jg g (mono p) i:=by
  intro m;have out:∀(m g:Nat)(p:Int)(i:Int),m<=g->pq (λk j=>if(g:Int)=(k:Nat)/\p=j then 1 else 0) m i=0:=by
   intro m
   induction m with
   |zero=>intro g p i _;rfl
   |succ m ih=>
    intro g p i h;show pq _ m i+jg m _ i=0;rw[ih g p i (by omega)];have:(λj:Int=>if(g:Int)=(m:Nat)/\p=j then(1:Int) else 0)=λ_=>0:=by
     funext j;rw[az];rintro⟨h1,_⟩;omega
    show 0+jg m (λj:Int=>if(g:Int)=(m:Nat)/\p=j then(1:Int) else 0) i=0;rw[this,cT];rfl
  induction m with
  |zero=>intro g p i h;omega
  |succ m ih=>
   intro g p i h;show pq _ m i+jg m (λj:Int=>if(g:Int)=(m:Nat)/\p=j then(1:Int) else 0) i=_;by_cases hg:g=m
   ·subst hg
    rw[out g g p i (fm _)];have:(λj:Int=>if(g:Int)=(g:Nat)/\p=j then(1:Int) else 0)=mono p:=by
     funext j;simp[mono,eq_comm]
    rw[this];omega
   ·rw[ih g p i (by omega)]
    have:(λj:Int=>if(g:Int)=(m:Nat)/\p=j then(1:Int) else 0)=λ_=>0:=by
     funext j;rw[az];rintro⟨h1,_⟩;omega
    rw[this,cT];exact Int.add_zero _
 intro m t
 induction t with
 |nil=>
  intro _ _;have:∀m,pq (λ_ _=>(0:Int)) m i=0:=by
   intro m
   induction m with
   |zero=>rfl
   |succ m ih=>show pq _ m i+jg m (λ_=>0) i=0;rw[ih,cT];rfl
  exact this m
 |cons x r ih=>
  obtain⟨⟨s,p⟩,n⟩:=x;intro h0 hm;have hs:=h0 (s,p) (by simp);have hn:0<=s.2:=hg s hs.1;have e:(λ(g:Nat)(j:Int)=>Aw (λy:Sk=>if y.1.2=((g:Nat):Int)/\y.2=j then 1 else 0) (((s,p),n)::r))=λg j=>n*(if((s.2.toNat:Nat):Int)=(g:Nat)/\p=j then 1 else 0)+Aw (λy:Sk=>if y.1.2=((g:Nat):Int)/\y.2=j then 1 else 0) r:=by
   funext g j;rw[gr,Int.toNat_of_nonneg hn]
  have M_:s.2<m:=hm (s,p) (by simp);rw[e,VU m n (λg j=>if((s.2.toNat:Nat):Int)=(g:Nat)/\p=j then 1 else 0) _ i,ih (λk hk=>h0 k (by simp only[fu,oz];exact .inr hk)) (λk hk=>hm k (by simp only[fu,oz];exact .inr hk)),gr,
   one m s.2.toNat p i (by omega)]
  have e2:wT T i (s,p)=jg s.2.toNat (mono p) i:=by
   show T s (i-p)=_;rw[hT s hs.1 (List.length_eq_zero_iff.mp hs.2),show mono p=HS p (mono 0) by rw[←bU];simp,b6];rfl
  rw[e2]
theorem aG[DecidableEq κ]:∀(t:List (κ×Int))(k:κ)(n:Int),(cn t k n).length<=t.length+1/\t.length<=(cn t k n).length
 |[],k,n=>by simp[cn]
 |(a,m)::r,k,n=>by
  unfold cn;split
  ·simp
  ·have:=aG r k n
   simp only[gm];omega
def yb(d a:Int)(n:Nat)(t:List (Int×Int)):Prop:=∀k∈t.map (·.1),∃e:Nat,e<n/\k=a-d*e
theorem jH(d a:Int)(n:Nat):yb d a n []:=λk hk=>by simp at hk
theorem fA(h:yb d a c t)(hk:∃e:Nat,e<c/\k=a-d*e):yb d a c (cn t k n):=λj hj=>by
 rcases cP hj with hj|rfl
 ·exact h j hj
 ·exact hk
theorem lN:∀(n:Nat)(l:List Int)(a:Int),l.Nodup->(∀k∈l,a<=k/\k<a+n)->l.length<=n
 |0,[],_,_,_=>by simp
 |0,x::l,a,_,h=>by have:=h x (by simp);omega
 |n+1,l,a,nd,h=>by
  have h1:((l.filter λk=>decide (k≠a)).length<=n):=lN n _ (a+1) (nd.filter _) λk hk=>by
   simp only[List.mem_filter,DN] at hk;have:=h k hk.1;omega
  have h2:l.length<=(l.filter λk=>decide (k≠a)).length+1:=by
   clear h1 h
   induction l with
   |nil=>simp
   |cons x l ih=>
    rw[Jj] at nd;by_cases hx:x=a
    ·subst hx
     rw[List.filter_cons_of_neg (by simp)];have:(l.filter λk=>decide (k≠x))=l:=by
      rw[List.filter_eq_self];intro k hk;simp only[DN];rintro rfl;exact nd.1 hk
     rw[this];simp
    ·rw[List.filter_cons_of_pos (by simpa using hx)]
     simp only[gm];have:=ih nd.2;omega
  omega
theorem jI(hd:d=2\/d=4)(nd:bh t)(h:yb d a n t):t.length<=n:=by
 have key:∀l:List Int,l.Nodup->(∀k∈l,∃e:Nat,e<n/\k=a-d*e)->(l.map λk=>(a-k)/d).Nodup/\∀k∈l.map λk=>(a-k)/d,(0:Int)<=k/\k<0+n:=by
  intro l nd h;rcases hd with rfl|rfl<;>(
  constructor
  ·rw[List.nodup_iff_pairwise_ne,List.pairwise_map]
   refine List.Pairwise.imp_of_mem ?_ (List.nodup_iff_pairwise_ne.mp nd);intro x y hx hy ne e;obtain⟨_,_,hx⟩:=h x hx;obtain⟨_,_,hy⟩:=h y hy;omega
  ·intro k hk
   obtain⟨x,hx,rfl⟩:=List.mem_map.mp hk;obtain⟨_,_,hx⟩:=h x hx;omega)
 obtain⟨k1,k2⟩:=key _ nd h;simpa using lN n _ 0 k1 k2
theorem mZ{α:Type}(f:List (Int×Int)->α->List (Int×Int)):∀(l:List α)(t:List (Int×Int)),(∀t x,x∈l->yb d a n t->yb d a n (f t x))->yb d a n t->yb d a n (l.foldl f t)
 |[],t,_,h=>h
 |x::l,t,hf,h=>mZ f l _ (λt y hy=>hf t y (o_ _ hy)) (hf t x si h)
theorem Mc(h:yb 2 a n t):yb 2 (a+2) (n+2) (BH t):=mZ _ t [] (λf x hx hf=>by
 obtain⟨e,h1,h2⟩:=h x.1 (List.mem_map.mpr ⟨x,hx,rfl⟩);exact fA (fA hf ⟨e,by omega,by omega⟩) ⟨e+2,by omega,by omega⟩) (jH _ _ _)
theorem H_(hf:yb 2 a n f)(h:yb 2 a n t):yb 2 a n (zf f t):=mZ _ t f (λf x hx hf=>fA hf (h x.1 (List.mem_map.mpr ⟨x,hx,rfl⟩))) hf
theorem JR(h:yb 2 a n t):yb 2 (a+2) (n+2) t:=λk hk=>by
 obtain⟨e,h1,h2⟩:=h k hk;exact⟨e+1,by omega,by omega⟩
theorem lO:∀(n:Nat)(f:List (Int×Int))(a:Int)(c:Nat),bh f->yb 2 a c f->(∀k:Nat,k<n->yb 2 a c (b k))->c+2*n<=5000->
  A7 b n f=some (va (λk=>b k) n f)/\yb 2 (a+2*n) (c+2*n) (va (λk=>b k) n f)
 |0,f,a,c,_,h,_,_=>⟨rfl,by simpa[va] using h⟩
 |n+1,f,a,c,nd,hf,hb,hN=>by
  have h1:=Mc hf;have h2:=H_ h1 (JR (hb n (by omega)));have l1:=jI (.inl rfl) (fZ f) h1;have l2:=jI (.inl rfl) (iE (fZ f) (b n)) h2;rw[A7,bp ⟨by omega,by omega⟩];have:=lO n _ (a+2) (c+2) (iE (fZ f) _) h2 (λk hk=>JR (hb k (by omega))) (by omega);rw[show a+2*((n+1:Nat):Int)=a+2+2*n by omega,show c+2*(n+1)=c+2+2*n by omega];exact this
theorem d7:∀(t f:List (Sk×Int)),(t.foldl (yk sp) f).length<=f.length+2*t.length
 |[],f=>by simp
 |x::t,f=>by
  have h:=d7 (sp:=sp) t (yk sp f x);have h1:=aG (cn f (sp 0 x.1.1,x.1.2+1) x.2) (sp 1 x.1.1,x.1.2+ -1) x.2;have h2:=aG f (sp 0 x.1.1,x.1.2+1) x.2;rw[Kl,gm];unfold yk at h⊢;omega
section
variable{sp:Int->Sx->Sx}{T:Sx->Po}{gd:Sx->Prop}{so:Sx->Int->Option Sx}
theorem pE(hs:∀s,gd s->s.1≠[]->so s 0=some (sp 0 s)/\so s 1=some (sp 1 s)):∀(t f:List (Sk×Int)),(∀k∈t.map (·.1),gd k.1/\k.1.1≠[])->EC so t f=some (t.foldl (yk sp) f)
 |[],f,_=>rfl
 |x::t,f,h=>by
  have hx:=h x.1 (by simp);rw[EC,(hs _ hx.1 hx.2).1,(hs _ hx.1 hx.2).2];exact pE hs t _ λk hk=>h k (by simp only[fu,oz];exact .inr hk)
theorem lQ(h:Splits sp T gd)(hs:∀s,gd s->s.1≠[]->so s 0=some (sp 0 s)/\so s 1=some (sp 1 s)):∀(n:Nat)(t:List (Sk×Int)),BM gd n t->2^n*t.length<=5000->zg so n t=some (zm sp n t)
 |0,t,_,_=>rfl
 |n+1,t,ht,hl=>by
  have h1:=mY h t [] ht λk hk=>by simp at hk
  have h2:=d7 (sp:=sp) t [];have h3:2^n*(Dy sp t).length<=5000:=by
   have h4:(Dy sp t).length<=2*t.length:=by simpa[Dy] using h2
   have h5:2^n*(Dy sp t).length<=2^n*(2*t.length):=Nat.mul_le_mul_left _ h4;have h6:2^n*(2*t.length)=2^(n+1)*t.length:=by rw[Nat.pow_succ,Nat.mul_assoc]
   omega
  have h7:(Dy sp t).length<=5000:=by
   have:1<=2^n:=Nat.one_le_two_pow;have:=Nat.mul_le_mul_right (Dy sp t).length this;omega
  rw[zg,pE hs t [] λk hk=>⟨(ht k hk).1,λe=>by have:=(ht k hk).2;rw[e] at this;cases this⟩];show(if(Dy sp t).length<=5000 then zg so n (Dy sp t) else none)=_;rw[bp h7];exact lQ h hs n _ h1 h3
def Nl(N:Nat)(t:List (Sk×Int)):Prop:=∀k∈t.map (·.1),∃e:Nat,e<N+1/\k.2=(N:Int)-2*e
theorem t8:∀(t f:List (Sk×Int)),Nl N t->Nl (N+1) f->Nl (N+1) (t.foldl (yk sp) f)
 |[],f,_,h=>h
 |x::t,f,ht,hf=>by
  obtain⟨e,h1,h2⟩:=ht x.1 (by simp);refine t8 t _ (λk hk=>ht k (by simp only[fu,oz];exact .inr hk)) λk hk=>?_;rcases cP hk with hk|rfl
  ·rcases cP hk with hk|rfl
   ·exact hf k hk
   ·exact⟨e,by omega,show x.1.2+1=_ by omega⟩
  ·exact⟨e+1,by omega,show x.1.2+ -1=_ by omega⟩
theorem pF:∀(n N:Nat)(t:List (Sk×Int)),Nl N t->Nl (N+n) (zm sp n t)
 |0,N,t,h=>h
 |n+1,N,t,h=>by
  have:=pF n (N+1) (Dy sp t) (t8 t [] h λk hk=>by simp at hk);rw[show N+(n+1)=N+1+n by omega];exact this
theorem t9:∀(n:Nat)(t:List (Sk×Int)),t≠[]->zm sp n t≠[]
 |0,t,h=>h
 |n+1,t,h=>by
  refine t9 n _ ?_;have go:∀(t f:List (Sk×Int)),f≠[]->t.foldl (yk sp) f≠[]:=by
   intro t
   induction t with
   |nil=>intro f h;exact h
   |cons x t ih=>
    intro f h;refine ih _ λe=>?_;have h1:=aG (cn f (sp 0 x.1.1,x.1.2+1) x.2) (sp 1 x.1.1,x.1.2+ -1) x.2;have h2:=aG f (sp 0 x.1.1,x.1.2+1) x.2;have h3:f.length≠0:=λz=>h (List.length_eq_zero_iff.mp z);rw[show cn (cn f (sp 0 x.1.1,x.1.2+1) x.2) (sp 1 x.1.1,x.1.2+ -1) x.2=[] from e] at h1;simp only[ny] at h1;omega
  cases t with
  |nil=>exact absurd rfl h
  |cons x t=>
   show t.foldl (yk sp) (yk sp [] x)≠[];refine go t _ λe=>?_;have h1:=aG (cn [] (sp 0 x.1.1,x.1.2+1) x.2) (sp 1 x.1.1,x.1.2+ -1) x.2;rw[show cn (cn [] (sp 0 x.1.1,x.1.2+1) x.2) (sp 1 x.1.1,x.1.2+ -1) x.2=[] from e] at h1;simp[cn] at h1
end
theorem y7:∀(t:List (Sk×Int))(f:List (Int×List (Int×Int)))(N:Nat)(g:Int),Nl N t->(∀g,yb 2 N (N+1) (q_ f g))->yb 2 N (N+1) (q_ (t.foldl (λf x=>jq f x.1.1.2 x.1.2 x.2) f) g)
 |[],f,N,g,_,h=>h g
 |x::t,f,N,g,ht,h=>by
  have hx:=ht x.1 (by simp);refine y7 t _ N g (λk hk=>ht k (by simp only[fu,oz];exact .inr hk)) λg'=>?_;rw[jG];split
  ·exact fA (h g') hx
  ·exact h g'
theorem iG:∀(r:List Int)(x y:Int),y∈x::r->y<=jf x r
 |[],x,y,h=>by simp at h;simp[jf,h]
 |z::r,x,y,h=>by
  show y<=jf (if z>x then z else x) r;have hb:(if z>x then z else x)<=jf (if z>x then z else x) r:=iG r _ _ (by simp);simp only[oz] at h;rcases h with rfl|rfl|h
  ·split at hb<;>split<;>omega
  ·split at hb<;>split<;>omega
  ·exact iG r _ y (o_ _ h)
theorem jJ:∀(r:List Int)(x:Int),jf x r∈x::r
 |[],x=>by simp[jf]
 |z::r,x=>by
  show jf (if z>x then z else x) r∈_;have:=jJ r (if z>x then z else x);rcases List.mem_cons.mp this with h|h
  ·rw[h];split<;>simp
  ·exact o_ _ (o_ _ h)
theorem y8(f:List (Int×List (Int×Int)))(g p n:Int):(jq f g p n).length<=f.length+1:=by
 induction f with
 |nil=>simp[jq]
 |cons x f ih=>
  obtain⟨a,t⟩:=x;unfold jq;split<;>simp<;>omega
theorem m6:∀(t:List (Sk×Int))(f:List (Int×List (Int×Int))),(t.foldl (λf x=>jq f x.1.1.2 x.1.2 x.2) f).length<=f.length+t.length
 |[],f=>by simp
 |x::t,f=>by
  have:=m6 t (jq f x.1.1.2 x.1.2 x.2);have:=y8 f x.1.1.2 x.1.2 x.2;rw[Kl,gm];omega
end Py
namespace L2
open PySem PySem.Spec PyProof.Rows
section
variable{prog:Program}{w:World}{A:Around}{E:Value->Shared->Prop}{s:Shared}
theorem rL(hd:(d==sysModules)=false)(ho:s.heap.get? d=some o)(hc:o.cls=.type "dict")
  (h:Q (.ref s.heap.objs.size) {s with heap:=s.heap.push {cls:=.type "dict_items",data:=.fields #[.ref d]}}):wpAny (model prog w) A (call (.builtin "dict.items") [.ref d]) Q E s:=by
 have ty:s.TypeIs (.ref d) "dict":=⟨o,ho,hc⟩
 refine CM PySem.F.slot_dict_items ty PySem.F.entry_dict_items ?_ (PySem.F.args_dict_items_1 _);unfold Builtin.«dict.items»;refine bf ?_;unfold Builtin.Dict.noArgs;refine bf (wpAny_notOrdered_dict ty ?_);show wpAny _ _ (pure d) _ _ s;refine fg ?_;show wpAny _ _ (Builtin.Dict.showsAll d>>=_) _ _ s;unfold Builtin.Dict.showsAll;rw[az (by rw[hd];decide)];refine bf (fg ?_);exact bf (DM (fg ⟨_,rfl,h⟩))
theorem rM(hv:s.heap.IsItemsView v d)(ho:s.heap.get? d=some o)(hd:o.data=.dict es ep)
  (hQ:Q (.ref s.heap.objs.size) {s with heap:=s.heap.push {cls:=.type "dict_itemiterator",data:=.fields #[.none,.bool false,.ref d,.int 0 0,.int es.size 0,.int ep 0,.none,.none]}}):
  wpAny (model prog w) A (pyIter (.ref v)) Q E s:=by
 obtain⟨ov,VV,Xm,VW⟩:=id hv;refine wpAny_pyIter_slot hv.typeIs PySem.F.slot_dict_items_iter (CM PySem.F.slot_dict_items_iter hv.typeIs PySem.F.entry_dict_items_iter ?_ (PySem.F.args_dict_items_iter_1 _));unfold Builtin.«dict_items.__iter__»;refine bf (fg ?_);refine bf ?_;unfold Builtin.Dict_items.dictOf;refine bf (Am VV VW (x:=.ref d) rfl (fg ?_));refine bf ?_;unfold Builtin.Dict_items.newIterator;refine bf (wpAny_dictEntries ho hd ?_);refine bf (wpAny_dictEpoch ho hd ?_);have own:Builtin.Dict_items.ownsTuple "dict_itemiterator"=true:=by decide
 simp only[own,b_];refine DM (fg ⟨_,rfl,"dict_itemiterator",_,⟨_,Ab _ rfl,rfl⟩,PySem.F.slot_dict_itemiterator_next.lookup,?_⟩) (by simp only[sizeOk,Builtin.Dict_items.ownedTupleFields,rz,rj,gm,ny,D_];omega);simpa[rawInt,Builtin.Dict_items.ownedTupleFields] using hQ
theorem rN{it d:Addr}{i ep:Nat}{od:Obj}{es:Array DictEntry}{e:DictEntry}{ok ov:Value}{Q:Option Value->Shared->Prop}(hit:IsItemIter s.heap it d i es.size ep ok ov)
  (F8:s.heap.get? d=some od) (Pl:od.data=.dict es ep) (hx:es[i]?=some e)
  (hQ:∀h',IsItemIterOut h' it d (i+1) es.size ep e.key e.val s.heap.objs.size->h'.get? s.heap.objs.size=some {cls:=.type "tuple",data:=.seq #[e.key,e.val]}->h'.objs.size=s.heap.objs.size+1->
   (∀b o,b≠it->s.heap.get? b=some o->h'.get? b=some o)->Q (some (.ref s.heap.objs.size)) {s with heap:=h'}):wpAny (model prog w) A (pyNext (.ref it)) Q E s:=by
 obtain⟨hp,g,dr,tk,os⟩:=s;have ty:Shared.TypeIs ⟨hp,g,dr,tk,os⟩ (.ref it) "dict_itemiterator":=⟨_,hit,rfl⟩
 unfold pyNext;refine bf (wpAny_attempt (I0 (name:=Str.ofString "__next__") ty Qd (CM Qd ty PySem.F.entry_dict_itemiterator_next ?_ (PySem.F.args_dict_itemiterator_next_1 _))));refine bf (fg ?_);refine bf ?_;refine bf ?_
 first|refine bf (wpAny_typeNameOfWhole_itemiter ty (fg ?_))|refine bf (wpAny_typeNameOf_itemiter ty (fg ?_))
 refine bf (wpAny_fieldsOf hit rfl ?_);have own:Builtin.Dict_items.ownsTuple "dict_itemiterator"=true:=by decide
 simp only[own,b_];show wpAny _ _ (if(Value.ref d==Value.none)=true then _ else _) _ _ _;rw[az (show¬((Value.ref d==Value.none)=true) from jw)];refine bf (fg ?_);refine bf (wpAny_dictEntries F8 Pl ?_);rw[az (by simp)];refine bf (fg ?_);refine bf (wpAny_dictEpoch F8 Pl ?_);rw[az (by simp)];refine fg ?_;have lt:i<es.size:=by
  rcases Nat.lt_or_ge i es.size with h|h
  ·exact h
  ·simp[Array.getElem?_eq_none h] at hx
 have ee:es[i]=e:=by rw[Array.getElem?_eq_getElem lt] at hx;exact ud hx
 simp only[show¬((i:Int)<0) from by omega,df,D6,Array.getElem?_eq_getElem lt,ee];refine bf ?_
 first|refine bf (wpAny_typeNameOfWhole_itemiter ty (fg ?_))|refine bf (wpAny_typeNameOf_itemiter ty (fg ?_))
 refine bf (wpAny_isOneOf_itemiter ty ?_);show wpAny _ _ (setField (.ref it) 3 (rawInt ((i:Int)+1))>>=_) _ _ ⟨hp,g,dr,tk,os⟩;refine bf (FQ hit (by simp) λh1 e1 s1=>?_);replace s1:Heap.SameBut it hp h1:=s1;replace e1:IsItemIter h1 it d (i+1) es.size ep ok ov:=by
  have z:((i+1:Nat):Int)=(i:Int)+1:=by omega
  unfold IsItemIter;rw[z];simpa[rawInt] using e1
 have Sq:Shared.TypeIs ⟨h1,g,dr,tk,os⟩ (.ref it) "dict_itemiterator":=⟨_,e1,rfl⟩
 refine bf (FU ?_);refine bf (wpAny_isOneOf_itemiter Sq ?_);refine bf (wpAny_isOneOf_itemiter Sq ?_);show wpAny _ _ (Builtin.Dict_items.pairFromOwner (.ref it) 6 e.key e.val) _ _ ⟨h1,g,dr,tk,os⟩;unfold Builtin.Dict_items.pairFromOwner;refine bf (wpAny_newTuple ?_);have e2:IsItemIter (h1.push {cls:=.type "tuple",data:=.seq #[e.key,e.val]}) it d (i+1) es.size ep ok ov:=qa _ e1;generalize q2:h1.push {cls:=.type "tuple",data:=.seq #[e.key,e.val]}=h2 at e2;have z1:h1.objs.size=hp.objs.size:=s1.1;have il:it<hp.objs.size:=kc hit;have t2:h2.get? hp.objs.size=some {cls:=.type "tuple",data:=.seq #[e.key,e.val]}:=by rw[←q2,←z1];exact Ab _ rfl
 have z2:h2.objs.size=hp.objs.size+1:=by rw[←q2,Heap.size_push,z1]
 have k2:∀b o,b≠it->hp.get? b=some o->h2.get? b=some o:=λb o hb q=>by rw[←q2];exact qa _ (s1.extBut b o hb q)
 show wpAny _ _ (Builtin.Dict_items.ownedTupleIsFree (.ref it)>>=_) _ _ ⟨h2,g,dr,tk,os⟩;rw[z1];clear q2 e1 s1 Sq z1 h1;refine bf ?_;unfold Builtin.Dict_items.ownedTupleIsFree;refine bf (Am e2 rfl (x:=.none) rfl (fg ?_));simp only[b_];refine bf (Am e2 rfl (x:=ok) rfl ?_);refine bf (Am e2 rfl (x:=ov) rfl ?_);refine bf (FQ e2 (by simp) λh3 e3 s3=>?_);replace s3:Heap.SameBut it h2 h3:=s3;replace e3:IsItemIter h3 it d (i+1) es.size ep e.key ov:=e3;refine bf (FQ e3 (by simp) λh4 e4 s4=>?_);replace s4:Heap.SameBut it h3 h4:=s4;replace e4:IsItemIter h4 it d (i+1) es.size ep e.key e.val:=e4;refine bf (FQ e4 (by simp) λh5 e5 s5=>?_);replace s5:Heap.SameBut it h4 h5:=s5;replace e5:IsItemIterOut h5 it d (i+1) es.size ep e.key e.val hp.objs.size:=e5;refine bf (FQ e5 (by simp) λh6 e6 s6=>?_);replace s6:Heap.SameBut it h5 h6:=s6;replace e6:IsItemIterOut h6 it d (i+1) es.size ep e.key e.val hp.objs.size:=e6;have kp:∀b o,b≠it->h2.get? b=some o->h6.get? b=some o:=λb o hb q=>s6.extBut b o hb (s5.extBut b o hb (s4.extBut b o hb (s3.extBut b o hb q)));refine bf (wpAny_letGo (fg (fg ⟨_,rfl,fg (hQ h6 e6 (kp _ _ (Dg il) t2) ?_ λb o hb q=>kp b o hb (k2 b o hb q))⟩)));show h6.objs.size=hp.objs.size+1;rw[s6.1,s5.1,s4.1,s3.1,z2]
theorem v3(hh:A.handled=none)(hit:IsItemIter s.heap it d i es.size ep ok ov)
  (F8:s.heap.get? d=some od) (Pl:od.data=.dict es ep) (hx:es.size<=i) (hQ:∀h',Heap.ExtBut it s.heap h'->Q none {s with heap:=h'}):wpAny (model prog w) A (pyNext (.ref it)) Q E s:=by
 have ty:s.TypeIs (.ref it) "dict_itemiterator":=⟨_,hit,rfl⟩
 unfold pyNext;refine bf (wpAny_attempt (I0 (name:=Str.ofString "__next__") ty Qd (CM Qd ty PySem.F.entry_dict_itemiterator_next ?_ (PySem.F.args_dict_itemiterator_next_1 _))));refine bf (fg ?_);refine bf ?_;refine bf ?_
 first|refine bf (wpAny_typeNameOfWhole_itemiter ty (fg ?_))|refine bf (wpAny_typeNameOf_itemiter ty (fg ?_))
 refine bf (wpAny_fieldsOf hit rfl ?_);have own:Builtin.Dict_items.ownsTuple "dict_itemiterator"=true:=by decide
 simp only[own,b_];show wpAny _ _ (if(Value.ref d==Value.none)=true then _ else _) _ _ s;rw[az (show¬((Value.ref d==Value.none)=true) from jw)];refine bf (fg ?_);refine bf (wpAny_dictEntries F8 Pl ?_);rw[az (by simp)];refine bf (fg ?_);refine bf (wpAny_dictEpoch F8 Pl ?_);rw[az (by simp)];refine fg ?_;simp only[show¬((i:Int)<0) from by omega,df,D6,Array.getElem?_eq_none hx];refine bf ?_
 first|refine bf (wpAny_typeNameOfWhole_itemiter ty (fg ?_))|refine bf (wpAny_typeNameOf_itemiter ty (fg ?_))
 show wpAny _ _ (setField (.ref it) 2 .none>>=_) _ _ s;refine bf (wpAny_setField hit rfl (by simp) ?_);show wpAny _ _ (newExc (.type "StopIteration") []>>=_) _ _ _;refine bf ?_;simp only[newExc,newTuple];refine bf (DM ?_ (by size_fits));refine bf (m:=firstArgMember _ _) (wpAny_of_eq (a:=Value.none) (by first|rfl|(simp only[firstArgMember];rfl)) ?_);refine DM ?_ (by size_fits);simp only[raiseNew];refine bf (wpAny_handled ?_);rw[show A.in1.handled=none from hh];refine bf (fg (wpAny_throw ?_));refine bf (wpAny_isInstance (T:="StopIteration") (b:=true) ⟨_,Ab _ rfl,rfl⟩ isSubtype_stop ?_);exact fg (hQ _ (((Heap.SameBut.update ..).extBut.push _).push _))
theorem f7:entryFor table "dict_itemiterator.__iter__"=some Builtin.«dict_keyiterator.__iter__»:=entryFor_alias (id':="dict_keyiterator.__iter__") (by kernel_rfl) rfl (by decide+kernel) (by kernel_rfl)
theorem rO(hit:IsItemIter s.heap it d i n ep ok ov)(h:Q (.ref it) s):wpAny (model prog w) A (pyIter (.ref it)) Q E s:=by
 have ty:s.TypeIs (.ref it) "dict_itemiterator":=⟨_,hit,rfl⟩
 refine wpAny_pyIter_slot ty PySem.F.slot_dict_itemiterator_iter (CM PySem.F.slot_dict_itemiterator_iter ty f7 ?_ (PySem.F.args_dict_itemiterator_iter_1 _));show wpAny _ _ (ret (.ref it)) _ _ s;exact fg ⟨_,rfl,"dict_itemiterator",_,ty,PySem.F.slot_dict_itemiterator_next.lookup,h⟩
end
inductive ym:HO->List (V×V)->Prop
 |k (kvs:List (Key×V)):ym (.dK kvs) (kvs.map λx=>(kV x.1,x.2))
 |n (kvs:List (NK×Addr×V)):ym (.dN kvs) (kvs.map λx=>(.ref x.2.1,x.2.2))
theorem lR(h:yy k u=true):RelV (kV k) u:=by
 rcases aL h with⟨i,t,rfl,rfl⟩|⟨x,t,rfl,rfl⟩
 ·exact⟨t,rfl⟩
 ·exact⟨t,rfl⟩
theorem jK:∀{es:List DictEntry}{vs:List (Key×Value)}{kvs:List (Key×V)},Pairs (dn P w) es vs->KV kvs vs->Paired (λ(p:V×V)(e:DictEntry)=>RelV p.1 e.key/\RelV p.2 e.val) (kvs.map λx=>(kV x.1,x.2)) es
 |_,_,_,.nil,h=>by cases h;exact .nil
 |_,_,_,.cons h1 h2 t,h=>by
  cases h with
  |cons q r=>
   refine .cons ⟨?_,?_⟩ (jK t r)
   ·show RelV (kV _) _
    rw[q.1];exact lR h1
   ·rw[h2];exact q.2
theorem pG:∀{xs:List (NK×Addr×Value)}{kvs:List (NK×Addr×V)},Paired (λ(p:NK×Addr×V)(q:NK×Addr×Value)=>p.1=q.1/\p.2.1=q.2.1/\RelV p.2.2 q.2.2) kvs xs->
  Paired (λ(p:V×V)(e:DictEntry)=>RelV p.1 e.key/\RelV p.2 e.val) (kvs.map λx=>(.ref x.2.1,x.2.2)) (xs.map (entryOfKey (sx P w)))
 |_,_,.nil=>.nil
 |_,_,.cons h t=>.cons ⟨show Value.ref _=Value.ref _ by rw[h.2.1],h.2.2⟩ (pG t)
theorem fB(ok:fi P w H h d u)(hu:ym u l):
  (d==sysModules)=false/\∃o es ep,h.get? d=some o/\o.ExactDict/\o.data=.dict es ep/\Paired (λ(p:V×V)(e:DictEntry)=>RelV p.1 e.key/\RelV p.2 e.val) l es.toList:=by
 cases hu with
 |k kvs=>
  obtain⟨z,y,vs,r,o,es,ep,h1,h2,h3,_,h5,_⟩:=ok;exact⟨y,o,es,ep,h1,h2,h3,jK h5 r⟩
 |n kvs=>
  obtain⟨z,y,xs,r,o,es,ep,h1,h2,h3,h4,_⟩:=ok;exact⟨y,o,es,ep,h1,h2,h3,by rw[h4];exact pG r⟩
theorem Paired.Md:∀{l:List α}{m:List β}{i:Nat}{x:α},Paired F l m->l[i]?=some x->∃y,m[i]?=some y/\F x y
 |_,_,_,_,.nil,e=>by simp at e
 |_,_,0,_,.cons r _,e=>by simp at e;subst e;exact⟨_,rfl,r⟩
 |_,_,i+1,x,.cons _ t,e=>by
  obtain⟨u,h1,h2⟩:=Paired.Md (i:=i) (x:=x) t (by simpa using e);exact⟨u,by simpa using h1,h2⟩
noncomputable def Ui(d:Addr)(o:Obj)(u:HO)(l:List (V×V)):It:=
 ⟨λi H=>H d=some (.av o u)/\i<l.length,λi H v H'=>∃t x y,H t=none/\v=.ref t/\H'=upd H t (.tup [x,y])/\l[i]?=some (x,y),λi H=>H d=some (.av o u)/\l.length<=i⟩
theorem rP{P:Program}{w:World}{K:PySem.W.Frag}{elts:List Expr}{k:Nat}{pos:Pos}{es:Array DictEntry}{ep:Nat}(d it:Addr)(Xn:d≠it)(o:Obj)(F8:o.data=.dict es ep)(u:HO)(l:List (V×V))(hu:ym u l)
  :Turn P w K (.Tuple elts k pos) (Ui d o u l) [it] it (λi h=>∃ok ov,IsItemIter h it d i es.size ep ok ov) where
 mem:=by simp
 obj:=λi h st b hb=>by
  have:b=it:=by simpa using hb
  subst this;obtain⟨ok,ov,e⟩:=st;exact⟨_,e,λv z=>by cases (show Data.fields _=Data.cell v from z)⟩
 keep:=λi h h' st kp=>by
  obtain⟨ok,ov,e⟩:=st;exact⟨ok,ov,kp it (by simp) _ e⟩
 item:=by
  intro X hP hw hK hc i pins s σ H E I hf st hg;subst hP hw hK;obtain⟨f0,f1,f2,f3,f4,f5⟩:=hf it (by simp);obtain⟨hd,qr⟩:=hg;obtain⟨ok,ov,st⟩:=st;obtain⟨ho,Sr⟩:=(show fi X.prog X.w H s.heap d (.av o u) from I.dq d _ hd)
  obtain⟨_,o',NN,NO,An,ex,BN,pr⟩:=fB Sr hu;rw[ho] at An;cases An;rw[F8] at BN;cases BN;obtain⟨x,y⟩:∃p,l[i]?=some p:=⟨l[i],uc qr⟩
  obtain⟨kx,vx⟩:=x;obtain⟨e,he,r1,r2⟩:=Paired.Md pr y;have RH:es[i]?=some e:=by rw[←Array.getElem?_toList];exact he
  refine rN st ho F8 RH λh' out tp sz kk=>?_;refine⟨_,rfl,?_⟩;refine wpAny_letOwnedTupleGo_items (s:={s with heap:=h'}) out λh2 Rb sb=>?_;have il:it<s.heap.objs.size:=kc st;have VX:h2.get? s.heap.objs.size=some {cls:=.type "tuple",data:=.seq #[e.key,e.val]}:=sb.extBut _ _ (Dg il) tp;have As:H s.heap.objs.size=none:=I.dq.fresh (fm _);have nb:∀c o,c∉[it]->s.heap.get? c=some o->h2.get? c=some o:=λc o x_ q=>by
   have Uj:c≠it:=by simpa using x_
   exact sb.extBut c o Uj (kk c o Uj q)
  have zd:∀c u,H c=some u->c≠s.heap.objs.size:=λc u q z=>by rw[z,As] at q;cases q
  have ch:∀c∈[it],(c∈X.ex\/X.h_.heap.objs.size<=c)/\c≠X.env.locals/\(∀x d,X.env.cells.lookup x=some d->d≠c)/\∀p∈X.pn++pins,p.1≠c:=λc x_=>⟨(hf c x_).2.2.2.1,(hf c x_).2.1,(hf c x_).2.2.2.2.1,(hf c x_).2.2.2.2.2⟩
  have u1:Un (ub X.stack) [it] H (upd H s.heap.objs.size (.tup [kx,vx])) s.heap h2:=by
   refine⟨λc o q n _ hb=>nb c o hb q,λc o q n _ hb=>⟨o.slots,nb c o hb q⟩,λc o q n hb=>?_,λc o q hb=>⟨o,nb c o hb q⟩,λc ys q=>?_,λc o u q=>?_,λc ps q=>⟨#[],?_⟩⟩
   ·rw[aA (yv (kc q))];exact n
   ·rw[aA (zd c _ q)];exact q
   ·rw[aA (zd c _ q)];exact q
   ·rw[aA (zd c _ q),q];simp
  have Om:∀c u,H c=some u->c∉[it]:=λc u q hb=>by
   have:=(hf c hb).1;rw[q] at this;cases this
  have dq:pf X.prog X.w (upd H s.heap.objs.size (.tup [kx,vx])) h2:=by
   intro c o q;by_cases hb:c=s.heap.objs.size
   ·subst hb
    rw[ah] at q;cases q;exact⟨by show 2<=sizeLine;decide,[e.key,e.val],.cons r1 (.cons r2 .nil),_,VX,rfl,_,rfl⟩
   ·rw[aA hb] at q
    refine(I.dq c o q).AX (λd w hd r=>nb d w ?_ r) (λd r=>by rw[aA (zd d _ r)];exact r) λd ys r=>by rw[aA (zd d _ r)];exact r
    rcases hd with z|z
    ·rw[z];exact Om c o q
    ·exact Om d _ z
  have I2:Inv X pins σ (upd H s.heap.objs.size (.tup [kx,vx])) {s with heap:=h2}:=I.call (g':=s.gens) (d':=s.drawn) (t':=s.toks) (ch:=[it]) u1 dq I.bare ch;refine⟨.ref s.heap.objs.size,_,I2,rfl,⟨_,kx,vx,As,rfl,rfl,y⟩,⟨_,_,Rb⟩,λc hb=>?_⟩;have Km:c=it:=by simpa using hb
  rw[Km,aA (yv il)];exact f0
 done:=by
  intro X hP hw hK hc i pins s σ H E I hf st hg;subst hP hw hK;obtain⟨f0,f1,f2,f3,f4,f5⟩:=hf it (by simp);obtain⟨hd,hle⟩:=hg;obtain⟨ok,ov,st⟩:=st;obtain⟨ho,Sr⟩:=(show fi X.prog X.w H s.heap d (.av o u) from I.dq d _ hd)
  obtain⟨_,o',NN,NO,An,ex,BN,pr⟩:=fB Sr hu;rw[ho] at An;cases An;rw[F8] at BN;cases BN;have hl:=Gj pr;refine v3 (I.ok.hd hc) st ho F8 (by simp at hl;omega) λh' eb=>⟨rfl,I.turned (t':=s.toks) (λb ob hb e=>eb b ob hb e) f0 f1 f3 f4 f5⟩
 self:=λ_ _ _ _ _ ⟨_,_,st⟩ h=>rO st h
theorem Inv.Ia(I:Inv X pins σ H s)(hu:ym u l)(hd:H d=some u)(ho:s.heap.get? d=some o):Inv X pins σ (upd H d (.av o u)) s:=by
 refine I.Ph hd (λ_ z=>by cases hu<;>cases z) (λ_ z=>by cases hu<;>cases z) (λ_ z=>by cases hu<;>cases z) (λob v e=>?_) ⟨ho,?_⟩
 ·have:=I.base.sy d ob v e
  rw[hd] at this;cases hu<;>cases this
 ·have q:=I.dq d _ hd
  cases hu<;>exact q
noncomputable def BO(v d:Addr):HO:=.ext λh=>h.IsItemsView v d
def Ib(H:Hp)(x:V):Prop:=∃p u l,x=.ref p/\ym u l/\Rd H p u
section
variable{X:Cx}{pins:List (Addr×Obj)}{σ:St}{H:Hp}{s:Shared}
theorem uA(I:Inv X pins σ H s)(r:RelV x v)(ty:Ib H x):s.TypeIs v "dict"/\∀a,v=.ref a->∃ob,s.heap.get? a=some ob/\ob.dict=none:=by
 obtain⟨p,u,l,rfl,hu,e⟩:=ty;cases r;obtain⟨_,o,es,ep,ho,ex,_⟩:=fB (e.ok I.dq) hu;refine⟨⟨o,ho,ex.1⟩,λa z=>?_⟩;cases z;exact⟨o,ho,ex.2.1⟩
variable{o e:Expr}{es:List Expr}{to:TE}{t:TA}{name:Str}{apos dy:Pos}{id:String}{r:V->List V->Hp->VK->Prop}
noncomputable def CB(r:V->List V->Hp->VK->Prop)(to:TE):TE:=λσ H Q=>to σ H λx H1=>Ib H1 x/\r x [] H1 Q
noncomputable def Me(r:V->List V->Hp->VK->Prop)(to:TE)(t:TA):TE:=λσ H Q=>to σ H λx H1=>Ib H1 x/\t σ H1 λxs H2=>r x xs H2 Q
theorem Mf(slot:Slot "dict" name id)(K6:typeOf (.builtin id)=pure (.type "method_descriptor"))(hm:GS X id r)(ho:PE X o to)
  (iy:attributeBase o name X.env (eval o X.env)=eval o X.env) (iz:(apos.endLine==dy.line)=true):PE X (.Call (.Attribute o name apos) [] [] dy) (CB r to):=by
 intro pins s σ H Q I h;refine wpAny_Call_method0_late iy iz (fv (ho pins s σ H _ I h) λv s1 qQ=>?_);obtain⟨x,H1,I1,r1,ty,q1⟩:=qQ;obtain⟨h1,h2⟩:=uA I1 r1 ty;exact⟨"dict",id,PySem.F.plainAttrs_dict,slot,K6,h1,h2,Calls.callWith_builtin rfl (PySem.evalArgs_none (hm pins s1 σ H1 x [] v [] Q I1 r1 .nil q1))⟩
theorem JT(slot:Slot "dict" name id)(K6:typeOf (.builtin id)=pure (.type "method_descriptor"))(hm:GS X id r)(ho:PE X o to)(ha:PA X (e::es) t)
  (iy:attributeBase o name X.env (eval o X.env)=eval o X.env)
  (Cq:((backTo dy (starEach (e::es) X.env)).all (λx=>!x.1)&&(backToKw dy (keywordEach [] X.env)).all (λx=>x.1.isSome)&&decide ((e::es).length+([]:List Keyword).length+(if([]:List Keyword).isEmpty then 0 else 1)<30))=true)
  (iz:(apos.endLine==dy.line)=true) (hs:starEach (e::es) X.env=(false,eval e X.env)::starEach es X.env) (s_:(backTo dy (starEach es X.env)).any (·.1)=false):
  PE X (.Call (.Attribute o name apos) (e::es) [] dy) (Me r to t):=by
 intro pins s σ H Q I h;refine wpAny_Call_method_late iy Cq iz rfl (fv (ho pins s σ H _ I h) λv s1 qQ=>?_);obtain⟨x,H1,I1,r1,ty,q1⟩:=qQ;obtain⟨h1,h2⟩:=uA I1 r1 ty;refine⟨"dict",id,PySem.F.plainAttrs_dict,slot,K6,h1,h2,?_⟩;have hA:=ha dy pins s1 σ H1 _ I1 q1;rw[hs] at hA⊢;refine Calls.callWith_builtin (by show(false||(backTo dy (starEach es X.env)).any (·.1))=false;rw[s_]<;>rfl) (Calls.evalArgs_plain ?_);exact fv hA λus s2 ⟨vs,H2,I2,r2,q2⟩=>hm pins s2 σ H2 x vs v us Q I2 r1 r2 q2
noncomputable def tu:V->List V->Hp->VK->Prop:=λx vs H Q=>∃d u l,x=.ref d/\vs=[]/\ym u l/\Rd H d u/\∀v,H v=none->Q (.ref v) (upd H v (BO v d))
theorem y9:GS X "dict.items" tu:=by
 intro pins s σ H x vs v us Q I rx rv h;obtain⟨d,u,l,rfl,rfl,hu,hr,q⟩:=h;cases rx;cases rv;obtain⟨y,o,es,ep,ho,ex,_⟩:=fB (hr.ok I.dq) hu;have hn:H s.heap.objs.size=none:=I.dq.fresh (fm _);refine rL y ho ex.1 ⟨.ref s.heap.objs.size,_,?_,rfl,q _ hn⟩;refine I.laid (t':=s.toks) (λ_ _ e=>qa _ e) (fm _) ?_;have e0:=Ab s.heap (o:={cls:=.type "dict_items",data:=.fields #[.ref d]}) rfl;refine⟨⟨_,e0,rfl,rfl⟩,⟨_,e0⟩,λh1 h2 z k=>?_⟩;obtain⟨ob,e,c1,c2⟩:=z;exact⟨ob,k ob e,c1,c2⟩
noncomputable def t_(tl:TE):TI:=λσ H R=>tl σ H λx H1=>∃v d u l,x=.ref v/\v≠d/\H1 v=some (BO v d)/\ym u l/\Rd H1 d u/\∀o,(∀o',H1 d=some (.av o' u)->o'=o)->R (Ui d o u l) (upd H1 d (.av o u))
theorem zA(hl:PE X l tl):PI X (.Tuple elts k Cp) l (t_ tl):=by
 intro pins s σ H R I h;refine fv (hl pins s σ H _ I h) λv s1 qQ=>?_;obtain⟨x,H1,I1,r1,q1⟩:=qQ;obtain⟨a,d,u,l,rfl,qd,hv,hu,hr,q⟩:=q1;cases r1;obtain⟨Pm,_,_⟩:=(show fi X.prog X.w H1 s1.heap a (BO a d) from I1.dq a _ hv)
 obtain⟨_,o,es,ep,ho,ex,BN,_⟩:=fB (hr.ok I1.dq) hu;refine rM Pm ho BN ?_;have same:∀o',H1 d=some (.av o' u)->o'=o:=λo' e=>by
  obtain⟨z,_⟩:=(show fi X.prog X.w H1 s1.heap d (.av o' u) from I1.dq d _ e)
  rw[z] at ho;exact ud ho
 have I2:Inv X pins σ (upd H1 d (.av o u)) s1:=by
  rcases hr with hr|⟨o',hr⟩
  ·exact I1.Ia hu hr ho
  ·rw[same o' hr] at hr
   have:upd H1 d (.av o u)=H1:=by
    funext b;by_cases hb:b=d
    ·subst hb;rw[ah,hr]
    ·rw[aA hb]
   rw[this];exact I1
 have dl:d<s1.heap.objs.size:=kc ho;refine⟨s1.heap.objs.size,[s1.heap.objs.size],_,_,_,rfl,I2.kept (t':=s1.toks) λb ob e=>qa _ e,rP d _ (yv dl) o BN u l hu,⟨_,_,Ab _ rfl⟩,λb hb=>?_,q o same⟩;have e:b=s1.heap.objs.size:=by simpa using hb
 subst e;exact I2.Dk (fm _) (I2.dq.fresh (fm _))
end
mutual
noncomputable def ou(K:PySem.W.Frag)(H:Hp):NK->V->Prop
 |.int i,v=>v=.int i
 |.tup l,v=>∃a vs,v=.ref a/\ju K H a vs/\ku K H l vs
noncomputable def ku(K:PySem.W.Frag)(H:Hp):List NK->List V->Prop
 |[],vs=>vs=[]
 |k::ks,vs=>∃v r,vs=v::r/\ou K H k v/\ku K H ks r
end
section
variable{X:Cx}{pins:List (Addr×Obj)}{σ:St}{H:Hp}{s:Shared}
theorem Mg(I:Inv X pins σ H s)(k:NK):∀{v:V}{u:Value},ou X.K H k v->RelV v u->qm s.heap k u:=by
 induction k using fR with
 |h1 i=>
  intro v u h r;rw[ou] at h;subst h;obtain⟨t,rfl⟩:=r;exact .int i t
 |h2 l ih=>
  intro v u h r;rw[ou] at h;obtain⟨a,vs,rfl,hq,hl⟩:=h;cases r;obtain⟨its,rv,⟨o,ho,hc,n,hd⟩,_⟩:=I.tuple hq;refine .tup ho hc hd ?_;have go:∀(ks:List NK)(vs:List V)(us:List Value),(∀k∈ks,k∈l)->ku X.K H ks vs->Vals vs us->jx s.heap ks us:=by
   intro ks
   induction ks with
   |nil=>
    intro vs us _ h r;rw[ku] at h;subst h;cases r;exact .nil
   |cons k ks DR=>
    intro vs us hm h r;rw[ku] at h;obtain⟨v,r',rfl,h1,h2⟩:=h
    cases r with
    |cons r1 r2=>exact .cons (ih k (hm k si) h1 r1) (DR _ _ (λz hz=>hm z (o_ _ hz)) h2 r2)
  simpa using go l vs its (λ_ z=>z) hl rv
def EJ(K:PySem.W.Frag)(H:Hp)(k:NK)(b:Addr):Prop:=ou K H k (.ref b)/\Kq.ok k/\gz k<=8
def BP(K:PySem.W.Frag)(H:Hp)(kvs:List (NK×Addr×V)):Prop:=∀x∈kvs,EJ K H x.1 x.2.1
noncomputable def zo(kvs:List (NK×Addr×V))(k:NK):Option V:=(kvs.find? λx=>decide (x.1=k)).map (·.2.2)
noncomputable def putN(kvs:List (NK×Addr×V))(k:NK)(b:Addr)(v:V):List (NK×Addr×V):=
 if(kvs.any λx=>decide (x.1=k))=true then kvs.map (λx=>if x.1=k then(x.1,x.2.1,v) else x) else kvs++[(k,b,v)]
noncomputable abbrev RN:List (NK×Addr×V)->List (NK×Addr×Value)->Prop:=Paired λ(p:NK×Addr×V)(q:NK×Addr×Value)=>p.1=q.1/\p.2.1=q.2.1/\RelV p.2.2 q.2.2
theorem RN.val(r:RN kvs xs)(k:NK):vn (zo kvs k) ((atKey xs k).map (·.2)):=by
 induction r with
 |nil=>exact True.intro
 | @cons p q ps qs h t ih=>
  obtain⟨h1,_,h2⟩:=h;by_cases e:p.1=k
  ·have e':q.1=k:=h1.symm.trans e
   simp only[zo,atKey,Bt,e,e',decide_true,Option.map_some];exact h2
  ·have e':¬q.1=k:=λz=>e (h1.trans z)
   simp only[zo,atKey,Bt,e,e',D8] at ih⊢;exact ih
theorem RN.put(r:RN kvs xs)(k:NK)(b:Addr)(ry:RelV y u):RN (putN kvs k b y) (storedH xs k b u):=by
 have e:(kvs.any λx=>decide (x.1=k))=(atKey xs k).isSome:=by
  clear ry
  induction r with
  |nil=>rfl
  | @cons p q ps qs h t ih=>
   by_cases e:p.1=k
   ·have e':q.1=k:=h.1.symm.trans e
    simp[atKey,Bt,e,e']
   ·have e':¬q.1=k:=λz=>e (h.1.trans z)
    simp only[D7,e,D8,Bool.false_or,atKey,Bt,e'] at ih⊢;exact ih
 unfold putN storedH;rw[e];by_cases q:(atKey xs k).isSome=true
 ·rw[bp q,bp q]
  clear e q
  induction r with
  |nil=>exact .nil
  | @cons p q ps qs h t ih=>
   rw[fu,fu];refine .cons ?_ ih;obtain⟨h1,h2,h3⟩:=h;unfold putAt;by_cases e:p.1=k
   ·rw[bp e,bp (h1.symm.trans e)];exact⟨h1,h2,ry⟩
   ·rw[az e,az (λz=>e (h1.trans z))];exact⟨h1,h2,h3⟩
 ·rw[az q,az q];exact Paired.snoc r ⟨rfl,rfl,ry⟩
theorem m9(I:Inv X pins σ H s)(h:EJ X.K H k b):(sx X.prog X.w).is s.heap k b:=⟨Mg I k h.1 rfl,h.2⟩
theorem zB(I:Inv X pins σ H s)(e:Rd H d (.dN kvs))(hk:BP X.K H kvs):kvs.length<=sizeLine/\(d==sysModules)=false/\∃xs,RN kvs xs/\s.heap.DictOfH (sx X.prog X.w) d xs:=by
 obtain⟨z,y,xs,r,o,es,ep,h1,h2,h3,h4,h5⟩:=(show fi X.prog X.w H s.heap d (.dN kvs) from xJ I.dq e)
 refine⟨z,y,xs,r,o,es,ep,h1,h2,h3,h4,?_,h5⟩;have go:∀{l:List (NK×Addr×V)}{m:List (NK×Addr×Value)},RN l m->BP X.K H l->∀x∈m,(sx X.prog X.w).is s.heap x.1 x.2.1:=by
  intro l m q
  induction q with
  |nil=>intro _ x hx;exact nomatch hx
  | @cons p q ps qs hq t ih=>
   intro hl x hx;rcases List.mem_cons.mp hx with e|hx
   ·subst e
    rw[←hq.1,←hq.2.1];exact m9 I (hl p si)
   ·exact ih (λy hy=>hl y (o_ _ hy)) x hx
 exact go r hk
def Uk(K:PySem.W.Frag)(H:Hp)(d:Addr)(y:V)(o:Option V):Prop:=
 rk H d y o\/∃kvs k b,Rd H d (.dN kvs)/\BP K H kvs/\y=.ref b/\EJ K H k b/\o=zo kvs k
def Ul(K:PySem.W.Frag)(H:Hp)(d:Addr)(y v:V)(H':Hp):Prop:=
 BB H d y v H'\/∃kvs k b,H d=some (.dN kvs)/\BP K H kvs/\y=.ref b/\EJ K H k b/\kvs.length<sizeLine/\H'=upd H d (.dN (putN kvs k b v))
noncomputable def BQ(K:PySem.W.Frag):V->List V->Hp->VK->Prop:=λx vs H Q=>∃d y z o,x=.ref d/\vs=[y,z]/\Uk K H d y o/\Q (o.getD z) H
theorem Ic(hu:X.A.units+20<cLine):GS X "dict.get" (BQ X.K):=by
 intro pins s σ H x vs v us Q I rx rv h;obtain⟨d,y,z,o,rfl,rfl,g,q⟩:=h;cases rx;obtain⟨u1,u2,rfl,r1,r2⟩:=vals2 rv;rcases g with g|⟨kvs,k,b,e,hk,rfl,kb,rfl⟩
 ·exact KZ (by omega) I g r1 r2 λw' s' I' r'=>⟨_,_,I',r',q⟩
 ·cases r1
  obtain⟨zz,hd,xs,rel,dd⟩:=zB I e hk;refine call_meetsIn PySem.F.slot_dict_get dd.typeIs PySem.F.entry_dict_get (PySem.F.args_dict_get_3 _ _ _) (meetsH_dict_get_default (sx X.prog X.w) d b hd u2) ⟨(by show X.A.in1.units+8<cLine;show X.A.units+1+8<cLine;omega),k,xs,m9 I kb,dd,⟨_,_,I.tok _,?_,q⟩⟩;exact(rel.val k).getD r2
theorem zC(kvs:List (NK×Addr×V))(k:NK)(b:Addr)(v:V):(putN kvs k b v).length<=kvs.length+1:=by
 unfold putN;split<;>simp
noncomputable def EK(K:PySem.W.Frag):KI:=λo i v H Q=>∃d H',o=.ref d/\Ul K H d i v H'/\Q H'
theorem JU(hu:X.A.units+20<cLine):Gw X (EK X.K):=by
 intro pins s σ H o i v ov iv u Q I ro ri rv h;obtain⟨d,H',rfl,g,q⟩:=h;cases ro;rcases g with g|⟨kvs,k,b,e,hk,rfl,kb,hl,rfl⟩
 ·exact lB (by omega) I g ri rv λs' I'=>⟨_,I',q⟩
 ·cases ri
  obtain⟨z,hd,xs,rel,dd⟩:=zB I (.inl e) hk;have hz:xs.length<=sizeLine:=by rw[←Gj rel];exact z
  have Jk:(putN kvs k b v).length<=sizeLine:=by have:=zC kvs k b v;omega
  refine wpAny_setItem_heap (hsz:=hz) (by show X.A.units+1+8<cLine;omega) (m9 I kb) dd λh' Ek hs=>⟨_,?_,q⟩
  obtain⟨w,es,ep,hq,h2,h3,h4,_,h5⟩:=Ek;exact eT I (by rw[e];exact True.intro) hs ⟨w,hq⟩ ⟨Jk,hd,_,rel.put k b rv,w,es,ep,hq,h2,h3,h4,h5⟩
noncomputable def EL:V->List V->Hp->VK->Prop:=λx vs H Q=>∃d kvs k z,x=.ref d/\vs=[kV k,z]/\H d=some (.dK kvs)/\kvs.length<sizeLine/\(∀v,f_ kvs k=some v->Q v H)/\(f_ kvs k=none->Q z (upd H d (.dK (putK kvs k z))))
theorem Ie:GS X "dict.setdefault" EL:=by
 intro pins s σ H x vs v us Q I rx rv h;obtain⟨d,kvs,k,z,rfl,rfl,e,qr,q1,q2⟩:=h;cases rx;obtain⟨u1,u2,rfl,r1,r2⟩:=vals2 rv;obtain⟨hz,hd,ws,rel,dd⟩:=Jt I.dq e;have hl:(putK kvs k z).length<=sizeLine:=by have:=cJ kvs k z;omega
 refine call_meetsIn PySem.F.slot_dict_setdefault dd.typeIs PySem.F.entry_dict_setdefault (PySem.F.args_dict_setdefault_3 _ _ _) (kt_meets_setdefault (dn X.prog X.w) d (iU r1) hd u2) ⟨ws,dd,by rw[←rel.length];exact hz,λw' hw=>?_,λhw h' Ek hs=>?_⟩
 ·have vg:=rel.val k
  rw[hw] at vg
  cases hv:f_ kvs k with
  |none=>rw[hv] at vg;exact False.elim vg
  |some y=>
   rw[hv] at vg;exact⟨y,H,I.tok _,vg,q1 y hv⟩
 ·have hn:f_ kvs k=none:=by
   have vg:=rel.val k;rw[hw] at vg
   cases hv:f_ kvs k with
   |none=>rfl
   |some y=>rw[hv] at vg;exact False.elim vg
  have he:∃q,h'.get? d=some q:=let⟨q,_,_,hq,_⟩:=Ek;⟨q,hq⟩;exact⟨z,_,eT I (by rw[e];exact True.intro) hs he (Ej hl hd (rel.put k r2) Ek),r2,q2 hn⟩
theorem zD:PE X (.Dict [] [] pos) (λ_ H Q=>∀p,H p=none->Q (.ref p) (upd H p (.dN []))):=λpins s σ H Q I h=>
 wpAny_Dict_empty ⟨.ref s.heap.objs.size,_,I.laid (a:=s.heap.objs.size) (o:=.dN []) (t':=s.toks) (λ_ _ q=>qa _ q) (fm _)
  ⟨DQ _,beq_eq_false_iff_ne.mpr (jt (yv I.big)),[],.nil,_,#[],0,Ab _ rfl,⟨rfl,rfl,rfl⟩,rfl,rfl,Bv⟩,rfl,h _ (I.dq.fresh (fm _))⟩
end
end L2
namespace L2.Snd
open PySem PySem.Spec PyProof.Rows L2 Py
section
variable{K:PySem.W.Frag}
noncomputable def lq(sp:Sp)(E:St->XK)(t:TA):TE:=λσ H Q=>t σ H λvs H1=>sp vs H1 Q (E σ)
noncomputable def Dz(K:PySem.W.Frag)(a b:Nat):TG:=Eg K 2 (uq (bw a) (uq (bw b) Ef))
theorem dC{j a b:Nat}{tb:TS}{D:Ends}{σ:St}{H:Hp}{d:Addr}{u:HO}{l:List (V×V)}(P:Obj->Nat->St->Hp->Prop)(hj:σ[j]?=some (some (.ref d)))(hu:ym u l)(hr:Rd H d u)
  (init:∀o v,H v=none->v≠d->(∀o',H d=some (.av o' u)->o'=o)->P o 0 σ (upd (upd H v (BO v d)) d (.av o u))) (keep:∀o i σ H,P o i σ H->H d=some (.av o u)) (fin:∀o σ H,P o l.length σ H->D.nx σ H)
  (step:∀o i σ H t x y,P o i σ H->l[i]?=some (x,y)->H t=none->tb {D with nx:=P o (i+1),ct:=P o (i+1),bk:=D.nx} ((σ.set a (some x)).set b (some y)) (upd H t (.tup [x,y]))):
  jo (t_ (CB tu (bu j))) (Dz K a b) tb D σ H:=by
 refine⟨.ref d,hj,⟨d,u,l,rfl,hu,hr⟩,d,u,l,rfl,rfl,hu,hr,λv hv=>?_⟩;have D1:v≠d:=by
  rintro rfl;rcases hr with hr|⟨_,hr⟩<;>(rw[hv] at hr;cases hr)
 have VY:Rd (upd H v (BO v d)) d u:=by
  rcases hr with hr|⟨o,hr⟩
  ·exact .inl (by rw[aA (jt D1)];exact hr)
  ·exact .inr ⟨o,by rw[aA (jt D1)];exact hr⟩
 refine⟨v,d,u,l,rfl,D1,ah,hu,VY,λo hs=>?_⟩;refine⟨λi m σ H=>P o i σ H/\m+i=l.length,⟨l.length,init o v hv D1 (λo' e=>hs o' (by rw[aA (jt D1)];exact e)),by omega⟩,λi m σ H qQ=>?_⟩;obtain⟨h,hm⟩:=qQ;by_cases hi:i<l.length
 ·refine .inr ⟨⟨keep o i σ H h,hi⟩,P o (i+1),λdi H' q=>⟨m-1,by omega,q,by omega⟩,λz H' qQ=>?_⟩
  obtain⟨t,x,y,ht,ez,eH,el⟩:=qQ;subst ez eH;exact⟨t,[x,y],rfl,.inl (.inl ah),rfl,x,[y],rfl,y,[],rfl,rfl,step o i σ H t x y h el ht⟩
 ·have e:i=l.length:=by omega
  exact .inl ⟨⟨keep o i σ H h,by show l.length<=i;omega⟩,fin o σ H (e▸h)⟩
theorem nA{a:Nat}{tl:TE}{tb:TS}{D:Ends}{σ:St}{H:Hp}(h:tl σ H λx H1=>∃p xs,x=.ref p/\ju K H1 p xs/\∃P:Nat->St->Hp->Prop,P 0 σ H1/\(∀i σ H,P i σ H->ju K H p xs)/\(∀σ H,P xs.length σ H->D.nx σ H)/\
   ∀i σ H x,P i σ H->xs[i]?=some x->tb {D with nx:=P (i+1),ct:=P (i+1),bk:=D.nx} (σ.set a (some x)) H)
  (mono:∀{σ H}{Q Q':VK},tl σ H Q->(∀v H',Q v H'->Q' v H')->tl σ H Q'):jo (Eh K tl) (bw a) tb D σ H:=by
 refine mono h λv H1 ⟨p,xs,ev,hq,P,p0,keep,fin,step⟩=>⟨p,ev,⟨xs,hq⟩,?_⟩
 refine⟨λi m σ H=>P i σ H/\m+i=xs.length,⟨xs.length,p0,by omega⟩,λi m σ H qQ=>?_⟩;obtain⟨h,hm⟩:=qQ;by_cases hi:i<xs.length
 ·refine .inr ⟨⟨xs,xs[i],keep i σ H h,uc hi⟩,P (i+1),λdi H' q=>⟨m-1,by omega,q,by omega⟩,λz H' ⟨eH,el⟩=>?_⟩
  subst eH;exact step i σ H' z h (el xs (keep i σ H' h))
 ·have e:i=xs.length:=by omega
  exact .inl ⟨⟨xs,keep i σ H h,by omega⟩,fin σ H (e▸h)⟩
noncomputable def QH(hi:Int)(n:Nat):It:=⟨λi _=>i<n,λi H x H'=>H'=H/\x=.int (hi-i),λi _=>n<=i⟩
theorem zE{a:Nat}{ta:TA}{tb:TS}{D:Ends}{σ:St}{H:Hp}(h:ta σ H λvs H1=>∃i:Int,vs=[.int i,.int (-1),.int (-1)]/\(-(2^62)<=i/\i<2^62)/\∃P:Nat->St->Hp->Prop,P 0 σ H1/\(∀σ H,P (i+1).toNat σ H->D.nx σ H)/\
   ∀k σ H,P k σ H->k<(i+1).toNat->tb {D with nx:=P (k+1),ct:=P (k+1),bk:=D.nx} (σ.set a (some (.int (i-k)))) H)
  (mono:∀{σ H}{Q Q':List V->Hp->Prop},ta σ H Q->(∀v H',Q v H'->Q' v H')->ta σ H Q'):
  jo (λσ H R=>ta σ H λvs H1=>∃i:Int,vs=[.int i,.int (-1),.int (-1)]/\(-(2^62)<=i/\i<2^62)/\R (QH i (i+1).toNat) H1) (bw a) tb D σ H:=by
 refine mono h λvs H1 ⟨i,ev,hb,P,p0,fin,step⟩=>⟨i,ev,hb,?_⟩
 refine⟨λk m σ H=>P k σ H/\m+k=(i+1).toNat,⟨(i+1).toNat,p0,by omega⟩,λk m σ H qQ=>?_⟩;obtain⟨h,hm⟩:=qQ;by_cases hi:k<(i+1).toNat
 ·refine .inr ⟨hi,P (k+1),λdi H' q=>⟨m-1,by omega,q,by omega⟩,λz H' qQ=>?_⟩
  obtain⟨eH,ez⟩:=qQ;subst eH ez;exact step k σ H' h hi
 ·have e:k=(i+1).toNat:=by omega
  exact .inl ⟨by show(i+1).toNat<=k;omega,fin σ H (e▸h)⟩
theorem v4{P:Program}{w:World}{tg:Expr}(it:Addr)(hi:Int)(n:Nat):Turn P w K tg (QH hi n) [it] it (λi h=>IsRangeIter h it (hi+(i:Nat)* -1) ((n:Int)-(i:Nat)) (-1)) where
 mem:=by simp
 obj:=λi h st b hb=>by
  have e:b=it:=by simpa using hb
  subst e;exact⟨_,st,λv z=>by cases (show Data.fields _=Data.cell v from z)⟩
 keep:=λi h h' st k=>k it (by simp) _ st
 item:=by
  intro X hP hw hK hc i pins s σ H E I hf st hg;subst hP hw hK;obtain⟨f0,f1,f2,f3,f4,f5⟩:=hf it (by simp);have W:=Walks.range (prog:=X.prog) (w:=X.w) (I.ok.hd hc) it hi (-1) n;refine W.item i s _ _ hg st λv h' tk hv Dl kk=>?_;obtain⟨t,rfl⟩:=hv;have I1:Inv X pins σ H {s with heap:=h',toks:=tk}:=I.turned (λb o hb e=>kk b o (by simpa using hb) e) f0 f1 f3 f4 f5;refine⟨_,rfl,tH (s:={s with heap:=h',toks:=tk}) (n:="range_iterator") Dl rfl rfl (by decide) ⟨.int (hi-i),H,I1,⟨t,?_⟩,⟨rfl,rfl⟩,Dl,λb hb=>(hf b hb).1⟩⟩;rw[show hi+((i:Nat):Int)* -1=hi-i by omega]
 done:=by
  intro X hP hw hK hc i pins s σ H E I hf st hg;subst hP hw hK;obtain⟨f0,f1,f2,f3,f4,f5⟩:=hf it (by simp);exact wpAny_pyNext_range_end (I.ok.hd hc) st (by have:n<=i:=hg;omega) λh' eb=>⟨rfl,I.turned (t':=s.toks) (λb o hb e=>eb b o hb e) f0 f1 f3 f4 f5⟩
 self:=λ_ _ _ _ _ st h=>wpAny_pyIter_rangeiter st h
theorem Ig(hg:Gl X "range")(hm:X.mg "range"=none)(ha:PA X [a,b,c] ta)(hs:starEach [a,b,c] X.env=[(false,eval a X.env),(false,eval b X.env),(false,eval c X.env)])(M0:starEach [b,c] X.env=[(false,eval b X.env),(false,eval c X.env)]):
  PI X tg (.Call (.Name "range" p) [a,b,c] [] pos) (λσ H R=>ta σ H λvs H1=>∃i:Int,vs=[.int i,.int (-1),.int (-1)]/\(-(2^62)<=i/\i<2^62)/\R (QH i (i+1).toNat) H1):=by
 intro pins s σ H R I h;refine Call_ (fS I hg hm boot_range (PyProof.Rows.callWith_type1 (fv (ha pos pins s σ H _ I h) λus s1 qQ=>?_) (by rw[hs,M0]) (by rw[M0];rfl)));obtain⟨vs,H1,I1,r1,q1⟩:=qQ;obtain⟨i,e,⟨b1,b2⟩,q⟩:=q1;subst e
 cases r1 with
 |cons r rr=>
  cases rr with
  |cons r' rr=>
   cases rr with
   |cons r2 rr=>
    cases rr;obtain⟨t,rfl⟩:=r;obtain⟨t',rfl⟩:=r';obtain⟨t2,rfl⟩:=r2;refine call_range_3 (by decide) ?_;have rs:Builtin.Range.rangeSize i (-1) (-1)=((i+1).toNat:Nat):=by
     unfold Builtin.Range.rangeSize;simp only[show¬((-1:Int)>0) by decide,df,Int.neg_neg,Int.ediv_one];split<;>omega
    have sm:Builtin.Range.small i (-1) (-1)=true:=by
     unfold Builtin.Range.small;rw[rs];simp only[Builtin.Range.rangeFitsLong,qc,Bool.or_eq_true,DN,beq_iff_eq,show¬((-1:Int)>0) by decide,df];omega
    refine wpAny_pyIter_range (IsRange.new ..) sm ?_;have I2:Inv X pins σ H1 {s1 with heap:=s1.heap.push {cls:=.type "range",data:=.fields #[.int i t,.int (-1) t',.int (-1) t2]}}:=I1.kept (t':=s1.toks) λb o e=>qa _ e;refine⟨_,[_],_,_,H1,rfl,I2.kept (t':=s1.toks) λb o e=>qa _ e,v4 _ i (i+1).toNat,?_,λb hb=>?_,q⟩
    ·show IsRangeIter _ _ (i+((0:Nat):Int)* -1) ((((i+1).toNat:Nat):Int)-((0:Nat):Int)) (-1)
     rw[show i+((0:Nat):Int)* -1=i by omega,show(((i+1).toNat:Nat):Int)-((0:Nat):Int)=Builtin.Range.rangeSize i (-1) (-1) by rw[rs];omega];exact Ab _ rfl
    ·have e:=List.mem_singleton.mp hb
     subst e;exact I2.Dk (fm _) (I2.dq.fresh (fm _))
end
end L2.Snd
namespace Py
section
variable{κ:Type}[DecidableEq κ]
theorem gA:∀{t:List (κ×Int)}{p:κ},p∉t.map (·.1)->look t p=none
 |[],p,_=>rfl
 |(a,m)::r,p,h=>by
  simp only[fu,oz,not_or] at h;have:=gA (t:=r) h.2;simp only[look,Bt,show¬a=p from λe=>h.1 e.symm,D8] at this⊢;exact this
theorem jL:∀{t:List (κ×Int)}{p:κ}{n:Int},p∉t.map (·.1)->cn t p n=t++[(p,n)]
 |[],p,n,_=>rfl
 |(a,m)::r,p,n,h=>by
  simp only[fu,oz,not_or] at h;rw[cn,az λe=>h.1 e.symm,jL h.2];rfl
theorem nB:∀{t:List (κ×Int)}{p:κ}{n:Int},bh t->p∈t.map (·.1)->cn t p n=t.map λx=>if x.1=p then(x.1,(look t p).getD 0+n) else x
 |(a,m)::r,p,n,nd,h=>by
  simp only[bh,fu,Jj] at nd;by_cases e:a=p
  ·subst e
   rw[cn,bp rfl,fu,bp rfl];have h1:(look ((a,m)::r) a).getD 0=m:=by simp[look]
   rw[h1]
   congr 1
   symm
   refine(Bh λx hx=>?_).trans (List.map_id r);rw[az λe=>nd.1 (List.mem_map.mpr ⟨x,hx,e⟩)];rfl
  ·have hp:p∈r.map (·.1):=by
    rcases List.mem_cons.mp h with q|q
    ·exact absurd q.symm e
    ·exact q
   have h1:look ((a,m)::r) p=look r p:=by simp[look,e]
   rw[cn,az e,nB nd.2 hp,fu,az e,h1]
end
end Py
namespace L2.Snd
open PySem PySem.Spec PyProof.Rows L2 Py
noncomputable def jb(t:List (Int×Int)):List (Key×V):=t.map λx=>(Sum.inl x.1,V.int x.2)
theorem uB(t:List (Int×Int))(p:Int):f_ (jb t) (Sum.inl p)=(look t p).map V.int:=by
 induction t with
 |nil=>rfl
 |cons x r ih=>
  by_cases e:x.1=p
  ·simp[jb,f_,look,e]
  ·have e':¬(Sum.inl x.1:Key)=Sum.inl p:=λz=>e (D9 z)
   simp only[jb,f_,look,fu,Bt,e,e',D8] at ih⊢;exact ih
theorem uC(nd:bh t)(p n:Int):putK (jb t) (Sum.inl p) (.int ((look t p).getD 0+n))=jb (cn t p n):=by
 have ha:((jb t).any λkv=>decide (kv.1=(Sum.inl p:Key)))=decide (p∈t.map (·.1)):=by
  clear nd
  induction t with
  |nil=>rfl
  |cons x r ih=>
   have z:decide ((Sum.inl x.1:Key)=Sum.inl p)=decide (p=x.1):=by
    by_cases e:p=x.1
    ·rw[e];simp
    ·rw[Al e,Al λz=>e (D9 z).symm]
   show(decide ((Sum.inl x.1:Key)=Sum.inl p)||(jb r).any _)=_;rw[ih,z];simp only[fu,oz,Bool.decide_or]
 unfold putK;rw[ha];by_cases h:p∈t.map (·.1)
 ·rw[Ad h,bp rfl,nB nd h]
  unfold jb;rw[vj,vj];refine Bh λx _=>?_;simp only[Function.comp];by_cases e:x.1=p
  ·rw[bp (congrArg Sum.inl e),bp e]
  ·rw[az λz=>e (D9 z),az e]
 ·rw[Al h,az jw,jL h,gA h]
  simp[jb]
noncomputable def yc(r:List Int):NK:=.tup (r.map .int)
noncomputable def DA(s:Sx):NK:=.tup [.tup (s.1.map yc),.int s.2]
noncomputable def ig(k:Sk):NK:=.tup [DA k.1,.int k.2]
theorem jM{α β:Type}{f:α->β}(hf:∀a b,f a=f b->a=b):∀{x y:List α},x.map f=y.map f->x=y
 |[],[],_=>rfl
 |[],_::_,h=>by simp at h
 |_::_,[],h=>by simp at h
 |a::x,b::y,h=>by
  rw[fu,fu,Kk] at h;rw[hf a b h.1,jM hf h.2]
theorem jN(h:ig a=ig b):a=b:=by
 obtain⟨⟨r,g⟩,p⟩:=a;obtain⟨⟨r',g'⟩,p'⟩:=b;simp only[ig,DA,NK.tup.injEq,Kk,NK.int.injEq,and_true] at h;obtain⟨⟨h1,h2⟩,h3⟩:=h;have:r=r':=jM (λx y e=>by
  simp only[yc,NK.tup.injEq] at e;exact jM (λi j q=>NK.int.inj q) e) h1
 rw[this,h2,h3]
theorem iH(k:Sk):Kq.ok (ig k)/\gz (ig k)<=8:=by
 have d1:∀r:List Int,gz (yc r)<=1:=by
  intro r;have:∀r:List Int,kr (r.map .int)=0:=by
   intro r
   induction r with
   |nil=>rfl
   |cons x r ih=>rw[fu,kr,ih];rfl
  rw[yc,gz,this];exact fm _
 have d2:∀R:List (List Int),kr (R.map yc)<=1:=by
  intro R
  induction R with
  |nil=>exact DQ _
  |cons r R ih=>
   have:=d1 r;rw[fu,kr];omega
 refine⟨⟨⟨?_,trivial⟩,trivial⟩,?_⟩
 ·intro x hx
  obtain⟨r,_,rfl⟩:=List.mem_map.mp hx;intro y hy;obtain⟨i,_,rfl⟩:=List.mem_map.mp hy;exact trivial
 ·have:=d2 k.1.1
  simp only[ig,DA,gz,kr];omega
structure Kp(H H':Hp):Prop where
 tp:∀a xs,H a=some (.tup xs)->H' a=some (.tup xs)
 fz:∀a o u,H a=some (.av o u)->H' a=some (.av o u)
theorem Kp.refl(H:Hp):Kp H H:=⟨λ_ _ e=>e,λ_ _ _ e=>e⟩
theorem Kp.trans(a:Kp H H1)(b:Kp H1 H2):Kp H H2:=⟨λx xs e=>b.tp _ _ (a.tp x xs e),λx o u e=>b.fz _ _ _ (a.fz x o u e)⟩
theorem Kp.JE{K:PySem.W.Frag}(k:Kp H H')(h:ju K H a xs):ju K H' a xs:=by
 rcases h with(h|⟨o,h⟩)|h
 ·exact .inl (.inl (k.tp _ _ h))
 ·exact .inl (.inr ⟨o,k.fz _ _ _ h⟩)
 ·exact .inr h
theorem Kp.nk{K:PySem.W.Frag}(kp:Kp H H')(k:NK):∀{v:V},ou K H k v->ou K H' k v:=by
 induction k using fR with
 |h1 i=>intro v h;rw[ou] at h⊢;exact h
 |h2 l ih=>
  intro v h;rw[ou] at h⊢;obtain⟨a,vs,e,q,hl⟩:=h;refine⟨a,vs,e,kp.JE q,?_⟩;have go:∀(ks:List NK)(vs:List V),(∀k∈ks,k∈l)->ku K H ks vs->ku K H' ks vs:=by
   intro ks
   induction ks with
   |nil=>intro vs _ h;rw[ku] at h⊢;exact h
   |cons k ks DR=>
    intro vs hm h;rw[ku] at h⊢;obtain⟨v,r,e,h1,h2⟩:=h;exact⟨v,r,e,ih k (hm k si) h1,DR _ (λz hz=>hm z (o_ _ hz)) h2⟩
  exact go l vs (λ_ z=>z) hl
structure TN(K:PySem.W.Frag)(H:Hp)(kvs:List (NK×Addr×V))(t:List (Sk×Int)):Prop where
 pr:Paired (λ(x:NK×Addr×V)(y:Sk×Int)=>x.1=ig y.1/\x.2.2=.int y.2) kvs t
 ks:∀x∈kvs,ou K H x.1 (.ref x.2.1)
theorem TN.kp{K:PySem.W.Frag}(h:TN K H kvs t)(k:Kp H H'):TN K H' kvs t:=⟨h.pr,λx hx=>k.nk _ (h.ks x hx)⟩
theorem TN.keys{K:PySem.W.Frag}(h:TN K H kvs t):BP K H kvs:=by
 obtain⟨pr,ks⟩:=h
 induction pr with
 |nil=>intro x hx;cases hx
 | @cons p q ps qs hq r ih=>
  intro x hx;rcases List.mem_cons.mp hx with rfl|hx
  ·exact⟨ks _ si,by rw[hq.1];exact iH _⟩
  ·exact ih (λy hy=>ks y (o_ _ hy)) x hx
theorem TN.look{K:PySem.W.Frag}(h:TN K H kvs t)(k:Sk):zo kvs (ig k)=(Py.look t k).map V.int:=by
 have pr:=h.pr;clear h
 induction pr with
 |nil=>rfl
 | @cons p q ps qs hq r ih=>
  by_cases e:q.1=k
  ·have e':p.1=ig k:=by rw[hq.1,e]
   simp only[zo,Py.look,Bt,e,e',decide_true,Option.map_some,hq.2]
  ·have e':¬p.1=ig k:=λz=>e (jN (hq.1.symm.trans z))
   simp only[zo,Py.look,Bt,e,e',D8] at ih⊢;exact ih
theorem TN.put{K:PySem.W.Frag}(h:TN K H kvs t)(nd:bh t)(hb:ou K H (ig k) (.ref b))(n:Int):
  TN K H (putN kvs (ig k) b (.int ((Py.look t k).getD 0+n))) (cn t k n):=by
 have ha:(kvs.any λx=>decide (x.1=ig k))=decide (k∈t.map (·.1)):=by
  have pr:=h.pr;clear nd hb h
  induction pr with
  |nil=>rfl
  | @cons p q ps qs hq r ih=>
   have z:decide (p.1=ig k)=decide (k=q.1):=by
    by_cases e:k=q.1
    ·rw[Ad e,Ad (by rw[hq.1,e])]
    ·rw[Al e,Al λz=>e (jN (hq.1.symm.trans z)).symm]
   rw[D7,ih,z];simp only[fu,oz,Bool.decide_or]
 unfold putN;rw[ha];by_cases hk:k∈t.map (·.1)
 ·rw[Ad hk,bp rfl,nB nd hk]
  generalize (Py.look t k).getD 0+n=v;obtain⟨pr,ks⟩:=h;clear nd ha hk hb;refine⟨?_,λx hx=>?_⟩
  ·clear ks
   induction pr with
   |nil=>exact .nil
   | @cons p q ps qs hq r ih=>
    refine .cons ?_ ih;show(if p.1=ig k then(p.1,p.2.1,V.int v) else p).1=ig (if q.1=k then(q.1,v) else q).1/\(if p.1=ig k then(p.1,p.2.1,V.int v) else p).2.2=V.int (if q.1=k then(q.1,v) else q).2;by_cases e:q.1=k
    ·rw[bp e,bp (by rw[hq.1,e])];exact⟨hq.1,rfl⟩
    ·rw[az e,az λz=>e (jN (hq.1.symm.trans z))];exact hq
  ·obtain⟨y,hy,rfl⟩:=List.mem_map.mp hx
   split
   ·exact ks y hy
   ·exact ks y hy
 ·rw[Al hk,az jw,jL hk,gA hk]
  refine⟨Paired.snoc h.pr ⟨rfl,by simp⟩,λx hx=>?_⟩;rcases List.mem_append.mp hx with hx|hx
  ·exact h.ks x hx
  ·rw[List.mem_singleton.mp hx];exact hb
noncomputable def ox(K:PySem.W.Frag):Sp:=λvs H Q _=>∃d y n m o H',vs=[.ref d,y,.int n]/\Ib H (.ref d)/\Uk K H d y o/\o.getD (.int 0)=.int m/\Ul K H d y (.int (m+n)) H'/\Q .cx H'
noncomputable def JV(K:PySem.W.Frag):TS:=jn (Ec (Me (BQ K) (bu 0) (bo (bu 1) (bo (tC (.int 0)) du))) (bu 2)) (Dj (bu 0) (bu 1) (EK K))
theorem zF{K:PySem.W.Frag}(h:ox K vs H Q E):JV K {nx:=λ_ H'=>Q .cx H',rt:=Q} (start ["counts","key","number"] vs) H:=by
 obtain⟨d,y,n,m,o,H',rfl,hd,hg,hm,hp,q⟩:=h;refine⟨.ref d,rfl,hd,y,rfl,d,y,.int 0,o,rfl,rfl,hg,.int n,rfl,m,n,hm,rfl,.ref d,rfl,y,rfl,d,H',rfl,hp,q⟩
theorem uD{K:PySem.W.Frag}(e:H d=some (.dK (jb t)))(nd:bh t)(hl:t.length<sizeLine)(q:Q .cx (upd H d (.dK (jb (cn t p n))))):ox K [.ref d,.int p,.int n] H Q E:=by
 refine⟨d,.int p,n,(look t p).getD 0,(look t p).map V.int,_,rfl,⟨d,_,_,rfl,.k _,.inl e⟩,.inl (by rw[←uB];exact rk.k (k:=Sum.inl p) e),?_,.inl (BB.k (k:=Sum.inl p) e (by simpa[jb] using hl)),by rw[uC nd];exact q⟩;cases look t p<;>rfl
theorem add_n{K:PySem.W.Frag}(e:H d=some (.dN kvs))(h:TN K H kvs t)(nd:bh t)(hb:ou K H (ig k) (.ref b))(hl:t.length<sizeLine)
  (q:∀EM,TN K H EM (cn t k n)->Q .cx (upd H d (.dN EM))):ox K [.ref d,.ref b,.int n] H Q E:=by
 have hlen:=Gj h.pr;refine⟨d,.ref b,n,(look t k).getD 0,(look t k).map V.int,_,rfl,⟨d,_,_,rfl,.n _,.inl e⟩,.inr ⟨kvs,ig k,b,.inl e,h.keys,rfl,⟨hb,iH k⟩,(h.look k).symm⟩,?_,.inr ⟨kvs,ig k,b,e,h.keys,rfl,⟨hb,iH k⟩,by omega,rfl⟩,q _ (h.put nd hb n)⟩;cases look t k<;>rfl
structure Exc(ds:List Addr)(H H':Hp):Prop where
 kp:Kp H H'
 ot:∀a o,a∉ds->H a=some o->H' a=some o
theorem Exc.refl(ds:List Addr)(H:Hp):Exc ds H H:=⟨Kp.refl H,λ_ _ _ e=>e⟩
theorem Exc.trans(a:Exc ds H H1)(b:Exc ds H1 H2):Exc ds H H2:=⟨a.kp.trans b.kp,λx o n e=>b.ot x o n (a.ot x o n e)⟩
theorem Exc.mono(a:Exc ds H H1)(h:∀x∈ds,x∈es):Exc es H H1:=⟨a.kp,λx o n e=>a.ot x o (λz=>n (h x z)) e⟩
theorem Exc.free(a:Exc ds H H1)(hp:p∉ds)(h:H1 p=none):H p=none:=by
 cases e:H p with
 |none=>rfl
 |some o=>rw[a.ot p o hp e] at h;cases h
theorem Exc.new(a:Exc ds H H1)(h:H1 p=none):Exc ds H (upd H1 p o):=by
 refine a.trans ⟨⟨λx xs e=>?_,λx ob u e=>?_⟩,λx ob _ e=>?_⟩<;>(rw[aA (aB e h)];exact e)
theorem Exc.put(a:Exc ds H H1)(h:H1 p=some u)(hp:p∈ds\/H p=none)(n1:∀xs,u≠.tup xs)(n2:∀ob v,u≠.av ob v):Exc ds H (upd H1 p o):=by
 refine⟨⟨λx xs e=>?_,λx ob v e=>?_⟩,λx ob hx e=>?_⟩
 ·have:=a.kp.tp x xs e
  rw[aA (by rintro rfl;rw[h] at this;exact n1 _ (ud this))];exact this
 ·have:=a.kp.fz x ob v e
  rw[aA (by rintro rfl;rw[h] at this;exact n2 _ _ (ud this))];exact this
 ·rw[aA (by
   rintro rfl;rcases hp with hp|hp
   ·exact hx hp
   ·rw[hp] at e;cases e)]
  exact a.ot x ob hx e
theorem Exc.walk(a:Exc ds H H1)(hu:ym u l)(hr:Rd H1 d u)(hd:d∈ds\/H d=none)(hv:H1 v=none)(same:∀o',H1 d=some (.av o' u)->o'=o):Exc ds H (upd (upd H1 v w) d (.av o u)):=by
 have b:=a.new (o:=w) hv;have D1:d≠v:=by rintro rfl;rcases hr with hr|⟨_,hr⟩<;>(rw[hv] at hr;cases hr)
 rcases hr with hr|⟨o',hr⟩
 ·exact b.put (u:=u) (by rw[aA D1];exact hr) hd (λxs e=>by cases hu<;>cases e) λob v e=>by cases hu<;>cases e
 ·have e:=same o' hr
  subst e;have:upd (upd H1 v w) d (.av o' u)=upd H1 v w:=by
   funext x;by_cases hx:x=d
   ·subst hx;rw[ah,aA D1,hr]
   ·rw[aA hx]
  rw[this];exact b
end L2.Snd
namespace Py
theorem pI{κ α:Type}[DecidableEq κ](f:List (κ×Int)->α->List (κ×Int))(hf:∀t x,t.length<=(f t x).length):∀(l:List α)(t:List (κ×Int)),t.length<=(l.foldl f t).length
 |[],t=>fm _
 |x::l,t=>qe (hf t x) (pI f hf l _)
theorem lS{κ α:Type}[DecidableEq κ](f:List (κ×Int)->α->List (κ×Int))(hf:∀t x,t.length<=(f t x).length)(l:List α)(t:List (κ×Int))(i:Nat):((l.take i).foldl f t).length<=(l.foldl f t).length:=by
 have:l.foldl f t=(l.drop i).foldl f ((l.take i).foldl f t):=by rw[←List.foldl_append,List.take_append_drop]
 rw[this];exact pI f hf _ _
theorem gB{β α:Type}(f:β->α->β)(l:List α)(t:β){x:α}(h:l[i]?=some x):(l.take (i+1)).foldl f t=f ((l.take i).foldl f t) x:=by
 obtain⟨hi,e⟩:=List.getElem?_eq_some_iff.mp h;rw[List.take_succ,List.foldl_append,h];rfl
end Py
namespace L2.Snd
open PySem PySem.Spec PyProof.Rows L2 Py
theorem fC(t:List (Int×Int)):ym (.dK (jb t)) (t.map λx=>(.int x.1,.int x.2)):=by
 have:=ym.k (jb t);have e:((jb t).map λx=>(kV x.1,x.2))=t.map λx=>(V.int x.1,V.int x.2):=by simp[jb,Jc,kV]
 rw[e] at this;exact this
theorem rQ{α β:Type}{f:α->β}{l:List α}{i:Nat}{y:β}(h:(l.map f)[i]?=some y):∃x,l[i]?=some x/\y=f x:=by
 rw[AA] at h
 cases e:l[i]? with
 |none=>rw[e] at h;cases h
 |some x=>rw[e] at h;exact⟨x,rfl,(ud h).symm⟩
noncomputable def Bd:Sp:=λvs H Q _=>∃d t,vs=[.ref d]/\Rd H d (.dK (jb t))/\(BH t).length<=5000/\∀f H',H f=none->H' f=some (.dK (jb (BH t)))->Exc [d] H H'->Q (.ref f) H'
noncomputable def C4(K:PySem.W.Frag)(rp:V)(E:St->XK):TS:=
 ke (jn vy (bw 1)) (ke (jo (t_ (CB tu (bu 0))) (Dz K 2 3) (jo (Eh K (tC rp)) (bw 4) (uo (lq (ox K) E (bo (bu 1) (bo (Ec (bu 2) (bu 4)) (bo (Rg (rU λi=>.int (-i)) (bu 3)) du))))))) (Cn (bu 1)))
noncomputable abbrev Ih(f:List (Int×Int))(x:Int×Int):List (Int×Int):=cn (cn f (x.1+2) (-x.2)) (x.1+ -2) (-x.2)
theorem Ii(t:List (Int×Int))(x:Int×Int):t.length<=(Ih t x).length:=qe (aG t _ _).2 (aG _ _ _).2
theorem rR{K:PySem.W.Frag}(Um:∀H,ju K H rp [.int 2,.int (-2)])(h:Bd vs H Q E'):
  C4 K (.ref rp) E {nx:=λ_ H'=>Q .cx H',rt:=Q} (start ["powers","found","power","number","more"] vs) H:=by
 obtain⟨d,t,rfl,hr,hl,q⟩:=h;intro f hf;have F9:f≠d:=by rintro rfl;rcases hr with hr|⟨_,hr⟩<;>(rw[hf] at hr;cases hr)
 have JW:Rd (upd H f (.dK [])) d (.dK (jb t)):=by
  rcases hr with hr|⟨o,hr⟩
  ·exact .inl (by rw[aA (jt F9)];exact hr)
  ·exact .inr ⟨o,by rw[aA (jt F9)];exact hr⟩
 have x1:Exc [d] H (upd H f (.dK [])):=(Exc.refl [d] H).new hf;dsimp only[bw,ke];show jo _ _ _ _ ([some (.ref d),some (.ref f),none,none,none]:St) (upd H f (.dK []));have ll:(t.map λx=>(V.int x.1,V.int x.2)).length=t.length:=by simp
 refine dC (K:=K) (λo i σ H'=>∃a b c,σ=[some (.ref d),some (.ref f),a,b,c]/\H' d=some (.av o (.dK (jb t)))/\H' f=some (.dK (jb ((t.take i).foldl Ih [])))/\Exc [d] H H') rfl (fC t) JW (λo v hv D1 hs=>?_) (λo i σ H' qQ=>by obtain⟨_,_,_,_,z,_⟩:=qQ;exact z) (λo σ H' qQ=>?_) (λo i σ H' w x y qQ hx hw=>?_)
 ·have Ss:v≠f:=by rintro rfl;rw[ah] at hv;cases hv
  refine⟨none,none,none,rfl,ah,?_,?_⟩
  ·rw[aA F9,aA (jt Ss),ah];rfl
  ·exact x1.walk (fC t) JW (.inl (by simp)) hv hs
 ·obtain⟨a,b,c,e1,e2,e3,e4⟩:=qQ
  rw[ll,Bk] at e3;subst e1;exact⟨.ref f,rfl,q f H' hf e3 e4⟩
 ·obtain⟨a,b,c,e1,e2,e3,e4⟩:=qQ
  subst e1;obtain⟨z,hz,ez⟩:=rQ hx;cases ez;obtain⟨p,n⟩:=z;generalize hT:(t.take i).foldl Ih []=T at e3;have Pn:(t.take (i+1)).foldl Ih []=Ih T (p,n):=by rw[gB Ih t [] hz,hT]
  have hle:(Ih T (p,n)).length<=5000:=by rw[←Pn];exact qe (lS Ih Ii t [] (i+1)) hl
  have Nm:bh T:=by rw[←hT];exact e9 _ (λt x h=>aS (aS h _ _) _ _) _ [] Bv
  have VZ:d≠w:=aB e2 hw;have Su:f≠w:=aB e3 hw;have hs:(5000:Nat)<sizeLine:=by rw[D_];decide
  have l1:=aG T (p+2) (-n);have l2:=aG (cn T (p+2) (-n)) (p+ -2) (-n);have l3:(cn (cn T (p+2) (-n)) (p+ -2) (-n)).length<=5000:=hle;show jo _ _ _ _ [some (.ref d),some (.ref f),some (.int p),some (.int n),c] _;refine nA (K:=K) (tl:=tC (.ref rp)) ⟨rp,[.int 2,.int (-2)],rfl,Um _,λj σ H1=>∃c,σ=[some (.ref d),some (.ref f),some (.int p),some (.int n),c]/\H1 d=some (.av o (.dK (jb t)))/\
   H1 f=some (.dK (jb (if j=0 then T else if j=1 then cn T (p+2) (-n) else Ih T (p,n))))/\Exc [d] H H1,⟨c,rfl,by rw[aA VZ];exact e2,by rw[aA Su];exact e3,e4.new hw⟩,λ_ _ _ _=>Um _,λσ H1 qQ=>?_,λj σ H1 x qQ hx=>?_⟩ λh k=>k _ _ h
  ·obtain⟨c,z1,z2,z3,z4⟩:=qQ
   refine⟨_,_,_,z1,z2,?_,z4⟩;rw[Pn];exact z3
  ·obtain⟨c,z1,z2,z3,z4⟩:=qQ
   subst z1;have hj:j=0\/j=1:=by
    have:=(List.getElem?_eq_some_iff.mp hx).1;simp only[gm,ny] at this;omega
   have n1:∀(xs:List V)(T':List (Int×Int)),HO.dK (jb T')≠.tup xs:=λ_ _ e=>by cases e
   have n2:∀(ob:Obj)(v:HO)(T':List (Int×Int)),HO.dK (jb T')≠.av ob v:=λ_ _ _ e=>by cases e
   rcases hj with rfl|rfl
   ·cases hx
    simp only[b_] at z3;refine⟨.ref f,rfl,.int p,rfl,.int 2,rfl,p,2,rfl,rfl,.int n,rfl,n,rfl,?_⟩;dsimp only[du];show ox K [.ref f,.int (p+2),.int (-n)] H1 _ _;refine uD z3 Nm (by omega) ?_;exact⟨_,rfl,by rw[aA (jt F9)];exact z2,by rw[ah];rfl,z4.put z3 (.inr hf) (λxs=>n1 xs _) λob v=>n2 ob v _⟩
   ·cases hx
    simp only[b_,show¬((1:Nat)=0) by decide,df] at z3;refine⟨.ref f,rfl,.int p,rfl,.int (-2),rfl,p,-2,rfl,rfl,.int n,rfl,n,rfl,?_⟩;dsimp only[du];show ox K [.ref f,.int (p+ -2),.int (-n)] H1 _ _;refine uD z3 (aS Nm _ _) (by omega) ?_;exact⟨_,rfl,by rw[aA (jt F9)];exact z2,by rw[ah];rfl,z4.put z3 (.inr hf) (λxs=>n1 xs _) λob v=>n2 ob v _⟩
section
variable{X:Cx}
theorem gC{vs:List (Key×Value)}:∀{kvs:List (Key×V)}{us:List Value},us.length=kvs.length->(∀(j:Nat) u,us[j]?=some u->∃k x,kvs[j]?=some (k,x)/\(dn P w).is k u=true)->Vals (kvs.map λx=>kV x.1) us
 |[],us,hl,_=>by cases us with|nil=>exact .nil|cons _ _=>simp at hl
 |x::kvs,[],hl,_=>by simp at hl
 |x::kvs,u::us,hl,h=>by
  obtain⟨k,y,e,q⟩:=h 0 u rfl;cases e;exact .cons (lR q) (gC (vs:=vs) (by simpa using hl) λj u' e=>h (j+1) u' e)
theorem rS(hc:X.calm=true):og X (.type "list") (λxs H Q=>∃d kvs,xs=[.ref d]/\Rd H d (.dK kvs)/\∀p,H p=none->Q (.ref p) (upd H p (.lst (kvs.map λx=>kV x.1)))):=by
 intro pins s σ H xs us Q I r h;obtain⟨d,kvs,rfl,hr,q⟩:=h
 cases r with
 |cons r rr=>
 cases rr;cases r;obtain⟨z,y,vs,rel,dd⟩:=eS I.dq hr;obtain⟨ep,F_⟩:=dd.dictAt;have hl:kvs.length=vs.length:=rel.length;refine PySem.W.kdl_call (PySem.W.kdl_dict (knd:=dn X.prog X.w) (kvs:=vs) (ep:=ep) y) (I.ok.hd hc) F_ (by omega) λh' tk acc c hk hS EN=>?_;have hv:Vals (kvs.map λx=>kV x.1) acc.toList:=by
  refine gC (P:=X.prog) (w:=X.w) (vs:=vs) (by rw[Array.length_toList,EN.1,hl]) λj u e=>?_;obtain⟨k,x,e1,e2⟩:=EN.2 j u (by rw[←Array.getElem?_toList];exact e);have hj:j<kvs.length:=by have:=(List.getElem?_eq_some_iff.mp e1).1;omega
  obtain⟨w,e3,_⟩:=KV.at rel (uc hj);rw[e1] at e3;cases e3;exact⟨_,_,uc hj,e2⟩
 have hn:H s.heap.objs.size=none:=I.dq.fresh (fm _);exact⟨.ref s.heap.objs.size,_,I.laid (a:=s.heap.objs.size) (o:=.lst (kvs.map λx=>kV x.1)) (t':=tk) hk (fm _) ⟨by simp;omega,acc.toList,c,hv,by simpa using hS⟩,rfl,q _ hn⟩
end
theorem Exc.comp(a:Exc ex H H1)(b:Exc ds H1 H2)(h:∀x∈ds,x∈ex\/H x=none):Exc ex H H2:=
 ⟨a.kp.trans b.kp,λx o n e=>b.ot x o (λz=>(h x z).elim n λy=>by rw[y] at e;cases e) (a.ot x o n e)⟩
structure BR(H:Hp)(br:Addr)(b:List (Int×List (Int×Int)))(as:List Addr):Prop where
 len:as.length=b.length
 rd:Rd H br (.dK ((b.zip as).map λx=>(Sum.inl x.1.1,.ref x.2)))
 Ax:∀x∈b.zip as,Rd H x.2 (.dK (jb x.1.2))
theorem vb(h:Rd H a u):H a≠none:=by rcases h with h|⟨_,h⟩<;>(rw[h];exact Kf _)
theorem dD(h:Rd H a u)(e:∀o,H a=some o->H' a=some o):Rd H' a u:=by
 rcases h with h|⟨o,h⟩
 ·exact .inl (e _ h)
 ·exact .inr ⟨o,e _ h⟩
theorem BR.keep(h:BR H br b as)(e:∀a o,(a=br\/a∈as)->H a=some o->H' a=some o):BR H' br b as:=
 ⟨h.len,dD h.rd λo=>e br o (.inl rfl),λx hx=>dD (h.Ax x hx) λo=>e x.2 o (.inr (List.of_mem_zip hx).2)⟩
theorem BR.walk(h:BR H br b as)(hr:Rd H d (.dK (jb t)))(hv:H v=none)(hd:d≠br):BR (upd (upd H v w) d (.av o (.dK (jb t)))) br b as:=by
 refine⟨h.len,dD h.rd λq e=>?_,λx hx=>?_⟩
 ·rw[aA (jt hd),aA (aB e hv)];exact e
 ·by_cases e:x.2=d
  ·have hi:=h.Ax x hx
   rw[e] at hi⊢;have same:HO.dK (jb x.1.2)=.dK (jb t):=by
    rcases hi with hi|⟨q,hi⟩<;>rcases hr with hr|⟨q',hr⟩
    ·rw[hi] at hr;exact ud hr
    ·rw[hi] at hr;cases hr
    ·rw[hi] at hr;cases hr
    ·rw[hi] at hr;exact(HO.av.inj (ud hr)).2
   rw[same];exact .inr ⟨o,ah⟩
  ·refine dD (h.Ax x hx) λq z=>?_
   rw[aA e,aA (aB z hv)];exact z
theorem BR.get(h:BR H br b as)(r:Int):
  (∃a,a∈as/\f_ ((b.zip as).map λx=>((Sum.inl x.1.1:Key),V.ref x.2)) (Sum.inl r)=some (.ref a)/\Rd H a (.dK (jb (q_ b r))))\/(f_ ((b.zip as).map λx=>((Sum.inl x.1.1:Key),V.ref x.2)) (Sum.inl r)=none/\q_ b r=[]):=by
 have Ax:=h.Ax;have len:=h.len;clear h
 induction b generalizing as with
 |nil=>exact .inr ⟨rfl,rfl⟩
 |cons x b ih=>
  obtain⟨g,t⟩:=x
  cases as with
  |nil=>simp at len
  |cons a as=>
   by_cases e:g=r
   ·subst e
    refine .inl ⟨a,si,by simp[f_],?_⟩;rw[q_,bp rfl];exact Ax ((g,t),a) si
   ·have e':¬(Sum.inl g:Key)=Sum.inl r:=λz=>e (D9 z)
    have ev:f_ ((((g,t)::b).zip (a::as)).map λx=>((Sum.inl x.1.1:Key),V.ref x.2)) (Sum.inl r)=f_ ((b.zip as).map λx=>((Sum.inl x.1.1:Key),V.ref x.2)) (Sum.inl r):=by
     simp only[f_,List.zip_cons_cons,fu,Bt,e',D8]
    rw[ev,q_,az e];rcases ih (λx hx=>Ax x (o_ _ hx)) (by simpa using len) with⟨a',m,q⟩|q
    ·exact .inl ⟨a',o_ _ m,q⟩
    ·exact .inr q
noncomputable def BS(b:List (Int×List (Int×Int))):Int:=match b.map (·.1) with
 |[]=>0
 |x::r=>jf x r
noncomputable def zq:Sp:=λvs H Q _=>∃br b as t,vs=[.ref br]/\BR H br b as/\br∉as/\b≠[]/\BS b<=5000/\-1<=BS b/\A7 (q_ b) (BS b+1).toNat []=some t/\∀p H',H p=none->H' p=some (.dK (jb t))->Exc (br::as) H H'->Q (.ref p) H'
noncomputable def Pp(K:PySem.W.Frag):List V->Hp->VK->Prop:=λxs H Q=>∃(p:Addr)(ys:List Int),xs=[.ref p]/\ki K H p (ys.map V.int)/\0<ys.length/\∀M,M∈ys->(∀a∈ys,a<=M)->Q (.int M) H
noncomputable def JX:List V->Hp->VK->Prop:=λxs H Q=>∃d kvs,xs=[.ref d]/\Rd H d (.dK kvs)/\∀p,H p=none->Q (.ref p) (upd H p (.lst (kvs.map λx=>kV x.1)))
noncomputable def JY:TE:=Rg (rU λi=>.int (-i)) (tC (.int 1))
noncomputable def EO(K:PySem.W.Frag):TA:=bo (GC (Pp K) (bo (GC JX (bo (bu 0) du)) du)) (bo JY (bo JY du))
noncomputable def JZ(ta:TA):TI:=λσ H R=>ta σ H λvs H1=>∃i:Int,vs=[.int i,.int (-1),.int (-1)]/\(-(2^62)<=i/\i<2^62)/\R (QH i (i+1).toNat) H1
noncomputable def BU(K:PySem.W.Frag)(E1 E2:St->XK):TS:=
 ke (jn vy (bw 1)) (ke (jo (JZ (EO K)) (bw 2)
  (ke (jn (lq Bd E1 (bo (bu 1) du)) (bw 1)) (ke (jn (Me (BQ K) (bu 0) (bo (bu 2) (bo vy du))) (bw 3))
   (jo (t_ (CB tu (bu 3))) (Dz K 4 5) (uo (lq (ox K) E2 (bo (bu 1) (bo (bu 4) (bo (bu 5) du))))))))) (Cn (bu 1)))
noncomputable abbrev J0(f:List (Int×Int))(x:Int×Int):List (Int×Int):=cn f x.1 x.2
theorem Ij(t:List (Int×Int))(x:Int×Int):t.length<=(J0 t x).length:=(aG t _ _).2
theorem Mh(h1:M∈x::r)(h2:∀a∈x::r,a<=M):M=jf x r:=by
 have a:=iG r x M h1;have b:=h2 _ (jJ r x);omega
theorem pJ{K:PySem.W.Frag}(h:zq vs H Q E'):
  BU K E1 E2 {nx:=λ_ H'=>Q .cx H',rt:=Q} (start ["by_rings","powers","rings","added","power","number"] vs) H:=by
 obtain⟨br,b,as,t,rfl,hB,Np,qd,Xo,EH,Pq,q⟩:=h;have hs:(5000:Nat)<sizeLine:=by rw[D_];decide
 have V0:H br≠none:=vb hB.rd;intro p0 Lf;dsimp only[bw,ke];show jo _ _ _ _ ([some (.ref br),some (.ref p0),none,none,none,none]:St) (upd H p0 (.dK []));have J1:∀{p:Addr},H p=none->p≠br/\p∉as:=λ{p} hp=>by
  refine⟨λe=>V0 (e▸hp),λhm=>?_⟩;obtain⟨i,hi,e⟩:=List.mem_iff_getElem.mp hm;have ya:i<(b.zip as).length:=by rw[List.length_zip,←hB.len];omega
  have hz:=hB.Ax _ (yn ya);rw[List.getElem_zip] at hz;exact vb hz (by show H as[i]=none;rw[e];exact hp)
 have x0:Exc (br::as) H (upd H p0 (.dK [])):=(Exc.refl _ H).new Lf;have B0:BR (upd H p0 (.dK [])) br b as:=hB.keep λa o _ e=>by rw[aA (aB e Lf)];exact e
 obtain⟨x,r,hk⟩:∃x r,b.map (·.1)=x::r:=by
  cases b with
  |nil=>exact absurd rfl qd
  |cons y b=>exact⟨_,_,rfl⟩
 have Sv:BS b=jf x r:=by unfold BS;rw[hk]
 generalize hM:BS b=M at*;refine zE (ta:=EO K) ?_ ?_
 ·--the number of rings
  refine⟨.ref br,rfl,br,_,rfl,B0.rd,λl hl=>⟨l,b.map (·.1),rfl,.inl (.inl ?_),by rw[hk];simp,λM' h1 h2=>?_⟩⟩
  ·rw[ah]
   congr 2
   rw[vj,vj];have:((b.zip as).map (Prod.fst))=b:=List.map_fst_zip (by rw[hB.len];exact fm _)
   conv=>rhs;rw[←this]
   rw[vj];rfl
  ·rw[hk] at h1 h2
   have e:M'=M:=by rw[Sv];exact Mh h1 h2
   subst e;refine⟨1,rfl,1,rfl,M',rfl,⟨by omega,by omega⟩,λk σ H'=>∃p f c d e g,σ=[some (.ref br),some (.ref p),c,d,e,g]/\H p=none/\H' p=some (.dK (jb f))/\bh f/\f.length<=5000/\A7 (q_ b) ((M'+1).toNat-k) f=some t/\BR H' br b as/\Exc (br::as) H H',
    ⟨p0,[],_,_,_,_,rfl,Lf,by rw[aA (aB (by rw[ah]:upd H p0 (.dK []) p0=_) hl),ah];rfl,Bv,by simp,by rw[Nat.sub_zero];exact Pq,B0.keep λa o _ z=>by rw[aA (aB z hl)];exact z,x0.new hl⟩,λσ H' qQ=>?_,λk σ H' qQ G8=>?_⟩
   ·obtain⟨p,f,c,d,e,g,e1,e2,e3,e4,_,e5,e6,e7⟩:=qQ
    rw[Nat.sub_self] at e5;cases e5;subst e1;exact⟨.ref p,rfl,q p H' e2 e3 e7⟩
   ·obtain⟨p,f,c,d,e,g,e1,e2,e3,e4,Xp,e5,e6,e7⟩:=qQ
    subst e1;obtain⟨n,hn⟩:∃n,(M'+1).toNat-k=n+1:=⟨(M'+1).toNat-k-1,by omega⟩
    have hr:M'-(k:Nat)=(n:Int):=by omega
    rw[hn,A7] at e5;by_cases hc:(BH f).length<=5000/\(zf (BH f) (q_ b n)).length<=5000
    ·rw[bp hc] at e5
     refine⟨.ref p,rfl,?_⟩;dsimp only[du];refine⟨p,f,rfl,.inl e3,hc.1,λp1 H1 h1 h2 h3=>?_⟩;have hp:p≠br/\p∉as:=J1 e2;have Mi:H p1=none:=e7.free (by
      intro z;rcases List.mem_cons.mp z with z|z
      ·subst z;exact vb e6.rd h1
      ·obtain⟨i,hi,e⟩:=List.mem_iff_getElem.mp z
       have ya:i<(b.zip as).length:=by rw[List.length_zip,←hB.len];omega
       have hz:=e6.Ax _ (yn ya);rw[List.getElem_zip] at hz;exact vb hz (by show H' as[i]=none;rw[e];exact h1)) h1
     have Aj:p1≠br/\p1∉as:=J1 Mi;have B1:BR H1 br b as:=e6.keep λa o ha z=>h3.ot a o (by
      intro y;have y:=List.mem_singleton.mp y;subst y;rcases ha with ha|ha
      ·exact hp.1 ha
      ·exact hp.2 ha) z
     have X1:Exc (br::as) H H1:=e7.comp h3 λy hy=>.inr (by rw[List.mem_singleton.mp hy];exact e2);show ke _ _ _ ([some (.ref br),some (.ref p1),some (.int (M'-(k:Nat))),d,e,g]:St) H1;rw[hr];refine⟨.ref br,rfl,⟨br,_,_,rfl,.k _,B1.rd⟩,.int n,rfl,λe0 ze=>?_⟩;have Ik:H e0=none:=X1.free (by
      intro z;rcases List.mem_cons.mp z with z|z
      ·subst z;exact vb B1.rd ze
      ·obtain⟨i,hi,e⟩:=List.mem_iff_getElem.mp z
       have ya:i<(b.zip as).length:=by rw[List.length_zip,←hB.len];omega
       have hz:=B1.Ax _ (yn ya);rw[List.getElem_zip] at hz;exact vb hz (by show H1 as[i]=none;rw[e];exact ze)) ze
     have B2:BR (upd H1 e0 (.dK [])) br b as:=B1.keep λa o _ z=>by rw[aA (aB z ze)];exact z
     have X2:Exc (br::as) H (upd H1 e0 (.dK [])):=X1.new ze;have Pt:p1≠e0:=aB h2 ze;have P2:upd H1 e0 (.dK []) p1=some (.dK (jb (BH f))):=by rw[aA Pt];exact h2
     --what is walked
     obtain⟨a',V1,Sw,V2,V3,Uo⟩:∃a',(((f_ ((b.zip as).map λx=>((Sum.inl x.1.1:Key),V.ref x.2)) (Sum.inl (n:Int))).getD (.ref e0))=.ref a')/\Rd (upd H1 e0 (.dK [])) a' (.dK (jb (q_ b n)))/\(a'∈(br::as)\/H a'=none)/\a'≠br/\p1≠a':=by
      rcases B2.get n with⟨a,m,v,rd⟩|⟨v,em⟩
      ·exact⟨a,by rw[v];rfl,rd,.inl (o_ _ m),λz=>Np (z▸m),λz=>Aj.2 (z▸m)⟩
      ·refine⟨e0,by rw[v];rfl,.inl (by rw[ah,em];rfl),.inr Ik,λz=>?_,Pt⟩
       subst z;exact vb B1.rd ze
     refine⟨br,.int n,.ref e0,_,rfl,rfl,.inl (.inl ⟨_,Sum.inl (n:Int),B2.rd,rfl,rfl⟩),?_⟩;rw[V1];dsimp only[bw];show jo _ _ _ _ ([some (.ref br),some (.ref p1),some (.int n),some (.ref a'),e,g]:St) _;have ll:((q_ b n).map λx=>(V.int x.1,V.int x.2)).length=(q_ b n).length:=by simp
     refine dC (K:=K) (λo i σ H'=>∃c d,σ=[some (.ref br),some (.ref p1),some (.int n),some (.ref a'),c,d]/\H' a'=some (.av o (.dK (jb (q_ b n))))/\H' p1=some (.dK (jb (((q_ b n).take i).foldl J0 (BH f))))/\BR H' br b as/\Exc (br::as) H H') rfl (fC _) Sw (λo v hv D1 Pu=>?_) (λo i σ H' qQ=>by obtain⟨_,_,_,z,_⟩:=qQ;exact z) (λo σ H' qQ=>?_) (λo i σ H' w x y qQ hx hw=>?_)
     ·have V4:p1≠v:=aB P2 hv
      exact⟨_,_,rfl,ah,by rw[aA Uo,aA V4];exact P2,B2.walk Sw hv V3,X2.walk (fC _) Sw V2 hv Pu⟩
     ·obtain⟨c,d,z1,z2,z3,z4,z5⟩:=qQ
      rw[ll,Bk] at z3;exact⟨p1,_,_,_,_,_,z1,Mi,z3,iE (fZ f) _,hc.2,by rw[show(M'+1).toNat-(k+1)=n by omega];exact e5,z4,z5⟩
     ·obtain⟨c,d,z1,z2,z3,z4,z5⟩:=qQ
      subst z1;obtain⟨z,hz,ez⟩:=rQ hx;cases ez;obtain⟨pp,nn⟩:=z;generalize hT:((q_ b n).take i).foldl J0 (BH f)=T at z3;have Pn:((q_ b n).take (i+1)).foldl J0 (BH f)=J0 T (pp,nn):=by rw[gB J0 _ _ hz,hT]
      have hle:(J0 T (pp,nn)).length<=5000:=by rw[←Pn];exact qe (lS J0 Ij _ _ (i+1)) hc.2
      have Nm:bh T:=by rw[←hT];exact e9 _ (λt x h=>aS h _ _) _ _ (fZ f)
      have l1:=aG T pp nn;have V5:p1≠w:=aB z3 hw;have V6:a'≠w:=aB z2 hw;show uo _ _ ([some (.ref br),some (.ref p1),some (.int n),some (.ref a'),some (.int pp),some (.int nn)]:St) _;refine⟨.ref p1,rfl,.int pp,rfl,.int nn,rfl,?_⟩;dsimp only[du];show ox K [.ref p1,.int pp,.int nn] _ _ _;have Uq:upd H' w (.tup [V.int pp,V.int nn]) p1=some (.dK (jb T)):=by rw[aA V5];exact z3
      have Xq:(cn T pp nn).length<=5000:=hle;refine uD Uq Nm (by omega) ⟨_,_,rfl,by rw[aA (jt Uo),aA V6];exact z2,by rw[ah,Pn],?_,?_⟩
      ·refine z4.keep λa o ha z=>?_
       rw[aA (by
        rintro rfl;rcases ha with ha|ha
        ·exact Aj.1 ha
        ·exact Aj.2 ha),aA (aB z hw)]
       exact z
      ·exact(z5.new hw).put Uq (.inr Mi) (λxs z=>by cases z) λob v z=>by cases z
    ·rw[az hc] at e5;cases e5
 ·intro σ H Q Q' h k
  obtain⟨v,h1,d,kvs,h2,h3,h4⟩:=h;refine⟨v,h1,d,kvs,h2,h3,λl hl=>?_⟩;obtain⟨p,ys,y1,y2,y3,y4⟩:=h4 l hl;refine⟨p,ys,y1,y2,y3,λM hM V7=>?_⟩;obtain⟨i,e1,j,e2,z⟩:=y4 M hM V7;exact⟨i,e1,j,e2,k _ _ z⟩
end L2.Snd
namespace Py
theorem gD(b:List (Int×List (Int×Int)))(g p n:Int):(∃i T,b[i]?=some (g,T)/\(∀j y,j<i->b[j]?=some y->y.1≠g)/\jq b g p n=b.set i (g,cn T p n))\/(g∉b.map (·.1)/\jq b g p n=b++[(g,cn [] p n)]):=by
 induction b with
 |nil=>exact .inr ⟨by simp,rfl⟩
 |cons x b ih=>
  obtain⟨a,t⟩:=x;by_cases e:a=g
  ·subst e
   exact .inl ⟨0,t,rfl,λj y hj=>by omega,by rw[jq,bp rfl];rfl⟩
  ·rcases ih with⟨i,T,h1,h2,h3⟩|⟨h1,h2⟩
   ·refine .inl ⟨i+1,T,by simpa using h1,λj y hj hy=>?_,by rw[jq,az e,h3];rfl⟩
    cases j with
    |zero=>simp at hy;subst hy;exact e
    |succ j=>exact h2 j y (by omega) (by simpa using hy)
   ·refine .inr ⟨?_,by rw[jq,az e,h2];rfl⟩
    simp only[fu,oz,not_or];exact⟨λz=>e z.symm,h1⟩
end Py
namespace L2.Snd
open PySem PySem.Spec PyProof.Rows L2 Py
noncomputable abbrev BV(b:List (Int×List (Int×Int)))(as:List Addr):List (Key×V):=(b.zip as).map λx=>((Sum.inl x.1.1:Key),V.ref x.2)
theorem nC:∀{b:List (Int×List (Int×Int))}{as:List Addr}{i:Nat}{g:Int}{T:List (Int×Int)}{a:Addr},b[i]?=some (g,T)->as[i]?=some a->(∀j y,j<i->b[j]?=some y->y.1≠g)->f_ (BV b as) (Sum.inl g)=some (.ref a)
 |x::b,a'::as,0,g,T,a,h1,h2,_=>by
  simp at h1 h2;subst h1 h2;simp[BV,f_]
 |x::b,a'::as,i+1,g,T,a,h1,h2,h3=>by
  have e:¬(Sum.inl x.1:Key)=Sum.inl g:=λz=>h3 0 x (by omega) rfl (D9 z);have:=nC (b:=b) (as:=as) (i:=i) (g:=g) (T:=T) (a:=a) (by simpa using h1) (by simpa using h2) λj y hj hy=>h3 (j+1) y (by omega) (by simpa using hy);simp only[BV,f_,List.zip_cons_cons,fu,Bt,e,D8] at this⊢;exact this
 |[],_,_,_,_,_,h1,_,_=>by simp at h1
 |_::_,[],_,_,_,_,_,h2,_=>by simp at h2
theorem fD:∀{b:List (Int×List (Int×Int))}{as:List Addr}{g:Int},g∉b.map (·.1)->f_ (BV b as) (Sum.inl g)=none
 |[],_,_,_=>rfl
 |_::_,[],_,_=>rfl
 |x::b,a::as,g,h=>by
  simp only[fu,oz,not_or] at h;have e:¬(Sum.inl x.1:Key)=Sum.inl g:=λz=>h.1 (D9 z).symm;have:=fD (b:=b) (as:=as) h.2;simp only[BV,f_,List.zip_cons_cons,fu,Bt,e,D8] at this⊢;exact this
theorem uE:∀{B:List (Int×List (Int×Int))}{as:List Addr}{j:Nat}{g:Int}{T T':List (Int×Int)},B[j]?=some (g,T)->BV B as=BV (B.set j (g,T')) as
 |x::B,[],j,g,T,T',_=>by cases j<;>rfl
 |x::B,a::as,0,g,T,T',h=>by
  simp at h;subst h;rfl
 |x::B,a::as,j+1,g,T,T',h=>by
  have:=uE (as:=as) (T':=T') (show B[j]?=some (g,T) by simpa using h);simp only[BV,DL,List.zip_cons_cons,fu] at this⊢;rw[this]
 |[],_,_,_,_,_,h=>by simp at h
structure BW(H:Hp)(br:Addr)(b:List (Int×List (Int×Int)))(as:List Addr):Prop where
 len:as.length=b.length
 at_:H br=some (.dK (BV b as))
 Ax:∀(i:Nat) x a,b[i]?=some x->as[i]?=some a->H a=some (.dK (jb x.2))/\bh x.2
 nd:as.Nodup
 nb:br∉as
theorem BW.br{H:Hp}{br:Addr}{b:List (Int×List (Int×Int))}{as:List Addr}(h:BW H br b as):BR H br b as:=by
 refine⟨h.len,.inl h.at_,λx hx=>?_⟩;obtain⟨i,hi,e⟩:=List.mem_iff_getElem.mp hx;rw[List.getElem_zip] at e;subst e;exact .inl (h.Ax i _ _ (uc _) (uc _)).1
theorem BW.keep{H H':Hp}{br:Addr}{b:List (Int×List (Int×Int))}{as:List Addr}(h:BW H br b as)(e:∀a o,(a=br\/a∈as)->H a=some o->H' a=some o):BW H' br b as:=
 ⟨h.len,e br _ (.inl rfl) h.at_,λi x a h1 h2=>⟨e a _ (.inr (FP h2)) (h.Ax i x a h1 h2).1,(h.Ax i x a h1 h2).2⟩,h.nd,h.nb⟩
noncomputable def Mj(K:PySem.W.Frag):Sp:=λvs H Q _=>∃c kvs t,vs=[.ref c]/\Rd H c (.dN kvs)/\TN K H kvs t/\t.length<=5000/\∀br as H',H br=none->(∀a∈as,H a=none)->BW H' br (xu t) as->Exc [c] H H'->Q (.ref br) H'
noncomputable def Il(K:PySem.W.Frag)(i:Int)(t:TE):TE:=za (Dm K) t (tC (.int i))
noncomputable def Pw(K:PySem.W.Frag)(E:St->XK):TS:=
 ke (jn vy (bw 1)) (ke (jo (t_ (CB tu (bu 0))) (Dz K 2 3) (uo (lq (ox K) E (bo (Me EL (bu 1) (bo (Il K 1 (Il K 0 (bu 2))) (bo vy du))) (bo (Il K 1 (bu 2)) (bo (bu 3) du)))))) (Cn (bu 1)))
theorem uF{K:PySem.W.Frag}(h:TN K H kvs t){i:Nat}(e:(kvs.map λx=>(V.ref x.2.1,x.2.2))[i]?=some (x,y)):
  ∃k n b,t[i]?=some (k,n)/\x=.ref b/\y=.int n/\ou K H (ig k) (.ref b):=by
 obtain⟨z,hz,ez⟩:=rQ e;cases ez;obtain⟨w,hw,h1,h2⟩:=Paired.Md h.pr hz;refine⟨w.1,w.2,z.2.1,hw,rfl,h2,?_⟩;rw[←h1];exact h.ks z (FP hz)
theorem pK{K:PySem.W.Frag}(h:ou K H (ig k) (.ref b)):∃s r,ju K H b [.ref s,.int k.2]/\ju K H s [r,.int k.1.2]/\ou K H (DA k.1) (.ref s):=by
 rw[ig,ou] at h;obtain⟨a,vs,e,q,hl⟩:=h;cases e;simp only[ku] at hl;obtain⟨v,r,rfl,h1,v2,r2,rfl,h2,rfl⟩:=hl;have Kn:v2=.int k.2:=by rw[ou] at h2;exact h2
 subst Kn;have QV:=h1;rw[DA,ou] at h1;obtain⟨s,vs,rfl,q2,K9⟩:=h1;simp only[ku] at K9;obtain⟨u,r',rfl,g1,u2,Xr,rfl,g2,rfl⟩:=K9;have V8:u2=.int k.1.2:=by rw[ou] at g2;exact g2
 subst V8;exact⟨s,u,q,q2,QV⟩
theorem lU:∀(t:List (Sk×Int))(f:List (Int×List (Int×Int))),(∀x∈f,x.2.length+t.length<=5000)->t.length<=5000->∀x∈t.foldl (λf x=>jq f x.1.1.2 x.1.2 x.2) f,x.2.length<=5000
 |[],f,h,_,x,hx=>by have:=h x hx;simpa using this
 |y::t,f,h,hl,x,hx=>by
  refine lU t _ (λz hz=>?_) (by simp at hl;omega) x hx;simp only[gm] at h hl;change z∈jq f y.1.1.2 y.1.2 y.2 at hz;rcases gD f y.1.1.2 y.1.2 y.2 with⟨i,T,h1,_,h3⟩|⟨_,h2⟩
  ·rw[h3] at hz
   rcases List.mem_or_eq_of_mem_set hz with hz|hz
   ·have:=h z hz;omega
   ·subst hz
    have:=h _ (FP h1);have:=aG T y.1.2 y.2;show(cn T y.1.2 y.2).length+_<=_;simp only at*;omega
  ·rw[h2] at hz
   rcases List.mem_append.mp hz with hz|hz
   ·have:=h z hz;omega
   ·rw[List.mem_singleton.mp hz]
    show(cn [] _ _).length+_<=_;simp only[cn,gm,ny];omega
theorem Im{K:PySem.W.Frag}(h:Mj K vs H Q E'):
  Pw K E {nx:=λ_ H'=>Q .cx H',rt:=Q} (start ["counts","found","state","number"] vs) H:=by
 obtain⟨c,kvs,t,rfl,hr,hT,hl,q⟩:=h;have hs:(5000:Nat)<sizeLine:=by rw[D_];decide
 intro br Np;dsimp only[bw,ke];show jo _ _ _ _ ([some (.ref c),some (.ref br),none,none]:St) (upd H br (.dK []));have Sy:br≠c:=by rintro rfl;exact vb hr Np
 have JW:Rd (upd H br (.dK [])) c (.dN kvs):=dD hr λo e=>by rw[aA (jt Sy)];exact e
 have x1:Exc [c] H (upd H br (.dK [])):=(Exc.refl [c] H).new Np;have ll:(kvs.map λx=>(V.ref x.2.1,x.2.2)).length=t.length:=by rw[dz];exact Gj hT.pr
 refine dC (K:=K) (λo i σ H'=>∃as a b,σ=[some (.ref c),some (.ref br),a,b]/\H' c=some (.av o (.dN kvs))/\BW H' br (xu (t.take i)) as/\(∀a∈as,H a=none)/\Exc [c] H H') rfl (.n kvs) JW (λo v hv D1 Pu=>?_) (λo i σ H' qQ=>by obtain⟨_,_,_,_,z,_⟩:=qQ;exact z) (λo σ H' qQ=>?_) (λo i σ H' w x y qQ hx hw=>?_)
 ·have V9:br≠v:=aB (by rw[ah]:upd H br (.dK []) br=_) hv
  refine⟨[],none,none,rfl,ah,⟨rfl,?_,λi x a h=>by simp[xu] at h,Bv,by simp⟩,λa ha=>by simp at ha,x1.walk (.n kvs) JW (.inl (by simp)) hv Pu⟩;rw[aA Sy,aA V9,ah];rfl
 ·obtain⟨as,a,b,e1,e2,e3,e4,e5⟩:=qQ
  rw[ll,Bk] at e3;subst e1;exact⟨.ref br,rfl,q br as H' Np e4 e3 e5⟩
 ·obtain⟨as,a,b,e1,e2,e3,e4,e5⟩:=qQ
  subst e1;have Sz:TN K H' kvs t:=hT.kp e5.kp;obtain⟨k,n,kb,hk,rfl,rfl,Px⟩:=uF Sz hx;obtain⟨s,r,q1,q2,_⟩:=pK Px;have SA:c≠w:=aB e2 hw;have QI:Kp H' (upd H' w (.tup [V.ref kb,V.int n])):=((Exc.refl [] H').new hw).kp;have bt:xu (t.take (i+1))=jq (xu (t.take i)) k.1.2 k.2 n:=gB _ t [] hk;generalize hB:xu (t.take i)=B at e3 bt;have small:∀x∈jq B k.1.2 k.2 n,x.2.length<=5000:=by
   rw[←bt];exact lU (t.take (i+1)) [] (λx hx=>by simp at hx) (by rw[Bj];omega)
  have V_:B.length<=5000:=by
   have:=m6 (t.take i) [];rw[show(t.take i).foldl (λf x=>jq f x.1.1.2 x.1.2 x.2) []=B from hB] at this;rw[Bj] at this;simp at this;omega
  show uo _ _ ([some (.ref c),some (.ref br),some (.ref kb),some (.int n)]:St) _;have Pz:BW (upd H' w (.tup [V.ref kb,V.int n])) br B as:=e3.keep λa o _ z=>by rw[aA (aB z hw)];exact z
  refine⟨.ref br,rfl,⟨br,_,_,rfl,.k _,.inl Pz.at_⟩,.ref kb,rfl,kb,_,0,.ref s,rfl,rfl,QI.JE q1,rfl,s,_,1,.int k.1.2,rfl,rfl,QI.JE q2,rfl,λe0 ze=>?_⟩;dsimp only[du];generalize J2:upd H' w (.tup [V.ref kb,V.int n])=H1 at Pz ze QI;have X1:Exc [c] H H1:=by rw[←J2];exact e5.new hw
  have c1:H1 c=some (.av o (.dN kvs)):=by rw[←J2,aA SA];exact e2
  have Ik:H e0=none:=X1.free (by
   intro z;rw[List.mem_singleton.mp z,c1] at ze;cases ze) ze
  have SD:br≠e0:=aB Pz.at_ ze;have Ur:c≠e0:=aB c1 ze;have W2:BW (upd H1 e0 (.dK [])) br B as:=Pz.keep λa o _ z=>by rw[aA (aB z ze)];exact z
  have X2:Exc [c] H (upd H1 e0 (.dK [])):=X1.new ze;have Us:Kp H' (upd H1 e0 (.dK [])):=QI.trans ((Exc.refl [] H1).new ze).kp;have c2:upd H1 e0 (.dK []) c=some (.av o (.dN kvs)):=by rw[aA Ur];exact c1
  have V':(BV B as).length<=5000:=by
   show((B.zip as).map _).length<=5000;rw[dz,List.length_zip];omega
  have nT:∀(xs:List V)(kv:List (Key×V)),HO.dK kv≠.tup xs:=λ_ _ z=>by cases z
  have nF:∀(ob:Obj)(v:HO)(kv:List (Key×V)),HO.dK kv≠.av ob v:=λ_ _ _ z=>by cases z
  --the table and its place
  have last:∀(a:Addr)(T:List (Int×Int))(H2:Hp),Kp H' H2->H2 a=some (.dK (jb T))->bh T->T.length<sizeLine->
    (∃as',BW (upd H2 a (.dK (jb (cn T k.2 n)))) br (jq B k.1.2 k.2 n) as'/\(∀a∈as',H a=none)/\upd H2 a (.dK (jb (cn T k.2 n))) c=some (.av o (.dN kvs))/\Exc [c] H (upd H2 a (.dK (jb (cn T k.2 n)))))->
    bo (Il K 1 (bu 2)) (bo (bu 3) du) [some (.ref c),some (.ref br),some (.ref kb),some (.int n)] H2 λxs H3=>ox K (.ref a::xs) H3 (λ_ H4=>∃as a b,([some (.ref c),some (.ref br),some (.ref kb),some (.int n)]:St)=[some (.ref c),some (.ref br),a,b]/\H4 c=some (.av o (.dN kvs))/\BW H4 br (xu (t.take (i+1))) as/\(∀a∈as,H a=none)/\Exc [c] H H4) (E [some (.ref c),some (.ref br),some (.ref kb),some (.int n)]):=by
   rintro a T H2 SE ha Nm Wa ⟨as',z1,z2,z3,z4⟩;refine⟨.ref kb,rfl,kb,_,1,.int k.2,rfl,rfl,SE.JE q1,rfl,.int n,rfl,?_⟩;dsimp only[du];exact uD ha Nm Wa ⟨as',_,_,rfl,z3,by rw[bt];exact z1,z2,z4⟩
  refine⟨br,BV B as,Sum.inl k.1.2,.ref e0,rfl,rfl,W2.at_,by omega,λv hv=>?_,λhv=>?_⟩
  ·rcases gD B k.1.2 k.2 n with⟨j,T,h1,h2,h3⟩|⟨h1,_⟩
   ·have hj:j<as.length:=by rw[W2.len];exact(List.getElem?_eq_some_iff.mp h1).1
    have ha:as[j]?=some as[j]:=uc hj;rw[nC h1 ha h2] at hv;cases hv;obtain⟨i1,i2⟩:=W2.Ax j _ _ h1 ha;have mem:as[j]∈as:=yn hj;have Xs:(cn T k.2 n).length<=5000:=small (k.1.2,cn T k.2 n) (by rw[h3];exact List.mem_iff_getElem?.mpr ⟨j,by rw[Cg (by have:=(List.getElem?_eq_some_iff.mp h1).1;exact this)]⟩);have l1:=aG T k.2 n;have Bp:br≠as[j]:=λz=>W2.nb (z▸mem);refine last as[j] T _ Us i1 i2 (by omega) ⟨as,⟨by rw[h3,Jh];exact W2.len,?_,λi' x' a' g1 g2=>?_,W2.nd,W2.nb⟩,e4,?_,?_⟩
    ·rw[aA Bp,W2.at_,h3]
     congr 2
     exact uE h1
    ·rw[h3] at g1
     by_cases hm:j=i'
     ·subst hm
      rw[Cg (List.getElem?_eq_some_iff.mp h1).1] at g1;cases g1;rw[ha] at g2;cases g2;exact⟨ah,aS i2 _ _⟩
     ·rw[AW hm] at g1
      obtain⟨y1,y2⟩:=W2.Ax i' x' a' g1 g2;refine⟨?_,y2⟩;rw[aA (λz=>hm ?_)]
      ·exact y1
      ·subst z
       exact(List.getElem?_inj hj W2.nd).mp (ha.trans g2.symm)
    ·rw[aA (λz=>?_)]
     ·exact c2
     ·rw[←z,c2] at i1;cases i1
    ·exact X2.put i1 (.inr (e4 _ mem)) (λxs=>nT xs _) λob v=>nF ob v _
   ·rw[fD h1] at hv;cases hv
  ·rcases gD B k.1.2 k.2 n with⟨j,T,h1,h2,h3⟩|⟨h1,h2⟩
   ·have hj:j<as.length:=by rw[W2.len];exact(List.getElem?_eq_some_iff.mp h1).1
    rw[nC h1 (uc hj) h2] at hv;cases hv
   ·have SF:putK (BV B as) (Sum.inl k.1.2) (V.ref e0)=BV (B++[(k.1.2,cn [] k.2 n)]) (as++[e0]):=by
     have EI:((BV B as).any λkv=>decide (kv.1=(Sum.inl k.1.2:Key)))=false:=by
      rw[List.any_eq_false];intro kv Px;obtain⟨z,hz,rfl⟩:=List.mem_map.mp Px;have:=(List.of_mem_zip hz).1;simp only[DN];intro e;exact h1 (List.mem_map.mpr ⟨z.1,this,D9 e⟩)
     unfold putK;rw[EI,az jw];show _=((B++_).zip (as++_)).map _;rw[List.zip_append (by rw[W2.len]),Ac];rfl
    have ER:∀a∈as,a≠e0:=λa ha z=>by
     subst z;obtain⟨j,hj,e⟩:=List.mem_iff_getElem.mp ha;have Qt:j<B.length:=by rw[←W2.len];exact hj
     have:=(Pz.Ax j _ _ (uc Qt) (by rw[uc hj,e])).1;rw[ze] at this;cases this
    have PB:upd (upd H1 e0 (.dK [])) br (.dK (putK (BV B as) (Sum.inl k.1.2) (V.ref e0))) e0=some (.dK (jb [])):=by rw[aA (jt SD),ah];rfl
    have Wb:∀a∈as,a≠br:=λa ha z=>W2.nb (z▸ha);have X3:Exc [c] H (upd (upd H1 e0 (.dK [])) br (.dK (putK (BV B as) (Sum.inl k.1.2) (V.ref e0)))):=X2.put W2.at_ (.inr Np) (λxs=>nT xs _) λob v=>nF ob v _;have SE:Kp H' (upd (upd H1 e0 (.dK [])) br (.dK (putK (BV B as) (Sum.inl k.1.2) (V.ref e0)))):=Us.trans ((Exc.refl [br] _).put W2.at_ (.inl (by simp)) (λxs=>nT xs _) λob v=>nF ob v _).kp;refine last e0 [] _ SE PB Bv (by show 0<sizeLine;omega) ⟨as++[e0],⟨by rw[h2,rj,rj,W2.len];rfl,?_,λi' x' a' g1 g2=>?_,?_,?_⟩,λa ha=>?_,?_,?_⟩
    ·rw[aA SD,ah,h2,SF]
    ·rw[h2] at g1
     by_cases hm:i'<B.length
     ·rw[De hm] at g1
      rw[De (by rw[W2.len];exact hm)] at g2;obtain⟨y1,y2⟩:=W2.Ax i' x' a' g1 g2;have Ut:=FP g2;exact⟨by rw[aA (ER _ Ut),aA (Wb _ Ut)];exact y1,y2⟩
     ·have M_:i'=B.length:=by
       have:=(List.getElem?_eq_some_iff.mp g1).1;simp at this;omega
      subst M_;rw[Dd (fm _),Nat.sub_self] at g1;rw[Dd (by rw[W2.len];exact fm _),W2.len,Nat.sub_self] at g2;cases g1;cases g2;exact⟨ah,aS (t:=[]) Bv _ _⟩
    ·rw[List.nodup_append]
     exact⟨W2.nd,by simp,λa ha b hb=>by rw[List.mem_singleton.mp hb];exact ER a ha⟩
    ·intro z
     rcases List.mem_append.mp z with z|z
     ·exact W2.nb z
     ·exact SD (List.mem_singleton.mp z)
    ·rcases List.mem_append.mp ha with z|z
     ·exact e4 a z
     ·rw[List.mem_singleton.mp z];exact Ik
    ·rw[aA Ur,aA (λz=>Sy z.symm)];exact c2
    ·exact X3.put PB (.inr Ik) (λxs=>nT xs _) λob v=>nF ob v _
end L2.Snd
namespace Py
theorem jO:∀{xs:List D}{r:List Int},gy xs=some r->xs=r.map .int
 |[],r,h=>by simp[gy] at h;subst h;rfl
 |x::xs,r,h=>by
  cases x with
  |int i=>
   rw[gy] at h
   cases e:gy xs with
   |none=>rw[e] at h;cases h
   |some q=>rw[e] at h;cases h;rw[jO e];rfl
  |_=>simp[gy] at h
theorem jP:∀{xs:List D}{r:List (List Int)},ft xs=some r->xs=r.map oq
 |[],r,h=>by simp[ft] at h;subst h;rfl
 |x::xs,r,h=>by
  cases x with
  |tup ys=>
   rw[ft] at h
   cases e1:gy ys with
   |none=>rw[e1] at h;cases h
   |some q=>
    cases e:ft xs with
    |none=>rw[e1,e] at h;cases h
    |some q'=>rw[e1,e] at h;cases h;rw[jP e,jO e1];rfl
  |_=>simp[ft] at h
theorem fE(h:m_ d=some s):d=fk s:=by
 unfold m_ at h;split at h
 ·rename_i rows g
  cases e:ft rows with
  |none=>rw[e] at h;cases h
  |some r=>rw[e] at h;cases h;rw[jP e];rfl
 ·cases h
noncomputable def CC(Φ:Nat->List D->R D)(f:Nat)(s:Sx)(w:Int):Option Sx:=(Nb (Φ f [fk s,.int 0,.int w])).bind m_
theorem zG(h:CC Φ f s w=some s'):Φ f [fk s,.int 0,.int w]=.ok (fk s'):=by
 unfold CC at h
 cases e:Φ f [fk s,.int 0,.int w] with
 |ok d=>rw[e] at h;rw[fE (s:=s') h]
 |exc c=>rw[e] at h;cases h
 |bad=>rw[e] at h;cases h
theorem uG:∀(t f t':List (Sk×Int)),EC so t f=some t'->f.length<=t'.length
 |[],f,t',h=>by cases h;exact fm _
 |x::t,f,t',h=>by
  rw[EC] at h
  cases e0:so x.1.1 0 with
  |none=>rw[e0] at h;cases h
  |some s0=>
   cases e1:so x.1.1 1 with
   |none=>rw[e0,e1] at h;cases h
   |some s1=>
    rw[e0,e1] at h;have:=uG t _ t' h;have a:=aG f (s0,x.1.2+1) x.2;have b:=aG (cn f (s0,x.1.2+1) x.2) (s1,x.1.2+ -1) x.2;omega
end Py
namespace L2.Snd
open PySem PySem.Spec PyProof.Rows L2 Py
section
variable{K:PySem.W.Frag}{cl:Nat->Addr}{F:Addr->Prop}{H:Hp}
theorem ints_rep:∀{r:List Int}{vs:List V},ku K H (r.map .int) vs↔au K cl F H (r.map D.int) vs
 |[],vs=>by simp[ku,au]
 |i::r,vs=>by
  rw[fu,fu,ku,au];constructor
  ·rintro⟨v,q,rfl,h1,h2⟩
   exact⟨v,q,rfl,by rw[ou] at h1;rw[Rep];exact h1,ints_rep.mp h2⟩
  ·rintro⟨v,q,rfl,h1,h2⟩
   exact⟨v,q,rfl,by rw[Rep] at h1;rw[ou];exact h1,ints_rep.mpr h2⟩
theorem C5:ou K H (yc r) v↔Rep K cl F H (oq r) v:=by
 rw[yc,ou,oq,Rep];constructor
 ·rintro⟨a,vs,e,q,h⟩;exact⟨a,vs,e,q,ints_rep.mp h⟩
 ·rintro⟨a,vs,e,q,h⟩;exact⟨a,vs,e,q,(ints_rep (cl:=cl) (F:=F)).mpr h⟩
theorem vc:∀{R:List (List Int)}{vs:List V},ku K H (R.map yc) vs↔au K cl F H (R.map oq) vs
 |[],vs=>by simp[ku,au]
 |r::R,vs=>by
  rw[fu,fu,ku,au];constructor
  ·rintro⟨v,q,e,h1,h2⟩;exact⟨v,q,e,C5.mp h1,vc.mp h2⟩
  ·rintro⟨v,q,e,h1,h2⟩;exact⟨v,q,e,(C5 (cl:=cl) (F:=F)).mpr h1,vc.mpr h2⟩
theorem we:ou K H (DA s) v↔Rep K cl F H (fk s) v:=by
 rw[DA,ou,fk,Rep];simp only[ku,au,ou,Rep];constructor
 ·rintro⟨a,vs,e,q,v1,r1,e1,⟨b,ws,e2,q2,h⟩,v2,r2,e3,e4,e5⟩
  exact⟨a,vs,e,q,v1,r1,e1,⟨b,ws,e2,q2,vc.mp h⟩,v2,r2,e3,e4,e5⟩
 ·rintro⟨a,vs,e,q,v1,r1,e1,⟨b,ws,e2,q2,h⟩,v2,r2,e3,e4,e5⟩
  exact⟨a,vs,e,q,v1,r1,e1,⟨b,ws,e2,q2,(vc (cl:=cl) (F:=F)).mpr h⟩,v2,r2,e3,e4,e5⟩
end
theorem rT{K:PySem.W.Frag}(h:ou K H (DA s) v)(e:CC Φ f s w=some s')(q:∀v' H',iw H H'->ou K H' (DA s') v'->Q v' H'):uy K cl Φ f [v,.int 0,.int w] H Q E:=by
 refine⟨λ_=>False,[fk s,.int 0,.int w],λ_ z=>z.elim,.cons (we.mp h) (.cons (by simp[Rep]) (.cons (by simp[Rep]) .nil)),?_⟩;rw[zG e];exact λF' v' H' u r=>q v' H' u.same (we.mpr r)
noncomputable def CD(K:PySem.W.Frag)(Φ:Nat->List D->R D)(f:Nat):Sp:=λvs H Q _=>∃c kvs t t',vs=[.ref c]/\Rd H c (.dN kvs)/\TN K H kvs t/\EC (CC Φ f) t []=some t'/\t'.length<=5000/\
 ∀fd EM H',H fd=none->H' fd=some (.dN EM)->TN K H' EM t'->bh t'->Exc [c] H H'->Q (.ref fd) H'
noncomputable def Mk:TE:=λ_ H Q=>∀p,H p=none->Q (.ref p) (upd H p (.dN []))
noncomputable def ES(K:PySem.W.Frag)(cl:Nat->Addr)(Φ:Nat->List D->R D)(f:Nat)(sh:V)(E1 E2:St->XK):TS:=
 ke (jn Mk (bw 1)) (ke (jo (t_ (CB tu (bu 0))) (Dz K 2 3) (jo (Eh K (Ei (bo (tC (.int 0)) (bo (tC (.int 1)) du)))) (bw 4)
  (uo (lq (ox K) E2 (bo (bu 1) (bo (Ei (bo (lq (uy K cl Φ f) E1 (bo (Il K 0 (bu 2)) (bo (tC (.int 0)) (bo (bu 4) du)))) (bo (Ec (Il K 1 (bu 2)) (za (Dm K) (tC sh) (bu 4))) du))) (bo (bu 3) du))))))) (Cn (bu 1)))
theorem Exc.same(a:Exc ds H H1)(s:iw H1 H2):Exc ds H H2:=a.trans ⟨⟨λx xs e=>s x _ e,λx o u e=>s x _ e⟩,λx o _ e=>s x o e⟩
theorem v5{K:PySem.W.Frag}(Rv:∀H,ju K H sh [.int 1,.int (-1)])(h:CD K Φ f vs H Q E'):
  ES K cl Φ f (.ref sh) E1 E2 {nx:=λ_ H'=>Q .cx H',rt:=Q} (start ["counts","found","state","number","way"] vs) H:=by
 obtain⟨c,kvs,t,t',rfl,hr,hT,vw,hl,q⟩:=h;have hs:(5000:Nat)<sizeLine:=by rw[D_];decide
 intro fd F9;dsimp only[bw,ke];show jo _ _ _ _ ([some (.ref c),some (.ref fd),none,none,none]:St) (upd H fd (.dN []));have SG:fd≠c:=by rintro rfl;exact vb hr F9
 have JW:Rd (upd H fd (.dN [])) c (.dN kvs):=dD hr λo e=>by rw[aA (jt SG)];exact e
 have x1:Exc [c] H (upd H fd (.dN [])):=(Exc.refl [c] H).new F9;have ll:(kvs.map λx=>(V.ref x.2.1,x.2.2)).length=t.length:=by rw[dz];exact Gj hT.pr
 refine dC (K:=K) (λo i σ H'=>∃kv g a b d,σ=[some (.ref c),some (.ref fd),a,b,d]/\H' c=some (.av o (.dN kvs))/\H' fd=some (.dN kv)/\TN K H' kv g/\bh g/\EC (CC Φ f) (t.drop i) g=some t'/\Exc [c] H H') rfl (.n kvs) JW (λo v hv D1 Pu=>?_) (λo i σ H' qQ=>by obtain⟨_,_,_,_,_,_,z,_⟩:=qQ;exact z) (λo σ H' qQ=>?_) (λo i σ H' w x y qQ hx hw=>?_)
 ·have Ss:fd≠v:=aB (by rw[ah]:upd H fd (.dN []) fd=_) hv
  exact⟨[],[],_,_,_,rfl,ah,by rw[aA SG,aA Ss,ah],⟨.nil,λx hx=>by cases hx⟩,Bv,vw,x1.walk (.n kvs) JW (.inl (by simp)) hv Pu⟩
 ·obtain⟨kv,g,a,b,d,e1,e2,e3,e4,e5,e6,e7⟩:=qQ
  rw[ll,List.drop_length] at e6;cases e6;subst e1;exact⟨.ref fd,rfl,q fd kv H' F9 e3 e4 e5 e7⟩
 ·obtain⟨kv,g,a,b,d,e1,e2,e3,e4,e5,e6,e7⟩:=qQ
  subst e1;have Sz:TN K H' kvs t:=hT.kp e7.kp;obtain⟨k,n,kb,hk,rfl,rfl,Px⟩:=uF Sz hx;obtain⟨hi,Wc⟩:=List.getElem?_eq_some_iff.mp hk;rw[MW hi,Wc,EC] at e6
  cases f0:CC Φ f k.1 0 with
  |none=>rw[f0] at e6;cases e6
  |some s0=>
  cases f1:CC Φ f k.1 1 with
  |none=>rw[f0,f1] at e6;cases e6
  |some s1=>
  rw[f0,f1] at e6;change EC (CC Φ f) (t.drop (i+1)) (cn (cn g (s0,k.2+1) n) (s1,k.2+ -1) n)=some t' at e6;have lg:=uG _ _ _ e6;have l1:=aG g (s0,k.2+1) n;have l2:=aG (cn g (s0,k.2+1) n) (s1,k.2+ -1) n;have SA:c≠w:=aB e2 hw;have Su:fd≠w:=aB e3 hw;show jo _ _ _ _ ([some (.ref c),some (.ref fd),some (.ref kb),some (.int n),d]:St) _;generalize J2:upd H' w (.tup [V.ref kb,V.int n])=H1;have X1:Exc [c] H H1:=by rw[←J2];exact e7.new hw
  have Uu:Kp H' H1:=by rw[←J2];exact((Exc.refl [] H').new hw).kp
  have c1:H1 c=some (.av o (.dN kvs)):=by rw[←J2,aA SA];exact e2
  have Uv:H1 fd=some (.dN kv):=by rw[←J2,aA Su];exact e3
  have SH:ou K H1 (ig k) (.ref kb):=Uu.nk _ Px;refine nA (K:=K) ?_ ?_
  ·refine⟨by show 2<=sizeLine;omega,λtp QJ=>⟨tp,[.int 0,.int 1],rfl,.inl (.inl ah),λj σ H2=>∃kv d,σ=[some (.ref c),some (.ref fd),some (.ref kb),some (.int n),d]/\H2 c=some (.av o (.dN kvs))/\H2 fd=some (.dN kv)/\H2 tp=some (.tup [.int 0,.int 1])/\
    TN K H2 kv (if j=0 then g else if j=1 then cn g (s0,k.2+1) n else cn (cn g (s0,k.2+1) n) (s1,k.2+ -1) n)/\Kp H1 H2/\Exc [c] H H2,?_,λ_ _ _ qQ=>by obtain⟨_,_,_,_,_,z,_⟩:=qQ;exact .inl (.inl z),λσ H2 qQ=>?_,λj σ H2 x qQ hx=>?_⟩⟩
   ·have Wd:c≠tp:=aB c1 QJ
    have We:fd≠tp:=aB Uv QJ;have E0:=(Exc.refl [] H1).new (o:=.tup [.int 0,.int 1]) QJ;exact⟨kv,d,rfl,by rw[aA Wd];exact c1,by rw[aA We];exact Uv,ah,(e4.kp Uu).kp E0.kp,E0.kp,X1.new QJ⟩
   ·obtain⟨kv,d,z1,z2,z3,_,z4,_,z6⟩:=qQ
    exact⟨kv,_,_,_,_,z1,z2,z3,z4,aS (aS e5 _ _) _ _,e6,z6⟩
   ·obtain⟨kv,d,z1,z2,z3,zt,z4,z5,z6⟩:=qQ
    subst z1;have SI:ou K H2 (ig k) (.ref kb):=z5.nk _ SH;obtain⟨sa,rr,q1,q2,q3⟩:=pK SI
    --one way
    have one:∀(wy:Int)(s':Sx)(sg:Int)(G:List (Sk×Int)),CC Φ f k.1 wy=some s'->(GR [V.int 1,V.int (-1)] wy=some (.int sg))->TN K H2 kv G->bh G->(cn G (s',k.2+sg) n).length<=5000->
      ∀(R:Hp->Prop),(∀J3 H3,H3 c=some (.av o (.dN kvs))->H3 fd=some (.dN J3)->H3 tp=some (.tup [.int 0,.int 1])->TN K H3 J3 (cn G (s',k.2+sg) n)->Kp H1 H3->Exc [c] H H3->R H3)->
      lq (ox K) E2 (bo (bu 1) (bo (Ei (bo (lq (uy K cl Φ f) E1 (bo (Il K 0 (bu 2)) (bo (tC (.int 0)) (bo (bu 4) du)))) (bo (Ec (Il K 1 (bu 2)) (za (Dm K) (tC (.ref sh)) (bu 4))) du))) (bo (bu 3) du))) ([some (.ref c),some (.ref fd),some (.ref kb),some (.int n),some (.int wy)]:St) H2 (λ_ H3=>R H3):=by
     intro wy s' sg G Wf F_ hG Wg Xu R hR;refine⟨.ref fd,rfl,.ref kb,rfl,kb,_,0,.ref sa,rfl,rfl,q1,rfl,.int wy,rfl,?_⟩;dsimp only[du];refine rT (cl:=cl) q3 Wf λv' H3 sm Wh=>?_;have FZ:ju K H3 kb [.ref sa,.int k.2]:=by
      rcases q1 with(h|⟨o,h⟩)|h
      ·exact .inl (.inl (sm _ _ h))
      ·exact .inl (.inr ⟨o,sm _ _ h⟩)
      ·exact .inr h
     refine⟨.ref kb,rfl,kb,_,1,.int k.2,rfl,rfl,FZ,rfl,.int wy,rfl,sh,_,wy,.int sg,rfl,rfl,Rv _,F_,k.2,sg,rfl,rfl,?_⟩;refine⟨by show 2<=sizeLine;omega,λkp SJ=>⟨.int n,rfl,?_⟩⟩;dsimp only[du];have E3:Exc [] H2 H3:=(Exc.refl [] H2).same sm;have E4:Exc [] H2 (upd H3 kp (.tup [v',.int (k.2+sg)])):=E3.new SJ;have fz:H3 fd=some (.dN kv):=sm _ _ z3;have Wi:fd≠kp:=aB fz SJ;have QK:upd H3 kp (.tup [v',.int (k.2+sg)]) fd=some (.dN kv):=by rw[aA Wi];exact fz
     have Ew:ou K (upd H3 kp (.tup [v',.int (k.2+sg)])) (ig (s',k.2+sg)) (.ref kp):=by
      rw[ig,ou];refine⟨kp,_,rfl,.inl (.inl ah),?_⟩;simp only[ku];exact⟨_,_,rfl,((Exc.refl [] H3).new SJ).kp.nk _ Wh,_,_,rfl,by rw[ou],rfl⟩
     have l3:=aG G (s',k.2+sg) n;refine add_n QK (hG.kp E4.kp) Wg Ew (by omega) λJ3 SK=>hR J3 _ ?_ ah ?_ (SK.kp ?_) ?_ ?_
     ·rw[aA (jt SG)];exact E4.ot c _ (by simp) z2
     ·rw[aA (by rintro rfl;rw[z3] at zt;cases zt)];exact E4.ot tp _ (by simp) zt
     ·exact((Exc.refl [fd] _).put QK (.inl (by simp)) (λxs z=>by cases z) λob v z=>by cases z).kp
     ·exact z5.trans (E4.kp.trans ((Exc.refl [fd] _).put QK (.inl (by simp)) (λxs z=>by cases z) λob v z=>by cases z).kp)
     ·exact(z6.trans (E4.mono λx hx=>by cases hx)).put QK (.inr F9) (λxs z=>by cases z) λob v z=>by cases z
    have hj:j=0\/j=1:=by
     have:=(List.getElem?_eq_some_iff.mp hx).1;simp only[gm,ny] at this;omega
    rcases hj with rfl|rfl
    ·cases hx
     simp only[b_] at z4;exact one 0 s0 1 g f0 rfl z4 e5 (by omega) _ λJ3 H3 y1 y2 y3 y4 y5 y6=>⟨J3,_,rfl,y1,y2,y3,by simpa using y4,y5,y6⟩
    ·cases hx
     simp only[b_,show¬((1:Nat)=0) by decide,df] at z4;exact one 1 s1 (-1) _ f1 rfl z4 (aS e5 _ _) (by omega) _ λJ3 H3 y1 y2 y3 y4 y5 y6=>⟨J3,_,rfl,y1,y2,y3,by simpa using y4,y5,y6⟩
  ·intro σ H Q Q' h k
   exact⟨h.1,λp hp=>k _ _ (h.2 p hp)⟩
end L2.Snd
namespace L2
open PySem PySem.Spec PyProof.Rows
section
variable{prog:Program}{w:World}{K:Type}[DecidableEq K]{knd:HeapKind prog w K}{A:Around}{E:Value->Shared->Prop}{s:Shared}{env:Env}
theorem zH
  (h:wpAny (model prog w) A (evalPairs (pairTrees [some k] [v] env pos)) (λvs da=>∃b y kk,vs=[(.ref b,y)]/\knd.room A/\knd.is da.heap kk b/\da.heap.DictOfH knd s.heap.objs.size []/\
   ∀h',h'.DictOfH knd s.heap.objs.size [(kk,b,y)]->Heap.SameBut s.heap.objs.size da.heap h'->Q (.ref s.heap.objs.size) {da with heap:=h',toks:=da.toks+knd.draws kk}) E
   {s with heap:=s.heap.push {cls:=.type "dict",data:=.dict #[]}}):wpAny (model prog w) A (eval (.Dict [some k] [v] pos) env) Q E s:=by
 have hn:=pairTrees_length [some k] [v] env pos rfl rfl;have M3:(pairTrees [some k] [v] env pos).length=1:=hn;rw[arm_eval_Dict,zip_pairTrees [some k] [v] env pos rfl rfl,dictDisplay_pairs _ (by intro z;rw[z] at M3;cases M3) (by rw[M3];decide)];refine bf (wpAny_standAt (bf ?_));unfold subDict;refine bf (wpAny_alloc ?_);refine bf (FU ?_);rw[bp (by rw[M3];decide)];refine bf (Ae h (λvs da ly=>?_) λ_ _ e=>e);obtain⟨b,y,kk,rfl,hu,hk,hm,hQ⟩:=ly;refine FU ?_;refine bf ?_;rw[List.forIn_cons];refine bf (bf (wpAny_dictSet_heap hu hk hm (λh' M_ xy=>fg ?_) (by show 0<=sizeLine;exact DQ _)));dsimp only;rw[List.forIn_nil];exact fg (fg (fg (fg (hQ h' M_ xy))))
end
noncomputable def ET(K:PySem.W.Frag)(tk tv:TE):TE:=λσ H Q=>∀p,H p=none->tk σ (upd H p (.dN [])) λx H1=>tv σ H1 λy H2=>H2 p=some (.dN [])/\∃b kk,x=.ref b/\EJ K H2 kk b/\Q (.ref p) (upd H2 p (.dN [(kk,b,y)]))
theorem zI(hu:X.A.units+20<cLine)(hk:PE X k tk)(hv:PE X v tv):PE X (.Dict [some k] [v] pos) (ET X.K tk tv):=by
 intro pins s σ H Q I q;have hn:=I.dq.fresh (fm s.heap.objs.size);have I1:=I.laid (a:=s.heap.objs.size) (o:=.dN []) (h':=s.heap.push {cls:=.type "dict",data:=.dict #[]}) (t':=s.toks) (λ_ _ q=>qa _ q) (fm _)
  ⟨DQ _,beq_eq_false_iff_ne.mpr (jt (yv I.big)),[],.nil,_,#[],0,Ab _ rfl,⟨rfl,rfl,rfl⟩,rfl,rfl,Bv⟩
 refine zH (knd:=sx X.prog X.w) ?_;refine pairTrees_cons_walk (fv (hk pins _ σ _ _ I1 (q _ hn)) λu s1 ⟨x,H1,I2,rx,q1⟩=>fv (hv pins s1 σ H1 _ I2 q1) λw2 s2 ⟨y,H2,I3,ry,q2⟩=>pairTrees_nil_walk ?_);obtain⟨e,b,kk,rfl,kb,q3⟩:=q2;cases rx;obtain⟨z,hd,xs,rel,dd⟩:=zB I3 (.inl e) (λx hx=>by cases hx);cases rel;refine⟨b,w2,kk,rfl,by show X.A.units+8<cLine;omega,m9 I3 kb,dd,λh' Ek hs=>⟨.ref s.heap.objs.size,_,?_,rfl,q3⟩⟩;obtain⟨o,es,ep,hq,h2,h3,h4,_,h5⟩:=Ek;exact eT I3 (by rw[e];exact True.intro) hs ⟨o,hq⟩ ⟨by show 1<=sizeLine;rw[D_];decide,hd,_,.cons ⟨rfl,rfl,ry⟩ .nil,o,es,ep,hq,h2,h3,h4,h5⟩
end L2
namespace L2.Snd
open PySem PySem.Spec PyProof.Rows L2 Py
noncomputable def Ml(K:PySem.W.Frag)(Φ:Nat->List D->R D)(f:Nat):Sp:=λvs H Q _=>∃a s t,vs=[.ref a]/\ou K H (DA s) (.ref a)/\zg (CC Φ f) s.1.length [((s,0),1)]=some t/\∀fd kvs H',H fd=none->H' fd=some (.dN kvs)->TN K H' kvs t->t.length<=5000->Exc [] H H'->Q (.ref fd) H'
noncomputable def PF(K:PySem.W.Frag)(Φ:Nat->List D->R D)(f:Nat)(E:St->XK):TS:=
 ke (jn (ET K (Ei (bo (bu 0) (bo (tC (.int 0)) du))) (tC (.int 1))) (bw 1)) (ke (jo (Eh K (Il K 0 (bu 0))) (bw 2) (jn (lq (CD K Φ f) E (bo (bu 1) du)) (bw 1))) (Cn (bu 1)))
theorem pM{K:PySem.W.Frag}:∀{l:List NK}{vs:List V},ku K H l vs->vs.length=l.length
 |[],vs,h=>by rw[ku] at h;subst h;rfl
 |k::ks,vs,h=>by
  rw[ku] at h;obtain⟨v,r,rfl,_,h2⟩:=h;rw[gm,gm,pM h2]
theorem Io{K:PySem.W.Frag}(h:Ml K Φ f vs H Q E'):
  PF K Φ f E {nx:=λ_ H'=>Q .cx H',rt:=Q} (start ["sheet","counts","crossing"] vs) H:=by
 obtain⟨a,s,t,rfl,hn,vw,q⟩:=h;have hs:(5000:Nat)<sizeLine:=by rw[D_];decide
 intro p hp;refine⟨.ref a,rfl,?_⟩;dsimp only[du,tC];refine⟨by show 2<=sizeLine;omega,λkb SM=>⟨?_,kb,ig (s,0),rfl,?_,?_⟩⟩
 ·rw[aA (aB (by rw[ah]:upd H p (.dN []) p=_) SM),ah]
 all_goals
  have X1:Exc [] H (upd (upd H p (.dN [])) kb (.tup [.ref a,.int 0])):=((Exc.refl [] H).new hp).new SM;have SN:ou K (upd (upd H p (.dN [])) kb (.tup [.ref a,.int 0])) (ig (s,0)) (.ref kb):=by
   rw[ig,ou];refine⟨kb,_,rfl,.inl (.inl ah),?_⟩;simp only[ku];exact⟨_,_,rfl,X1.kp.nk _ hn,_,_,rfl,by rw[ou],rfl⟩
 ·exact⟨SN,iH _⟩
 ·dsimp only[bw,ke]
  show jo _ _ _ _ ([some (.ref a),some (.ref p),none]:St) _;have Wj:p≠kb:=aB (by rw[ah]:upd H p (.dN []) p=_) SM;have ep:upd (upd H p (.dN [])) kb (.tup [.ref a,.int 0]) p=some (.dN []):=by rw[aA Wj,ah]
  generalize J2:upd (upd H p (.dN [])) kb (.tup [.ref a,.int 0])=H1 at X1 SN ep;have X2:Exc [] H (upd H1 p (.dN [(ig (s,0),kb,.int 1)])):=X1.put ep (.inr hp) (λxs z=>by cases z) λob v z=>by cases z
  have SO:Kp H1 (upd H1 p (.dN [(ig (s,0),kb,.int 1)])):=((Exc.refl [p] H1).put ep (.inl (by simp)) (λxs z=>by cases z) λob v z=>by cases z).kp;have Nq:=X2.kp.nk _ hn;rw[DA,ou] at Nq;obtain⟨a',ws,e,sq,hl⟩:=Nq;cases e;simp only[ku] at hl;obtain⟨Xv,r',rfl,J4,v2,r2,rfl,h2,rfl⟩:=hl;rw[ou] at J4;obtain⟨ra,rs,rfl,Uw,Wl⟩:=J4;have Ux:rs.length=s.1.length:=by rw[pM Wl,dz]
  refine nA (K:=K) ⟨.ref a,rfl,a,_,0,.ref ra,rfl,rfl,sq,rfl,ra,rs,rfl,Uw,λi σ H'=>∃fd kvs g c,σ=[some (.ref a),some (.ref fd),c]/\H fd=none/\H' fd=some (.dN kvs)/\TN K H' kvs g/\g.length<=5000/\zg (CC Φ f) (s.1.length-i) g=some t/\Kp (upd H1 p (.dN [(ig (s,0),kb,.int 1)])) H'/\Exc [] H H',?_,λi σ H' qQ=>by obtain⟨_,_,_,_,_,_,_,_,_,_,z,_⟩:=qQ;exact z.JE Uw,λσ H' qQ=>?_,λi σ H' x qQ hx=>?_⟩ ?_
  ·exact⟨p,_,[((s,0),1)],_,rfl,hp,ah,⟨.cons ⟨rfl,rfl⟩ .nil,λx hx=>by rw[List.mem_singleton.mp hx];exact SO.nk _ SN⟩,by simp,by rw[Nat.sub_zero];exact vw,Kp.refl _,X2⟩
  ·obtain⟨fd,kvs,g,c,e1,e2,e3,e4,e5,e6,_,e7⟩:=qQ
   rw[Ux,Nat.sub_self] at e6;cases e6;subst e1;exact⟨.ref fd,rfl,q fd kvs H' e2 e3 e4 e5 e7⟩
  ·obtain⟨fd,kvs,g,c,e1,e2,e3,e4,e5,e6,Wm,e7⟩:=qQ
   subst e1;have hi:i<s.1.length:=by rw[←Ux];exact(List.getElem?_eq_some_iff.mp hx).1
   rw[show s.1.length-i=(s.1.length-(i+1))+1 by omega,zg] at e6
   cases es:EC (CC Φ f) g [] with
   |none=>rw[es] at e6;cases e6
   |some g'=>
    rw[es] at e6;change (if g'.length<=5000 then zg (CC Φ f) (s.1.length-(i+1)) g' else none)=some t at e6;by_cases hl:g'.length<=5000
    ·rw[bp hl] at e6
     refine⟨.ref fd,rfl,?_⟩;dsimp only[du];refine⟨fd,kvs,g,g',rfl,.inl e3,e4,es,hl,λWn SI H2 y1 y2 y3 y4 y5=>?_⟩;refine⟨Wn,SI,g',_,rfl,e7.free (by simp) y1,y2,y3,hl,e6,Wm.trans y5.kp,e7.comp y5 λx hx=>.inr (by rw[List.mem_singleton.mp hx];exact e2)⟩
    ·rw[az hl] at e6;cases e6
  ·intro σ H Q Q' h k
   obtain⟨v,h1,p,xs,i,w,h2,h3,h4,h5,h6⟩:=h;exact⟨v,h1,p,xs,i,w,h2,h3,h4,h5,k _ _ h6⟩
section
variable{X:Cx}{cl:Nat->Addr}{XE:Nat->St->Hp->Prop}{Φ:Nat->List D->R D}{G:List D}{n:Nat}
noncomputable def SQ(K:PySem.W.Frag)(Φ:Nat->List D->R D)(f j i:Nat)(E1 E2 E3:St->XK):TS:=jn (lq zq E1 (bo (lq (Mj K) E2 (bo (lq (Ml K Φ f) E3 (bo (bu j) du)) du)) du)) (bw i)
theorem uH{K:PySem.W.Frag}(h:H p=some (.dK (jb t))):Own K cl F H (jy t) p:=by
 refine⟨jb t,h,by simp[jb,Jc],?_⟩;clear h
 induction t with
 |nil=>exact au.nil
 |cons x t ih=>exact au.cons (by simp[Rep]) ih
theorem Ip{st:Stmt}(h:PS X st (SQ X.K Φ f j i E1 E2 E3)):Ak X cl XE Φ G n (.pow i j f) st:=by
 refine⟨_,h,λcu bq F σ δ H D fit post=>?_⟩;simp only[bg] at post
 cases e:(Nb (bx δ j)).bind (BI Φ f) with
 |none=>rw[e] at post;exact post.elim
 |some r=>
  rw[e] at post
  cases ej:bx δ j with
  |exc c=>rw[ej] at e;cases e
  |bad=>rw[ej] at e;cases e
  |ok d=>
   rw[ej] at e;change BI Φ f d=some r at e;have Nj:δ[j]?=some (some (false,d)):=by
    unfold bx at ej;split at ej
    ·rename_i d' q;cases ej;exact q
    ·cases ej
   obtain⟨v,hv,rv⟩:=fit.sees.sh j d Nj;unfold BI at e
   cases es:m_ d with
   |none=>rw[es] at e;cases e
   |some s=>
    rw[es,DP] at e;have ed:=fE es;subst ed;change (zg (CC Φ f) s.1.length [((s,0),1)]).bind _=some r at e
    cases et:zg (CC Φ f) s.1.length [((s,0),1)] with
    |none=>rw[et] at e;cases e
    |some t=>
     rw[et,DP] at e
     cases ek:(xu t).map (·.1) with
     |nil=>rw[ek] at e;cases e
     |cons x q=>
      rw[ek] at e;dsimp only at e;by_cases hc:q.length<=900/\-1<=jf x q/\jf x q<=5000
      ·rw[bp hc] at e
       cases eo:A7 (q_ (xu t)) (jf x q+1).toNat [] with
       |none=>rw[eo] at e;cases e
       |some u=>
        rw[eo] at e;cases e;have nk:ou X.K H (DA s) v:=we.mpr rv;obtain⟨a,rfl⟩:∃a,v=.ref a:=by
         have:=nk;rw[DA,ou] at this;obtain⟨a,_,z,_⟩:=this;exact⟨a,z⟩
        have mb:BS (xu t)=jf x q:=by unfold BS;rw[ek]
        refine⟨.ref a,hv,?_⟩;dsimp only[du];refine⟨a,s,t,rfl,nk,et,λfd kvs H1 h1 h2 h3 h4 h5=>⟨fd,kvs,t,rfl,.inl h2,h3,h4,λbr as H2 y1 y2 y3 y4=>?_⟩⟩;refine⟨br,xu t,as,u,rfl,y3.br,y3.nb,(λz=>by rw[z] at ek;cases ek),by rw[mb];exact hc.2.2,by rw[mb];exact hc.2.1,by rw[mb];exact eo,λp H3 z1 z2 z3=>?_⟩;have X2:Exc [] H H2:=h5.comp y4 λx hx=>.inr (by rw[List.mem_singleton.mp hx];exact h1);have nb:H br=none:=h5.free (by simp) y1;have Wo:∀a∈as,H a=none:=λa ha=>h5.free (by simp) (y2 a ha);have X3:Exc [] H H3:=X2.comp z3 λx hx=>by
         rcases List.mem_cons.mp hx with rfl|hx
         ·exact .inr nb
         ·exact .inr (Wo x hx)
        have hp:H p=none:=X2.free (by simp) z1;have u3:Up F H F H3:=⟨λa o e=>X3.ot a o (by simp) e,λ_ z=>z,λ_ z=>.inl z⟩
        have fo:=fit.own i u3 hp (fit.sees.Af.fresh hp) (uH (cl:=cl) (K:=X.K) z2);by_cases hi:i<δ.length
        ·obtain⟨F',_,f'⟩:=fo.R6 i (by rw[Cg hi])
         rw[List.set_set] at f';exact post F' _ H3 f'
        ·have hl:=fit.sees.len
         have e1:σ.set i (some (.ref p))=σ:=List.set_eq_of_length_le (by omega);have e2:∀y:Slot,δ.set i y=δ:=λy=>List.set_eq_of_length_le (by omega);show D.nx (σ.set i (some (.ref p))) H3;rw[e1];dsimp only at post;rw[e2] at post;exact post F _ H3 (fit.to u3)
      ·rw[az hc] at e;cases e
end
end L2.Snd
namespace Py
theorem pN(s:Int):∀(row:List Int)(q:Int)(t:List (Int×Int)),t.length<=(qt s row q t).length
 |[],_,t=>fm _
 |x::xs,q,t=>qe (aG t q (x*s)).2 (pN s xs (q-4) _)
theorem cU:∀{xs:List D}{r:List Int},intsOf xs=some r->xs=r.map .int
 |[],r,h=>by simp[intsOf] at h;subst h;rfl
 |x::xs,r,h=>by
  cases x with
  |int i=>
   rw[intsOf] at h
   cases e:intsOf xs with
   |none=>rw[e] at h;cases h
   |some q=>rw[e] at h;cases h;rw[cU e];rfl
  |_=>simp[intsOf] at h
end Py
namespace L2.Snd
open PySem PySem.Spec PyProof.Rows L2 Py
noncomputable def EU(K:PySem.W.Frag):List V->Hp->VK->Prop:=λxs H Q=>∃p ys,xs=[.ref p]/\(ki K H p ys\/ju K H p ys)/\Q (.int ys.length) H
noncomputable abbrev QL(a b:TE):TE:=za (rI Gz λi j=>.int (i*j)) a b
noncomputable abbrev SR(a b:TE):TE:=za (DU λi j=>.int (i+j)) a b
noncomputable abbrev Uy(a b:TE):TE:=za (DU λi j=>.int (i-j)) a b
noncomputable abbrev Wq(a b:TE):TE:=za (rI (λ_ j=>0<j) λi j=>.int (i%j)) a b
noncomputable def Uz(K:PySem.W.Frag)(cl:Nat->Addr)(Φ:Nat->List D->R D)(f:Nat)(E:St->XK):TS:=
 ke (jn (lq (uy K cl Φ f) E (bo (bu 2) du)) (bw 3)) (jo (CP (bo (GC (EU K) (bo (bu 3) du)) du)) (bw 4)
  (ke (jn (Uy (SR (bu 1) (QL (tC (.int 2)) (bu 2))) (QL (tC (.int 4)) (bu 4))) (bw 5))
   (jn (SR (Me (BQ K) (bu 0) (bo (bu 5) (bo (tC (.int 0)) du))) (QL (za (vz K) (bu 3) (bu 4)) (Uy (tC (.int 1)) (QL (tC (.int 2)) (Wq (bu 2) (tC (.int 2))))))) (Dj (bu 0) (bu 5) (EK K)))))
noncomputable def Mm(Φ:Nat->List D->R D)(f:Nat):Sp:=λvs H Q _=>∃d p r t t',vs=[.ref d,.int p,.int r]/\H d=some (.dK (jb t))/\xw Φ f t p r=some t'/\∀H',H' d=some (.dK (jb t'))->Exc [d] H H'->Q .cx H'
theorem gE{K:PySem.W.Frag}:∀{r:List Int}{vs:List V},au K cl F H (r.map D.int) vs->vs=r.map V.int
 |[],vs,h=>h.nil_inv
 |i::r,vs,h=>by
  obtain⟨v,q,rfl,h1,h2⟩:=h.cons_inv;rw[Rep] at h1;rw[h1,gE h2];rfl
theorem jc{i:Nat}{v:V}(h:xs[i]?=some v):GR xs (i:Int)=some v:=by
 have hi:=(List.getElem?_eq_some_iff.mp h).1;unfold GR DV;rw[bp (by omega),bp (by omega)];simpa using h
theorem Iq{K:PySem.W.Frag}(h:Mm Φ f vs H Q E'):
  Uz K cl Φ f E {nx:=λ_ H'=>Q .cx H',rt:=Q} (start ["found","power","rings","row","e","at"] vs) H:=by
 obtain⟨d,p,r,t,t',rfl,hd,hl,q⟩:=h;have hs:(5000:Nat)<sizeLine:=by rw[D_];decide
 unfold xw at hl
 cases QM:Φ f [.int r] with
 |exc c=>rw[QM] at hl;cases hl
 |bad=>rw[QM] at hl;cases hl
 |ok dd=>
  rw[QM] at hl
  cases dd with
  |lst ds=>
   dsimp only at hl
   cases ei:intsOf ds with
   |none=>rw[ei] at hl;cases hl
   |some row=>
    rw[ei,DP] at hl;by_cases hc:(t.map (·.1)).Nodup/\row.length<=5000/\(qt (1-2*(r%2)) row (p+2*r) t).length<=5000
    ·rw[bp hc] at hl
     have nd:bh t:=hc.1;replace hc:=hc.2;cases hl;have Wr:=cU ei;subst Wr;refine⟨.int r,rfl,?_⟩;dsimp only[du];refine⟨λ_=>False,[.int r],λ_ z=>z.elim,.cons (by simp[Rep]) .nil,?_⟩;rw[QM];refine λF' v H1 u rv=>?_;rw[Rep] at rv;obtain⟨a,ws,rfl,_,ha,rws⟩:=rv;have ew:=gE rws;subst ew;dsimp only[bw];show jo _ _ _ _ ([some (.ref d),some (.int p),some (.int r),some (.ref a),none,none]:St) H1;have d1:H1 d=some (.dK (jb t)):=u.same _ _ hd;have X1:Exc [d] H H1:=(Exc.refl [d] H).same u.same;have Ws:a≠d:=by rintro rfl;rw[ha] at d1;cases d1
     refine⟨.ref a,rfl,?_⟩;dsimp only[du];refine⟨a,row.map V.int,rfl,.inl (.inl (.inl ha)),(row.map V.int).length,rfl,by omega,by rw[dz];omega,?_⟩;rw[dz,D6];refine⟨λi m σ H'=>m+i=row.length/\∃T x y,σ=[some (.ref d),some (.int p),some (.int r),some (.ref a),x,y]/\H' d=some (.dK (jb T))/\H' a=some (.lst (row.map V.int))/\bh T/\qt (1-2*(r%2)) (row.drop i) (p+2*r-4*i) T=qt (1-2*(r%2)) row (p+2*r) t/\Exc [d] H H',
      ⟨row.length,by omega,t,_,_,rfl,d1,ha,nd,by simp,X1⟩,λi m σ H' qQ=>?_⟩
     obtain⟨hm,T,x,y,e1,e2,e3,e4,e5,e6⟩:=qQ;by_cases hi:i<row.length
     ·refine .inr ⟨hi,λdi H'=>∃T x y,di=[some (.ref d),some (.int p),some (.int r),some (.ref a),x,y]/\H' d=some (.dK (jb T))/\H' a=some (.lst (row.map V.int))/\bh T/\qt (1-2*(r%2)) (row.drop (i+1)) (p+2*r-4*(i+1:Nat)) T=qt (1-2*(r%2)) row (p+2*r) t/\Exc [d] H H',λdi H' z=>⟨m-1,by omega,by omega,z⟩,λz Ay qQ=>?_⟩
      obtain⟨eH,ez⟩:=qQ;subst eH ez e1;rw[MW hi,qt] at e5;have lT:=aG T (p+2*r-4*i) (row[i]*(1-2*(r%2)));have lP:=pN (1-2*(r%2)) (row.drop (i+1)) (p+2*r-4*i-4) (cn T (p+2*r-4*i) (row[i]*(1-2*(r%2))));rw[e5] at lP;refine⟨.int p,rfl,.int r,rfl,2,r,rfl,rfl,.inl ⟨by decide,by decide⟩,p,2*r,rfl,rfl,.int (0+(i:Nat)),rfl,4,0+(i:Nat),rfl,rfl,.inl ⟨by decide,by decide⟩,p+2*r,4*(0+(i:Nat)),rfl,rfl,?_⟩;dsimp only[bw];show jn _ _ _ ([some (.ref d),some (.int p),some (.int r),some (.ref a),some (.int (0+(i:Nat))),some (.int (p+2*r-4*(0+(i:Nat))))]:St) Ay;rw[show p+2*r-4*(0+((i:Nat):Int))=p+2*r-4*i by omega];generalize hA:p+2*r-4*((i:Nat):Int)=at_ at*;have Az:GR (row.map V.int) (0+((i:Nat):Int))=some (.int row[i]):=by
       rw[Int.zero_add];exact jc (by rw[AA,uc hi];rfl)
      have EH:0<=r%2/\r%2<2:=⟨Int.emod_nonneg _ (by decide),Int.emod_lt_of_pos _ (by decide)⟩
      refine⟨.ref d,rfl,⟨d,_,_,rfl,.k _,.inl e2⟩,.int at_,rfl,d,.int at_,.int 0,(look T at_).map V.int,rfl,rfl,.inl (by rw[←uB];exact rk.k (k:=Sum.inl at_) e2),.ref a,rfl,.int (0+(i:Nat)),rfl,a,_,_,.int row[i],rfl,rfl,.inl (.inl e3),Az,.int r,rfl,r,2,rfl,rfl,(by show(0:Int)<2;decide),2,r%2,rfl,rfl,.inl ⟨by decide,by decide⟩,1,2*(r%2),rfl,rfl,row[i],1-2*(r%2),rfl,rfl,.inr ⟨by omega,by omega⟩,(look T at_).getD 0,row[i]*(1-2*(r%2)),?_,rfl,.ref d,rfl,.int at_,rfl,d,_,rfl,.inl (BB.k (k:=Sum.inl at_) e2 (by simp[jb];omega)),?_⟩
      ·cases look T at_<;>rfl
      ·rw[uC e4]
       refine⟨cn T at_ (row[i]*(1-2*(r%2))),_,_,rfl,ah,by rw[aA Ws];exact e3,aS e4 _ _,?_,e6.put e2 (.inl (by simp)) (λxs z=>by cases z) λob v z=>by cases z⟩;rw[show p+2*r-4*((i+1:Nat):Int)=at_-4 by omega];exact e5
     ·have Wt:i=row.length:=by omega
      subst Wt;rw[List.drop_length] at e5;refine .inl ⟨fm _,q H' ?_ e6⟩;rw[e2];exact congrArg (λz=>some (HO.dK (jb z))) e5
    ·rw[az hc] at hl;cases hl
  |_=>cases hl
end L2.Snd
namespace Py
theorem pO(x:Int):∀l:List Int,(ins x l).Perm (x::l)
 |[]=>.refl _
 |y::r=>by
  unfold ins;split
  ·exact .refl _
  ·exact((pO x r).cons y).trans (List.Perm.swap x y r)
theorem d8:∀l:List Int,(sortI l).Perm l
 |[]=>.refl _
 |x::r=>(pO x (sortI r)).trans ((d8 r).cons x)
theorem pP(x:Int):∀l:List Int,l.Pairwise (· <=·)->(ins x l).Pairwise (· <=·)
 |[],_=>by simp[ins]
 |y::r,h=>by
  rw[Kj] at h;unfold ins;split
  ·rename_i hx
   rw[Kj,Kj];refine⟨λz hz=>?_,h⟩;rcases List.mem_cons.mp hz with rfl|hz
   ·omega
   ·have:=h.1 z hz;omega
  ·rename_i hx
   rw[Kj];refine⟨λz hz=>?_,pP x r h.2⟩;rcases(iF x z r).mp hz with rfl|hz
   ·omega
   ·exact h.1 z hz
theorem jQ:∀l:List Int,(sortI l).Pairwise (· <=·)
 |[]=>.nil
 |x::r=>pP x _ (jQ r)
theorem v7(p:a.Perm b)(h:a.Pairwise (· <=·)):a=sortI b:=List.Perm.eq_of_pairwise (le:=λx y:Int=>x<=y) (λx y _ _ h1 h2=>by omega) h (jQ b) (p.trans (d8 b).symm)
end Py
namespace L2
open PySem PySem.Spec PyProof.Rows
section
variable{prog:Program}{w:World}{A:Around}{E:Value->Shared->Prop}{s:Shared}
def zr(vs:List Value)(ns:List Int):Prop:=∀{prog:Program}{w:World}{A:Around}{E:Value->Shared->Prop}{s:Shared}{a:Addr}{n:Nat}{P:Fin->Shared->Prop},s.heap.get? a=some (seqObj "list" vs.toArray n)->
 (∀(out:Array Value)(Ga:List Int),IntsAre out.toList Ga->Ga.Perm ns->Ga.Pairwise (· <=·)->P (.done (.ret .none)) {s with heap:=sortedHeap s.heap a vs out})->wpAny (model prog w) A (Builtin.«list.sort» ⟨[.ref a],[]⟩) P E s
theorem rW(hI:IntsAre vs ns)(h:vs.length<64):zr vs ns:=λho q=>list_sort_tree ho hI h q
theorem pQ(K:PySem.W.KdlSrc prog w T r d n P OK)(hh:A.handled=none)(dq:OK s.heap)(hn:n<=sizeLine)
  (h:∀(vs:List Value),vs.length=n->(∀(j:Nat) v,vs[j]?=some v->P j v)->∃ns,zr vs ns/\
   ∀(h1 h':Heap)(tk:Nat)(out:Array Value)(e:Nat)(Ga:List Int),IntsAre out.toList Ga->Ga.Perm ns->Ga.Pairwise (· <=·)->(∀b o,s.heap.get? b=some o->h1.get? b=some o)->(∀b o,h1.get? b=some o->h'.get? b=some o)->h'.get? h1.objs.size=some (seqObj "list" out e)->Q (.ref h1.objs.size) {s with heap:=h',toks:=tk}):
  wpAny (model prog w) A (call (.builtin "sorted") [.ref r]) Q E s:=by
 refine Calls.call_function_entry kind_sorted plain_sorted entry_sorted (args_sorted1 _) ?_;unfold Builtin.«sorted»;refine bf (m:=checkCount "sorted" 1 1 _) (fg ?_);refine bf (PySem.W.kdu_collect (A:=A.in1) K hh dq hn λh1 tk acc hk EN=>?_);have hl:acc.toList.length=n:=by rw[Array.length_toList];exact EN.1
 obtain⟨ns,so,q⟩:=h acc.toList hl λj v e=>EN.2 j v (by rw[←Array.getElem?_toList];exact e);refine bf (wpAny_newList ?_ (by rw[hl];exact hn));have ho:(h1.push (seqObj "list" acc.toList.toArray 0)).get? h1.objs.size=some (seqObj "list" acc.toList.toArray 0):=Ab _ rfl;show wpAny _ _ _ _ _ {s with heap:=h1.push (seqObj "list" acc.toList.toArray 0),toks:=tk};refine bf (FU (CM slot_list_sort ⟨_,ho,rfl⟩ entry_list_sort (so ho λout Ga a1 a2 a3=>⟨_,rfl,?_⟩) (args_list_sort _)));refine fg ⟨_,rfl,?_⟩;obtain⟨e,he⟩:=sortedHeap_at (out:=out) ho;refine q h1 _ tk out e Ga a1 a2 a3 hk (λb o JA=>?_) he;have lb:=kc JA;rw[sortedHeap_old (yv lb) (by rw[size_push'];exact Nat.lt_succ_of_lt lb)];exact qa _ JA
end
end L2
namespace L2.Snd
open PySem PySem.Spec PyProof.Rows L2 Py
section
variable{X:Cx}{cl:Nat->Addr}{XE:Nat->St->Hp->Prop}{YE:Nat->Hp->Prop}{Φ:Nat->List D->R D}{G:List D}{m fr:Bool}{n:Nat}
theorem lV:∀{ns:List Int}{us:List Value},Vals (ns.map V.int) us->IntsAre us ns
 |[],us,h=>by cases h;exact .nil
 |i::ns,us,h=>by
  cases h with
  |cons r t=>
   obtain⟨k,rfl⟩:=r;exact .cons i k (lV t)
theorem oj:∀{us:List Value}{ns:List Int},IntsAre us ns->Vals (ns.map V.int) us
 |_,_,.nil=>.nil
 |_,_,.cons n t h=>.cons ⟨t,rfl⟩ (oj h)
theorem pR(long:∀{vs:List Value}{ns:List Int},IntsAre vs ns->r_ ns=true->zr vs ns)(hc:X.calm=true):og X (.builtin "sorted") (λxs H Q=>∃d kvs ks,xs=[.ref d]/\Rd H d (.dK kvs)/\kvs.map (·.1)=ks.map Sum.inl/\(ks.length<64\/r_ ks=true)/\
  ∀p,H p=none->Q (.ref p) (upd H p (.lst ((sortI ks).map V.int)))):=by
 intro pins s σ H xs us Q I r h;obtain⟨d,kvs,ks,rfl,hr,hk,hl,q⟩:=h
 cases r with
 |cons r rr=>
 cases rr;cases r;obtain⟨z,y,ws,rel,dd⟩:=eS I.dq hr;obtain⟨ep,F_⟩:=dd.dictAt;have hlen:kvs.length=ws.length:=rel.length;refine pQ (PySem.W.kdl_dict (knd:=dn X.prog X.w) (kvs:=ws) (ep:=ep) y) (I.ok.hd hc) F_ (by omega) λus Wu hP=>?_;have hv:Vals (kvs.map λx=>kV x.1) us:=by
  refine gC (P:=X.prog) (w:=X.w) (vs:=ws) (by rw[Wu,hlen]) λj u e=>?_;obtain⟨k,x,e1,e2⟩:=hP j u e;have hj:j<kvs.length:=by have:=(List.getElem?_eq_some_iff.mp e1).1;omega
  obtain⟨w,e3,_⟩:=KV.at rel (uc hj);rw[e1] at e3;cases e3;exact⟨_,_,uc hj,e2⟩
 have ek:(kvs.map λx=>kV x.1)=ks.map V.int:=by
  have:(kvs.map (·.1)).map kV=(ks.map Sum.inl).map kV:=by rw[hk]
  rw[vj,vj] at this;exact this
 rw[ek] at hv;have hI:=lV hv;have K9:us.length=ks.length:=by
  have:=hv.length;simpa using this.symm
 refine⟨ks,?_,λh1 h' tk out e Ga a1 a2 a3 k1 k2 he=>?_⟩
 ·rcases hl with hl|hl
  ·exact rW hI (by omega)
  ·exact long hI hl
 ·have es:=v7 a2 a3
  subst es;have I1:Inv X pins σ H {s with heap:=h1,toks:=tk}:=I.kept k1;have hn:H h1.objs.size=none:=I1.dq.fresh (fm _);refine⟨.ref h1.objs.size,_,I1.laid (a:=h1.objs.size) (o:=.lst ((sortI ks).map V.int)) (t':=tk) k2 (fm _) ⟨?_,out.toList,e,?_,by simpa using he⟩,rfl,q _ hn⟩
  ·rw[dz,(d8 ks).length_eq]
   omega
  ·exact oj a1
end
section
variable{X:Cx}{cl:Nat->Addr}{XE:Nat->St->Hp->Prop}{YE:Nat->Hp->Prop}{Φ:Nat->List D->R D}{G:List D}{m fr:Bool}{n:Nat}
theorem Ir{K:PySem.W.Frag}(h:Own K cl F H (.gb ks vs) a)(e:tabOf ks vs=some t):H a=some (.dK (jb t)):=by
 obtain⟨kvs,h1,h2,h3⟩:=h;unfold tabOf at e
 cases ei:intsOf vs with
 |none=>rw[ei] at e;cases e
 |some xs=>
  rw[ei,DP] at e;by_cases hl:ks.length=xs.length
  ·rw[bp hl] at e
   cases e;rw[cU ei] at h3;have h4:=gE h3;rw[h1]
   congr 2
   clear h1 h3 ei
   induction ks generalizing xs kvs with
   |nil=>
    cases kvs with
    |nil=>rfl
    |cons _ _=>simp at h2
   |cons k ks ih=>
    cases kvs with
    |nil=>simp at h2
    |cons p kvs=>
     cases xs with
     |nil=>simp at hl
     |cons x xs=>
      simp only[fu,Kk] at h2 h4;rw[ih (xs:=xs) (kvs:=kvs) h2.2 (by simpa using hl) h4.2];show p::jb (ks.zip xs)=((Sum.inl k:Key),V.int x)::jb (ks.zip xs);rw[←h2.1,←h4.1]
  ·rw[az hl] at e;cases e
noncomputable def PH(i f:Nat)(Φ:Nat->List D->R D)(tp tr:TE)(E:St->XK):TS:=uo (lq (Mm Φ f) E (bo (bu i) (bo tp (bo tr du))))
theorem zJ{st:Stmt}(hp:cw X cl XE Φ G false ep p)(hr:cw X cl XE Φ G false er r)(h:∀tp tr,PE X p tp->PE X r tr->PS X st (PH i f Φ tp tr E)):Ak X cl XE Φ G n (.ED i f ep er) st:=by
 obtain⟨tp,pp,ip⟩:=hp;obtain⟨tr,pr,ir⟩:=hr;refine⟨_,h tp tr pp pr,λcu bq F σ δ H D f0 post=>?_⟩;simp only[bg] at post;obtain⟨F1,s1,f1⟩:=f0.av (aa false ep++aa false er);generalize Nj:Py.av (aa false ep++aa false er) δ=Ba at post f1;unfold EE at post;split at post
 ·rename_i ks vs pi ri e0 e1 e2
  cases et:(tabOf ks vs).bind λt=>xw Φ f t pi ri with
  |none=>rw[et] at post;exact post.elim
  |some t'=>
   rw[et] at post
   cases eb:tabOf ks vs with
   |none=>rw[eb] at et;cases et
   |some t=>
    rw[eb,DP] at et;obtain⟨a,q1,q2,q3⟩:=f1.sees.ow i _ e0;refine⟨.ref a,q1,ip F1 σ Ba H _ f1.sees ?_⟩;rw[e1];refine λF2 v H2 u2 g2=>?_;have hv:v=.int pi:=by have:=g2.got;exact Got.int this
    subst hv;have f2:=f1.to u2;refine ir F2 σ Ba H2 _ f2.sees ?_;rw[e2];refine λF3 v H3 u3 g3=>?_;have hv:v=.int ri:=by have:=g3.got;exact Got.int this
    subst hv;have f3:=f2.to u3;dsimp only[du];obtain⟨a',y1,y2,y3⟩:=f3.sees.ow i _ e0;rw[q1] at y1;have ea:a=a':=by simpa using y1
    subst ea;refine⟨a,pi,ri,t,t',rfl,Ir y3 eb,et,λH4 z1 z2=>?_⟩;have fw:=f3.write i e0 q1 (d':=jy t') (o:=.dK (jb t')) (.inr ⟨_,rfl⟩) (uH (cl:=cl) (K:=X.K) ah);have up:Up F3 (L2.upd H3 a (.dK (jb t'))) F3 H4:=by
     refine⟨λb o e=>?_,λ_ z=>z,λ_ z=>.inl z⟩;by_cases hb:b=a
     ·subst hb;rw[ah] at e;cases e;exact z1
     ·rw[aA hb] at e;exact z2.ot b o (by simpa using hb) e
    exact post F3 σ H4 (fw.to up)
 ·exact post.elim
theorem v8(t:AQ F H)(g:Paired (Got X.K cl F H) ds vs)(h:ar X.K cl YE m false F H Q (p_ (bb .sorted) ds)):
  ∃d kvs ks,vs=[.ref d]/\Rd H d (.dK kvs)/\kvs.map (·.1)=ks.map Sum.inl/\(ks.length<64\/r_ ks=true)/\∀p,H p=none->Q (.ref p) (L2.upd H p (.lst ((sortI ks).map V.int))):=by
 match ds,g,h with
 |[],_,h=>exact(show False from h).elim
 |_::_::_,_,h=>exact(show False from h).elim
 |[d],g,h=>
  obtain⟨v,rfl,gv⟩:=Paired.one g;have h:ar X.K cl YE m false F H Q (bb .sorted d):=h
  cases d with
  |gb ks ws=>
   have h:ar X.K cl YE m false F H Q (if ks.length<64\/r_ ks=true then .ok (.lst ((sortI ks).map .int)) else .bad):=h;by_cases hc:ks.length<64\/r_ ks=true
   ·rw[bp hc] at h
    obtain⟨a,kvs,rfl,h1,h2,_⟩:=gv.gb;refine⟨a,kvs,ks,rfl,.inl h1,h2,hc,λp hp=>?_⟩;have u:Up F H (Cw F p) (L2.upd H p (.lst ((sortI ks).map V.int))):=(Up.alloc hp).freeze hp (by rw[ah];exact Kf _);refine h (Cw F p) (.ref p) _ u (Res.gives (.wa ?_ rfl));simp only[Rep];refine⟨p,_,rfl,.inr rfl,ah,?_⟩;generalize L2.upd H p (HO.lst ((sortI ks).map V.int))=H';generalize sortI ks=l
    induction l with
    |nil=>exact au.nil
    |cons x l ih=>exact au.cons (by simp[Rep]) ih
   ·rw[az hc] at h;exact(show False from h).elim
  |_=>exact(show False from h).elim
theorem boot_sorted:bootBuiltins "sorted"=some (.builtin "sorted"):=by first|exact PySem.boot_sorted|rfl|decide+kernel
theorem zK(long:∀{vs:List Value}{ns:List Int},IntsAre vs ns->r_ ns=true->zr vs ns){ea:Ex}{a:Expr}{pos p:Pos}(hm:X.mg "sorted"=none)(ia:cw X cl XE Φ G true ea a)(hc:X.calm=true:=by rfl)(hg:Gl X "sorted":=by rfl)(hs:starEach (a::[]) X.env=(false,eval a X.env)::starEach [] X.env:=by rfl):
  cw X cl XE Φ G m (.bb .sorted ea) (.Call (.Name "sorted" p) [a] [] pos):=
 eZ (exs:=[ea]) (o:=p_ (bb .sorted)) OE (pR long hc) hg hm boot_sorted (by decide) (by decide) hs rfl (bD hs ia bP) λYE F H vs ds Q t g h=>v8 t g h
end
noncomputable def EV(K:PySem.W.Frag):TS:=jo (CP (bo (tC (.int 2)) du)) (bw 5) (Gv (tB (Gs (za (vz K) (bu 4) (bu 5)) (za (vz K) (bu 3) (tC (.int 1))))) (jn (za (vz K) (bu 3) (tC (.int 0))) (Dj (bu 4) (bu 5) En)) CN)
noncomputable def Mn(K:PySem.W.Frag):TS:=Co (tB (Tj (GC (EU K) (bo (bu 1) du)) (tC (.int 0)))) (ke (jn (za (vz K) (bu 1) (tC (.int 0))) (bw 3)) (ke (jn (Tt (K4 K) (bu 1) (Ju (tC (.int 1))) CS) (bw 1))
 (ke (Gv (tB (Gs (za (vz K) (bu 3) (tC (.int 0))) (za (vz K) (bu 3) (tC (.int 1))))) (jn (SR (bu 2) (tC (.int 1))) (bw 2)) CN) (jo (CO K (bu 1)) (bw 4) (EV K)))))
noncomputable abbrev r2(p:Int×Int):List Int:=[p.1,p.2]
theorem Wv{K:PySem.W.Frag}{D:Ends}(h0:H a0=some (.lst [.int a,.int b]))(ho:H o=some (.lst [.int x,.int y]))(qd:o≠a0)
  (q:∀c,D.nx [x0,xL,g,some (.ref a0),some (.ref o),c] (L2.upd H o (.lst [.int (sb a b x),.int (sb a b y)]))):EV K D [x0,xL,g,some (.ref a0),some (.ref o),c5] H:=by
 refine⟨2,rfl,by decide,by decide,?_⟩;have main:∀(i m:Nat)(σ:St)(H':Hp),(m+i=2/\∃c u v,σ=[x0,xL,g,some (.ref a0),some (.ref o),c]/\H'=L2.upd H o (.lst [.int u,.int v])/\u=(if i=0 then x else sb a b x)/\v=(if i=2 then sb a b y else y))->
   ((KL 0 (2:Int).toNat).stop i H'/\D.nx σ H')\/((KL 0 (2:Int).toNat).go i H'/\∃N:St->Hp->Prop,(∀di H',N di H'->∃m',m'<m/\(m'+(i+1)=2/\∃c u v,di=[x0,xL,g,some (.ref a0),some (.ref o),c]/\H'=L2.upd H o (.lst [.int u,.int v])/\u=(if i+1=0 then x else sb a b x)/\v=(if i+1=2 then sb a b y else y)))/\∀z Ay,(KL 0 (2:Int).toNat).NW i H' z Ay->bw 5 z σ Ay λJr H2=>Gv (tB (Gs (za (vz K) (bu 4) (bu 5)) (za (vz K) (bu 3) (tC (.int 1))))) (jn (za (vz K) (bu 3) (tC (.int 0))) (Dj (bu 4) (bu 5) En)) CN {D with nx:=N,ct:=N,bk:=D.nx} Jr H2):=by
  rintro i m σ H' ⟨hm,c,u,v,e1,e2,e3,e4⟩;by_cases hi:i<2
  ·refine .inr ⟨hi,λdi H'=>∃c u v,di=[x0,xL,g,some (.ref a0),some (.ref o),c]/\H'=L2.upd H o (.lst [.int u,.int v])/\u=(if i+1=0 then x else sb a b x)/\v=(if i+1=2 then sb a b y else y),λdi H' z=>⟨m-1,by omega,by omega,z⟩,λz Ay qQ=>?_⟩
   obtain⟨eH,ez⟩:=qQ;subst eH ez e1 e2;have An:L2.upd H o (.lst [.int u,.int v]) o=some (.lst [.int u,.int v]):=ah;have Ni:L2.upd H o (.lst [.int u,.int v]) a0=some (.lst [.int a,.int b]):=by rw[aA (jt qd)];exact h0
   have hw:i=0\/i=1:=by omega
   rcases hw with rfl|rfl
   ·simp only[b_,show¬((0:Nat)=2) by decide,df] at e3 e4
    subst e3 e4;refine⟨.ref o,rfl,.int (0+(0:Nat)),rfl,o,_,_,.int u,rfl,rfl,.inl (.inl An),rfl,.ref a0,rfl,a0,_,_,.int b,rfl,rfl,.inl (.inl Ni),rfl,u,b,rfl,rfl,_,rfl,?_⟩;dsimp only;by_cases hb:u=b
    ·rw[bp (show decide (u=b)=true from Ad hb)]
     refine⟨.ref a0,rfl,a0,_,_,.int a,rfl,rfl,.inl (.inl Ni),rfl,.ref o,rfl,.int (0+(0:Nat)),rfl,o,_,_,0,rfl,rfl,An,rfl,_,a,v,rfl,tF,?_,rfl⟩;simp[sb,hb]
    ·rw[az (show¬decide (u=b)=true from by simpa using hb)]
     refine⟨_,u,v,rfl,rfl,?_,rfl⟩;simp[sb,hb]
   ·simp only[show¬((1:Nat)=0) by decide,show¬((1:Nat)=2) by decide,df] at e3 e4
    subst e4;refine⟨.ref o,rfl,.int (0+(1:Nat)),rfl,o,_,_,.int v,rfl,rfl,.inl (.inl An),rfl,.ref a0,rfl,a0,_,_,.int b,rfl,rfl,.inl (.inl Ni),rfl,v,b,rfl,rfl,_,rfl,?_⟩;dsimp only;by_cases hb:v=b
    ·rw[bp (show decide (v=b)=true from Ad hb)]
     refine⟨.ref a0,rfl,a0,_,_,.int a,rfl,rfl,.inl (.inl Ni),rfl,.ref o,rfl,.int (0+(1:Nat)),rfl,o,_,_,1,rfl,rfl,An,rfl,_,u,a,rfl,tF,by simpa using e3,?_⟩;simp[sb,hb]
    ·rw[az (show¬decide (v=b)=true from by simpa using hb)]
     refine⟨_,u,v,rfl,rfl,by simpa using e3,?_⟩;simp[sb,hb]
  ·have Ww:i=2:=by omega
   subst Ww;simp only[show¬((2:Nat)=0) by decide,df,b_] at e3 e4;subst e1 e2 e3 e4;exact .inl ⟨fm _,q c⟩
 refine⟨_,⟨2,rfl,c5,x,y,rfl,?_,rfl,rfl⟩,main⟩;funext z;by_cases hz:z=o
 ·subst hz;rw[ah,ho]
 ·rw[aA hz]
noncomputable abbrev C6(l:List (Int×Int)):List (List Int):=l.map r2
theorem Wx{K:PySem.W.Frag}{D:Ends}(h0:H a0=some (.lst [.int a,.int b]))(hn:wd H L as (C6 r))(Wy:a0∉as)(Xw:a0≠L)
  (q:∀c d H',wd H' L as (C6 (r.map (yh a b)))->(∀x o,x∉as->H x=some o->H' x=some o)->(∀x,H' x=none->H x=none)->D.nx [x0,some (.ref L),g,some (.ref a0),c,d] H'):
  jo (CO K (bu 1)) (bw 4) (EV K) D [x0,some (.ref L),g,some (.ref a0),c4,c5] H:=by
 have len:as.length=r.length:=by have:=hn.len;simpa using this
 refine⟨.ref L,rfl,L,rfl,⟨_,.inl (.inl hn.top)⟩,λi m σ H'=>m+i=as.length/\∃c d,σ=[x0,some (.ref L),g,some (.ref a0),c,d]/\wd H' L as (C6 ((r.take i).map (yh a b)++r.drop i))/\H' a0=some (.lst [.int a,.int b])/\(∀x o,x∉as->H x=some o->H' x=some o)/\(∀x,H' x=none->H x=none),
  ⟨as.length,by omega,c4,c5,rfl,by simpa using hn,h0,λ_ _ _ e=>e,λ_ e=>e⟩,λi m σ H' qQ=>?_⟩
 obtain⟨hm,c,d,e1,e2,e3,e4,e5⟩:=qQ;have sq:ki K H' L (as.map V.ref):=.inl (.inl e2.top);by_cases hi:i<as.length
 ·have UA:i<r.length:=by omega
  have hx:(as.map V.ref)[i]?=some (.ref as[i]):=by rw[AA,uc hi];rfl
  refine .inr ⟨⟨_,_,sq,hx⟩,λdi H'=>∃c d,di=[x0,some (.ref L),g,some (.ref a0),c,d]/\wd H' L as (C6 ((r.take (i+1)).map (yh a b)++r.drop (i+1)))/\H' a0=some (.lst [.int a,.int b])/\(∀x o,x∉as->H x=some o->H' x=some o)/\(∀x,H' x=none->H x=none),λdi H' z=>⟨m-1,by omega,by omega,z⟩,λz Ay qQ=>?_⟩;obtain⟨eH,ez⟩:=qQ;subst eH e1;have UB:=ez _ sq;rw[hx] at UB;cases UB;have mem:as[i]∈as:=yn hi;have qd:as[i]≠a0:=λz=>Wy (z▸mem);have split:(r.take i).map (yh a b)++r.drop i=(r.take i).map (yh a b)++r[i]::r.drop (i+1):=by rw[MW UA]
  have Wz:((r.take i).map (yh a b)).length=i:=by simp;omega
  have Az:Ay as[i]=some (.lst [.int r[i].1,.int r[i].2]):=by
   refine e2.row i as[i] [r[i].1,r[i].2] (uc hi) ?_;rw[split];show(List.map r2 _)[i]?=_;rw[AA,Dd (by omega),Wz,Nat.sub_self];rfl
  show EV K _ [x0,some (.ref L),g,some (.ref a0),some (.ref as[i]),d] Ay;refine Wv e3 Az qd λc'=>⟨_,_,rfl,?_,by rw[aA (jt qd)];exact e3,λx o UC e=>?_,λx e=>?_⟩
  ·have hlen:(C6 ((r.take (i+1)).map (yh a b)++r.drop (i+1))).length=as.length:=by simp;omega
   refine⟨by rw[aA (λz=>e2.ne _ mem z.symm)];exact e2.top,hlen.symm,λj y w h1 h2=>?_,e2.nd,e2.ne⟩;have Kn:((r.take (i+1)).map (yh a b)++r.drop (i+1))[j]?.map r2=some w:=by rw[←AA];exact h2
   by_cases hj:j=i
   ·subst hj
    rw[uc hi] at h1;cases h1;rw[De (by simp;omega),AA,List.getElem?_take_of_lt (Jg _),uc UA] at Kn;cases Kn;rw[ah];rfl
   ·have WA:y≠as[i]:=λz=>by
     subst z;exact hj ((List.getElem?_inj (List.getElem?_eq_some_iff.mp h1).1 e2.nd).mp (h1.trans (uc hi).symm))
    rw[aA WA];refine e2.row j y w h1 ?_;show(List.map r2 _)[j]?=_;rw[AA,←Kn]
    congr 1
    by_cases qr:j<i
    ·rw[De (by simp;omega),De (by simp;omega),AA,AA,List.getElem?_take_of_lt qr,List.getElem?_take_of_lt (by omega)]
    ·have UD:j<r.length:=by have:=(List.getElem?_eq_some_iff.mp h1).1;omega
     rw[Dd (by simp;omega),Dd (by simp;omega),List.getElem?_drop,List.getElem?_drop];simp only[dz,Bj]
     congr 1
     omega
  ·have QN:x≠as[i]:=λz=>UC (z▸mem)
   rw[aA QN];exact e4 x o UC e
  ·by_cases QN:x=as[i]
   ·subst QN;rw[ah] at e;cases e
   ·rw[aA QN] at e;exact e5 x e
 ·have ya:i=as.length:=by omega
  subst ya e1;refine .inl ⟨⟨_,sq,by simp⟩,q _ _ H' ?_ e4 e5⟩;rw[len,Bk,List.drop_length,Ci] at e2;exact e2
theorem WB{K:PySem.W.Frag}{D:Ends}(hn:wd H L as (C6 l))(new:Addr->Prop)(Ew:∀a,a=L\/a∈as->new a)(As:∀a,H a=none->new a)
  (q:∀σ H',σ[2]?=some (some (.int (g+rings l)))->(∀x o,¬new x->H x=some o->H' x=some o)->D.nx σ H'):Mn K D [x0,some (.ref L),some (.int g),c3,c4,c5] H:=by
 refine⟨λm σ H'=>∃L as l' g' a b c,m=l'.length/\σ=[x0,some (.ref L),some (.int g'),a,b,c]/\wd H' L as (C6 l')/\(∀a,a=L\/a∈as->new a)/\(∀a,H' a=none->new a)/\g'+rings l'=g+rings l/\(∀x o,¬new x->H x=some o->H' x=some o),
  ⟨l.length,L,as,l,g,_,_,_,rfl,rfl,hn,Ew,As,rfl,λ_ _ _ e=>e⟩,λm σ H' qQ=>?_⟩
 obtain⟨L,as,l',g',a3,a4,a5,em,e1,e2,e3,e4,e5,e6⟩:=qQ;subst e1;have len:as.length=l'.length:=by have:=e2.len;simpa using this
 refine⟨.ref L,rfl,?_⟩;dsimp only[du];refine⟨L,as.map V.ref,rfl,.inl (.inl (.inl e2.top)),((as.map V.ref).length:Nat),0,rfl,rfl,_,rfl,?_⟩
 cases l' with
 |nil=>
  have ha:as=[]:=List.length_eq_zero_iff.mp (by simpa using len);subst ha;rw[az (by simp)];exact q _ H' (by rw[←e5];simp[lM]) e6
 |cons p r=>
  obtain⟨a,b⟩:=p
  cases as with
  |nil=>simp at len
  |cons a0 as=>
   rw[bp (by simp)];refine⟨λdi Ay=>∃L as l' g' a b c,l'.length=r.length/\di=[x0,some (.ref L),some (.int g'),a,b,c]/\wd Ay L as (C6 l')/\(∀a,a=L\/a∈as->new a)/\(∀a,Ay a=none->new a)/\g'+rings l'=g+rings l/\(∀x o,¬new x->H x=some o->Ay x=some o),λdi Ay ⟨L,as,l2,g2,b3,b4,b5,y0,y1,y2,y3,y4,y5,y6⟩=>⟨r.length,by rw[em];simp,L,as,l2,g2,b3,b4,b5,y0.symm,y1,y2,y3,y4,y5,y6⟩,?_⟩;have h0:H' a0=some (.lst [.int a,.int b]):=e2.row 0 a0 [a,b] rfl rfl;have nd:=e2.nd;rw[Jj] at nd;dsimp only[ke];refine⟨.ref L,rfl,L,_,_,.ref a0,rfl,rfl,.inl (.inl e2.top),jc (i:=0) rfl,?_⟩;dsimp only[bw];refine⟨.ref L,rfl,1,rfl,L,_,rfl,.inl (.inl e2.top),λM2 SS=>?_⟩;have cut:zc ((a0::as).map V.ref) (some 1) none=as.map V.ref:=uz ((a0::as).map V.ref) 0;rw[cut];have PJ:a0≠M2:=aB h0 SS;have Ax:∀(j:Nat) y w,as[j]?=some y->(C6 r)[j]?=some w->H' y=some (.lst (w.map V.int)):=λj y w g1 g2=>e2.row (j+1) y w (by simpa using g1) (by simpa using g2);have UE:∀y∈as,y≠M2:=λy hy=>by
    obtain⟨j,hj,e⟩:=List.mem_iff_getElem.mp hy;have UD:j<r.length:=by simp at len;omega
    exact aB (Ax j y (r2 r[j]) (by rw[uc hj,e]) (by rw[AA,uc UD];rfl)) SS
   have N2:wd (L2.upd H' M2 (.lst (as.map V.ref))) M2 as (C6 r):=by
    refine⟨ah,by simpa using len,λj y w g1 g2=>?_,nd.2,UE⟩;rw[aA (UE y (FP g1))];exact Ax j y w g1 g2
   have SU:L2.upd H' M2 (.lst (as.map V.ref)) a0=some (.lst [.int a,.int b]):=by rw[aA PJ];exact h0
   have EW:new M2:=e4 M2 SS;have k6:∀x o,¬new x->H x=some o->L2.upd H' M2 (.lst (as.map V.ref)) x=some o:=λx o hx e=>by
    have WC:x≠M2:=by rintro rfl;exact hx EW
    rw[aA WC];exact e6 x o hx e
   have k4:∀x,L2.upd H' M2 (.lst (as.map V.ref)) x=none->new x:=λx e=>by
    by_cases hx:x=M2
    ·subst hx;exact EW
    ·rw[aA hx] at e;exact e4 x e
   have rest:∀QO:Int,QO=g'+(if a=b then 1 else 0)->jo (CO K (bu 1)) (bw 4) (EV K) {D with nx:=λdi Ay=>∃L as l' g' a b c,l'.length=r.length/\di=[x0,some (.ref L),some (.int g'),a,b,c]/\wd Ay L as (C6 l')/\(∀a,a=L\/a∈as->new a)/\(∀a,Ay a=none->new a)/\g'+rings l'=g+rings l/\(∀x o,¬new x->H x=some o->Ay x=some o),ct:=λdi Ay=>∃L as l' g' a b c,l'.length=r.length/\di=[x0,some (.ref L),some (.int g'),a,b,c]/\wd Ay L as (C6 l')/\(∀a,a=L\/a∈as->new a)/\(∀a,Ay a=none->new a)/\g'+rings l'=g+rings l/\(∀x o,¬new x->H x=some o->Ay x=some o),bk:=D.nx} [x0,some (.ref M2),some (.int QO),some (.ref a0),a4,a5] (L2.upd H' M2 (.lst (as.map V.ref))):=by
    intro QO hg;refine Wx SU N2 nd.1 PJ λc d H4 z1 z2 z3=>⟨M2,as,r.map (yh a b),QO,_,_,_,by simp,rfl,z1,λy hy=>?_,λy hy=>k4 y (z3 y hy),?_,λx o hx e=>z2 x o (λz=>hx (e3 x (.inr (o_ _ z)))) (k6 x o hx e)⟩
    ·rcases hy with hy|hy
     ·rw[hy];exact EW
     ·exact e3 y (.inr (o_ _ hy))
    ·rw[←e5,aE,hg]
     split<;>simp<;>omega
   refine⟨.ref a0,rfl,a0,_,_,.int a,rfl,rfl,.inl (.inl SU),rfl,.ref a0,rfl,a0,_,_,.int b,rfl,rfl,.inl (.inl SU),rfl,a,b,rfl,rfl,_,rfl,?_⟩;dsimp only;by_cases qz:a=b
   ·rw[bp (show decide (a=b)=true from Ad qz)]
    refine⟨.int g',rfl,g',1,rfl,rfl,?_⟩;exact rest (g'+1) (by rw[bp qz])
   ·rw[az (show¬decide (a=b)=true from by simpa using qz)]
    exact rest g' (by rw[az qz];omega)
theorem gU:∀{R:List (List Int)}{l:List (Int×Int)},i_ R=some l->R=C6 l
 |[],l,h=>by simp[i_] at h;subst h;rfl
 |[a,b]::R,l,h=>by
  rw[i_] at h
  cases e:i_ R with
  |none=>rw[e] at h;cases h
  |some q=>rw[e] at h;cases h;rw[gU e];rfl
 |[]::R,l,h=>by simp[i_] at h
 |[_]::R,l,h=>by simp[i_] at h
 |(_::_::_::_)::R,l,h=>by simp[i_] at h
theorem six{α:Type}{σ:List α}(h:σ.length=6):∃a b c d e f,σ=[a,b,c,d,e,f]:=by
 match σ,h with
 |[a,b,c,d,e,f],_=>exact⟨a,b,c,d,e,f,rfl⟩
section
variable{X:Cx}{cl:Nat->Addr}{XE:Nat->St->Hp->Prop}{Φ:Nat->List D->R D}{G:List D}{n:Nat}
theorem Iu(h1:Pf X cl 0 1 s1)(h2:PS X s2 (jn (tC (.int 0)) (bw 2)))(h3:PS X s3 (Mn X.K))(h4:PS X s4 (Cn (bu 2))):Av X cl XE Φ G n [.DW] [s1,s2,s3,s4]:=by
 obtain⟨t1,p1,i1⟩:=h1;refine⟨_,aF p1 (aF h2 (aF h3 (aJ h4))),λcu bq F σ δ H W f0 h=>?_⟩;have hx:lp X.K cl XE cu bq W (Ds δ):=by
  simp only[ao,bg] at h;cases e:Ds δ<;>rw[e] at h<;>exact h
 clear h;unfold Ds at hx
 cases e:(qv (bx δ 0)).bind i_ with
 |none=>rw[e] at hx;exact hx.elim
 |some l=>
  rw[e] at hx;dsimp only at hx;by_cases hc:δ.length=6/\l.length<=900
  ·rw[bp hc] at hx
   cases er:qv (bx δ 0) with
   |none=>rw[er] at e;cases e
   |some R=>
    rw[er,DP] at e;have eR:=gU e;subst eR;have e0:=rJ er;have Pd:σ.length=6:=by rw[f0.sees.len];exact hc.1
    obtain⟨y0,y1,y2,y3,y4,y5,rfl⟩:=six Pd;show t1 _ H _;refine i1 F _ δ H _ false (C6 l) f0.sees e0 (by simp;omega) λH1 L as sm fL WD nn=>?_;show Mn X.K _ [y0,some (.ref L),some (.int 0),y3,y4,y5] H1;refine WB nn (λa=>H a=none) (λa ha=>?_) (λa ha=>sm.free ha) λdi H' hs hk=>?_
    ·rcases ha with rfl|ha
     ·exact fL
     ·exact WD a ha
    ·rw[Int.zero_add] at hs
     refine⟨_,hs,hx F _ H' (f0.up.trans ⟨λa o z=>hk a o (by rw[z];exact Kf _) (sm _ _ z),λ_ z=>z,λ_ z=>.inl z⟩) (by simp[Rep])⟩
  ·rw[az hc] at hx;exact hx.elim
end
section
variable{X:Cx}{cl:Nat->Addr}
theorem cV{tg iter:Expr}{body:List Stmt}{wi:TI}{g:TG}{tb:TS}{pos:Pos}(hi:PI X.yo tg iter wi)(hg:PG X.yo tg g)(hb:Di X.yo body tb)(hc:X.calm=true:=by rfl)(hs:∀x,foldedSetIterable iter X.yo.env x=pure x:=by intro _;rfl):PS X (.For tg iter body [] pos) (jo wi g tb):=
 PS.yo (xE (X:=X.yo) PassesOwn.never hc hi hg hb hs)
theorem Iv(hc:PT X.yo c tc)(hb:Di X.yo body tb):PS X (.While c body [] pos) (Co tc tb):=PS.yo (oJ (X:=X.yo) PassesOwn.never hc hb)
theorem bL{i:Nat}{x:Str}{e:Expr}{te:TE}{pos pos':Pos}(hN:X.N.Nodup)(he:PE X e te)(hi:X.N[i]?=some x:=by rfl)(hx:Loc X.env.scope x:=by first|exact Or.inl rfl|exact Or.inr rfl)(hs:swapsWith e (some (.Name x pos')) pos.line X.env=pure false:=by rfl)(hf:X.fn x=true\/X.env.scope.names.lookup x=some .local:=by first|exact .inl rfl|exact .inr rfl):
  PS X (.Assign [.Name x pos'] e pos) (jn te (bw i)):=qS hN hi hx he hs hf
theorem iI{elts:List Expr}{k:Nat}{Cp:Pos}{o:Expr}{apos dy:Pos}{td:TE}(ho:PE X o td)(iy:attributeBase o "items" X.env (eval o X.env)=eval o X.env:=by rfl)(iz:(apos.endLine==dy.line)=true:=by rfl):
  PI X (.Tuple elts k Cp) (.Call (.Attribute o "items" apos) [] [] dy) (t_ (CB tu td)):=zA (Mf PySem.F.slot_dict_items PySem.F.type_dict_items y9 ho iy iz)
theorem rX{o e f:Expr}{apos dy:Pos}{td:TE}{t:TA}(hu:X.A.units+20<cLine)(ho:PE X o td)(ha:PA X [e,f] t)(iy:attributeBase o "get" X.env (eval o X.env)=eval o X.env:=by rfl)
  (Cq:((backTo dy (starEach [e,f] X.env)).all (λx=>!x.1)&&(backToKw dy (keywordEach [] X.env)).all (λx=>x.1.isSome)&&decide (([e,f]:List Expr).length+([]:List Keyword).length+(if([]:List Keyword).isEmpty then 0 else 1)<30))=true:=by rfl)
  (iz:(apos.endLine==dy.line)=true:=by rfl) (hs:starEach [e,f] X.env=(false,eval e X.env)::starEach [f] X.env:=by rfl) (s_:(backTo dy (starEach [f] X.env)).any (·.1)=false:=by rfl):
  PE X (.Call (.Attribute o "get" apos) [e,f] [] dy) (Me (BQ X.K) td t):=JT PySem.F.slot_dict_get PySem.F.type_dict_get (Ic hu) ho ha iy Cq iz hs s_
theorem Mo{o e f:Expr}{apos dy:Pos}{td:TE}{t:TA}(ho:PE X o td)(ha:PA X [e,f] t)(iy:attributeBase o "setdefault" X.env (eval o X.env)=eval o X.env:=by rfl)
  (Cq:((backTo dy (starEach [e,f] X.env)).all (λx=>!x.1)&&(backToKw dy (keywordEach [] X.env)).all (λx=>x.1.isSome)&&decide (([e,f]:List Expr).length+([]:List Keyword).length+(if([]:List Keyword).isEmpty then 0 else 1)<30))=true:=by rfl)
  (iz:(apos.endLine==dy.line)=true:=by rfl) (hs:starEach [e,f] X.env=(false,eval e X.env)::starEach [f] X.env:=by rfl) (s_:(backTo dy (starEach [f] X.env)).any (·.1)=false:=by rfl):
  PE X (.Call (.Attribute o "setdefault" apos) [e,f] [] dy) (Me EL td t):=JT PySem.F.slot_dict_setdefault PySem.F.type_dict_setdefault Ie ho ha iy Cq iz hs s_
noncomputable abbrev Ne(cl:Nat->Addr):St->XK:=λσ=>OG cl λc=>(λ_ _ _=>False:Nat->St->Hp->Prop) c σ
theorem bE{k:Nat}{f:Addr}{fd:FuncData}{ps:List Str}{sp:Sp}{x:Str}{p pos:Pos}{e:Expr}{es:List Expr}{t:TA}(Fo:nh X.prog X.w X.K X.mg X.base (yg X.prog X.w) k f fd ps sp)(hr:lh k X.A)(hm:X.mg x=some (.ref f))(hk:PySem.W.keepIn X.K (.ref f)=true)(hb:Binds X.K fd ps [])(ha:PA X (e::es) t)
  (hg:Gl X x:=by rfl) (yx:(x==("__debug__":Str))=false:=by decide) (he:starEach (e::es) X.env=(false,eval e X.env)::starEach es X.env:=by rfl) (Bo:(backTo pos (starEach es X.env)).any (·.1)=false:=by rfl):
  PE X (.Call (.Name x p) (e::es) [] pos) (lq sp (Ne cl) t):=oU Fo hr hg hm hk hb (λ_=>jA) ha yx he Bo
theorem jR{a b:Expr}{ta tb:TE}{pos:Pos}(ha:PE X a ta)(hb:PE X b tb)(hs:uw b:=by exact λ_ _=>rfl):PE X (.Subscript a b pos) (za (Dm X.K) ta tb):=xN xO ha hb hs
theorem jS{a b:Expr}{ta tb:TE}{pos:Pos}(ha:PE X a ta)(hb:PE X b tb)(hs:uw b:=by exact λ_ _=>rfl):PE X (.Subscript a b pos) (za (vz X.K) ta tb):=xN CT ha hb hs
theorem jT{i:Nat}{x:Str}{pos:Pos}(hN:X.N.Nodup)(hi:X.N[i]?=some x:=by rfl)(hx:Loc X.env.scope x:=by first|exact Or.inl rfl|exact Or.inr rfl)(hf:X.fn x=true\/X.env.scope.names.lookup x=some .local:=by first|exact .inl rfl|exact .inr rfl):PG X (.Name x pos) (bw i):=(yS (cl:=λ_=>0) hN hi hx hf).1
theorem uI{i j:Nat}{x y:Str}{k:Nat}{p1 p2 pos:Pos}(hN:X.N.Nodup)(hc:X.calm=true:=by rfl)(hi:X.N[i]?=some x:=by rfl)(hx:Loc X.env.scope x:=by first|exact Or.inl rfl|exact Or.inr rfl)(hf:X.fn x=true\/X.env.scope.names.lookup x=some .local:=by first|exact .inl rfl|exact .inr rfl)
  (hj:X.N[j]?=some y:=by rfl) (hy:Loc X.env.scope y:=by first|exact Or.inl rfl|exact Or.inr rfl) (OI:X.fn y=true\/X.env.scope.names.lookup y=some .local:=by first|exact .inl rfl|exact .inr rfl):PG X (.Tuple [.Name x p1,.Name y p2] k pos) (Dz X.K i j):=(JO (cl:=λ_=>0) hN hc hi hx hf hj hy OI).1
theorem zL(ho:PE X o to)(hi:PE X i ti)(hs:Gw X t)
  (ha:∀v,assign (.Subscript o i pos) X.env v=(do
   let ov←holding [v] (eval o X.env)
   let iv←holding [v,ov] (eval i X.env)
   standAt pos
   holding [v,ov,iv] (setItem ov iv v)
   release [v,ov,iv] []):=by intro _;rfl):PG X (.Subscript o i pos) (Dj to ti t):=xC ho hi hs ha
theorem jU(he:PE X e te)(hs:swapsWith e none pos.line X.env=pure false:=by rfl):PS X (.Expr e pos) (uo te):=tG he hs
theorem J5{a:Expr}{ta:TE}{p pos:Pos}(hm:X.mg "len"=none)(ha:PE X a ta)(hg:Gl X "len":=by rfl)(hs:starEach (a::[]) X.env=(false,eval a X.env)::starEach [] X.env:=by rfl):PE X (.Call (.Name "len" p) [a] [] pos) (GC (EU X.K) (bo ta du)):=
 eM eV hg hm PySem.boot_len (aw ha c_ hs) (by decide) (by decide) hs rfl
theorem PK{a:Expr}{ta:TE}{p pos:Pos}(hm:X.mg "max"=none)(ha:PE X a ta)(hc:X.calm=true:=by rfl)(hg:Gl X "max":=by rfl)(hs:starEach (a::[]) X.env=(false,eval a X.env)::starEach [] X.env:=by rfl):PE X (.Call (.Name "max" p) [a] [] pos) (GC (Pp X.K) (bo ta du)):=
 eM (vX hc) hg hm boot_max (aw ha c_ hs) (by decide) (by decide) hs rfl
theorem PM{a:Expr}{ta:TE}{p pos:Pos}(hm:X.mg "list"=none)(ha:PE X a ta)(hc:X.calm=true:=by rfl)(hg:Gl X "list":=by rfl)(hs:starEach (a::[]) X.env=(false,eval a X.env)::starEach [] X.env:=by rfl):PE X (.Call (.Name "list" p) [a] [] pos) (GC JX (bo ta du)):=
 fT (rS hc) hg hm boot_list (aw ha c_ hs) (by decide) (by decide) hs rfl
theorem Mp{tg a b c:Expr}{ta:TA}{p pos:Pos}(hm:X.mg "range"=none)(ha:PA X [a,b,c] ta)(hg:Gl X "range":=by rfl)(hs:starEach [a,b,c] X.env=[(false,eval a X.env),(false,eval b X.env),(false,eval c X.env)]:=by rfl)(M0:starEach [b,c] X.env=[(false,eval b X.env),(false,eval c X.env)]:=by rfl):
  PI X tg (.Call (.Name "range" p) [a,b,c] [] pos) (JZ ta):=Ig hg hm ha hs M0
theorem zM{tg a:Expr}{ta:TA}{p pos:Pos}(hm:X.mg "range"=none)(ha:PA X [a] ta)(hg:Gl X "range":=by rfl)(hs:starEach [a] X.env=[(false,eval a X.env)]:=by rfl):PI X tg (.Call (.Name "range" p) [a] [] pos) (CP ta):=kX hg hm ha hs
end
theorem uJ{K:PySem.W.Frag}(h:∀(cl:Nat->Addr)(F:Addr->Prop)(H:Hp),Rep K cl F H (.tup [.int x,.int y]) v):∃a,v=.ref a/\∀H,ju K H a [.int x,.int y]:=by
 have one:∀H,∃a,v=.ref a/\ju K H a [.int x,.int y]:=λH=>by
  have:=h (λ_=>0) (λ_=>False) H;simp only[Rep,au] at this;obtain⟨a,vs,e,q,v1,r1,rfl,rfl,v2,r2,rfl,rfl,rfl⟩:=this;exact⟨a,e,q⟩
 obtain⟨a,rfl,_⟩:=one λ_=>none;refine⟨a,rfl,λH=>?_⟩;obtain⟨a',e,q⟩:=one H;cases e;exact q
section
variable{P:Program}{w:World}{K:PySem.W.Frag}{mg:Str->Option Value}{base:Heap}{cl:Nat->Addr}{Pg:Prog}
theorem CF{x qual:Str}{st:Stmt}{fa:Addr}{fd:FuncData}{N ps:List Str}{k:Nat}{sp:Sp}{t:XK->TS}(F:GX K x qual st fa fd)(S:ur N ps (de st))(len:∀vs H Q E,sp vs H Q E->vs.length=ps.length)
  (run:∀{vs H Q E},sp vs H Q E->t E {nx:=λ_ H'=>Q .cx H',rt:=Q} (start N vs) H)
  (hb:∀(cd:Value)(A:Around)(outer:List Env)(s:Shared)(H:Hp)(E:XK),lh k (A.deeper (envOfC qual (de st) s.heap.objs.size fa cd))->Di (Uc P w K mg base N qual (de st) fa cd A outer s H E) (l_ st) (t E)):nh P w K mg base (yg P w) (k+1) fa fd ps sp:=by
 obtain⟨oc,od,kV,doc,pm,an,yd,ct,KU,rfl,lk,um⟩:=F.ex;exact Js lk um S len λA outer s H vs Q E hr h=>⟨t E,hb yd A outer s H E hr,run h⟩
theorem cA(h:∀ds,bc Pg j f ds=.bad):nh P w K mg base (yg P w) k fa fd ps (uy K cl (bc Pg j) f):=
 ⟨λvs H Q E ⟨F,ds,_,_,z⟩=>by rw[h] at z;exact z.elim,λA outer s H args us vs Q E _ _ _ _ ⟨F,ds,_,_,z⟩=>by rw[h] at z;exact z.elim⟩
end
theorem walk_law4{l:PySem.W.OpenLaw}{K:Params->PySem.W.Frag}(ht:∀ns:List Int,ns.length<=63->bc Pg j f [.gu ns]=.ok (.bl true))
  (hn:l.most=some 63) (Rx:d.params.defaults=[]) (hY:∀(w:World)(h:Heap),YP w h->(K w.params).In h)
  (F:∀(w:World)(mg mb:Str->Option Value)(mean:ExcName->Option Value)(fa:Addr)(h:Heap),(K w.params).In h->Top q (PySem.W.looseW q loose) mean mg mb h->mg d.name=some (.ref fa)->
   ∃(fd:FuncData)(cl:Nat->Addr),(∀(s:Shared)(u:Value),BindsTo s fd ⟨[u],[]⟩ [("script",u)])/\∀base:Heap,(K w.params).In base->base.Ns mainGlobals mg->(∀b o,h.get? b=some o->(∀its n,o.data≠.seq its n)->base.get? b=some o)->
    nh l.prog w (K w.params) mg base (yg l.prog w) (4*j+4) fa fd ["script"] (uy (K w.params) cl (bc Pg j) f)) (hj:j<=14):
  PySem.W.WalkO q loose XP YP l.row.toRowW d [] (λf vs=>PySem.call f vs):=by
 refine Att.BD hn Rx λw h_ da mg mb fa o pm cd doc a vs ns G Y ho hd um hmg K_ hints hlen hg=>?_;have KX:=hY w _ Y;obtain⟨fd,cl,hb,hF⟩:=F w mg mb _ fa _ KX G.T hmg;have hr:lh (4*j+4) callerA:=by
  have r:lh 60 callerA:=⟨rfl,by decide,by decide⟩
  exact r.mono (by omega)
 exact vV KX G.T.g G.T.b G.T.builtins G.T.nolimit hg K_ hints (qe hlen (by decide)) hr hF hb (λH hO hS=>LQ (ht ns hlen) hO hS) λH e s' z=>LR z
theorem v9(hI:IntsAre vs ns)(h:r_ ns=true):zr vs ns:=nomatch h
theorem cB(h:Pg.fns[f]?=some ⟨np,ns,[.ret (.bb .neg (.cst .cx))]⟩)(j:Nat)(ds:List D):bc Pg j f ds=.bad:=by
 cases j with
 |zero=>rfl
 |succ j=>simp only[bc,h];split<;>rfl
end L2.Snd
namespace Py
theorem bV(g:D->D):∀(xs:List D),(∀x∈xs,f x=.ok (some (g x)))->ji f xs=.ok (xs.map g)
 |[],_=>rfl
 |x::r,h=>by
  rw[ji,h x si,bV g r λy hy=>h y (o_ _ hy)];rfl
theorem cC(p:D->Bool)(g:D->D):∀(xs:List D),(∀x∈xs,f x=.ok (if p x then some (g x) else none))->ji f xs=.ok ((xs.filter p).map g)
 |[],_=>rfl
 |x::r,h=>by
  rw[ji,h x si,cC p g r λy hy=>h y (o_ _ hy)];cases e:p x<;>simp[e]
theorem lW:∀(xs:List D)(δ:Nat->gk),(∀i (h:i<xs.length),f xs[i] (δ i)=.nx (δ (i+1)))->forM f xs (δ 0)=.nx (δ xs.length)
 |[],δ,_=>rfl
 |x::r,δ,h=>by
  rw[Py.forM.eq_2,show f x (δ 0)=.nx (δ 1) from h 0 (by simp)];exact lW r (λi=>δ (i+1)) λi hi=>h (i+1) (by simpa using hi)
theorem zN(n:Nat)(δ:Nat->gk)(h:∀i,i<n->f (.int i) (δ i)=.nx (δ (i+1))):forM f (cj 0 n) (δ 0)=.nx (δ n):=by
 have:=lW (cj 0 n) δ (f:=f) λi hi=>by
  have ya:i<n:=by simpa[cj] using hi
  have e:(cj 0 n)[i]=.int i:=by simp[cj]
  rw[e];exact h i ya
 rwa[show(cj 0 n).length=n by simp[cj]] at this
theorem dE:∀(m n:Nat)(δ:Nat->gk),m<n->(∀i,i<m->c (fz (δ i))=.ok true/\b (fz (δ i))=.nx (δ (i+1)))->c (fz (δ m))=.ok false->A_ c fz b n (δ 0)=.nx (fz (δ m))
 |0,n+1,δ,_,_,he=>by rw[A_,he]
 |m+1,n+1,δ,hm,h,he=>by
  obtain⟨h1,h2⟩:=h 0 (by omega);rw[A_,h1];dsimp only;rw[h2];exact dE m n (λi=>δ (i+1)) (by omega) (λi hi=>h (i+1) (by omega)) he
noncomputable def ai(xs:List Int):List D:=xs.map .int
noncomputable def af(r:List Int):D:=.tup (ai r)
theorem d9(lo:Int)(n:Nat):(cj lo n).length=n:=by simp[cj]
theorem aK{n:Nat}(h:n<=1000):a_ .g_ [.int n]=.ok (cj 0 n):=by
 have h1:(-(gx:Int))<=(n:Int)/\(n:Int)<=(gx:Int):=by
  have:(gx:Int)=100000:=rfl;omega
 show((if-(gx:Int)<=(n:Int)/\(n:Int)<=(gx:Int) then R.ok (cj 0 (n:Int).toNat) else R.bad).bind λxs=>if xs.length<=gx then R.ok xs else R.bad)=_;rw[bp h1];simp only[R.my,D6,d9];rw[bp (show n<=gx from qe h (by decide))]
theorem aW(h:xs.length<=1000):a_ .seq [.lst xs]=.ok xs:=by
 show(if xs.length<=gx then R.ok xs else R.bad)=_;rw[bp (show xs.length<=gx from qe h (by decide))]
theorem bW(h:xs.length<=1000):a_ .seq [.tup xs]=.ok xs:=by
 show(if xs.length<=gx then R.ok xs else R.bad)=_;rw[bp (show xs.length<=gx from qe h (by decide))]
theorem jc{α:Type}{xs:List α}{i:Nat}(h:i<xs.length):rn xs (i:Int)=some xs[i]:=by
 have h1:(0:Int)<=(i:Int):=by omega
 have h2:(i:Int)<(xs.length:Int):=by omega
 simp[rn,Ca,h1,h2,h]
theorem gF(h:i<n):Ca n (i:Int)=some i:=by
 have h1:(0:Int)<=(i:Int):=by omega
 have h2:(i:Int)<(n:Int):=by omega
 simp[Ca,h1,h2]
theorem uK(xs:List α)(a b:Nat):cut xs (some (a:Int)) (some (b:Int))=(xs.drop a).take (b-a):=by
 have h1:¬((a:Int)<0):=by omega
 have h2:¬((b:Int)<0):=by omega
 simp only[cut,d_,az h1,az h2,D6];by_cases ha:a<=xs.length
 ·rw[Nat.min_eq_left ha]
  by_cases hb:b<=xs.length
  ·rw[Nat.min_eq_left hb]
  ·rw[Nat.min_eq_right (by omega)]
   rw[Kc (by rw[Jf];omega),Kc (by rw[Jf];omega)]
 ·have e1:xs.drop a=[]:=List.drop_of_length_le (by omega)
  have e2:xs.drop (min a xs.length)=[]:=List.drop_of_length_le (by omega);rw[e1,e2];simp
theorem uz(xs:List α)(a:Nat):cut xs (some (a:Int)) none=xs.drop a:=by
 have h1:¬((a:Int)<0):=by omega
 simp only[cut,d_,az h1,D6];by_cases ha:a<=xs.length
 ·rw[Nat.min_eq_left ha,Kc (by rw[Jf];omega)]
 ·rw[Nat.min_eq_right (by omega),List.drop_of_length_le (fm _),List.drop_of_length_le (by omega)]
  simp
theorem nD(a b:List D)(h:a.length+b.length<=gx):ae .add (.lst a) (.lst b)=.ok (.lst (a++b)):=bp h
theorem dO(i j:Int)(h:(-(2^64)<i/\i<2^64)\/(-(2^64)<j/\j<2^64)):ae .mul (.int i) (.int j)=.ok (.int (i*j)):=bp h
theorem dP(i j:Int)(h:0<j):ae .mod (.int i) (.int j)=.ok (.int (i%j)):=bp h
theorem nE(i j:Int)(h:0<j/\j<1073741824):ae .fdiv (.int i) (.int j)=.ok (.int (i/j)):=bp h
theorem J6(xs:List D)(i:Int):ae .at (.lst xs) (.int i)=vh (rn xs i):=rfl
theorem zO(xs:List D)(i:Int):ae .at (.tup xs) (.int i)=vh (rn xs i):=rfl
theorem Mq(xs:List D):bb .len (.lst xs)=.ok (.int xs.length):=rfl
theorem nG(xs:List D):bb .len (.tup xs)=.ok (.int xs.length):=rfl
theorem Mr(xs:List D):bb .list (.lst xs)=.ok (.lst xs):=rfl
theorem zP(xs:List D):bb .list (.tup xs)=.ok (.lst xs):=rfl
theorem Ms(xs:List D)(h:nt 999 xs=true):bb .isTup (.tup xs)=.ok (.bl true):=by
 show(if dj 1000 (.tup xs) then _ else _)=_;rw[bp (by simpa[dj] using h)]
theorem Mt(xs:List D)(h:nt 999 xs=true):bb .zi (.lst xs)=.ok (.bl true):=by
 show(if dj 1000 (.lst xs) then _ else _)=_;rw[bp (by simpa[dj] using h)]
theorem jV(d:D):vh (some d)=.ok d:=rfl
theorem of_ok(a:α)(δ:gk)(f:α->Out):Out.of (.ok a) δ f=f a:=rfl
theorem Ln(c:Nat)(δ:gk)(f:α->Out):Out.of (.exc c:R α) δ f=.xc c δ:=rfl
theorem bA(a:α)(f:α->R β):(R.ok a).bind f=f a:=rfl
theorem Za(b:Bool):truth (.bl b)=.ok b:=rfl
theorem Zb(xs:List D):truth (.lst xs)=.ok (!xs.isEmpty):=rfl
theorem Zc(a:α)(δ:gk)(f:α->Out):Out.of (.ok a) δ f=f a:=rfl
theorem Zd(c:Nat)(δ:gk)(f:α->Out):Out.of (.exc c:R α) δ f=.xc c δ:=rfl
theorem Ze(d:D):vh (some d)=.ok d:=rfl
theorem Zf(a:α)(f:α->R β):(R.ok a).bind f=f a:=rfl
theorem Zg(c:Nat)(f:α->R β):(R.exc c:R α).bind f=.exc c:=rfl
theorem Zh(a:α):(R.ok a).quiet=.ok a:=rfl
theorem Zi{α:Type}{x:α}{xs:List α}{a:α}:(x::xs).set 0 a=a::xs:=rfl
theorem Zj{α:Type}{x:α}{xs:List α}{a:α}:(x::xs).set (n+1) a=x::xs.set n a:=rfl
theorem Zk{α:Type}{x:α}{xs:List α}:(x::xs)[0]?=some x:=rfl
theorem Zl{α:Type}{x:α}{xs:List α}:(x::xs)[i+1]?=xs[i]?:=rfl
theorem Zm{α β:Type}{f:α->β}{a:α}{l:List α}:(a::l).map f=f a::l.map f:=rfl
theorem Zn{α β:Type}{f:α->β}:([]:List α).map f=[]:=rfl
theorem Zo{α:Type}(l:List α):[]++l=l:=rfl
theorem Zp{α:Type}{a:α}{l r:List α}:(a::l)++r=a::(l++r):=rfl
theorem Zq{α:Type}(l:List α):l++[]=l:=Ci l
theorem Zr(b:Bool):(b&&true)=b:=Bool.and_true b
theorem Zs(b:Bool):(b&&false)=false:=Bool.and_false b
theorem Zt(b:Bool):(true&&b)=b:=rfl
theorem Zu(b:Bool):(false&&b)=false:=rfl
theorem Zv:(!true)=false:=rfl
theorem Zw:(!false)=true:=rfl
theorem Zx{α:Type}{a b:α}:(some a).getD b=a:=rfl
theorem ZA(i j:Int):ae .add (.int i) (.int j)=.ok (.int (i+j)):=rfl
theorem ZB(i j:Int):ae .sub (.int i) (.int j)=.ok (.int (i-j)):=rfl
theorem ZC(i j:Int):ae .lt (.int i) (.int j)=.ok (.bl (decide (i<j))):=rfl
theorem ZD(i j:Int):ae .le (.int i) (.int j)=.ok (.bl (decide (i<=j))):=rfl
theorem ZE(i j:Int):ae .gt (.int i) (.int j)=.ok (.bl (decide (j<i))):=rfl
theorem ZF(i j:Int):ae .ge (.int i) (.int j)=.ok (.bl (decide (j<=i))):=rfl
theorem ZG(i j:Int):ae .eq (.int i) (.int j)=.ok (.bl (i==j)):=rfl
theorem ZH(i j:Int):ae .ne (.int i) (.int j)=.ok (.bl (!(i==j))):=rfl
theorem ZI(xs:List D)(i:Int):ae .at (.lst xs) (.int i)=vh (rn xs i):=rfl
theorem ZJ(xs:List D)(i:Int):ae .at (.tup xs) (.int i)=vh (rn xs i):=rfl
theorem ZK(xs:List Int)(i:Int):ae .at (.gu xs) (.int i)=vh ((rn xs i).map .int):=rfl
theorem ZL(xs:List D):bb .len (.lst xs)=.ok (.int xs.length):=rfl
theorem ZM(xs:List D):bb .len (.tup xs)=.ok (.int xs.length):=rfl
theorem ZN(xs:List Int):bb .len (.gu xs)=.ok (.int xs.length):=rfl
theorem ZO(i:Int):bb .neg (.int i)=.ok (.int (-i)):=rfl
theorem ZP(xs:List D):bb .tuple (.lst xs)=.ok (.tup xs):=rfl
theorem ZQ(xs:List D):bb .tuple (.tup xs)=.ok (.tup xs):=rfl
theorem ZR(xs:List D):bb .list (.lst xs)=.ok (.lst xs):=rfl
theorem ZS(xs:List D):bb .list (.tup xs)=.ok (.lst xs):=rfl
theorem ZT(i:Int):bb .isInt (.int i)=.ok (.bl true):=rfl
theorem ZU(i:Int):bb .isBool (.int i)=.ok (.bl false):=rfl
noncomputable def C7:List Sm:=[(.ite (.leaf (.ae .lt (.var 1) (.bb .len (.var 0)))) [(.ret (.ae .at (.var 0) (.var 1)))] []),(.ret (.cst (.int 0)))]
noncomputable def jj(ns:List Int)(k:Nat):Int:=ns.getD k 0
section
variable{Φ:Nat->List D->R D}{G:List D}{n:Nat}
theorem zQ(ns:List Int)(k:Nat):ao Φ G n C7 [some (false,.gu ns),some (false,.int k)]=.rt (.int (jj ns k)):=by
 by_cases h:k<ns.length
 ·have e:decide ((k:Int)<(ns.length:Int))=true:=Ad (by omega)
  simp only[C7,ao,bg,fe,ev,av,aj,aa,cg,bx,Za,Zc,Ze,Zf,Zk,Zl,Zq,b_,ZC,ZK,ZN,e,jc h,Option.map_some];simp[jj,h]
 ·have e:decide ((k:Int)<(ns.length:Int))=false:=Al (by omega)
  have e2:jj ns k=0:=by simp[jj,I_ (by omega:ns.length<=k)]
  simp only[C7,ao,bg,fe,ev,av,aj,aa,cg,bx,Za,Zc,Zf,Zk,Zl,Zq,b_,df,gV,ZC,ZK,ZN,e,e2]
noncomputable def ng(ns:List Int)(k:Nat):Int:=if k<ns.length then jj ns k else(jj ns 0+7*k+3)*48271%2147483647/13
noncomputable def C8(c:Nat):List Sm:=[(.ite (.leaf (.ae .lt (.var 1) (.bb .len (.var 0)))) [(.ret (.ae .at (.var 0) (.var 1)))] []),(.ret (.ae .fdiv (.ae .mod (.ae .mul (.ae .add (.ae .add (.call c [(.var 0),(.cst (.int 0))]) (.ae .mul (.cst (.int 7)) (.var 1))) (.cst (.int 3))) (.cst (.int 48271))) (.cst (.int 2147483647))) (.cst (.int 13))))]
theorem pick_run(ns:List Int)(k:Nat)(hc:Φ c [.gu ns,.int 0]=.ok (.int (jj ns 0))):ao Φ G n (C8 c) [some (false,.gu ns),some (false,.int k)]=.rt (.int (ng ns k)):=by
 by_cases h:k<ns.length
 ·have e:decide ((k:Int)<(ns.length:Int))=true:=Ad (by omega)
  simp only[C8,ao,bg,fe,ev,av,aj,aa,cg,bx,Za,Zc,Ze,Zf,Zk,Zl,Zq,b_,ZC,ZK,ZN,e,jc h,Option.map_some];simp[ng,jj,h]
 ·have e:decide ((k:Int)<(ns.length:Int))=false:=Al (by omega)
  have m1:∀x:Int,ae .mul (.int 7) (.int x)=.ok (.int (7*x)):=λx=>dO _ _ (.inl (by decide));have m2:∀x:Int,ae .mul (.int x) (.int 48271)=.ok (.int (x*48271)):=λx=>dO _ _ (.inr (by decide));have m3:∀x:Int,ae .mod (.int x) (.int 2147483647)=.ok (.int (x%2147483647)):=λx=>dP _ _ (by decide);have m4:∀x:Int,ae .fdiv (.int x) (.int 13)=.ok (.int (x/13)):=λx=>nE _ _ (by decide);simp only[C8,ao,bg,fe,ev,cv,av,cq,aj,aa,ag,cg,bx,Za,Zc,Zf,Zk,Zl,Zq,b_,df,gV,ZA,ZC,ZK,ZN,e,hc,m1,m2,m3,m4,ng,az h]
end
noncomputable def fj(xs:List Nat):List D:=xs.map λk=>.int (k:Nat)
structure Pr where
 owner:List Int
 left:List Nat
 name:Nat
noncomputable def yr(pk:Nat->Int)(s:Pr):Nat:=(1+pk s.name%((s.left.length:Int)-1)).toNat
noncomputable def qw(pk:Nat->Int)(s:Pr):Pr:=
 ⟨(s.owner.set (s.left.getD 0 0) s.name).set (s.left.getD (yr pk s) 0) s.name,(s.left.drop 1).take (yr pk s-1)++s.left.drop (yr pk s+1),s.name+1⟩
noncomputable def gh(pk:Nat->Int)(s:Pr):Nat->Pr
 |0=>s
 |i+1=>qw pk (gh pk s i)
noncomputable def Be(pk:Nat->Int)(s:Pr):Pr:=gh pk s (s.left.length/2)
theorem rY(h:1<s.left.length):1<=yr pk s/\yr pk s<s.left.length/\(yr pk s:Int)=1+pk s.name%((s.left.length:Int)-1):=by
 have h1:(0:Int)<(s.left.length:Int)-1:=by omega
 have h2:=Int.emod_nonneg (pk s.name) (Int.ne_of_gt h1);have h3:=Int.emod_lt_of_pos (pk s.name) h1;unfold yr;omega
theorem wA(h:1<s.left.length):(qw pk s).left.length=s.left.length-2:=by
 obtain⟨h1,h2,_⟩:=rY (pk:=pk) h;simp only[qw,rj,Bj,Jf];omega
theorem bJ:∀i,2*i<=s.left.length->(gh pk s i).left.length=s.left.length-2*i/\(gh pk s i).name=s.name+i
 |0,_=>⟨by simp[gh],rfl⟩
 |i+1,h=>by
  obtain⟨h1,h2⟩:=bJ (pk:=pk) (s:=s) i (by omega);refine⟨?_,?_⟩
  ·rw[gh,wA (by omega),h1];omega
  ·show(gh pk s i).name+1=_
   rw[h2];omega
def Nr(s:Pr):Prop:=∀i∈s.left,i<s.owner.length
theorem zR(h:Nr s):Nr (qw pk s):=by
 intro i hi;simp only[qw,Jh] at hi⊢;rcases List.mem_append.mp hi with z|z
 ·exact h i (List.mem_of_mem_drop (List.mem_of_mem_take z))
 ·exact h i (List.mem_of_mem_drop z)
theorem pS(h:Nr s):∀i,Nr (gh pk s i)
 |0=>h
 |i+1=>zR (pS h i)
theorem jW:∀i,(gh pk s i).owner.length=s.owner.length
 |0=>rfl
 |i+1=>by
  show((_:List Int).set _ _).length=_;rw[Jh,Jh,jW i]
noncomputable def BX(p:Nat):List Sm:=[(.asg 8 (.ae .add (.cst (.int 1)) (.ae .mod (.call p [(.var 0),(.ae .add (.var 1) (.var 7))]) (.ae .sub (.bb .len (.var 6)) (.cst (.int 1)))))),(.put 4 (.ae .at (.var 6) (.cst (.int 0))) (.var 7)),(.put 4 (.ae .at (.var 6) (.var 8)) (.var 7)),(.asg 6 (.ae .add (.xv (.var 6) (some (.cst (.int 1))) (some (.var 8))) (.xv (.var 6) (some (.ae .add (.var 8) (.cst (.int 1)))) none))),(.asg 7 (.ae .add (.var 7) (.cst (.int 1))))]
section
variable{Φ:Nat->List D->R D}{G:List D}{n:Nat}
theorem lX(h:i<xs.length):(fj xs)[i]'(by simpa[fj] using h)=.int (xs.getD i 0:Nat):=by
 simp[fj,h]
theorem pT{xs:List Nat}(h:i<xs.length):xs.getD i 0∈xs:=by
 simp[List.getD,uc h]
theorem zS(s:Pr)(hp:Φ p [.gu ns,.int (start+(s.name:Nat))]=.ok (.int (pk s.name)))(hl:1<s.left.length)(WE:s.left.length<=1000)(yq:Nr s):
  ao Φ G n (BX p) [some (false,.gu ns),some (false,.int start),some (false,.int many),c3,some (true,.lst (ai s.owner)),c5,some (true,.lst (fj s.left)),some (false,.int (s.name:Nat)),c8]=
  .nx [some (false,.gu ns),some (false,.int start),some (false,.int many),c3,some (true,.lst (ai (qw pk s).owner)),c5,some (true,.lst (fj (qw pk s).left)),some (false,.int ((qw pk s).name:Nat)),some (false,.int (yr pk s:Nat))]:=by
 obtain⟨h1,h2,h3⟩:=rY (pk:=pk) hl;have hlen:(fj s.left).length=s.left.length:=by simp[fj]
 have e1:(0:Int)<(s.left.length:Int)-1:=by omega
 have e2:rn (fj s.left) 0=some (.int (s.left.getD 0 0:Nat)):=by
  have:=jc (xs:=fj s.left) (i:=0) (by rw[hlen];omega);rw[lX (by omega)] at this;exact this
 have e3:rn (fj s.left) (yr pk s:Nat)=some (.int (s.left.getD (yr pk s) 0:Nat)):=by
  have:=jc (xs:=fj s.left) (i:=yr pk s) (by rw[hlen];omega);rw[lX (by omega)] at this;exact this
 have m1:s.left.getD 0 0<s.owner.length:=yq _ (pT (by omega));have m2:s.left.getD (yr pk s) 0<s.owner.length:=yq _ (pT (by omega));have i1:Ca (ai s.owner).length (s.left.getD 0 0:Nat)=some (s.left.getD 0 0):=gF (by simpa[ai] using m1);have i2:Ca ((ai s.owner).set (s.left.getD 0 0) (.int s.name)).length (s.left.getD (yr pk s) 0:Nat)=some (s.left.getD (yr pk s) 0):=gF (by simpa[ai] using m2);have c1:cut (fj s.left) (some 1) (some (yr pk s:Nat))=fj ((s.left.drop 1).take (yr pk s-1)):=by
  have:=uK (fj s.left) 1 (yr pk s);simp only[fj,List.map_take,List.map_drop] at this⊢;exact this
 have c2:cut (fj s.left) (some ((yr pk s:Nat)+1)) none=fj (s.left.drop (yr pk s+1)):=by
  have:=uz (fj s.left) (yr pk s+1);simp only[fj,List.map_drop] at this⊢;exact this
 have l1:(fj ((s.left.drop 1).take (yr pk s-1))).length+(fj (s.left.drop (yr pk s+1))).length<=gx:=by
  simp only[fj,dz,Bj,Jf];have:gx=100000:=rfl;omega
 simp only[BX,ao,bg,ev,cv,Cc,av,cq,aa,ag,nu,cg,bx,Zc,G',ay,bj,xv,Ze,Zf,Zi,Zj,Zk,Zl,Zo,Zq,b_,df,gV,Zt,ZA,ZB,ZI,ZL,hp,hlen,dP _ _ e1,h3.symm,tj,putD,e2,e3,i1,i2,c1,c2,nD _ _ l1];simp[qw,ai,fj,List.map_set]
end
section
variable{Φ:Nat->List D->R D}{G:List D}{n:Nat}
noncomputable def pairD(x:Nat×Nat):D:=.tup [.int (x.1:Nat),.int (x.2:Nat)]
noncomputable def vd(fx:List (Nat×Nat))(o:List Int):Nat->List Int
 |0=>o
 |i+1=>((vd fx o i).set (fx.getD i (0,0)).1 i).set (fx.getD i (0,0)).2 i
noncomputable def sf(o:List Int):List Nat:=(List.range o.length).filter λk=>decide (o.getD k 0<0)
noncomputable def kf(m:Nat)(fx:List (Nat×Nat)):Pr:=⟨vd fx (List.replicate (4*m) (-1)) fx.length,sf (vd fx (List.replicate (4*m) (-1)) fx.length),fx.length⟩
noncomputable def kg(m:Nat)(o:List Int):List (List Int):=(List.range m).map λk=>(o.drop (4*k)).take 4
noncomputable def C9(p:Nat):List Sm:=[(.asg 4 (.comp .g_ [(.ae .mul (.cst (.int 4)) (.var 2))] [] 1 none (.bb .neg (.cst (.int 1))))),(.loop .g_ [(.bb .len (.var 3))] [5] [(.put 4 (.ae .at (.ae .at (.var 3) (.var 5)) (.cst (.int 0))) (.var 5)),(.put 4 (.ae .at (.ae .at (.var 3) (.var 5)) (.cst (.int 1))) (.var 5))]),(.asg 6 (.comp .g_ [(.ae .mul (.cst (.int 4)) (.var 2))] [4] 1 (some (.leaf (.ae .lt (.ae .at (.var 1) (.var 0)) (.cst (.int 0))))) (.var 0))),(.asg 7 (.bb .len (.var 3))),(.Cd (.leaf (.ae .gt (.bb .len (.var 6)) (.cst (.int 1)))) (BX p)),(.ret (.comp .g_ [(.var 2)] [4] 1 none (.bb .tuple (.xv (.var 1) (some (.ae .mul (.cst (.int 4)) (.var 0))) (some (.ae .add (.ae .mul (.cst (.int 4)) (.var 0)) (.cst (.int 4))))))))]
theorem Mu(x:Int):ae .mul (.int 4) (.int x)=.ok (.int (4*x)):=dO _ _ (.inl (by decide))
theorem DB(x:Int):ae .mul (.int 2) (.int x)=.ok (.int (2*x)):=dO _ _ (.inl (by decide))
theorem bM{x:Int}(e:x=(m:Nat))(h:m<=1000):a_ .g_ [.int x]=.ok (cj 0 m):=by rw[e];exact aK h
theorem cW(m:Nat):cj 0 m=fj (List.range m):=by simp[cj,fj]
theorem fF(fx:List (Nat×Nat))(o:List Int):∀i,(vd fx o i).length=o.length
 |0=>rfl
 |i+1=>by simp[vd,fF fx o i]
noncomputable def AS(c:Slot):Nat->Slot
 |0=>c
 |i+1=>some (false,.int (i:Nat))
noncomputable def C_(pk:Nat->Int)(s:Pr):Nat->Slot
 |0=>none
 |i+1=>some (false,.int (yr pk (gh pk s i):Nat))
theorem PN(hm:m<=100):
  bg Φ G n (.asg 4 (.comp .g_ [(.ae .mul (.cst (.int 4)) (.var 2))] [] 1 none (.bb .neg (.cst (.int 1))))) [some (false,.gu ns),some (false,.int start),some (false,.int (m:Nat)),c3,c4,c5,c6,c7,c8]=
  .nx [some (false,.gu ns),some (false,.int start),some (false,.int (m:Nat)),c3,some (true,.lst (ai (List.replicate (4*m) (-1)))),c5,c6,c7,c8]:=by
 have h1:a_ .g_ [.int (4*(m:Nat))]=.ok (cj 0 (4*m)):=bM (by omega) (by omega);simp only[bg,ev,cv,AM,av,aa,ag,qu,cg,bx,spread,ay,bj,Zf,Zi,Zj,Zk,Zl,Zq,b_,Zt,ZO,Mu,h1,List.filterMap_nil];rw[bV (λ_=>.int (-1)) _ λx hx=>rfl];simp only[Zc,Zf,Zh]
 congr 1
 simp[cj,ai,List.map_const',Jc]
theorem PQ(hl:fx.length<=1000)(hf:∀x∈fx,x.1<o.length/\x.2<o.length):
  bg Φ G n (.loop .g_ [(.bb .len (.var 3))] [5] [(.put 4 (.ae .at (.ae .at (.var 3) (.var 5)) (.cst (.int 0))) (.var 5)),(.put 4 (.ae .at (.ae .at (.var 3) (.var 5)) (.cst (.int 1))) (.var 5))]) [some (false,.gu ns),some (false,.int start),some (false,.int (m:Nat)),some (false,.lst (fx.map pairD)),some (true,.lst (ai o)),c5,c6,c7,c8]=
  .nx [some (false,.gu ns),some (false,.int start),some (false,.int (m:Nat)),some (false,.lst (fx.map pairD)),some (true,.lst (ai (vd fx o fx.length))),AS c5 fx.length,c6,c7,c8]:=by
 have h1:a_ .g_ [.int ((fx.map pairD).length:Nat)]=.ok (cj 0 fx.length):=by rw[dz];exact aK hl
 simp only[bg,ao,bg,ev,cv,av,cq,aa,ag,cg,bx,Zc,spread,Zf,Zh,Zk,Zl,Zq,b_,df,gV,ZL,h1];refine zN fx.length (λi=>[some (false,.gu ns),some (false,.int start),some (false,.int (m:Nat)),some (false,.lst (fx.map pairD)),some (true,.lst (ai (vd fx o i))),AS c5 i,c6,c7,c8]) λi hi=>?_;have g1:rn (fx.map pairD) (i:Nat)=some (pairD (fx.getD i (0,0))):=by
  rw[jc (by simpa using hi)];simp[hi]
 obtain⟨b1,b2⟩:=hf (fx.getD i (0,0)) (by simp[List.getD,uc hi]);have i1:Ca (ai (vd fx o i)).length ((fx.getD i (0,0)).1:Nat)=some (fx.getD i (0,0)).1:=gF (by simpa[ai,fF] using b1);have i2:Ca ((ai (vd fx o i)).set (fx.getD i (0,0)).1 (.int (i:Nat))).length ((fx.getD i (0,0)).2:Nat)=some (fx.getD i (0,0)).2:=gF (by simpa[ai,fF] using b2);have a0:∀x:Nat×Nat,rn [D.int (x.1:Nat),D.int (x.2:Nat)] 0=some (.int (x.1:Nat)):=λ_=>rfl;have a1:∀x:Nat×Nat,rn [D.int (x.1:Nat),D.int (x.2:Nat)] 1=some (.int (x.2:Nat)):=λ_=>rfl;simp only[Zc,Py.sets,Ze,Zf,Zi,Zj,Zk,Zl,b_,ZI,ZJ,tj,putD,g1,pairD,a0,a1,i1,i2,gm,ny,qb];simp[vd,AS,ai,List.map_set]
theorem PR(hm:m<=100)(ho:o.length=4*m):
  bg Φ G n (.asg 6 (.comp .g_ [(.ae .mul (.cst (.int 4)) (.var 2))] [4] 1 (some (.leaf (.ae .lt (.ae .at (.var 1) (.var 0)) (.cst (.int 0))))) (.var 0))) [some (false,.gu ns),some (false,.int start),some (false,.int (m:Nat)),c3,some (true,.lst (ai o)),c5,c6,c7,c8]=
  .nx [some (false,.gu ns),some (false,.int start),some (false,.int (m:Nat)),c3,some (true,.lst (ai o)),c5,some (true,.lst (fj (sf o))),c7,c8]:=by
 have h1:a_ .g_ [.int (4*(m:Nat))]=.ok (cj 0 (4*m)):=bM (by omega) (by omega);simp only[bg,fe,ev,cv,AM,av,aj,aa,ag,qu,cg,bx,spread,dk,ay,bj,Zf,Zi,Zj,Zk,Zl,Zm,Zn,Zo,Zp,Zq,b_,df,gV,Zt,Zx,Mu,h1,List.filterMap_nil,List.filterMap_cons,Nat.reduceLT,Cj];rw[cW];have key:∀k:Nat,k<4*m->rn (ai o) (k:Nat)=some (.int (o.getD k 0)):=λk hk=>by
  rw[jc (by simpa[ai,ho] using hk)];simp[ai,ho,hk]
 rw[cC (λx=>match x with|.int k=>decide (o.getD k.toNat 0<0)|_=>false) (λx=>x) _ λx hx=>?_]
 ·simp only[Zc,Zf,Zh,sf,ho]
  congr 1
  simp[fj,List.filter_map,Jc]
 ·obtain⟨k,hk,rfl⟩:=List.mem_map.mp hx
  have G8:k<4*m:=List.mem_range.mp hk;simp only[Za,Ze,Zf,ZC,ZI,key k G8,D6];by_cases hc:o.getD k 0<0
  ·simp only[hc,decide_true,b_]
  ·simp only[hc,D8,df,gV]
theorem PU(hm:m<=100):
  bg Φ G n (.ret (.comp .g_ [(.var 2)] [4] 1 none (.bb .tuple (.xv (.var 1) (some (.ae .mul (.cst (.int 4)) (.var 0))) (some (.ae .add (.ae .mul (.cst (.int 4)) (.var 0)) (.cst (.int 4)))))))) [some (false,.gu ns),some (false,.int start),some (false,.int (m:Nat)),c3,some (true,.lst (ai o)),c5,c6,c7,c8]=
  .rt (.lst ((kg m o).map af)):=by
 have h1:a_ .g_ [.int (m:Nat)]=.ok (cj 0 m):=aK (by omega);simp only[bg,ev,cv,Cc,AM,av,aa,ag,nu,qu,cg,bx,G',spread,dk,xv,Zf,Zk,Zl,Zm,Zn,Zo,Zp,Zq,b_,Zx,h1,List.filterMap_nil,List.filterMap_cons];rw[cW,bV (λx=>match x with|.int k=>af ((o.drop (4*k.toNat)).take 4)|_=>.cx) _ λx hx=>?_]
 ·simp only[Zc,Zf,Zh]
  congr 1
  simp[fj,kg,Jc]
 ·obtain⟨k,hk,rfl⟩:=List.mem_map.mp hx
  have c:cut (ai o) (some (4*(k:Nat))) (some (4*(k:Nat)+4))=ai ((o.drop (4*k)).take 4):=by
   have:=uK (ai o) (4*k) (4*k+4);simp only[ai,List.map_take,List.map_drop] at this⊢;rw[show 4*k+4-4*k=4 by omega] at this
   push_cast at this
   exact this
  simp only[Zf,ZA,ZP,Mu,c,af,D6]
theorem pU(hm:m<=100)(hl:fx.length<=1000)(hf:∀x∈fx,x.1<4*m/\x.2<4*m)(hp:∀k,Φ p [.gu ns,.int (k:Nat)]=.ok (.int (ng ns k)))(hn:300<n):
  ao Φ G n (C9 p) [some (false,.gu ns),some (false,.int (start:Nat)),some (false,.int (m:Nat)),some (false,.lst (fx.map pairD)),none,none,none,none,none]=.rt (.lst ((kg m (Be (λk=>ng ns (start+k)) (kf m fx)).owner).map af)):=by
 have hlen:(vd fx (List.replicate (4*m) (-1)) fx.length).length=4*m:=by rw[fF];simp
 have yq:Nr (kf m fx):=λi hi=>by
  have ya:i∈sf (vd fx (List.replicate (4*m) (-1)) fx.length):=hi;rw[sf,List.mem_filter] at ya;exact List.mem_range.mp ya.1
 have WE:(kf m fx).left.length<=4*m:=by
  show(sf _).length<=_;rw[sf];refine qe (List.length_filter_le _ _) ?_;rw[List.length_range,hlen];exact fm _
 generalize hs:kf m fx=s at*;have so:vd fx (List.replicate (4*m) (-1)) fx.length=s.owner:=by rw[←hs];rfl
 have sl:sf (vd fx (List.replicate (4*m) (-1)) fx.length)=s.left:=by rw[←hs];rfl
 have sn:fx.length=s.name:=by rw[←hs];rfl
 let pk:Nat->Int:=λk=>ng ns (start+k)
 let st:Nat->gk:=λi=>[some (false,.gu ns),some (false,.int (start:Nat)),some (false,.int (m:Nat)),some (false,.lst (fx.map pairD)),some (true,.lst (ai (gh pk s i).owner)),AS none fx.length,some (true,.lst (fj (gh pk s i).left)),some (false,.int ((gh pk s i).name:Nat)),C_ pk s i]
 have e7:bg Φ G n (.asg 7 (.bb .len (.var 3))) [some (false,.gu ns),some (false,.int (start:Nat)),some (false,.int (m:Nat)),some (false,.lst (fx.map pairD)),some (true,.lst (ai s.owner)),AS none fx.length,some (true,.lst (fj s.left)),none,none]=.nx (st 0):=by
  simp only[bg,ev,av,aa,cg,bx,Zc,ay,bj,Zf,Zi,Zj,Zk,Zl,b_,Zu,ZL,dz,sn,st,gh,C_]
 have ew:bg Φ G n (.Cd (.leaf (.ae .gt (.bb .len (.var 6)) (.cst (.int 1)))) (BX p)) (st 0)=.nx (st (s.left.length/2)):=by
  have z:=dE (c:=fe Φ G (.leaf (.ae .gt (.bb .len (.var 6)) (.cst (.int 1))))) (fz:=av (aj (.leaf (.ae .gt (.bb .len (.var 6)) (.cst (.int 1)))))) (b:=ao Φ G n (BX p)) (s.left.length/2) n st (by omega) (λi hi=>⟨?_,?_⟩) ?_
  ·simpa only[bg,ao,bg,fe,ev,cv,Cc,AM,av,cq,aj,aa,ag,nu,qu,cg,bx,Za,Zb,Zc,Zd,Dp,G',Py.sets,spread,dk,ay,bj,xv,Ze,Zf,Zg,Zh,Zi,Zj,Zk,Zl,Zm,Zn,Zo,Zp,Zq,b_,df,gV,Zr,Zs,Zt,Zu,Zv,Zw,Zx,ZA,ZB,ZC,ZD,ZE,ZF,ZG,ZH,ZI,ZJ,ZK,ZL,ZM,ZN,ZO,ZP,ZQ,ZR,ZS,ZT,ZU] using z
  ·have hl:=(bJ (pk:=pk) (s:=s) i (by omega)).1
   have:decide ((1:Int)<(((fj (gh pk s i).left).length:Nat):Int))=true:=Ad (by simp only[fj,dz];omega);simp only[fe,ev,av,aj,aa,cg,bx,Za,Zf,Zk,Zl,Zq,b_,ZE,ZL,st,this]
  ·have hl:=(bJ (pk:=pk) (s:=s) i (by omega)).1
   have WG:Φ p [.gu ns,.int ((start:Int)+((gh pk s i).name:Nat))]=.ok (.int (pk (gh pk s i).name)):=by
    have:=hp (start+(gh pk s i).name)
    push_cast at this
    exact this
   have:=zS (Φ:=Φ) (G:=G) (n:=n) (start:=(start:Nat)) (many:=(m:Nat)) (c3:=some (false,.lst (fx.map pairD))) (c5:=AS none fx.length) (c8:=C_ pk s i) (gh pk s i) WG (by omega) (by omega) (pS yq i);simpa only[ao,bg,fe,ev,cv,Cc,AM,av,cq,aj,aa,ag,nu,qu,cg,bx,Za,Zb,Zc,Zd,Dp,G',Py.sets,spread,dk,ay,bj,xv,Ze,Zf,Zg,Zh,Zi,Zj,Zk,Zl,Zm,Zn,Zo,Zp,Zq,b_,df,gV,Zr,Zs,Zt,Zu,Zv,Zw,Zx,ZA,ZB,ZC,ZD,ZE,ZF,ZG,ZH,ZI,ZJ,ZK,ZL,ZM,ZN,ZO,ZP,ZQ,ZR,ZS,ZT,ZU,st,gh,C_] using this
  ·have hl:=(bJ (pk:=pk) (s:=s) (s.left.length/2) (by omega)).1
   have:decide ((1:Int)<(((fj (gh pk s (s.left.length/2)).left).length:Nat):Int))=false:=Al (by simp only[fj,dz];omega);simp only[fe,ev,av,aj,aa,cg,bx,Za,Zf,Zk,Zl,Zq,b_,ZE,ZL,st,this]
 unfold C9;rw[ao,PN hm];dsimp only;rw[ao,PQ hl (by simpa using hf)];dsimp only;rw[ao,PR hm hlen];dsimp only;rw[so,←so,sl,so,ao,e7];dsimp only;rw[ao,ew];dsimp only;rw[ao,PU hm];rfl
end
structure GP(s:Pr):Prop where
 nd:s.left.Nodup
 neg:∀i∈s.left,s.owner[i]?=some (-1)
 D2:∀(i:Nat) x,s.owner[i]?=some x->i∉s.left->∃v:Nat,v<s.name/\x=(v:Int)
 two:∀v:Nat,v<s.name->s.owner.count (v:Int)=2
 sz:s.left.length+2*s.name=s.owner.length
theorem GP.big(g:GP s)(h:s.name<=v):s.owner.count (v:Int)=0:=by
 rw[List.count_eq_zero];intro hm;obtain⟨i,hi,e⟩:=List.getElem_of_mem hm;have e':s.owner[i]?=some (v:Int):=by rw[uc hi,e]
 by_cases hl:i∈s.left
 ·rw[g.neg i hl] at e'
  have:(-1:Int)=(v:Int):=ud e';omega
 ·obtain⟨u,hu,e2⟩:=g.D2 i _ e' hl
  omega
theorem jX{o:List Int}(h:o[i]?=some z)(hz:z≠y):(o.set i x).count y=o.count y+(if x=y then 1 else 0):=by
 obtain⟨hi,e⟩:=List.getElem?_eq_some_iff.mp h;rw[List.count_set hi];have:(o[i]==y)=false:=by rw[e];simpa using hz
 rw[this];by_cases hx:x=y<;>simp[hx]
theorem GP.pair(g:GP ⟨o,l,nm⟩)(hp:l.Perm (a::b::(mid++tail))):GP ⟨(o.set a nm).set b nm,mid++tail,nm+1⟩:=by
 have nd:=hp.nodup_iff.mp g.nd;have na:a∉b::(mid++tail):=(List.nodup_cons.mp nd).1;have UG:=(List.nodup_cons.mp nd).2;have nb:b∉mid++tail:=(List.nodup_cons.mp UG).1;have WH:(mid++tail).Nodup:=(List.nodup_cons.mp UG).2;have qz:a≠b:=λe=>na (by simp[e]);have ha:o[a]?=some (-1):=g.neg a (hp.mem_iff.mpr (by simp));have hb:o[b]?=some (-1):=g.neg b (hp.mem_iff.mpr (by simp));have UH:(o.set a (nm:Int))[b]?=some (-1):=by rw[AW qz];exact hb
 have la:=(List.getElem?_eq_some_iff.mp ha).1;have lb:=(List.getElem?_eq_some_iff.mp hb).1;refine⟨WH,λi hi=>?_,λi x e hi=>?_,λv hv=>?_,?_⟩
 ·have h1:b≠i:=λe=>nb (e▸hi)
  have h2:a≠i:=λe=>na (by rw[e];simp[hi]);show((o.set a (nm:Int)).set b (nm:Int))[i]?=_;rw[AW h1,AW h2];exact g.neg i (hp.mem_iff.mpr (by simp only[oz];exact .inr (.inr hi)))
 ·have e:((o.set a (nm:Int)).set b (nm:Int))[i]?=some x:=e
  by_cases h1:b=i
  ·subst h1
   rw[Cg (by simpa using lb)] at e;exact⟨nm,Jg _,(ud e).symm⟩
  ·rw[AW h1] at e
   by_cases h2:a=i
   ·subst h2
    rw[Cg la] at e;exact⟨nm,Jg _,(ud e).symm⟩
   ·rw[AW h2] at e
    obtain⟨v,hv,ex⟩:=g.D2 i x e λhl=>by
     have:=hp.mem_iff.mp hl;simp only[oz] at this;rcases this with z|z|z
     ·exact h2 z.symm
     ·exact h1 z.symm
     ·exact hi z
    exact⟨v,Nat.lt_succ_of_lt hv,ex⟩
 ·show((o.set a (nm:Int)).set b (nm:Int)).count (v:Int)=2
  rw[jX UH (by omega),jX ha (by omega)];by_cases WI:v=nm
  ·subst WI
   have:=g.big (v:=v) (fm _);simp only[] at this;rw[this];simp
  ·have h2:o.count (v:Int)=2:=g.two v (show v<nm by have:v<nm+1:=hv;omega)
   have qd:¬((nm:Int)=(v:Int)):=by omega
   rw[h2,az qd]
 ·have:=g.sz
  have hl:=hp.length_eq;simp only[gm,rj,Jh] at*;omega
theorem GP.step(g:GP s)(h:1<s.left.length):GP (qw pk s):=by
 obtain⟨h1,h2,_⟩:=rY (pk:=pk) h;obtain⟨o,l,nm⟩:=s;generalize hj:yr pk ⟨o,l,nm⟩=j at*;have h2:j<l.length:=h2
 match l,h,h2 with
 |a::rest,h,h2=>
  have hb:j-1<rest.length:=by simp only[gm] at h2;omega
  have e0:(a::rest).getD j 0=rest[j-1]:=by
   obtain⟨j',rfl⟩:∃j',j=j'+1:=⟨j-1,by omega⟩
   simp only[Nat.add_sub_cancel] at hb⊢;simp[hb]
  have ed:(a::rest).drop (j+1)=rest.drop j:=by simp
  have er:rest=rest.take (j-1)++rest[j-1]::rest.drop j:=by
   have:=List.take_append_drop (j-1) rest;rw[MW hb,show j-1+1=j by omega] at this;exact this.symm
  have hp:(a::rest).Perm (a::rest[j-1]::(rest.take (j-1)++rest.drop j)):=by
   refine List.Perm.cons a ?_
   conv=>lhs;rw[er]
   exact List.perm_middle
  have:=GP.pair g hp;simp only[qw,hj,e0,ed,List.drop_succ_cons,List.drop_zero,List.getD_cons_zero];exact this
theorem GP.iter(g:GP s):∀i,2*i<=s.left.length->GP (gh pk s i)
 |0,_=>g
 |i+1,h=>GP.step (GP.iter g i (by omega)) (by rw[(bJ i (by omega)).1];omega)
structure Cf(W:List Int)(N:Nat):Prop where
 g_:∀x∈W,0<=x/\x<(N:Int)
 cnt:∀v:Nat,v<N->W.count (v:Int)=2
theorem GP.run(g:GP s)(hm:s.owner.length=4*m):Cf (Be pk s).owner (2*m)/\(Be pk s).owner.length=4*m:=by
 have gi:=g.iter (pk:=pk) (s.left.length/2) (by omega);have hl:=bJ (pk:=pk) (s:=s) (s.left.length/2) (by omega);have ho:=jW (pk:=pk) (s:=s) (s.left.length/2);have hz:=g.sz;have e0:(gh pk s (s.left.length/2)).left=[]:=List.eq_nil_of_length_eq_zero (by rw[hl.1];omega);have en:(gh pk s (s.left.length/2)).name=2*m:=by rw[hl.2];omega
 refine⟨⟨λx hx=>?_,λv hv=>?_⟩,by rw[Be,ho,hm]⟩
 ·obtain⟨i,hi,e⟩:=List.getElem_of_mem hx
  obtain⟨v,hv,ex⟩:=gi.D2 i x (show(Be pk s).owner[i]?=some x by rw[uc hi,e]) (by rw[e0];simp);rw[en] at hv;omega
 ·exact gi.two v (by rw[en];exact hv)
theorem GP.EX(m:Nat):GP (kf m []):=by
 have e1:(kf m []).owner=List.replicate (4*m) (-1):=rfl;have e2:(kf m []).left=List.range (4*m):=by
  show sf (List.replicate (4*m) (-1))=_;rw[sf,Kd];rw[List.filter_eq_self];intro k hk;have G8:k<4*m:=List.mem_range.mp hk;simp[List.getD,MX,G8]
 have e3:(kf m []).name=0:=rfl;refine⟨by rw[e2];exact List.nodup_range,λi hi=>?_,λi x e hi=>?_,λv hv=>?_,by rw[e1,e2,e3];simp⟩
 ·rw[e2] at hi
  rw[e1,MX,bp (List.mem_range.mp hi)]
 ·rw[e1,MX] at e
  by_cases hc:i<4*m
  ·exact absurd (by rw[e2];exact List.mem_range.mpr hc) hi
  ·rw[az hc] at e;cases e
 ·rw[e3] at hv;exact absurd hv (Ji _)
theorem jY:∀(xs:List D)(Q:Nat->gk->Prop),(∀i (h:i<xs.length) δ,Q i δ->∃δ',f xs[i] δ=.nx δ'/\Q (i+1) δ')->∀δ,Q 0 δ->∃δ',forM f xs δ=.nx δ'/\Q xs.length δ'
 |[],Q,_,δ,q=>⟨δ,rfl,q⟩
 |x::r,Q,h,δ,q=>by
  obtain⟨Ba,e1,q1⟩:=h 0 (by simp) δ q;obtain⟨UI,e2,q2⟩:=jY r (λi=>Q (i+1)) (λi hi=>h (i+1) (by simpa using hi)) Ba q1;exact⟨UI,by rw[Py.forM.eq_2,show f x δ=.nx Ba from e1];exact e2,q2⟩
theorem wB(n:Nat)(Q:Nat->gk->Prop)(h:∀i,i<n->∀δ,Q i δ->∃δ',f (.int (i:Nat)) δ=.nx δ'/\Q (i+1) δ')(δ:gk)(q:Q 0 δ):∃δ',forM f (cj 0 n) δ=.nx δ'/\Q n δ':=by
 have:=jY (f:=f) (cj 0 n) Q (λi hi δ q=>by
  have ya:i<n:=by simpa[cj] using hi
  have e:(cj 0 n)[i]=.int (i:Nat):=by simp[cj]
  rw[e];exact h i ya δ q) δ q
 rwa[d9] at this
noncomputable def cz(Φ:Nat->List D->R D)(G:List D)(n:Nat)(tg:List Nat)(body:List Sm):D->gk->Out:=λx δ'=>match spread tg.length x with
 |none=>.bad
 |some ts=>ao Φ G n body (sets δ' tg ts)
theorem fG(h:(cv Φ G false its (av (ag false its) δ)).bind (a_ k)=.ok xs):bg Φ G n (.loop k its tg body) δ=forM (cz Φ G n tg body) xs (av (ag false its) δ):=by
 simp only[bg];rw[h];rfl
theorem bB(h:(cv Φ G false its (av (ag false its) δ)).bind (a_ k)=.ok xs)(Q:Nat->gk->Prop)(q0:Q 0 (av (ag false its) δ))
  (st:∀i (h:i<xs.length) δ,Q i δ->∃δ',cz Φ G n tg body xs[i] δ=.nx δ'/\Q (i+1) δ'):∃δ',bg Φ G n (.loop k its tg body) δ=.nx δ'/\Q xs.length δ':=by
 rw[fG h];exact jY xs Q st _ q0
theorem bC(h:(cv Φ G false its (av (ag false its) δ)).bind (a_ .g_)=.ok (cj 0 m))(Q:Nat->gk->Prop)(q0:Q 0 (av (ag false its) δ))
  (st:∀i,i<m->∀δ,Q i δ->∃δ',cz Φ G n tg body (.int (i:Nat)) δ=.nx δ'/\Q (i+1) δ'):∃δ',bg Φ G n (.loop .g_ its tg body) δ=.nx δ'/\Q m δ':=by
 rw[fG h];exact wB m Q st _ q0
theorem aC(h:bg Φ G n s δ=.nx δ'):ao Φ G n (s::ss) δ=ao Φ G n ss δ':=by rw[ao,h]
theorem nH(hl:av (aa false e) δ=δ)(he:ev Φ G false e δ=.ok v)(hi:δ[i]?=some (some (true,.lst xs)))(hx:xs.length<gx):bg Φ G n (.app i e) δ=.nx (δ.set i (some (true,.lst (xs++[v])))):=by
 simp only[bg,hl,he,of_ok,tj,hi,b_,Cv,hx]
theorem aM(hl:av (aa false e) δ=δ)(he:ev Φ G false e δ=.ok v):bg Φ G n (.asg i e) δ=.nx (δ.set i (some (bj e&&ay v,v))):=by
 simp only[bg,hl,he,of_ok]
theorem dF(he:ev Φ G false e (av (aa false e) δ)=.ok v):bg Φ G n (.ret e) δ=.rt v:=by
 simp only[bg,he,of_ok]
theorem lY(xs:List Int):(ai xs).all flat=true:=by simp[ai,flat]
theorem lZ(x:Int)(xs:List Int):isin (.int x) (.lst (ai xs))=.ok (decide (x∈xs)):=by
 have h1:(flat (.int x)&&(ai xs).all flat)=true:=by rw[lY];rfl
 simp only[isin,h1,b_]
 congr 1
 simp only[inD,ai,List.any_map];clear h1
 induction xs with
 |nil=>rfl
 |cons y r ih=>
  simp only[D7,Function.comp_apply,e_];rw[show(r.any ((λy=>e_ y (D.int x))∘D.int))=decide (x∈r) from ih];by_cases e:y=x
  ·subst e;simp
  ·simp[e,jt e]
theorem l5(x:Int):∀(xs:List Int),x∈xs->zj (.int x) (ai xs)=some (xs.idxOf x)
 |[],h=>by simp at h
 |y::r,h=>by
  show zj (.int x) (.int y::ai r)=_;rw[zj];by_cases e:y=x
  ·subst e
   rw[bp (by simp[e_])];simp
  ·rw[az (by simpa[e_] using e)]
   have h':x∈r:=(List.mem_cons.mp h).resolve_left (jt e);rw[l5 x r h',List.idxOf_cons,show(y==x)=false by simpa using e];rfl
theorem rZ(x:Int)(xs:List Int)(h:x∈xs):ae .index (.lst (ai xs)) (.int x)=.ok (.int (xs.idxOf x:Nat)):=by
 have h1:(flat (.int x)&&(ai xs).all flat)=true:=by rw[lY];rfl
 show(if(flat (.int x)&&(ai xs).all flat)=true then _ else _)=_;rw[bp h1,l5 x xs h];rfl
theorem jZ(x:Int)(xs:List Int):ae .kj (.int x) (.lst (ai xs))=.ok (.bl (!decide (x∈xs))):=by
 show(isin (.int x) (.lst (ai xs))).bind _=_;rw[lZ];rfl
noncomputable def dd(acc:List Int):List Int->List Int
 |[]=>acc
 |x::r=>dd (if x∈acc then acc else acc++[x]) r
theorem j0(acc xs ys:List Int):dd acc (xs++ys)=dd (dd acc xs) ys:=by
 induction xs generalizing acc with
 |nil=>rfl
 |cons x r ih=>exact ih _
theorem nI(acc xs:List Int):(dd acc xs).length<=acc.length+xs.length:=by
 induction xs generalizing acc with
 |nil=>simp[dd]
 |cons x r ih=>
  rw[dd];refine qe (ih _) ?_;by_cases h:x∈acc<;>simp[h]<;>omega
theorem eA(acc xs:List Int):∀x,x∈dd acc xs↔x∈acc\/x∈xs:=by
 induction xs generalizing acc with
 |nil=>simp[dd]
 |cons y r ih=>
  intro x;rw[dd,ih];by_cases hy:y∈acc
  ·rw[bp hy]
   simp only[oz];constructor
   ·rintro(h|h)
    ·exact .inl h
    ·exact .inr (.inr h)
   ·rintro(h|rfl|h)
    ·exact .inl h
    ·exact .inl hy
    ·exact .inr h
  ·rw[az hy]
   simp only[Bu,oz,DO,or_false];constructor
   ·rintro((h|h)|h)
    ·exact .inl h
    ·exact .inr (.inl h)
    ·exact .inr (.inr h)
   ·rintro(h|h|h)
    ·exact .inl (.inl h)
    ·exact .inl (.inr h)
    ·exact .inr h
theorem pV(acc xs:List Int)(h:acc.Nodup):(dd acc xs).Nodup:=by
 induction xs generalizing acc with
 |nil=>exact h
 |cons y r ih=>
  refine ih _ ?_;by_cases hy:y∈acc
  ·rw[bp hy];exact h
  ·rw[az hy]
   rw[List.nodup_append];refine⟨h,by simp,λa ha b hb=>?_⟩;have:b=y:=by simpa using hb
   subst this;rintro rfl;exact hy ha
noncomputable def gj(R:List (List Int)):List (List Int):=R.map λr=>r.map λx=>((dd [] R.flatten).idxOf x:Nat)
noncomputable def rf:List Sm:=[(.asg 1 (.lst [])),(.loop .seq [(.var 0)] [2] [(.loop .seq [(.var 2)] [3] [(.ite (.leaf (.ae .kj (.var 3) (.var 1))) [(.app 1 (.var 3))] [])])]),(.asg 4 (.lst [])),(.loop .seq [(.var 0)] [2] [(.app 4 (.bb .tuple (.comp .seq [(.var 2)] [1] 1 none (.ae .index (.var 1) (.var 0)))))]),(.ret (.bb .tuple (.var 4)))]
section
variable{Φ:Nat->List D->R D}{G:List D}{n:Nat}
theorem Mv{rc:List Int->D}(Nt:∀r:List Int,r.length<=1000->a_ .seq [rc r]=.ok (ai r)){d0:D}{c2 c3 c4:Slot}{acc r:List Int}(hl:acc.length+r.length<90000)(hr:r.length<=1000):
  ∃Nu,bg Φ G n (.loop .seq [(.var 2)] [3] [(.ite (.leaf (.ae .kj (.var 3) (.var 1))) [(.app 1 (.var 3))] [])]) [some (false,d0),some (true,.lst (ai acc)),some (false,rc r),c3,c4]=.nx [some (false,d0),some (true,.lst (ai (dd acc r))),some (false,rc r),Nu,c4]:=by
 have hi:a_ .seq [rc r]=.ok (ai r):=Nt r hr;have step:∀i (h:i<(ai r).length) δ,(∃c,δ=[some (false,d0),some (true,.lst (ai (dd acc (r.take i)))),some (false,rc r),c,c4])->∃δ',cz Φ G n [3] [(.ite (.leaf (.ae .kj (.var 3) (.var 1))) [(.app 1 (.var 3))] [])] (ai r)[i] δ=.nx δ'/\∃c,δ'=[some (false,d0),some (true,.lst (ai (dd acc (r.take (i+1))))),some (false,rc r),c,c4]:=by
  rintro i h δ ⟨c,rfl⟩;have ya:i<r.length:=by simpa[ai] using h
  have ex:(ai r)[i]=.int r[i]:=by simp[ai]
  have et:r.take (i+1)=r.take i++[r[i]]:=D4 ya;have hd:dd acc (r.take (i+1))=if r[i]∈dd acc (r.take i) then dd acc (r.take i) else dd acc (r.take i)++[r[i]]:=by
   rw[et,j0];rfl
  rw[ex,hd];have hlen:(ai (dd acc (r.take i))).length<gx:=by
   have:=nI acc (r.take i);have h2:(r.take i).length<=r.length:=by rw[Bj];omega
   have:gx=100000:=rfl;simp only[ai,dz];omega
  by_cases hm:r[i]∈dd acc (r.take i)
  ·rw[bp hm]
   refine⟨_,?_,some (false,.int r[i]),rfl⟩;simp only[cz,ao,bg,fe,ev,av,cq,aj,aa,cg,bx,Za,Zc,Py.sets,spread,Zf,Zi,Zj,Zk,Zl,Zq,b_,df,gV,Zv,jZ,hm,decide_true,gm,ny,qb]
  ·rw[az hm]
   refine⟨_,?_,some (false,.int r[i]),rfl⟩;simp only[cz,ao,bg,fe,ev,av,cq,aj,aa,cg,bx,Za,Zc,Py.sets,spread,Zf,Zi,Zj,Zk,Zl,Zq,b_,df,gV,Zw,jZ,hm,D8,gm,ny,qb,tj,Cv,hlen];simp[ai]
 obtain⟨δ',e,Nu,rfl⟩:=bB (Φ:=Φ) (G:=G) (n:=n) (k:=.seq) (its:=[(.var 2)]) (tg:=[3]) (body:=[(.ite (.leaf (.ae .kj (.var 3) (.var 1))) [(.app 1 (.var 3))] [])]) (δ:=[some (false,d0),some (true,.lst (ai acc)),some (false,rc r),c3,c4]) (xs:=ai r) (by simp only[ev,cv,av,cq,aa,ag,cg,bx,Zf,Zk,Zl,Zq,df,gV,hi])
  (λi δ=>∃c,δ=[some (false,d0),some (true,.lst (ai (dd acc (r.take i)))),some (false,rc r),c,c4]) ⟨c3,rfl⟩ step
 refine⟨Nu,?_⟩;have SV:(ai r).length=r.length:=by simp[ai]
 rw[SV,Bk] at e;exact e
theorem Iw{rc:List Int->D}(Nt:∀r:List Int,r.length<=1000->a_ .seq [rc r]=.ok (ai r)){names r:List Int}{c:Slot}(hr:r.length<=1000)(hs:∀x∈r,x∈names)(h2:cg δ 2=.ok (rc r))(h1:δ[1]?=some (some (true,.lst (ai names)))):
  ev Φ G m (.comp .seq [(.var 2)] [1] 1 none (.ae .index (.var 1) (.var 0))) δ=.ok (.lst (ai (r.map λx=>(names.idxOf x:Nat)))):=by
 have hi:a_ .seq [rc r]=.ok (ai r):=Nt r hr;simp only[ev,cv,b_,h2,bA,hi,dk,fu,Bl,h1,Option.getD_some];rw[bV (λx=>match x with|.int k=>.int (names.idxOf k:Nat)|_=>.cx) _ λx hx=>?_]
 ·simp only[R.zh,bA]
  congr 2
  simp[ai,Jc]
 ·obtain⟨k,hk,rfl⟩:=List.mem_map.mp hx
  simp only[AM,cg,spread,Zf,Zk,Zl,Zm,Zn,Zo,Zp,b_,rZ k names (hs k hk)]
theorem nJ(Nt:∀r:List Int,r.length<=1000->a_ .seq [rc r]=.ok (ai r)){R:List (List Int)}(h0:a_ .seq [d0]=.ok (R.map rc))(hR:∀r∈R,r.length<=1000)(hl:R.flatten.length<=80000)(hL:R.length<=1000):
  ao Φ G n rf [some (false,d0),none,none,none,none]=.rt (.tup ((gj R).map af)):=by
 unfold rf;have e1:bg Φ G n (.asg 1 (.lst [])) [some (false,d0),none,none,none,none]=.nx [some (false,d0),some (true,.lst (ai [])),none,none,none]:=by simp only[bg,ev,cv,av,aa,ag,Zc,ay,bj,Zf,Zi,Zj,Zt];rfl
 rw[aC e1];have PV:∀i (h:i<(R.map rc).length) δ,(∃c2 c3,δ=[some (false,d0),some (true,.lst (ai (dd [] (R.take i).flatten))),c2,c3,none])->∃δ',cz Φ G n [2] [(.loop .seq [(.var 2)] [3] [(.ite (.leaf (.ae .kj (.var 3) (.var 1))) [(.app 1 (.var 3))] [])])] (R.map rc)[i] δ=.nx δ'/\∃c2 c3,δ'=[some (false,d0),some (true,.lst (ai (dd [] (R.take (i+1)).flatten))),c2,c3,none]:=by
  rintro i h δ ⟨c2,c3,rfl⟩;have hi:i<R.length:=by simpa using h
  have et:R.take (i+1)=R.take i++[R[i]]:=D4 hi;have hr:=hR R[i] (yn hi);have WJ:(R.take i).flatten.length<=R.flatten.length:=by
   conv=>rhs;rw[←List.take_append_drop i R]
   rw[Gg,rj];omega
  have G5:=nI [] (R.take i).flatten;obtain⟨Nu,e⟩:=Mv Nt (Φ:=Φ) (G:=G) (n:=n) (d0:=d0) (c2:=none) (c3:=c3) (c4:=none) (acc:=dd [] (R.take i).flatten) (r:=R[i]) (by rw[ny] at G5;omega) hr;refine⟨_,?_,some (false,rc R[i]),Nu,rfl⟩;have ed:dd [] (R.take (i+1)).flatten=dd (dd [] (R.take i).flatten) R[i]:=by rw[et,Gg,j0];simp
  rw[ed,List.getElem_map];simp only[cz,spread,gm,ny,qb,Py.sets,D5,DL];rw[aC e];rfl
 obtain⟨UI,e2,c2,c3,rfl⟩:=bB (Φ:=Φ) (G:=G) (n:=n) (k:=.seq) (its:=[(.var 0)]) (tg:=[2]) (body:=[(.loop .seq [(.var 2)] [3] [(.ite (.leaf (.ae .kj (.var 3) (.var 1))) [(.app 1 (.var 3))] [])])]) (δ:=[some (false,d0),some (true,.lst (ai [])),none,none,none]) (xs:=R.map rc) (by simp only[ev,cv,av,cq,aa,ag,cg,bx,Zf,Zk,Zq,df,gV];exact h0)
  (λi δ=>∃c2 c3,δ=[some (false,d0),some (true,.lst (ai (dd [] (R.take i).flatten))),c2,c3,none]) ⟨none,none,rfl⟩ PV
 rw[aC e2];rw[dz,Bk];generalize UJ:dd [] R.flatten=names;have e3:bg Φ G n (.asg 4 (.lst [])) [some (false,d0),some (true,.lst (ai names)),c2,c3,none]=.nx [some (false,d0),some (true,.lst (ai names)),c2,c3,some (true,.lst [])]:=by simp only[bg,ev,cv,av,aa,ag,Zc,ay,bj,Zf,Zi,Zj,Zt]
 rw[aC e3];have PY:∀i (h:i<(R.map rc).length) δ,(∃c2 c3,δ=[some (false,d0),some (true,.lst (ai names)),c2,c3,some (true,.lst (((R.take i).map λr=>r.map λx=>((names.idxOf x:Nat):Int)).map af))])->
   ∃δ',cz Φ G n [2] [(.app 4 (.bb .tuple (.comp .seq [(.var 2)] [1] 1 none (.ae .index (.var 1) (.var 0)))))] (R.map rc)[i] δ=.nx δ'/\∃c2 c3,δ'=[some (false,d0),some (true,.lst (ai names)),c2,c3,some (true,.lst (((R.take (i+1)).map λr=>r.map λx=>((names.idxOf x:Nat):Int)).map af))]:=by
  rintro i h δ ⟨c2,c3,rfl⟩;have hi:i<R.length:=by simpa using h
  have et:R.take (i+1)=R.take i++[R[i]]:=D4 hi;have hr:=hR R[i] (yn hi);have hs:∀x∈R[i],x∈names:=λx hx=>by
   rw[←UJ,eA];exact .inr (List.mem_flatten.mpr ⟨R[i],yn hi,hx⟩)
  have hlen:(((R.take i).map λr=>r.map λx=>((names.idxOf x:Nat):Int)).map af).length<gx:=by
   simp only[dz,Bj];have:gx=100000:=rfl;omega
  refine⟨_,?_,some (false,rc R[i]),c3,rfl⟩;rw[List.getElem_map];have ec:=Iw Nt (m:=true) (Φ:=Φ) (G:=G) (names:=names) (r:=R[i]) (δ:=[some (false,d0),some (true,.lst (ai names)),some (false,rc R[i]),c3,some (true,.lst (((R.take i).map λr=>r.map λx=>((names.idxOf x:Nat):Int)).map af))]) (c:=none) hr hs rfl rfl;simp only[cz,spread,gm,ny,qb,Py.sets,D5,DL];have SW:ev Φ G false (.bb .tuple (.comp .seq [(.var 2)] [1] 1 none (.ae .index (.var 1) (.var 0)))) [some (false,d0),some (true,.lst (ai names)),some (false,rc R[i]),c3,some (true,.lst (((R.take i).map λr=>r.map λx=>((names.idxOf x:Nat):Int)).map af))]=.ok (af (R[i].map λx=>((names.idxOf x:Nat):Int))):=by
   rw[ev,ec];rfl
  rw[aC (nH rfl SW rfl hlen)];simp only[ao,D5,DL,et,Ac,fu,Bl]
 obtain⟨Xx,e4,Xy,Nu,rfl⟩:=bB (Φ:=Φ) (G:=G) (n:=n) (k:=.seq) (its:=[(.var 0)]) (tg:=[2]) (body:=[(.app 4 (.bb .tuple (.comp .seq [(.var 2)] [1] 1 none (.ae .index (.var 1) (.var 0)))))]) (δ:=[some (false,d0),some (true,.lst (ai names)),c2,c3,some (true,.lst [])]) (xs:=R.map rc) (by simp only[ev,cv,av,cq,aa,ag,cg,bx,Zf,Zk,Zq,df,gV];exact h0)
  (λi δ=>∃c2 c3,δ=[some (false,d0),some (true,.lst (ai names)),c2,c3,some (true,.lst (((R.take i).map λr=>r.map λx=>((names.idxOf x:Nat):Int)).map af))]) ⟨c2,c3,rfl⟩ PY
 rw[aC e4];simp only[ao,bg,ev,av,aa,cg,bx,Zc,Zf,Zk,Zl,b_,ZP,dz,Bk,gj,UJ]
theorem nK{R:List (List Int)}(h0:a_ .seq [d0]=.ok (R.map af))(hR:∀r∈R,r.length<=1000)(hl:R.flatten.length<=80000)(hL:R.length<=1000):
  ao Φ G n rf [some (false,d0),none,none,none,none]=.rt (.tup ((gj R).map af)):=nJ (λr hr=>bW (by simpa[ai] using hr)) h0 hR hl hL
end
theorem pW(m:Nat)(o:List Int)(h:o.length=4*m):(kg m o).flatten=o:=by
 have gen:∀j,j<=m->((List.range j).map λk=>(o.drop (4*k)).take 4).flatten=o.take (4*j):=by
  intro j
  induction j with
  |zero=>simp
  |succ j ih=>
   intro hj;rw[Df,Ac,Gg,ih (by omega)];simp only[fu,Bl,List.flatten_cons,List.flatten_nil,Ci];have e:o.take (4*(j+1))=o.take (4*j)++(o.drop (4*j)).take 4:=by
    rw[show 4*(j+1)=4*j+4 by omega,List.take_add]
   rw[e]
 rw[kg,gen m (fm m),←h,Bk]
theorem j3(m:Nat)(o:List Int)(h:o.length=4*m):(kg m o).length=m/\∀r∈kg m o,r.length=4:=by
 refine⟨by simp[kg],λr hr=>?_⟩;obtain⟨k,hk,rfl⟩:=List.mem_map.mp hr;have G8:=List.mem_range.mp hk;rw[Bj,Jf];omega
theorem Iy(t:Cf W N):(dd [] W).Perm ((List.range N).map λk=>((k:Nat):Int)):=by
 have n1:(dd [] W).Nodup:=pV [] W Bv;have n2:((List.range N).map λk=>((k:Nat):Int)).Nodup:=by
  rw[List.nodup_iff_pairwise_ne,List.pairwise_map];exact List.Pairwise.imp (λh e=>h (by omega)) (List.nodup_iff_pairwise_ne.mp List.nodup_range)
 rw[List.perm_ext_iff_of_nodup n1 n2];intro x;rw[eA,Ck];constructor
 ·rintro(h|h)
  ·simp at h
  ·obtain⟨h1,h2⟩:=t.g_ x h
   exact⟨x.toNat,List.mem_range.mpr (by omega),by omega⟩
 ·rintro⟨k,hk,rfl⟩
  refine .inr ?_;have:=t.cnt k (List.mem_range.mp hk);exact List.count_pos_iff.mp (by omega)
theorem r8(t:Cf W N):(dd [] W).length=N:=by rw[(Iy t).length_eq];simp
theorem wC(R:List (List Int)):(gj R).flatten=R.flatten.map λx=>(((dd [] R.flatten).idxOf x:Nat):Int):=by
 rw[gj,List.map_flatten]
theorem l6:∀{l:List Int}{v:Nat}(nd:l.Nodup)(h:v<l.length),l.idxOf l[v]=v
 |a::r,0,_,_=>by simp
 |a::r,v+1,nd,h=>by
  have hv:v<r.length:=by simpa using h
  have qd:a≠r[v]:=λe=>(List.nodup_cons.mp nd).1 (by rw[e];exact yn hv);rw[List.getElem_cons_succ,List.idxOf_cons,show(a==r[v])=false by simpa using qd];simp only[cond_false];rw[l6 (List.nodup_cons.mp nd).2 hv]
theorem uL{R:List (List Int)}(t:Cf R.flatten N):Cf (gj R).flatten N:=by
 have hl:=r8 t;have nd:(dd [] R.flatten).Nodup:=pV [] _ Bv;have mem:∀x∈R.flatten,x∈dd [] R.flatten:=λx hx=>(eA _ _ x).mpr (.inr hx);rw[wC];refine⟨λx hx=>?_,λv hv=>?_⟩
 ·obtain⟨y,hy,rfl⟩:=List.mem_map.mp hx
  have:=List.idxOf_lt_length_iff.mpr (mem y hy);rw[hl] at this;omega
 ·have Sl:v<(dd [] R.flatten).length:=by rw[hl];exact hv
  rw[List.count,List.countP_map];have e:R.flatten.countP ((λx=>x==(v:Int))∘λx=>(((dd [] R.flatten).idxOf x:Nat):Int))=R.flatten.countP (λx=>x==(dd [] R.flatten)[v]):=by
   refine List.countP_congr λx hx=>?_;simp only[Function.comp_apply,beq_iff_eq];constructor
   ·intro e
    have e':(dd [] R.flatten).idxOf x=v:=by omega
    have:=List.getElem_idxOf (List.idxOf_lt_length_iff.mpr (mem x hx));simp only[e'] at this;exact this.symm
   ·intro e
    rw[e,l6 nd]
  rw[e];have hx:(dd [] R.flatten)[v]∈R.flatten:=by
   have:=(eA [] R.flatten _).mp (yn Sl);rcases this with h|h
   ·simp at h
   ·exact h
  obtain⟨h1,h2⟩:=t.g_ _ hx;have:=t.cnt ((dd [] R.flatten)[v]).toNat (by omega);rw[show((((dd [] R.flatten)[v]).toNat:Nat):Int)=(dd [] R.flatten)[v] by omega] at this;exact this
theorem cX(R:List (List Int)):(gj R).length=R.length:=by simp[gj]
theorem gG{R:List (List Int)}(h:∀r∈R,r.length=k):∀r∈gj R,r.length=k:=by
 intro r hr;obtain⟨q,hq,rfl⟩:=List.mem_map.mp hr;simpa using h q hq
structure ax(Q:List (List Int))(m:Nat):Prop where
 len:Q.length=m
 four:∀r∈Q,r.length=4
 two:Cf Q.flatten (2*m)
theorem sA(pk:Nat->Int)(m:Nat):ax (gj (kg m (Be pk (kf m [])).owner)) m:=by
 have g:=(GP.EX m).run (pk:=pk) (m:=m) (by show(List.replicate (4*m) (-1:Int)).length=_;simp);obtain⟨c1,c2⟩:=j3 m _ g.2;refine⟨by rw[cX,c1],gG c2,uL ?_⟩;rw[pW m _ g.2];exact g.1
noncomputable def cy(r:List Int)(k:Nat)(line:Int)(j:Nat):List (Nat×Nat):=((List.range j).filter λe=>r.getD e 0==line).map λe=>(k,e)
noncomputable def dh(Q:List (List Int))(line:Int)(i:Nat):List (Nat×Nat):=(List.range i).flatMap λk=>cy (Q.getD k []) k line 4
noncomputable def ba(Q:List (List Int))(line:Int):List (Nat×Nat):=dh Q line Q.length
theorem pX(r:List Int)(k:Nat)(line:Int)(h:r.length=4):(cy r k line 4).length=r.count line:=by
 rw[cy,dz,←List.countP_eq_length_filter,List.count]
 conv=>rhs;rw[show r=(List.range 4).map λe=>r.getD e 0 from List.ext_getElem (by simp[h]) λi h1 h2=>by simp[h1]]
 rw[List.countP_map];rfl
theorem gW(line:Int)(h:∀r∈Q,r.length=4):(ba Q line).length=Q.flatten.count line:=by
 have gen:∀i,i<=Q.length->(dh Q line i).length=(Q.take i).flatten.count line:=by
  intro i
  induction i with
  |zero=>simp[dh]
  |succ i ih=>
   intro hi;have ya:i<Q.length:=by omega
   have e1:dh Q line (i+1)=dh Q line i++cy (Q.getD i []) i line 4:=by
    simp[dh,Df,Kh]
   have e2:Q.take (i+1)=Q.take i++[Q[i]]:=D4 ya;rw[e1,e2,rj,ih (by omega),Gg,List.count_append];have:Q.getD i []=Q[i]:=by simp[ya]
   rw[this,pX _ _ _ (h _ (yn ya))];simp
 rw[ba,gen Q.length (fm _),Bk]
theorem ax.places(s:ax Q m)(h:v<2*m):(ba Q (v:Int)).length=2:=by
 rw[gW _ s.four];exact s.two.cnt v h
theorem ax.none(s:ax Q m){x:Int}(h:x<0\/(2*m:Nat)<=x):ba Q x=[]:=by
 refine List.eq_nil_of_length_eq_zero ?_;rw[gW _ s.four,List.count_eq_zero];intro hm;have:=s.two.g_ x hm;omega
section
variable{Φ:Nat->List D->R D}{G:List D}{n:Nat}
theorem j4(h:e<r.length):rn (ai r) (e:Nat)=some (.int (r.getD e 0)):=by
 rw[jc (by simpa[ai] using h)];simp[ai,h]
theorem dG{Q:List (List Int)}(h:k<Q.length):rn (Q.map af) (k:Nat)=some (af (Q.getD k [])):=by
 rw[jc (by simpa using h)];simp[h]
theorem fH(r:List Int)(k:Nat)(line:Int)(j:Nat):cy r k line (j+1)=if r.getD j 0==line then cy r k line j++[(k,j)] else cy r k line j:=by
 simp only[cy,Df,List.filter_append,Ac];by_cases h:(r.getD j 0==line)=true
 ·rw[bp h];simp only[List.filter_cons,h,b_,List.filter_nil,fu,Bl]
 ·rw[az h];simp only[List.filter_cons,h,df,List.filter_nil,Bl,Ci,gV]
theorem cD(Q:List (List Int))(line:Int)(i:Nat):dh Q line (i+1)=dh Q line i++cy (Q.getD i []) i line 4:=by
 simp[dh,Df,Kh]
theorem sB(Q:List (List Int))(line:Int)(i:Nat):(dh Q line i).length<=4*i:=by
 induction i with
 |zero=>simp[dh]
 |succ i ih=>
  rw[cD,rj];have:(cy (Q.getD i []) i line 4).length<=4:=by
   rw[cy,dz];exact qe (List.length_filter_le _ _) (by simp)
  omega
theorem sC(r:List Int)(k:Nat)(line:Int)(j:Nat):(cy r k line j).length<=j:=by
 rw[cy,dz];exact qe (List.length_filter_le _ _) (by simp)
noncomputable def EY(c:Nat):List Sm:=[(.asg 2 (.lst [])),(.loop .enum [(.ae .at (.var 0) (.cst (.int 0)))] [3,4] [(.loop .g_ [(.cst (.int 4))] [5] [(.ite (.leaf (.ae .eq (.ae .at (.var 4) (.var 5)) (.var 1))) [(.app 2 (.tup [(.var 3),(.var 5)]))] [])])]),(.ite (.not (.leaf (.var 2))) [(.Lm c)] []),(.ret (.bb .tuple (.var 2)))]
theorem Iz(hr:r.length=4)(hl:acc.length<90000):
  ∃AU,bg Φ G n (.loop .g_ [(.cst (.int 4))] [5] [(.ite (.leaf (.ae .eq (.ae .at (.var 4) (.var 5)) (.var 1))) [(.app 2 (.tup [(.var 3),(.var 5)]))] [])]) [some (false,d0),some (false,.int line),some (true,.lst (acc.map pairD)),some (false,.int (k:Nat)),some (false,af r),c5]=
   .nx [some (false,d0),some (false,.int line),some (true,.lst ((acc++cy r k line 4).map pairD)),some (false,.int (k:Nat)),some (false,af r),AU]:=by
 have step:∀i,i<4->∀δ,(∃c,δ=[some (false,d0),some (false,.int line),some (true,.lst ((acc++cy r k line i).map pairD)),some (false,.int (k:Nat)),some (false,af r),c])->
   ∃δ',cz Φ G n [5] [(.ite (.leaf (.ae .eq (.ae .at (.var 4) (.var 5)) (.var 1))) [(.app 2 (.tup [(.var 3),(.var 5)]))] [])] (.int (i:Nat)) δ=.nx δ'/\∃c,δ'=[some (false,d0),some (false,.int line),some (true,.lst ((acc++cy r k line (i+1)).map pairD)),some (false,.int (k:Nat)),some (false,af r),c]:=by
  rintro i hi δ ⟨c,rfl⟩;have ha:=j4 (r:=r) (e:=i) (by omega);have hlen:((acc++cy r k line i).map pairD).length<gx:=by
   have:=sC r k line i;have:gx=100000:=rfl;simp only[dz,rj];omega
  rw[fH];by_cases hm:(r.getD i 0==line)=true
  ·rw[bp hm]
   refine⟨_,?_,some (false,.int (i:Nat)),rfl⟩;simp only[cz,af,ao,bg,fe,ev,cv,av,cq,aj,aa,ag,cg,bx,Za,Zc,Py.sets,spread,Ze,Zf,Zi,Zj,Zk,Zl,Zo,Zp,Zq,b_,df,gV,ZG,ZJ,ha,hm,gm,ny,qb,tj,Cv,hlen];simp[pairD]
  ·rw[az hm]
   refine⟨_,?_,some (false,.int (i:Nat)),rfl⟩;simp only[cz,af,ao,bg,fe,ev,cv,av,cq,aj,aa,ag,cg,bx,Za,Zc,Py.sets,spread,Ze,Zf,Zi,Zj,Zk,Zl,Zo,Zp,Zq,b_,df,gV,ZG,ZJ,ha,hm,gm,ny,qb]
 obtain⟨δ',e,c,rfl⟩:=bC (Φ:=Φ) (G:=G) (n:=n) (its:=[(.cst (.int 4))]) (tg:=[5]) (body:=[(.ite (.leaf (.ae .eq (.ae .at (.var 4) (.var 5)) (.var 1))) [(.app 2 (.tup [(.var 3),(.var 5)]))] [])]) (δ:=[some (false,d0),some (false,.int line),some (true,.lst (acc.map pairD)),some (false,.int (k:Nat)),some (false,af r),c5]) (m:=4) (by simp only[ev,cv,Zf];exact aK (n:=4) (by decide))
  (λi δ=>∃c,δ=[some (false,d0),some (false,.int line),some (true,.lst ((acc++cy r k line i).map pairD)),some (false,.int (k:Nat)),some (false,af r),c]) ⟨c5,by simp[cy,av,cq,ag,aa]⟩ step
 exact⟨c,e⟩
theorem j5:∀(xs:List D)(n i:Nat)(h:i<(gg n xs).length)(h':i<xs.length),(gg n xs)[i]=.tup [.int ((n+i:Nat):Int),xs[i]]
 |x::r,n,0,_,_=>rfl
 |x::r,n,i+1,h,h'=>by
  have:=j5 r (n+1) i (by simpa[gg] using h) (by simpa using h');rw[show n+1+i=n+(i+1) by omega] at this;exact this
theorem aR:∀(xs:List D)(n:Nat),(gg n xs).length=xs.length
 |[],_=>rfl
 |x::r,n=>by simp[gg,aR r (n+1)]
theorem zT{rings line:Int}(h4:∀r∈Q,r.length=4)(hQ:Q.length<=1000):
  (ao Φ G n (EY c) [some (false,.tup [.tup (Q.map af),.int rings]),some (false,.int line),none,none,none,none]).val=if ba Q line=[] then .exc c else .ok (.tup ((ba Q line).map pairD)):=by
 generalize hd:D.tup [.tup (Q.map af),.int rings]=d0;unfold EY;have e1:bg Φ G n (.asg 2 (.lst [])) [some (false,d0),some (false,.int line),none,none,none,none]=.nx [some (false,d0),some (false,.int line),some (true,.lst (([]:List (Nat×Nat)).map pairD)),none,none,none]:=by simp only[bg,ev,cv,av,aa,ag,Zc,ay,bj,Zf,Zi,Zj,Zn,Zt]
 rw[aC e1];have hit:a_ .enum [.tup (Q.map af)]=.ok (gg 0 (Q.map af)):=by
  show(if(gg 0 (Q.map af)).length<=gx then R.ok (gg 0 (Q.map af)) else R.bad)=_;rw[aR,dz,bp (qe hQ (by decide))]
 have a0:rn [D.tup (Q.map af),.int rings] 0=some (.tup (Q.map af)):=rfl;have step:∀i (h:i<(gg 0 (Q.map af)).length) δ,(∃x3 x4 x5,δ=[some (false,d0),some (false,.int line),some (true,.lst ((dh Q line i).map pairD)),x3,x4,x5])->
   ∃δ',cz Φ G n [3,4] [(.loop .g_ [(.cst (.int 4))] [5] [(.ite (.leaf (.ae .eq (.ae .at (.var 4) (.var 5)) (.var 1))) [(.app 2 (.tup [(.var 3),(.var 5)]))] [])])] (gg 0 (Q.map af))[i] δ=.nx δ'/\∃x3 x4 x5,δ'=[some (false,d0),some (false,.int line),some (true,.lst ((dh Q line (i+1)).map pairD)),x3,x4,x5]:=by
  rintro i h δ ⟨x3,x4,x5,rfl⟩;have hi:i<Q.length:=by simpa[aR] using h
  have hq:Q.getD i []=Q[i]:=by simp[hi]
  have hr:Q[i].length=4:=h4 _ (yn hi);have hl:=sB Q line i;obtain⟨AU,e⟩:=Iz (Φ:=Φ) (G:=G) (n:=n) (d0:=d0) (c5:=x5) (acc:=dh Q line i) (r:=Q[i]) (k:=i) (line:=line) hr (by omega);refine⟨_,?_,some (false,.int (i:Nat)),some (false,af Q[i]),AU,rfl⟩;rw[j5 _ 0 i h (by simpa using hi),List.getElem_map,cD,hq];simp only[cz,spread,gm,ny,qb,b_,Py.sets,D5,DL];rw[aC e];rfl
 obtain⟨δ',e2,x3,x4,x5,rfl⟩:=bB (Φ:=Φ) (G:=G) (n:=n) (k:=.enum) (its:=[(.ae .at (.var 0) (.cst (.int 0)))]) (tg:=[3,4]) (body:=[(.loop .g_ [(.cst (.int 4))] [5] [(.ite (.leaf (.ae .eq (.ae .at (.var 4) (.var 5)) (.var 1))) [(.app 2 (.tup [(.var 3),(.var 5)]))] [])])]) (δ:=[some (false,d0),some (false,.int line),some (true,.lst (([]:List (Nat×Nat)).map pairD)),none,none,none]) (xs:=gg 0 (Q.map af))
  (by rw[←hd];simp only[ev,cv,av,aa,ag,cg,bx,Ze,Zf,Zk,Zn,Zq,b_,ZJ,a0];exact hit) (λi δ=>∃x3 x4 x5,δ=[some (false,d0),some (false,.int line),some (true,.lst ((dh Q line i).map pairD)),x3,x4,x5]) ⟨none,none,none,rfl⟩ step
 rw[aC e2,aR,dz];show(ao Φ G n _ [some (false,d0),some (false,.int line),some (true,.lst ((ba Q line).map pairD)),x3,x4,x5]).val=_;by_cases hp:ba Q line=[]
 ·rw[bp hp,hp]
  simp only[ao,bg,fe,ev,av,aj,aa,cg,bx,Zb,Zc,Zf,Zk,Zl,Zn,b_,Zv,Zw,List.isEmpty_nil];rfl
 ·rw[az hp]
  have:((ba Q line).map pairD).isEmpty=false:=by
   cases e:ba Q line with
   |nil=>exact absurd e hp
   |cons _ _=>rfl
  simp only[ao,bg,fe,ev,av,aj,aa,cg,bx,Zb,Zc,Zf,Zk,Zl,b_,df,gV,Zv,Zw,ZP,this];rfl
end
section
variable{Φ:Nat->List D->R D}{G:List D}{n:Nat}
noncomputable def CG:List Sm:=[(.ret (.and (.bb .isInt (.var 0)) (.not (.bb .isBool (.var 0)))))]
theorem wD(x:Int):ao Φ G n CG [some (false,.int x)]=.rt (.bl true):=by
 simp only[CG,ao,bg,ev,av,aa,cg,bx,Zc,Dp,Zf,Zk,Zq,b_,Zw,ZT,ZU]
end
noncomputable def px(ks:List Int):D:=.gb ks (fj (List.range ks.length))
theorem l7:∀(ks:List Int)(vs:List D)(x:Int),x∈ks->vs.length=ks.length->mz ks vs x=vs[ks.idxOf x]?
 |[],_,x,h,_=>by simp at h
 |k::ks,[],x,_,hl=>by simp at hl
 |k::ks,v::vs,x,h,hl=>by
  rw[mz];by_cases e:k=x
  ·subst e;simp
  ·rw[az e]
   have h':x∈ks:=(List.mem_cons.mp h).resolve_left (jt e);rw[l7 ks vs x h' (by simpa using hl),List.idxOf_cons,show(k==x)=false by simpa using e];simp
theorem zU(h:x∈ks):mz ks (fj (List.range ks.length)) x=some (.int (ks.idxOf x:Nat)):=by
 rw[l7 ks _ x h (by simp[fj])];have:=List.idxOf_lt_length_iff.mpr h;simp[fj,this]
theorem Mw(acc xs:List Int):∃more,dd acc xs=acc++more:=by
 induction xs generalizing acc with
 |nil=>exact⟨[],by simp[dd]⟩
 |cons x r ih=>
  rw[dd];obtain⟨m,e⟩:=ih (if x∈acc then acc else acc++[x]);by_cases h:x∈acc
  ·rw[bp h] at e⊢;exact⟨m,e⟩
  ·rw[az h] at e⊢;exact⟨x::m,by rw[e];simp⟩
theorem uM:∀{a b:List Int}{x:Int},x∈a->(a++b).idxOf x=a.idxOf x
 |[],_,_,h=>by simp at h
 |y::a,b,x,h=>by
  rw[Je,List.idxOf_cons,List.idxOf_cons];by_cases e:y=x
  ·subst e;simp
  ·rw[show(y==x)=false by simpa using e]
   simp only[cond_false];rw[uM ((List.mem_cons.mp h).resolve_left (jt e))]
theorem zV(h:x∈acc):(dd acc xs).idxOf x=acc.idxOf x:=by
 obtain⟨m,e⟩:=Mw acc xs;rw[e,uM h]
noncomputable def Mx:List Sm:=[(.new 2),(.asg 3 (.lst [])),(.loop .seq [(.var 0)] [4] [(.loop .seq [(.var 4)] [5] [(.ite (.leaf (.Cb true (.var 5) (.var 2))) [(.dput 2 (.var 5) (.yi (.var 2)))] [])]),(.app 3 (.bb .tuple (.comp .seq [(.var 4)] [2] 1 none (.om (.var 1) (.var 0)))))]),(.ret (.tup [(.bb .tuple (.var 3)),(.var 1)]))]
section
variable{Φ:Nat->List D->R D}{G:List D}{n:Nat}
theorem wE(k:Nat):fj (List.range k)++[.int (k:Nat)]=fj (List.range (k+1)):=by simp[fj,Df]
theorem PZ(hl:acc.length+r.length<90000)(hr:r.length<=1000):
  ∃AU,bg Φ G n (.loop .seq [(.var 4)] [5] [(.ite (.leaf (.Cb true (.var 5) (.var 2))) [(.dput 2 (.var 5) (.yi (.var 2)))] [])]) [some (false,d0),some (false,d1),some (true,px acc),c3,some (false,af r),c5]=.nx [some (false,d0),some (false,d1),some (true,px (dd acc r)),c3,some (false,af r),AU]:=by
 have hi:a_ .seq [af r]=.ok (ai r):=bW (by simpa[ai] using hr);have step:∀i (h:i<(ai r).length) δ,(∃c,δ=[some (false,d0),some (false,d1),some (true,px (dd acc (r.take i))),c3,some (false,af r),c])->∃δ',cz Φ G n [5] [(.ite (.leaf (.Cb true (.var 5) (.var 2))) [(.dput 2 (.var 5) (.yi (.var 2)))] [])] (ai r)[i] δ=.nx δ'/\∃c,δ'=[some (false,d0),some (false,d1),some (true,px (dd acc (r.take (i+1)))),c3,some (false,af r),c]:=by
  rintro i h δ ⟨c,rfl⟩;have ya:i<r.length:=by simpa[ai] using h
  have ex:(ai r)[i]=.int r[i]:=by simp[ai]
  have et:r.take (i+1)=r.take i++[r[i]]:=D4 ya;have hd:dd acc (r.take (i+1))=if r[i]∈dd acc (r.take i) then dd acc (r.take i) else dd acc (r.take i)++[r[i]]:=by
   rw[et,j0];rfl
  rw[ex,hd];have hlen:(dd acc (r.take i)).length<gx:=by
   have:=nI acc (r.take i);have h2:(r.take i).length<=r.length:=by rw[Bj];omega
   have:gx=100000:=rfl;omega
  generalize dd acc (r.take i)=ks at*;by_cases hm:r[i]∈ks
  ·rw[bp hm]
   refine⟨_,?_,some (false,.int r[i]),rfl⟩;simp only[cz,px,ao,bg,fe,ev,av,aj,aa,cg,bx,Za,Zc,Py.sets,spread,Zf,Zi,Zj,Zk,Zl,Zq,b_,df,gV,Zv,hm,decide_true,gm,ny,qb]
  ·rw[az hm]
   refine⟨_,?_,some (false,.int r[i]),rfl⟩;simp only[cz,px,ao,bg,fe,ev,av,aj,aa,cg,bx,Za,Zc,Py.sets,spread,Zf,Zi,Zj,Zk,Zl,Zq,b_,df,Zw,hm,D8,gm,ny,qb,Dr,AO,hlen,wE,rj]
 obtain⟨δ',e,c,rfl⟩:=bB (Φ:=Φ) (G:=G) (n:=n) (k:=.seq) (its:=[(.var 4)]) (tg:=[5]) (body:=[(.ite (.leaf (.Cb true (.var 5) (.var 2))) [(.dput 2 (.var 5) (.yi (.var 2)))] [])]) (δ:=[some (false,d0),some (false,d1),some (true,px acc),c3,some (false,af r),c5]) (xs:=ai r) (by simp only[ev,cv,av,cq,aa,ag,cg,bx,Zf,Zk,Zl,Zq,df,gV,hi])
  (λi δ=>∃c,δ=[some (false,d0),some (false,d1),some (true,px (dd acc (r.take i))),c3,some (false,af r),c]) ⟨c5,rfl⟩ step
 refine⟨c,?_⟩;have SV:(ai r).length=r.length:=by simp[ai]
 rw[SV,Bk] at e;exact e
theorem Mz{names r:List Int}(hr:r.length<=1000)(hs:∀x∈r,x∈names)(h2:cg δ 4=.ok (af r))(h1:δ[2]?=some (some (true,px names))):
  ev Φ G m (.comp .seq [(.var 4)] [2] 1 none (.om (.var 1) (.var 0))) δ=.ok (.lst (ai (r.map λx=>(names.idxOf x:Nat)))):=by
 have hi:a_ .seq [af r]=.ok (ai r):=bW (by simpa[ai] using hr);simp only[ev,cv,b_,h2,bA,hi,dk,fu,Bl,h1,Option.getD_some];rw[bV (λx=>match x with|.int k=>.int (names.idxOf k:Nat)|_=>.cx) _ λx hx=>?_]
 ·simp only[R.zh,bA]
  congr 2
  simp[ai,Jc]
 ·obtain⟨k,hk,rfl⟩:=List.mem_map.mp hx
  simp only[AM,cg,spread,Ze,Zf,Zk,Zl,Zm,Zn,Zo,Zp,b_,px,zU (hs k hk)]
theorem zW{rings:Int}{R:List (List Int)}(h0:a_ .seq [d0]=.ok (R.map af))(hR:∀r∈R,r.length<=1000)(hl:R.flatten.length<=80000)(hL:R.length<=1000):
  ao Φ G n Mx [some (false,d0),some (false,.int rings),none,none,none,none]=.rt (.tup [.tup ((gj R).map af),.int rings]):=by
 unfold Mx;have e1:bg Φ G n (.new 2) [some (false,d0),some (false,.int rings),none,none,none,none]=.nx [some (false,d0),some (false,.int rings),some (true,px []),none,none,none]:=by simp only[bg,Zi,Zj];rfl
 have e2:bg Φ G n (.asg 3 (.lst [])) [some (false,d0),some (false,.int rings),some (true,px []),none,none,none]=.nx [some (false,d0),some (false,.int rings),some (true,px []),some (true,.lst []),none,none]:=by simp only[bg,ev,cv,av,aa,ag,Zc,ay,bj,Zf,Zi,Zj,Zt]
 rw[aC e1,aC e2];have step:∀i (h:i<(R.map af).length) δ,(∃c4 c5,δ=[some (false,d0),some (false,.int rings),some (true,px (dd [] (R.take i).flatten)),some (true,.lst (((R.take i).map λr=>r.map λx=>(((dd [] R.flatten).idxOf x:Nat):Int)).map af)),c4,c5])->
   ∃δ',cz Φ G n [4] [(.loop .seq [(.var 4)] [5] [(.ite (.leaf (.Cb true (.var 5) (.var 2))) [(.dput 2 (.var 5) (.yi (.var 2)))] [])]),(.app 3 (.bb .tuple (.comp .seq [(.var 4)] [2] 1 none (.om (.var 1) (.var 0)))))] (R.map af)[i] δ=.nx δ'/\∃c4 c5,δ'=[some (false,d0),some (false,.int rings),some (true,px (dd [] (R.take (i+1)).flatten)),some (true,.lst (((R.take (i+1)).map λr=>r.map λx=>(((dd [] R.flatten).idxOf x:Nat):Int)).map af)),c4,c5]:=by
  rintro i h δ ⟨c4,c5,rfl⟩;have hi:i<R.length:=by simpa using h
  have et:R.take (i+1)=R.take i++[R[i]]:=D4 hi;have hr:=hR R[i] (yn hi);have WJ:(R.take i).flatten.length<=R.flatten.length:=by
   conv=>rhs;rw[←List.take_append_drop i R]
   rw[Gg,rj];omega
  have G5:=nI [] (R.take i).flatten;have ed:dd [] (R.take (i+1)).flatten=dd (dd [] (R.take i).flatten) R[i]:=by rw[et,Gg,j0];simp
  have J7:dd [] R.flatten=dd (dd [] (R.take (i+1)).flatten) (R.drop (i+1)).flatten:=by
   rw[←j0,←Gg,List.take_append_drop]
  have hs:∀x∈R[i],x∈dd [] (R.take (i+1)).flatten:=λx hx=>by
   rw[ed,eA];exact .inr hx
  have Az:(R[i].map λx=>((dd [] (R.take (i+1)).flatten).idxOf x:Nat))=(R[i].map λx=>((dd [] R.flatten).idxOf x:Nat)):=by
   refine Bh λx hx=>?_;rw[J7,zV (hs x hx)]
  obtain⟨AU,e⟩:=PZ (Φ:=Φ) (G:=G) (n:=n) (d0:=d0) (d1:=.int rings) (c3:=some (true,.lst (((R.take i).map λr=>r.map λx=>(((dd [] R.flatten).idxOf x:Nat):Int)).map af))) (c5:=c5) (acc:=dd [] (R.take i).flatten) (r:=R[i]) (by rw[ny] at G5;omega) hr;have hlen:(((R.take i).map λr=>r.map λx=>(((dd [] R.flatten).idxOf x:Nat):Int)).map af).length<gx:=by
   simp only[dz,Bj];have:gx=100000:=rfl;omega
  rw[←ed] at e;have ec:=Mz (m:=true) (Φ:=Φ) (G:=G) (names:=dd [] (R.take (i+1)).flatten) (r:=R[i]) (δ:=[some (false,d0),some (false,.int rings),some (true,px (dd [] (R.take (i+1)).flatten)),some (true,.lst (((R.take i).map λr=>r.map λx=>(((dd [] R.flatten).idxOf x:Nat):Int)).map af)),some (false,af R[i]),AU]) hr hs rfl rfl;have SW:ev Φ G false (.bb .tuple (.comp .seq [(.var 4)] [2] 1 none (.om (.var 1) (.var 0)))) [some (false,d0),some (false,.int rings),some (true,px (dd [] (R.take (i+1)).flatten)),some (true,.lst (((R.take i).map λr=>r.map λx=>(((dd [] R.flatten).idxOf x:Nat):Int)).map af)),some (false,af R[i]),AU]=.ok (af (R[i].map λx=>(((dd [] R.flatten).idxOf x:Nat):Int))):=by
   rw[ev,ec];have:(R[i].map λx=>(((dd [] (R.take (i+1)).flatten).idxOf x:Nat):Int))=(R[i].map λx=>(((dd [] R.flatten).idxOf x:Nat):Int)):=by
    refine Bh λx hx=>?_;rw[J7,zV (hs x hx)]
   rw[this];rfl
  refine⟨_,?_,some (false,af R[i]),AU,rfl⟩;rw[List.getElem_map];simp only[cz,spread,gm,ny,qb,Py.sets,D5,DL];rw[aC e,aC (nH rfl SW rfl hlen)];simp only[ao,D5,DL,et,Ac,fu,Bl]
 obtain⟨δ',e3,c4,c5,rfl⟩:=bB (Φ:=Φ) (G:=G) (n:=n) (k:=.seq) (its:=[(.var 0)]) (tg:=[4]) (body:=[(.loop .seq [(.var 4)] [5] [(.ite (.leaf (.Cb true (.var 5) (.var 2))) [(.dput 2 (.var 5) (.yi (.var 2)))] [])]),(.app 3 (.bb .tuple (.comp .seq [(.var 4)] [2] 1 none (.om (.var 1) (.var 0)))))]) (δ:=[some (false,d0),some (false,.int rings),some (true,px []),some (true,.lst []),none,none]) (xs:=R.map af) (by simp only[ev,cv,av,cq,aa,ag,cg,bx,Zf,Zk,Zq,df,gV];exact h0)
  (λi δ=>∃c4 c5,δ=[some (false,d0),some (false,.int rings),some (true,px (dd [] (R.take i).flatten)),some (true,.lst (((R.take i).map λr=>r.map λx=>(((dd [] R.flatten).idxOf x:Nat):Int)).map af)),c4,c5]) ⟨none,none,rfl⟩ step
 rw[aC e3];simp only[ao,bg,ev,cv,av,cq,aa,ag,cg,bx,Zc,Zf,Zk,Zl,Zo,Zq,b_,df,gV,ZP,dz,Bk,gj]
theorem pY(n:Nat)(r:List Int):nt n (ai r)=true:=by
 induction r with
 |nil=>rfl
 |cons x r ih=>exact ih
theorem wF(n:Nat)(Q:List (List Int)):nt (n+1) (Q.map af)=true:=by
 induction Q with
 |nil=>rfl
 |cons r Q ih=>
  show(dj (n+1) (af r)&&nt (n+1) (Q.map af))=true;rw[ih];show((decide (0<n+1)&&nt n (ai r))&&true)=true;rw[pY];simp
theorem wG(r:List Int):bb .isTup (af r)=.ok (.bl true):=Ms _ (pY 999 r)
end
noncomputable def eh(Q:List (List Int))(g:Int):D:=.tup [.tup (Q.map af),.int g]
theorem uN{R:List (List Int)}(h4:∀r∈R,r.length=4):R.flatten.length<=4*R.length:=by
 induction R with
 |nil=>simp
 |cons r R ih=>
  have:=ih λx hx=>h4 x (o_ _ hx);have h:=h4 r si;simp only[List.flatten_cons,rj,gm];omega
theorem DC{r:List Int}(h:r.length=4):∃a b c d,r=[a,b,c,d]:=by
 match r,h with
 |[a,b,c,d],_=>exact⟨a,b,c,d,rfl⟩
section
variable{Φ:Nat->List D->R D}{G:List D}{n:Nat}
theorem cY{α:Type}{a:α->D}{xs:List α}(f:α->D)(h:(cv Φ G true its δ).bind (a_ k)=.ok (xs.map a))(hf:∀x∈xs,ev Φ G false elt (some (false,a x)::dk δ caps)=.ok (f x)):
  ev Φ G m (.comp k its caps 1 none elt) δ=.ok (.lst (xs.map f)):=by
 rw[ev]
 cases e:cv Φ G true its δ with
 |ok ss=>
  rw[e] at h;have h:a_ k ss=.ok (xs.map a):=h;rw[bA,h,bA];have key:∀ys:List α,(∀x∈ys,x∈xs)->ji (λx=>match spread 1 x with
    |none=>.bad
    |some ts=>(AM Φ G none (ts.map (λt=>some (false,t))++dk δ caps)).bind λb=>if b then(ev Φ G false elt (ts.map (λt=>some (false,t))++dk δ caps)).bind λy=>.ok (some y) else .ok none) (ys.map a)=.ok (ys.map f):=by
   intro ys
   induction ys with
   |nil=>intro _;rfl
   |cons y ys ih=>
    intro hs;have e1:=hf y (hs y si);rw[fu,ji,ih λx hx=>hs x (o_ _ hx)];simp only[spread,AM,bA,fu,Bl,Je,List.nil_append,b_,e1]
  exact congrArg (λz:R (List D)=>(R.quiet z).bind λys=>R.ok (D.lst ys)) (key xs λ_ h=>h)
 |exc c=>rw[e] at h;cases h
 |bad=>rw[e] at h;cases h
theorem bN(h:bg Φ G n s δ=.rt d):ao Φ G n (s::ss) δ=.rt d:=by rw[ao,h]
end
theorem l8(a b:α):rn [a,b] 0=some a:=rfl
theorem j6(a b:α):rn [a,b] 1=some b:=rfl
noncomputable def jz(l:List (Nat×Nat)):Nat×Nat:=l.getLastD (0,0)
theorem sD(l:List (Nat×Nat))(x:Nat×Nat):jz (l++[x])=x:=by simp[jz]
noncomputable def ak(Q:List (List Int))(line:Int):Nat×Nat:=jz (ba Q line)
theorem fI(h:p∈ba Q line):p.1<Q.length/\p.2<4/\(Q.getD p.1 []).getD p.2 0=line:=by
 simp only[ba,dh,cy,Gi,FR,Ck,List.mem_filter] at h;obtain⟨k,hk,e,⟨he,hv⟩,rfl⟩:=h;exact⟨hk,he,by simpa using hv⟩
theorem ax.CH(s:ax Q m)(h:ba Q x≠[]):(0<=x/\x<(2*m:Nat))/\∃a b,ba Q x=[a,b]:=by
 by_cases hr:x<0\/(2*m:Nat)<=x
 ·exact absurd (s.none hr) h
 ·refine⟨by omega,?_⟩
  have:=s.places (v:=x.toNat) (by omega);rw[show((x.toNat:Nat):Int)=x by omega] at this
  match ba Q x,this with
  |[a,b],_=>exact⟨a,b,rfl⟩
theorem ax.in_of(s:ax Q m){x:Int}(h:0<=x/\x<(2*m:Nat)):ba Q x≠[]:=λe=>by
 have:=s.places (v:=x.toNat) (by omega);rw[show((x.toNat:Nat):Int)=x by omega,e] at this;cases this
theorem aX(h:ba Q x≠[]):(ak Q x).1<Q.length/\(ak Q x).2<4:=by
 have:ak Q x∈ba Q x:=by
  rw[ak,jz]
  cases e:ba Q x with
  |nil=>exact absurd e h
  |cons a l=>
   rw[List.getLastD_cons]
   cases l with
   |nil=>simp
   |cons b l=>rw[List.getLastD_cons,List.getLastD_eq_getLast?];cases e:l.getLast? with
    |none=>simp
    |some y=>simp;exact .inr (.inr (List.mem_of_getLast? e))
 exact⟨(fI this).1,(fI this).2.1⟩
noncomputable def fh(Q:List (List Int))(p:Nat×Nat)(v:Int):List (List Int):=Q.set p.1 ((Q.getD p.1 []).set p.2 v)
theorem aU(Q:List (List Int))(p:Nat×Nat)(v:Int):(fh Q p v).length=Q.length:=by simp[fh]
theorem a9(h4:∀r∈Q,r.length=4):∀r∈fh Q p v,r.length=4:=by
 intro r hr;by_cases hp:p.1<Q.length
 ·rcases List.mem_or_eq_of_mem_set hr with h|h
  ·exact h4 r h
  ·rw[h,Jh]
   have:Q.getD p.1 []=Q[p.1]:=by simp[hp]
   rw[this];exact h4 _ (yn hp)
 ·rw[fh,List.set_eq_of_length_le (by omega)] at hr
  exact h4 r hr
section
variable{Φ:Nat->List D->R D}{G:List D}{n:Nat}
noncomputable def yt:List Sm:=[(.asg 2 (.tup [(.cst (.int 0)),(.cst (.int 0))])),(.loop .g_ [(.bb .len (.var 0))] [3] [(.loop .g_ [(.cst (.int 4))] [4] [(.ite (.leaf (.ae .eq (.ae .at (.ae .at (.var 0) (.var 3)) (.var 4)) (.var 1))) [(.asg 2 (.tup [(.var 3),(.var 4)]))] [])])]),(.ret (.var 2))]
theorem sE(h4:∀r∈Q,r.length=4)(hQ:Q.length<=1000)(hlen:bb .len d0=.ok (.int (Q.length:Nat)))(F_:∀k,k<Q.length->ae .at d0 (.int (k:Nat))=.ok (af (Q.getD k []))):
  ao Φ G n yt [some (false,d0),some (false,.int line),none,none,none]=.rt (pairD (ak Q line)):=by
 unfold yt;have e1:bg Φ G n (.asg 2 (.tup [(.cst (.int 0)),(.cst (.int 0))])) [some (false,d0),some (false,.int line),none,none,none]=.nx [some (false,d0),some (false,.int line),some (false,pairD (jz [])),none,none]:=by
  simp only[bg,ev,cv,av,aa,ag,Zc,ay,bj,Zf,Zi,Zj,Zq,Zu];rfl
 rw[aC e1];have inner:∀(k:Nat)(acc:List (Nat×Nat))(c4:Slot),k<Q.length->∃SX,bg Φ G n (.loop .g_ [(.cst (.int 4))] [4] [(.ite (.leaf (.ae .eq (.ae .at (.ae .at (.var 0) (.var 3)) (.var 4)) (.var 1))) [(.asg 2 (.tup [(.var 3),(.var 4)]))] [])]) [some (false,d0),some (false,.int line),some (false,pairD (jz acc)),some (false,.int (k:Nat)),c4]=
   .nx [some (false,d0),some (false,.int line),some (false,pairD (jz (acc++cy (Q.getD k []) k line 4))),some (false,.int (k:Nat)),SX]:=by
  intro k acc c4 hk;have hq:Q.getD k []=Q[k]:=by simp[hk]
  have hr:(Q.getD k []).length=4:=by rw[hq];exact h4 _ (yn hk)
  have Az:=F_ k hk;generalize Q.getD k []=r at*;have step:∀i,i<4->∀δ,(∃c,δ=[some (false,d0),some (false,.int line),some (false,pairD (jz (acc++cy r k line i))),some (false,.int (k:Nat)),c])->
    ∃δ',cz Φ G n [4] [(.ite (.leaf (.ae .eq (.ae .at (.ae .at (.var 0) (.var 3)) (.var 4)) (.var 1))) [(.asg 2 (.tup [(.var 3),(.var 4)]))] [])] (.int (i:Nat)) δ=.nx δ'/\∃c,δ'=[some (false,d0),some (false,.int line),some (false,pairD (jz (acc++cy r k line (i+1)))),some (false,.int (k:Nat)),c]:=by
   rintro i hi δ ⟨c,rfl⟩;have ha:=j4 (r:=r) (e:=i) (by omega);rw[fH];simp only[af] at Az;by_cases hm:(r.getD i 0==line)=true
   ·rw[bp hm,←Jd,sD]
    refine⟨_,?_,some (false,.int (i:Nat)),rfl⟩;simp only[cz,ao,bg,fe,ev,cv,av,cq,aj,aa,ag,cg,bx,Za,Zc,Py.sets,spread,ay,bj,Ze,Zf,Zi,Zj,Zk,Zl,Zo,Zp,Zq,b_,df,gV,Zu,ZG,ZJ,Az,ha,hm,gm,ny,qb];rfl
   ·rw[az hm]
    refine⟨_,?_,some (false,.int (i:Nat)),rfl⟩;simp only[cz,ao,bg,fe,ev,cv,av,cq,aj,aa,ag,cg,bx,Za,Zc,Py.sets,spread,ay,bj,Ze,Zf,Zi,Zj,Zk,Zl,Zo,Zp,Zq,b_,df,gV,Zu,ZG,ZJ,Az,ha,hm,gm,ny,qb]
  obtain⟨δ',e,c,rfl⟩:=bC (Φ:=Φ) (G:=G) (n:=n) (its:=[(.cst (.int 4))]) (tg:=[4]) (body:=[(.ite (.leaf (.ae .eq (.ae .at (.ae .at (.var 0) (.var 3)) (.var 4)) (.var 1))) [(.asg 2 (.tup [(.var 3),(.var 4)]))] [])]) (δ:=[some (false,d0),some (false,.int line),some (false,pairD (jz acc)),some (false,.int (k:Nat)),c4]) (m:=4) (by simp only[ev,cv,Zf];exact aK (by decide))
   (λi δ=>∃c,δ=[some (false,d0),some (false,.int line),some (false,pairD (jz (acc++cy r k line i))),some (false,.int (k:Nat)),c]) ⟨c4,by simp only[cy,List.range_zero,List.filter_nil,Bl,Ci];rfl⟩ step
  exact⟨c,e⟩
 have step:∀i,i<Q.length->∀δ,(∃x3 x4,δ=[some (false,d0),some (false,.int line),some (false,pairD (jz (dh Q line i))),x3,x4])->
   ∃δ',cz Φ G n [3] [(.loop .g_ [(.cst (.int 4))] [4] [(.ite (.leaf (.ae .eq (.ae .at (.ae .at (.var 0) (.var 3)) (.var 4)) (.var 1))) [(.asg 2 (.tup [(.var 3),(.var 4)]))] [])])] (.int (i:Nat)) δ=.nx δ'/\∃x3 x4,δ'=[some (false,d0),some (false,.int line),some (false,pairD (jz (dh Q line (i+1)))),x3,x4]:=by
  rintro i hi δ ⟨x3,x4,rfl⟩;obtain⟨SX,e⟩:=inner i (dh Q line i) x4 hi;refine⟨_,?_,some (false,.int (i:Nat)),SX,rfl⟩;rw[cD];simp only[cz,spread,gm,ny,qb,b_,Py.sets,D5,DL];rw[aC e];rfl
 obtain⟨δ',e2,x3,x4,rfl⟩:=bC (Φ:=Φ) (G:=G) (n:=n) (its:=[(.bb .len (.var 0))]) (tg:=[3]) (body:=[(.loop .g_ [(.cst (.int 4))] [4] [(.ite (.leaf (.ae .eq (.ae .at (.ae .at (.var 0) (.var 3)) (.var 4)) (.var 1))) [(.asg 2 (.tup [(.var 3),(.var 4)]))] [])])]) (δ:=[some (false,d0),some (false,.int line),some (false,pairD (jz [])),none,none]) (m:=Q.length)
  (by simp only[ev,cv,av,aa,ag,cg,bx,Zf,Zk,Zq,b_,hlen];exact aK hQ) (λi δ=>∃x3 x4,δ=[some (false,d0),some (false,.int line),some (false,pairD (jz (dh Q line i))),x3,x4]) ⟨none,none,rfl⟩ step
 rw[aC e2];simp only[ao,bg,ev,av,cq,aa,cg,bx,Zc,Zk,Zl,df,gV];rfl
theorem sF(h4:∀r∈Q,r.length=4)(hQ:Q.length<=1000):ao Φ G n yt [some (false,.tup (Q.map af)),some (false,.int line),none,none,none]=.rt (pairD (ak Q line)):=
 sE h4 hQ (by rw[nG,dz]) λk hk=>by rw[zO,dG hk,jV]
noncomputable def MA:List Sm:=[(.asg 0 (.bb .list (.var 0))),(.asg 3 (.bb .list (.ae .at (.var 0) (.ae .at (.var 1) (.cst (.int 0)))))),(.put 3 (.ae .at (.var 1) (.cst (.int 1))) (.var 2)),(.put 0 (.ae .at (.var 1) (.cst (.int 0))) (.bb .tuple (.var 3))),(.ret (.var 0))]
theorem zX(r:List Int)(e:Nat)(v:Int):(ai r).set e (.int v)=ai (r.set e v):=by simp[ai]
theorem IA(hl:bb .list d0=.ok (.lst (Q.map af)))(h4:∀r∈Q,r.length=4)(h1:p.1<Q.length)(h2:p.2<4):
  ao Φ G n MA [some (false,d0),some (false,pairD p),some (false,.int v),none]=.rt (.lst ((fh Q p v).map af)):=by
 have a0:ae .at (pairD p) (.int 0)=.ok (.int (p.1:Nat)):=rfl;have a1:ae .at (pairD p) (.int 1)=.ok (.int (p.2:Nat)):=rfl;have hq:Q.getD p.1 []=Q[p.1]:=by simp[h1]
 have hr:(Q.getD p.1 []).length=4:=by rw[hq];exact h4 _ (yn h1)
 have Az:=dG h1;have SY:(fh Q p v).map af=(Q.map af).set p.1 (af ((Q.getD p.1 []).set p.2 v)):=by rw[fh,List.map_set]
 have i1:Ca (Q.map af).length (p.1:Nat)=some p.1:=gF (by simpa using h1);have i2:Ca (ai (Q.getD p.1 [])).length (p.2:Nat)=some p.2:=gF (by simp only[ai,dz];omega);rw[SY];generalize Q.getD p.1 []=r at*;generalize Q.map af=X at*;unfold MA;have e1:bg Φ G n (.asg 0 (.bb .list (.var 0))) [some (false,d0),some (false,pairD p),some (false,.int v),none]=.nx [some (true,.lst X),some (false,pairD p),some (false,.int v),none]:=by
  simp only[bg,ev,av,aa,cg,bx,Zc,ay,bj,Zf,Zi,Zk,b_,Zt,hl]
 have e2:bg Φ G n (.asg 3 (.bb .list (.ae .at (.var 0) (.ae .at (.var 1) (.cst (.int 0)))))) [some (true,.lst X),some (false,pairD p),some (false,.int v),none]=.nx [some (true,.lst X),some (false,pairD p),some (false,.int v),some (true,.lst (ai r))]:=by
  simp only[bg,ev,av,aa,cg,bx,Zc,ay,bj,Ze,Zf,Zi,Zj,Zk,Zl,Zq,b_,Zt,ZI,ZS,a0,Az,af]
 have e3:bg Φ G n (.put 3 (.ae .at (.var 1) (.cst (.int 1))) (.var 2)) [some (true,.lst X),some (false,pairD p),some (false,.int v),some (true,.lst (ai r))]=.nx [some (true,.lst X),some (false,pairD p),some (false,.int v),some (true,.lst (ai (r.set p.2 v)))]:=by
  simp only[bg,ev,av,cq,aa,cg,bx,Zc,Zf,Zi,Zj,Zk,Zl,Zq,b_,df,gV,a1,putD,tj,i2,zX]
 have e4:bg Φ G n (.put 0 (.ae .at (.var 1) (.cst (.int 0))) (.bb .tuple (.var 3))) [some (true,.lst X),some (false,pairD p),some (false,.int v),some (true,.lst (ai (r.set p.2 v)))]=.nx [some (true,.lst (X.set p.1 (af (r.set p.2 v)))),some (false,pairD p),some (false,.int v),some (true,.lst (ai (r.set p.2 v)))]:=by
  simp only[bg,ev,av,aa,cg,bx,Zc,Zf,Zi,Zk,Zl,Zq,b_,ZP,a0,putD,tj,i1,af]
 rw[aC e1,aC e2,aC e3,aC e4];simp only[ao,bg,ev,av,cq,aa,cg,bx,Zc,Zi,Zk,df,gV]
end
def j_(m:Nat)(p:Nat×Nat):Prop:=p.1<m/\p.2<4
noncomputable def aq(Q:List (List Int))(p:Nat×Nat):Int:=(Q.getD p.1 []).getD p.2 0
noncomputable def ij(p:Nat×Nat):Nat×Nat:=(p.1,(p.2+2)%4)
noncomputable def dm(Q:List (List Int))(p:Nat×Nat):Nat×Nat:=match ba Q (aq Q p) with
 |[a,b]=>if a=p then b else a
 |_=>p
theorem aZ(h:j_ m p):j_ m (ij p):=⟨h.1,Nat.mod_lt _ (by decide)⟩
theorem nM(h:j_ m p):ij p≠p:=λe=>by
 have:(p.2+2)%4=p.2:=congrArg Prod.snd e;have:=h.2;omega
theorem dH(h:j_ m p):ij (ij p)=p:=by
 have:=h.2;refine Prod.ext rfl ?_;show((p.2+2)%4+2)%4=p.2;omega
theorem lr:p∈ba Q line↔j_ Q.length p/\aq Q p=line:=by
 constructor
 ·intro h
  obtain⟨a,b,c⟩:=fI h;exact⟨⟨a,b⟩,c⟩
 ·rintro⟨⟨h1,h2⟩,h3⟩
  simp only[ba,dh,cy,Gi,FR,Ck,List.mem_filter];exact⟨p.1,h1,p.2,⟨h2,by simpa[aq] using h3⟩,rfl⟩
theorem nN(Q:List (List Int))(line:Int):(ba Q line).Nodup:=by
 unfold ba dh List.Nodup;rw[List.pairwise_flatMap];constructor
 ·intro k _
  unfold cy;rw[List.pairwise_map];refine List.Pairwise.imp ?_ (List.Pairwise.filter _ List.nodup_range);intro a b qz e;exact qz (congrArg Prod.snd e)
 ·refine List.Pairwise.imp ?_ List.nodup_range
  intro a b qz x hx y hy e;unfold cy at hx hy;obtain⟨_,_,rfl⟩:=List.mem_map.mp hx;obtain⟨_,_,rfl⟩:=List.mem_map.mp hy;exact qz (congrArg Prod.fst e)
theorem ax.pair(s:ax Q m)(h:j_ m p):∃q,dm Q p=q/\q≠p/\j_ m q/\aq Q q=aq Q p/\(ba Q (aq Q p)=[p,q]\/ba Q (aq Q p)=[q,p]):=by
 have hp:p∈ba Q (aq Q p):=lr.mpr ⟨by rw[s.len];exact h,rfl⟩;obtain⟨_,a,b,qz⟩:=s.CH (λe=>by rw[e] at hp;cases hp);have nd:=nN Q (aq Q p);have ma:a∈ba Q (aq Q p):=by rw[qz];simp
 have mb:b∈ba Q (aq Q p):=by rw[qz];simp
 have ka:=lr.mp ma;have kb:=lr.mp mb;rw[s.len] at ka kb;rw[qz] at hp nd;have ne:a≠b:=by
  have:=List.pairwise_cons.mp nd;exact this.1 b (by simp)
 have e:dm Q p=if a=p then b else a:=by unfold dm;rw[qz]
 by_cases QP:a=p
 ·rw[bp QP] at e
  subst QP;exact⟨b,e,ne.symm,kb.1,kb.2,.inl qz⟩
 ·rw[az QP] at e
  have hb:p=b:=by
   rcases List.mem_cons.mp hp with h|h
   ·exact absurd h.symm QP
   ·exact List.mem_singleton.mp h
  subst hb;exact⟨a,e,ne,ka.1,ka.2,.inr qz⟩
section
variable{Q:List (List Int)}{m:Nat}(s:ax Q m)
include s
theorem ax.ve(h:j_ m p):j_ m (dm Q p):=by obtain⟨q,e,_,h2,_⟩:=s.pair h;rw[e];exact h2
theorem ax.yu(h:j_ m p):dm Q p≠p:=by obtain⟨q,e,h1,_⟩:=s.pair h;rw[e];exact h1
theorem ax.jr(h:j_ m p):aq Q (dm Q p)=aq Q p:=by obtain⟨q,e,_,_,h3,_⟩:=s.pair h;rw[e];exact h3
theorem ax.ky(h:j_ m p)(hq:j_ m q)(e:aq Q q=aq Q p):q=p\/q=dm Q p:=by
 obtain⟨r,er,_,_,_,hr⟩:=s.pair h;have:q∈ba Q (aq Q p):=lr.mpr ⟨by rw[s.len];exact hq,e⟩;rw[er];rcases hr with h|h<;>rw[h] at this<;>simp at this<;>rcases this with h|h<;>simp[h]
theorem ax.js(h:j_ m p):dm Q (dm Q p)=p:=by
 have h1:=s.ve h;rcases s.ky h1 h (s.jr h).symm with e|e
 ·exact absurd e.symm (s.yu h)
 ·exact e.symm
omit s in
noncomputable def DD(Q:List (List Int))(p:Nat×Nat):Nat×Nat:=dm Q (ij p)
omit s in
noncomputable def bz(Q:List (List Int))(p:Nat×Nat):Nat->Nat×Nat
 |0=>p
 |j+1=>DD Q (bz Q p j)
omit s in
theorem aO(p:Nat×Nat):∀j,bz Q p (j+1)=bz Q (DD Q p) j
 |0=>rfl
 |j+1=>by rw[bz,aO p j];rfl
theorem ax.BY(h:j_ m p):j_ m (DD Q p):=s.ve (aZ h)
theorem ax.jv(h:j_ m p):∀j,j_ m (bz Q p j)
 |0=>h
 |j+1=>s.BY (ax.jv h j)
theorem ax.MB(hp:j_ m p)(hq:j_ m q)(e:DD Q p=DD Q q):p=q:=by
 have:=congrArg (dm Q) e;unfold DD at this;rw[s.js (aZ hp),s.js (aZ hq)] at this;rw[←dH hp,this,dH hq]
end
theorem l9{α:Type}[DecidableEq α]:∀{l l':List α},l.Nodup->(∀x∈l,x∈l')->l.length<=l'.length
 |[],_,_,_=>DQ _
 |a::t,l',nd,h=>by
  have Nv:=List.nodup_cons.mp nd;have ha:=h a (by simp);have:=l9 (l:=t) (l':=l'.erase a) Nv.2 λx hx=>(List.mem_erase_of_ne (λe=>Nv.1 (by rw[←show x=a from e];exact hx))).mpr (h x (by simp[hx]));rw[List.length_erase_of_mem ha] at this;have:0<l'.length:=List.length_pos_of_mem ha;simp only[gm];omega
theorem least{P:Nat->Prop}:∀j,P j->∃i,i<=j/\P i/\∀k,k<i->¬P k:=λj=>by
 induction j using Nat.strongRecOn with
 |ind j ih=>
  intro h;by_cases c:∃k,k<j/\P k
  ·obtain⟨k,hk,pk⟩:=c
   obtain⟨i,a,b,d⟩:=ih k hk pk;exact⟨i,by omega,b,d⟩
  ·exact⟨j,fm _,h,λk hk pk=>c ⟨k,hk,pk⟩⟩
noncomputable def DE(m:Nat):List (Nat×Nat):=(List.range m).flatMap λk=>(List.range 4).map λe=>(k,e)
theorem zY(h:j_ m p):p∈DE m:=by
 simp only[DE,Gi,FR,Ck];exact⟨p.1,h.1,p.2,h.2,rfl⟩
theorem zZ(m:Nat):(DE m).length=4*m:=by
 induction m with
 |zero=>rfl
 |succ m ih=>
  rw[DE,show List.range (m+1)=List.range m++[m] from Df,Kh,rj];rw[DE] at ih;rw[ih];simp;omega
theorem ax.back(s:ax Q m)(h:j_ m p):∃t,t<4*m/\bz Q p (t+1)=p/\∀j,j<t->bz Q p (j+1)≠p:=by
 have hit:∃j,j<4*m/\bz Q p (j+1)=p:=by
  refine Nz λhc=>?_;have inj:∀i d,bz Q p i=bz Q p (i+d)->bz Q p d=p:=by
   intro i
   induction i with
   |zero=>intro d e;rw[qb] at e;exact e.symm
   |succ i ih=>
    intro d e;refine ih d (s.MB (s.jv h i) (s.jv h (i+d)) ?_);rw[show i+1+d=(i+d)+1 by omega] at e;exact e
  have nd:((List.range (4*m+1)).map (bz Q p)).Nodup:=by
   unfold List.Nodup;rw[List.pairwise_map];refine List.Pairwise.imp_of_mem ?_ List.pairwise_lt_range;intro a b ha hb qz e;have UH:=List.mem_range.mp hb;have:=inj a (b-a) (by rw[show a+(b-a)=b by omega];exact e);exact hc ⟨b-a-1,by omega,by rw[show b-a-1+1=b-a by omega];exact this⟩
  have:=l9 nd (l':=DE m) λx hx=>by
   obtain⟨j,_,rfl⟩:=List.mem_map.mp hx;exact zY (s.jv h j)
  rw[zZ,dz,List.length_range] at this;omega
 obtain⟨j,hj,e⟩:=hit;obtain⟨t,ht,e',hm⟩:=least (P:=λj=>bz Q p (j+1)=p) j e;exact⟨t,by omega,e',hm⟩
noncomputable def gf(Q:List (List Int))(p:Nat×Nat)(t:Nat):List Int:=(List.range (t+1)).map λj=>aq Q (bz Q p j)
theorem sG(Q:List (List Int))(p:Nat×Nat)(t:Nat):gf Q p (t+1)=gf Q p t++[aq Q (bz Q p (t+1))]:=by
 simp[gf,Df]
theorem mB(Q:List (List Int))(p:Nat×Nat)(t:Nat):(gf Q p t).length=t+1:=by simp[gf]
noncomputable def jh(Q:List (List Int))(a:Nat×Nat)(j:Nat):Nat×Nat:=bz Q (ij a) (j+1)
structure EZ(Q:List (List Int))(m:Nat)(a c:Nat×Nat)(t:Nat):Prop where
 hit:jh Q a t=c
 CI:c.1=a.1
 first:∀j,j<t->(jh Q a j).1≠a.1
theorem ax.ret(s:ax Q m)(h:j_ m a):∃t c,t<4*m/\EZ Q m a c t:=by
 obtain⟨t,ht,e,_⟩:=s.back (aZ h);obtain⟨i,hi,hp,hm⟩:=least (P:=λj=>(jh Q a j).1=a.1) t (by show(bz Q (ij a) (t+1)).1=a.1;rw[e];rfl);exact⟨i,_,by omega,rfl,hp,hm⟩
theorem EZ.uniq(r:EZ Q m a c t)(r':EZ Q m a c' t'):c=c':=by
 have:t=t':=by
  rcases Nat.lt_trichotomy t t' with h|h|h
  ·exact absurd (by rw[r.hit];exact r.CI) (r'.first t h)
  ·exact h
  ·exact absurd (by rw[r'.hit];exact r'.CI) (r.first t' h)
 rw[←r.hit,←r'.hit,this]
theorem ax.BZ(s:ax Q m)(h:j_ m a):jh Q a 0=dm Q a:=by
 show dm Q (ij (ij a))=_;rw[dH h]
theorem ax.CJ(s:ax Q m)(h:j_ m a)(j:Nat):j_ m (jh Q a j):=s.jv (aZ h) _
theorem ax.zu(s:ax Q m):∀(j:Nat){p:Nat×Nat},j_ m p->bz Q p j≠ij p
 |0,p,h=>λe=>nM h e.symm
 |1,p,h=>λe=>s.yu (aZ h) e
 |j+2,p,h=>λe=>by
  have h':=s.BY h;refine ax.zu s j h' ?_;have e:dm Q (ij (bz Q (DD Q p) j))=ij p:=by rw[←e,aO];rfl
  have:=congrArg (dm Q) e;rw[s.js (aZ (s.jv h' j))] at this;have:=congrArg ij this;rw[dH (s.jv h' j)] at this;exact this
theorem ax.MC(s:ax Q m)(h:j_ m a)(r:EZ Q m a c t):c≠a:=by
 rw[←r.hit];have:=s.zu (t+1) (aZ h);rw[dH h] at this;exact this
noncomputable def km(e:Nat):Int:=if e=3 then 1 else if e=1 then-1 else 0
structure JS where
 left:List (List Int)
 g:Int
 w:List (List Int)
noncomputable def B3(s:JS):JS:=match s.w with
 |(a::b::_)::ps=>⟨s.left.map (Ai b a),if a=b then s.g+1 else s.g,ps.map (Ai b a)⟩
 |_=>s
noncomputable def jk(s:JS):Nat->JS
 |0=>s
 |k+1=>B3 (jk s k)
noncomputable def kn(L:List (List Int))(g:Int)(P:List (List Int)):List (List Int)×Int:=((jk ⟨L,g,P⟩ P.length).left,(jk ⟨L,g,P⟩ P.length).g)
theorem eB(old new:Int)(r:List Int):(Ai old new r).length=r.length:=by simp[Ai]
structure E5(c np k:Nat)(s:JS):Prop where
 len:s.left.length=c
 four:∀r∈s.left,r.length=4
 wl:s.w.length=np-k
 two:∀r∈s.w,r.length=2
theorem E5.head(h:E5 c np k s)(hk:k<np):∃a b ps,s.w=[a,b]::ps/\B3 s=⟨s.left.map (Ai b a),if a=b then s.g+1 else s.g,ps.map (Ai b a)⟩/\E5 c np (k+1) (B3 s):=by
 match hw:s.w with
 |[]=>have:=h.wl;rw[hw] at this;simp at this;omega
 |q::ps=>
  have h2:=h.two q (by rw[hw];simp)
  match q,h2 with
  |[a,b],_=>
   have e:B3 s=⟨s.left.map (Ai b a),if a=b then s.g+1 else s.g,ps.map (Ai b a)⟩:=by unfold B3;rw[hw]
   refine⟨a,b,ps,rfl,e,?_⟩;rw[e];refine⟨by simp[h.len],λr hr=>?_,?_,λr hr=>?_⟩
   ·obtain⟨q,hq,rfl⟩:=List.mem_map.mp hr
    rw[eB];exact h.four q hq
   ·have:=h.wl
    rw[hw] at this;simp only[gm,dz] at this⊢;omega
   ·obtain⟨q,hq,rfl⟩:=List.mem_map.mp hr
    rw[eB];exact h.two q (by rw[hw];exact o_ _ hq)
theorem E5.iter(h:E5 c np 0 s):∀k,k<=np->E5 c np k (jk s k)
 |0,_=>h
 |k+1,hk=>by
  obtain⟨_,_,_,_,_,z⟩:=(E5.iter h k (by omega)).head (by omega);exact z
theorem E5.start(g:Int)(h4:∀r∈L,r.length=4)(h2:∀r∈P,r.length=2):E5 L.length P.length 0 ⟨L,g,P⟩:=⟨rfl,h4,rfl,h2⟩
theorem pZ(h4:∀r∈L,r.length=4)(h2:∀r∈P,r.length=2):(kn L g P).1.length=L.length/\∀r∈(kn L g P).1,r.length=4:=by
 have:=(E5.start g h4 h2).iter P.length (fm _);exact⟨this.len,this.four⟩
theorem mC:∀r:List Int,gy (ai r)=some r
 |[]=>rfl
 |x::r=>by
  show(gy (ai r)).map (x::·)=_;rw[mC r];rfl
theorem gH:∀R:List (List Int),ft (R.map af)=some R
 |[]=>rfl
 |r::R=>by
  show(gy (ai r)).bind (λq=>(ft (R.map af)).map (q::·))=_;rw[mC,gH R];rfl
section
variable{Φ:Nat->List D->R D}{G:List D}{n:Nat}
noncomputable def zv:List Sm:=[(.ret (.comp .seq [(.var 0)] [2,1] 1 none (.bb .tuple (.comp .seq [(.var 0)] [1,2] 1 none (.ite (.leaf (.ae .eq (.var 0) (.var 2))) (.var 1) (.var 0))))))]
theorem p6{R:List (List Int)}(hR:R.length<=1000)(hr:∀r∈R,r.length<=1000):ao Φ G n zv [some (false,.lst (R.map af)),some (false,.int old),some (false,.int new)]=.rt (.lst ((R.map (Ai old new)).map af)):=by
 unfold zv;refine bN (dF ?_);have e:=cY (Φ:=Φ) (G:=G) (m:=false) (k:=.seq) (its:=[(.var 0)]) (caps:=[2,1]) (elt:=(.bb .tuple (.comp .seq [(.var 0)] [1,2] 1 none (.ite (.leaf (.ae .eq (.var 0) (.var 2))) (.var 1) (.var 0))))) (δ:=[some (false,.lst (R.map af)),some (false,.int old),some (false,.int new)]) (a:=af) (xs:=R) (λr=>af (Ai old new r))
  (by simp only[ev,cv,cg,bx,Zf,Zk,b_];exact aW (by simpa using hR)) λr h=>?_
 ·rw[vj];exact e
 ·have e2:=cY (Φ:=Φ) (G:=G) (m:=true) (k:=.seq) (its:=[(.var 0)]) (caps:=[1,2]) (elt:=(.ite (.leaf (.ae .eq (.var 0) (.var 2))) (.var 1) (.var 0))) (δ:=[some (false,af r),some (false,.int new),some (false,.int old)]) (a:=D.int) (xs:=r) (λx=>.int (if x=old then new else x))
   (by simp only[ev,cv,cg,bx,Zf,Zk,b_];exact bW (by simpa[ai] using hr r h)) λx _=>?_
  ·rw[ev]
   show(ev Φ G true _ [some (false,af r),some (false,.int new),some (false,.int old)]).bind _=_;rw[e2];show Py.R.ok _=_;rw[af,Ai,ai,vj];rfl
  ·by_cases hc:x=old
   ·have q:(x==old)=true:=by simpa using hc
    simp only[fe,ev,cg,bx,Za,dk,Zf,Zk,Zl,Zm,Zn,b_,df,gV,Zx,ZG,q,bp hc]
   ·have q:(x==old)=false:=by simpa using hc
    simp only[fe,ev,cg,bx,Za,dk,Zf,Zk,Zl,Zm,Zn,b_,df,gV,Zx,ZG,q,az hc]
noncomputable def wg(r:Nat):List Sm:=[(.asg 5 (.ae .at (.ae .at (.var 4) (.cst (.int 0))) (.cst (.int 0)))),(.asg 6 (.ae .at (.ae .at (.var 4) (.cst (.int 0))) (.cst (.int 1)))),(.ite (.leaf (.ae .eq (.var 5) (.var 6))) [(.asg 1 (.ae .add (.var 1) (.cst (.int 1))))] []),(.asg 3 (.call r [(.var 3),(.var 6),(.var 5)])),(.asg 4 (.call r [(.xv (.var 4) (some (.cst (.int 1))) none),(.var 6),(.var 5)]))]
noncomputable def Bf(r q:Nat):List Sm:=[(.asg 3 (.bb .list (.var 0))),(.asg 4 (.bb .list (.var 2))),(.Cd (.leaf (.var 4)) (wg r)),(.ret (.call q [(.var 3),(.var 1)]))]
theorem wH{lf ps:List (List Int)}(hr:∀(R:List (List Int))(old new:Int),R.length<=1000->(∀x∈R,x.length<=1000)->Φ r [.lst (R.map af),.int old,.int new]=.ok (.lst ((R.map (Ai old new)).map af)))
  (l1:lf.length<=1000) (l2:∀x∈lf,x.length<=1000) (l3:ps.length<=1000) (l4:∀x∈ps,x.length<=1000):
  ao Φ G n (wg r) [some (false,d0),some (false,.int g),some (false,d2),some (o3,.lst (lf.map af)),some (o4,.lst (([a,b]::ps).map af)),c5,c6]=
  .nx [some (false,d0),some (false,.int (if a=b then g+1 else g)),some (false,d2),some (false,.lst ((lf.map (Ai b a)).map af)),some (false,.lst ((ps.map (Ai b a)).map af)),some (false,.int a),some (false,.int b)]:=by
 have h1:=hr lf b a l1 l2;have h2:=hr ps b a l3 l4;have a0:∀(x:D)(y:List D),rn (x::y) 0=some x:=λx y=>jc (xs:=x::y) (i:=0) (by simp);have a1:∀(x y:D),rn [x,y] 1=some y:=λx y=>rfl;have c1:∀(x:D)(y:List D),cut (x::y) (some 1) none=y:=λx y=>uz (x::y) 1;generalize lf.map af=X at*;generalize (lf.map (Ai b a)).map af=X' at*;rw[fu];generalize ps.map af=Y at*;generalize (ps.map (Ai b a)).map af=Y' at*;have er:af [a,b]=.tup [.int a,.int b]:=rfl;unfold wg;by_cases hc:a=b
 ·have q:(a==b)=true:=by simpa using hc
  cases o3<;>cases o4<;>simp only[ao,bg,fe,ev,cv,Cc,av,cq,aj,aa,ag,nu,cg,bx,Za,Zc,G',ay,bj,xv,Ze,Zf,Zi,Zj,Zk,Zl,Zo,Zp,Zq,b_,df,gV,Zt,Zu,ZA,ZG,ZI,ZJ,er,a0,a1,q,h1,h2,c1,bp hc]
 ·have q:(a==b)=false:=by simpa using hc
  cases o3<;>cases o4<;>simp only[ao,bg,fe,ev,cv,Cc,av,cq,aj,aa,ag,nu,cg,bx,Za,Zc,G',ay,bj,xv,Ze,Zf,Zi,Zj,Zk,Zl,Zo,Zp,Zq,b_,df,gV,Zt,Zu,ZA,ZG,ZI,ZJ,er,a0,a1,q,h1,h2,c1,az hc]
noncomputable def IB(f:Nat)(s:JS):Nat->Slot
 |0=>none
 |i+1=>some (false,.int (((jk s i).w.getD 0 []).getD f 0))
theorem sH(hr:∀(R:List (List Int))(old new:Int),R.length<=1000->(∀x∈R,x.length<=1000)->Φ r [.lst (R.map af),.int old,.int new]=.ok (.lst ((R.map (Ai old new)).map af)))
  (hq:∀(R:List (List Int))(g:Int),(∀x∈R,x.length=4)->R.length<=50->Φ q [.lst (R.map af),.int g]=.ok (eh (gj R) g)) (h4:∀r∈L,r.length=4) (h2:∀r∈P,r.length=2) (hL:L.length<=50) (hP:P.length<=50) (hn:100<n):
  ao Φ G n (Bf r q) [some (false,.lst (L.map af)),some (false,.int g),some (false,.lst (P.map af)),none,none,none,none]=.rt (eh (gj (kn L g P).1) (kn L g P).2):=by
 obtain⟨j1,j2⟩:=pZ h4 h2 (g:=g);have st:=E5.start g h4 h2;unfold Bf;have e1:bg Φ G n (.asg 3 (.bb .list (.var 0))) [some (false,.lst (L.map af)),some (false,.int g),some (false,.lst (P.map af)),none,none,none,none]=.nx [some (false,.lst (L.map af)),some (false,.int g),some (false,.lst (P.map af)),some (true,.lst (L.map af)),none,none,none]:=by simp only[bg,ev,av,aa,cg,bx,Zc,ay,bj,Zf,Zi,Zj,Zk,b_,Zt,ZR]
 have e2:bg Φ G n (.asg 4 (.bb .list (.var 2))) [some (false,.lst (L.map af)),some (false,.int g),some (false,.lst (P.map af)),some (true,.lst (L.map af)),none,none,none]=.nx [some (false,.lst (L.map af)),some (false,.int g),some (false,.lst (P.map af)),some (true,.lst (L.map af)),some (true,.lst (P.map af)),none,none]:=by simp only[bg,ev,av,aa,cg,bx,Zc,ay,bj,Zf,Zi,Zj,Zk,Zl,b_,Zt,ZR]
 let d:Nat->gk:=λi=>[some (false,.lst (L.map af)),some (false,.int (jk ⟨L,g,P⟩ i).g),some (false,.lst (P.map af)),some (decide (i=0),.lst ((jk ⟨L,g,P⟩ i).left.map af)),some (decide (i=0),.lst ((jk ⟨L,g,P⟩ i).w.map af)),IB 0 ⟨L,g,P⟩ i,IB 1 ⟨L,g,P⟩ i]
 have ew:bg Φ G n (.Cd (.leaf (.var 4)) (wg r)) (d 0)=.nx (d P.length):=by
  have z:=dE (c:=fe Φ G (.leaf (.var 4))) (fz:=av (aj (.leaf (.var 4)))) (b:=ao Φ G n (wg r)) P.length n d (by omega) (λi hi=>?_) ?_
  ·simpa only[bg,aj,aa,av,b_] using z
  ·have ok:=st.iter i (by omega)
   obtain⟨a,b,ps,hw,es,Xz⟩:=ok.head hi;refine⟨?_,?_⟩
   ·simp only[fe,ev,av,aj,aa,cg,bx,Zb,Zf,Zk,Zl,Zm,b_,d,hw]
    rfl
   ·have XA:ps.length<=50:=by have:=ok.wl;rw[hw] at this;simp only[gm] at this;omega
    have t:=wH (Φ:=Φ) (G:=G) (n:=n) (r:=r) (d0:=.lst (L.map af)) (d2:=.lst (P.map af)) (lf:=(jk ⟨L,g,P⟩ i).left) (ps:=ps) (a:=a) (b:=b) (g:=(jk ⟨L,g,P⟩ i).g) (o3:=decide (i=0)) (o4:=decide (i=0)) (c5:=IB 0 ⟨L,g,P⟩ i) (c6:=IB 1 ⟨L,g,P⟩ i) hr
     (by rw[ok.len];omega) (λx hx=>by rw[ok.four x hx];decide) (by omega) (λx hx=>by rw[ok.two x (by rw[hw];exact o_ _ hx)];decide)
    have ed:d (i+1)=[some (false,.lst (L.map af)),some (false,.int (if a=b then(jk ⟨L,g,P⟩ i).g+1 else(jk ⟨L,g,P⟩ i).g)),some (false,.lst (P.map af)),some (false,.lst (((jk ⟨L,g,P⟩ i).left.map (Ai b a)).map af)),some (false,.lst ((ps.map (Ai b a)).map af)),some (false,.int a),some (false,.int b)]:=by
     show[_,some (false,.int (B3 (jk ⟨L,g,P⟩ i)).g),_,some (decide (i+1=0),.lst ((B3 (jk ⟨L,g,P⟩ i)).left.map af)),some (decide (i+1=0),.lst ((B3 (jk ⟨L,g,P⟩ i)).w.map af)),IB 0 ⟨L,g,P⟩ (i+1),IB 1 ⟨L,g,P⟩ (i+1)]=_;rw[es];simp only[IB,hw];rfl
    rw[ed,←t];show ao Φ G n (wg r) (d i)=_;simp only[d,hw]
  ·have ok:=st.iter P.length (fm _)
   have e0:(jk ⟨L,g,P⟩ P.length).w=[]:=List.eq_nil_of_length_eq_zero (by rw[ok.wl];omega);simp only[fe,ev,av,aj,aa,cg,bx,Zb,Zf,Zk,Zl,Zn,b_,d,e0];rfl
 rw[aC e1,aC e2];show ao Φ G n _ (d 0)=_;rw[aC ew];have WK:=hq (kn L g P).1 (kn L g P).2 j2 (by omega);have ef:d P.length=[some (false,.lst (L.map af)),some (false,.int (kn L g P).2),some (false,.lst (P.map af)),some (decide (P.length=0),.lst ((kn L g P).1.map af)),some (decide (P.length=0),.lst ((jk ⟨L,g,P⟩ P.length).w.map af)),IB 0 ⟨L,g,P⟩ P.length,IB 1 ⟨L,g,P⟩ P.length]:=rfl;rw[ef];generalize decide (P.length=0)=o;cases o<;>simp only[ao,bg,ev,cv,av,cq,aa,ag,cg,bx,Zc,Zf,Zi,Zj,Zk,Zl,Zo,Zp,Zq,df,gV,WK]
end
noncomputable def lx(Q:List (List Int))(ks:List Int):List (List Int):=((List.range Q.length).filter λ(k:Nat)=>!decide (((k:Nat):Int)∈ks)).map λ(k:Nat)=>Q.getD k []
theorem wI(xs:List D):gg 0 xs=(List.range xs.length).map λk=>.tup [.int (k:Nat),xs.getD k .cx]:=by
 refine List.ext_getElem (by simp[aR]) λi h1 h2=>?_;have h:i<xs.length:=by simpa[aR] using h1
 rw[j5 xs 0 i h1 h];simp[h]
theorem z0(x:Int)(xs:List Int):isin (.int x) (.tup (ai xs))=.ok (decide (x∈xs)):=lZ x xs
theorem wJ(x:Int)(xs:List Int):ae .kj (.int x) (.tup (ai xs))=.ok (.bl (!decide (x∈xs))):=by
 show(isin (.int x) (.tup (ai xs))).bind _=_;rw[z0];rfl
theorem p7{k:Nat}(h:k<Q.length):lx Q [(k:Int)]=Q.take k++Q.drop (k+1):=by
 have er:List.range Q.length=List.range k++k::(List.range (Q.length-(k+1))).map (k+1+·):=by
  rw[show Q.length=(k+1)+(Q.length-(k+1)) by omega,List.range_add,Df,Jd,show k+1+(Q.length-(k+1))-(k+1)=Q.length-(k+1) by omega];rfl
 unfold lx;rw[er,List.filter_append,List.filter_cons,Ac];have f1:(List.range k).filter (λ(j:Nat)=>!decide (((j:Nat):Int)∈[((k:Nat):Int)]))=List.range k:=List.filter_eq_self.mpr λj hj=>by
  have:=List.mem_range.mp hj;simp;omega
 have f2:((List.range (Q.length-(k+1))).map (k+1+·)).filter (λ(j:Nat)=>!decide (((j:Nat):Int)∈[((k:Nat):Int)]))=(List.range (Q.length-(k+1))).map (k+1+·):=List.filter_eq_self.mpr λj hj=>by
  obtain⟨i,_,rfl⟩:=List.mem_map.mp hj;simp;omega
 rw[f1,f2,az (by simp)]
 congr 1
 ·refine List.ext_getElem (by simp;omega) λi h1 h2=>?_
  have hi:i<Q.length:=by simp at h2;omega
  simp[hi]
 ·refine List.ext_getElem (by simp) λi h1 h2=>?_
  have hi:k+1+i<Q.length:=by simp at h1;omega
  simp[hi]
section
variable{Φ:Nat->List D->R D}{G:List D}{n:Nat}
noncomputable def zw:List Sm:=[(.ret (.comp .enum [(.var 0)] [1] 2 (some (.leaf (.ae .kj (.var 0) (.var 2)))) (.var 1)))]
theorem p8(hQ:Q.length<=1000):ao Φ G n zw [some (false,.tup (Q.map af)),some (false,.tup (ai ks))]=.rt (.lst ((lx Q ks).map af)):=by
 unfold zw;have hit:a_ .enum [.tup (Q.map af)]=.ok (gg 0 (Q.map af)):=by
  show(if(gg 0 (Q.map af)).length<=gx then R.ok (gg 0 (Q.map af)) else R.bad)=_;rw[aR,dz,bp (qe hQ (by decide))]
 have e:ev Φ G false (.comp .enum [(.var 0)] [1] 2 (some (.leaf (.ae .kj (.var 0) (.var 2)))) (.var 1)) [some (false,.tup (Q.map af)),some (false,.tup (ai ks))]=.ok (.lst ((lx Q ks).map af)):=by
  rw[ev];simp only[cv,ev,b_,cg,List.getElem?_cons_zero,bA,hit];rw[wI,dz,cC (λx=>match x with|.tup [.int k,_]=>!decide (k∈ks)|_=>false) (λx=>match x with|.tup [_,d]=>d|_=>.cx) _ λx hx=>?_]
  ·simp only[Py.R.zh,bA]
   congr 2
   unfold lx;rw[List.filter_map,vj,vj];refine Bh λk hk=>?_;have G8:k<Q.length:=List.mem_range.mp (List.mem_filter.mp hk).1;simp[G8]
  ·obtain⟨k,hk,rfl⟩:=List.mem_map.mp hx
   have ni:=wJ (k:Nat) ks;simp only[fe,ev,AM,cg,bx,Za,spread,dk,Zf,Zk,Zl,Zm,Zn,Zo,Zp,b_,df,gV,Zx,gm,ny,Nat.reduceAdd,qb,ni];by_cases hc:((k:Nat):Int)∈ks
   ·simp[hc]
   ·simp[hc]
 exact bN (dF e)
noncomputable def S0(c:Nat):List Sm:=[(.ite (.or (.leaf (.ae .lt (.var 1) (.cst (.int 0)))) (.leaf (.ae .ge (.var 1) (.bb .len (.ae .at (.var 0) (.cst (.int 0))))))) [(.Lm c)] []),(.ret (.ae .at (.ae .at (.var 0) (.cst (.int 0))) (.var 1)))]
theorem MD:(ao Φ G n (S0 c) [some (false,eh Q g),some (false,.int x)]).val=if x<0\/(Q.length:Int)<=x then .exc c else .ok (af (Q.getD x.toNat [])):=by
 have a0:ae .at (eh Q g) (.int 0)=.ok (.tup (Q.map af)):=rfl;unfold S0;by_cases h1:x<0
 ·have q:decide (x<0)=true:=Ad h1
  rw[bp (.inl h1)];simp only[ao,bg,fe,ev,av,aj,aa,cg,bx,Za,Zc,Zf,Zk,Zl,Zq,b_,ZC,q];rfl
 ·have q:decide (x<0)=false:=Al h1
  by_cases h2:(Q.length:Int)<=x
  ·have q2:decide ((Q.length:Int)<=x)=true:=Ad h2
   rw[bp (.inr h2)];simp only[ao,bg,fe,ev,av,aj,aa,cg,bx,Za,Zc,Zf,Zk,Zl,Zq,b_,df,gV,ZC,ZF,ZM,q,a0,dz,q2];rfl
  ·have q2:decide ((Q.length:Int)<=x)=false:=Al h2
   rw[az (by omega)];have ha:=dG (Q:=Q) (k:=x.toNat) (by omega);rw[show((x.toNat:Nat):Int)=x by omega] at ha;simp only[ao,bg,fe,ev,av,aj,aa,cg,bx,Za,Zc,Ze,Zf,Zk,Zl,Zq,b_,df,gV,ZC,ZF,ZJ,ZM,q,a0,dz,q2,ha];rfl
end
noncomputable def x4(r:List Int):X4:=(r.getD 0 0,r.getD 1 0,r.getD 2 0,r.getD 3 0)
noncomputable def wj(r:List Int)(w:Int):List (List Int):=if w=0 then[[r.getD 0 0,r.getD 1 0],[r.getD 2 0,r.getD 3 0]] else[[r.getD 0 0,r.getD 3 0],[r.getD 1 0,r.getD 2 0]]
theorem p9(r:List Int)(w:Int):(wj r w).length=2/\∀q∈wj r w,q.length=2:=by
 unfold wj;split<;>simp
noncomputable def ID(w:Int)(s:Sx):Sx:=kn s.1.tail s.2 (wj (s.1.headD []) w)
noncomputable def Gb(w:Int)(s:Sx):Sx:=(gj (ID w s).1,(ID w s).2)
noncomputable def T4(s:Sx):Po:=vi (s.1.map x4) s.2.toNat
def J8(M:Int)(s:Sx):Prop:=(∀r∈s.1,r.length=4)/\s.1.length<=9/\0<=s.2/\s.2+2*s.1.length<=M
theorem ME(f:Int->Int)(h:r.length=4):x4 (r.map f)=D0 f (x4 r):=by
 obtain⟨a,b,c,d,rfl⟩:=DC h;rfl
theorem fJ(f:Int->Int){R:List (List Int)}(h:∀r∈R,r.length=4):(R.map λr=>r.map f).map x4=(R.map x4).map (D0 f):=by
 rw[vj,vj];exact Bh λr hr=>ME f (h r hr)
theorem j7{R:List (List Int)}(h:∀r∈R,r.length=4):∀r∈R.map (Ai b a),r.length=4:=λr hr=>by
 obtain⟨q,hq,rfl⟩:=List.mem_map.mp hr;rw[eB];exact h q hq
theorem P0{R:List (List Int)}(h:∀r∈R,r.length=4)(g:Nat):vi ((gj R).map x4) g=vi (R.map x4) g:=by
 have yq:∀x∈(R.map x4).flatMap Pj,x∈dd [] R.flatten:=λx hx=>by
  simp only[Gi,Ck] at hx;obtain⟨_,⟨r,hr,rfl⟩,hx⟩:=hx;obtain⟨a,b,c,d,rfl⟩:=DC (h r hr);exact(eA _ _ _).mpr (.inr (List.mem_flatten.mpr ⟨_,hr,hx⟩))
 unfold gj;rw[fJ _ h];refine HV _ _ g λx hx y hy e=>?_;have e:(dd [] R.flatten).idxOf x=(dd [] R.flatten).idxOf y:=by omega
 rw[←List.getElem_idxOf (List.idxOf_lt_length_iff.mpr (yq x hx)),←List.getElem_idxOf (List.idxOf_lt_length_iff.mpr (yq y hy))];simp only[e]
theorem P1(h:∀r∈L,r.length=4)(hg:0<=g)(a b c d:Int):T4 (gj (kn L g [[a,b],[c,d]]).1,(kn L g [[a,b],[c,d]]).2)=vi (zl (a,b) (c,d) (L.map x4)) (g.toNat+Dx (a,b) (c,d)):=by
 have e:kn L g [[a,b],[c,d]]=((L.map (Ai b a)).map (Ai (sb a b d) (sb a b c)),if sb a b c=sb a b d then(if a=b then g+1 else g)+1 else(if a=b then g+1 else g)):=rfl;have e2:(if sb a b c=sb a b d then(if a=b then g+1 else g)+1 else(if a=b then g+1 else g)).toNat=g.toNat+Dx (a,b) (c,d):=by
  show _=g.toNat+((if a=b then 1 else 0)+if sb a b c=sb a b d then 1 else 0);split<;>split<;>omega
 rw[e];unfold T4;rw[P0 (j7 (j7 h))];show vi _ (Int.toNat (if _ then _ else _))=_;rw[e2]
 congr 1
 exact(fJ (sb (sb a b c) (sb a b d)) (j7 h)).trans (congrArg (List.map _) (fJ (sb a b) h))
theorem z7(w:Int)(s:Sx):s.2<=(ID w s).2/\(ID w s).2<=s.2+2:=by
 have key:∀(L:List (List Int))(g a b c d:Int),g<=(kn L g [[a,b],[c,d]]).2/\(kn L g [[a,b],[c,d]]).2<=g+2:=λL g a b c d=>by
  show g<=(if sb a b c=sb a b d then(if a=b then g+1 else g)+1 else(if a=b then g+1 else g))/\(if sb a b c=sb a b d then(if a=b then g+1 else g)+1 else(if a=b then g+1 else g))<=g+2;split<;>split<;>omega
 unfold ID wj;split<;>exact key _ _ _ _ _ _
theorem splits(M:Int):Splits Gb T4 (J8 M):=by
 have L:∀w s,J8 M s->s.1≠[]->(Gb w s).1.length+1=s.1.length/\∀r∈(Gb w s).1,r.length=4:=λw s h hn=>by
  have j:=pZ (L:=s.1.tail) (g:=s.2) (λr hr=>h.1 r (List.mem_of_mem_tail hr)) (p9 (s.1.headD []) w).2;have:=List.length_pos_iff.mpr hn;have e:(ID w s).1.length=s.1.length-1:=by rw[←List.length_tail];exact j.1
  exact⟨by show(gj (ID w s).1).length+1=_;rw[cX,e];omega,gG j.2⟩
 refine⟨λs h hn i=>?_,λw s h hn=>(L w s h hn).1,λw s h hn=>?_⟩
 ·obtain⟨R,g⟩:=s
  cases R with
  |nil=>exact absurd rfl hn
  |cons r R=>
   have t:=λa b c d=>P1 (L:=R) (g:=g) (λr hr=>h.1 r (o_ _ hr)) h.2.2.1 a b c d;show vi (x4 r::R.map x4) g.toNat i=_;rw[vY];rw[←t,←t];rfl
 ·have:=L w s h hn
  have j:=z7 w s;obtain⟨_,h2,h3,h4⟩:=h;exact⟨this.2,by omega,show 0<=(ID w s).2 by omega,show(ID w s).2+_<=M by omega⟩
theorem gX:∀(n:Nat)(t:List (Sk×Int)),(zm sp n t).length<=2^n*t.length
 |0,t=>by simp[zm]
 |n+1,t=>by
  have h2:=d7 (sp:=sp) t [];have h4:(Dy sp t).length<=2*t.length:=by simpa[Dy] using h2
  have h5:=Nat.mul_le_mul_left (2^n) h4;rw[Nat.pow_succ,Nat.mul_assoc];exact qe (gX n _) h5
noncomputable def QR(s:Sx):List (Sk×Int):=zm Gb s.1.length [((s,0),1)]
noncomputable def UK(ks:List Int):Nat:=match ks with
 |[]=>0
 |x::r=>(jf x r+1).toNat
noncomputable def D3(s:Sx):List (Int×Int):=va (λk=>q_ (xu (QR s)) k) (UK ((xu (QR s)).map (·.1))) []
theorem uO{f M:Nat}(h:J8 M s)(hM:M<=62)(hs:∀s,J8 M s->s.1≠[]->∀w,w=0\/w=1->Φ f [fk s,.int 0,.int w]=.ok (fk (Gb w s))):
  BI Φ f (fk s)=some (jy (D3 s))/\bh (D3 s)/\val (D3 s)=T4 s/\yb 2 (s.1.length+2*UK ((xu (QR s)).map (·.1))) (s.1.length+1+2*(M+1)) (D3 s):=by
 have sh:∀s,m_ (fk s)=some s:=λs=>by
  show(ft (s.1.map af)).map _=_;rw[gH];rfl
 have g0:BM (J8 M) s.1.length [((s,0),1)]:=λk hk=>by
  simp only[fu,Bl,Gh] at hk;subst hk;exact⟨h,rfl⟩
 have h9:2^s.1.length<=2^9:=Nat.pow_le_pow_right (by decide) h.2.1;have e1:=lQ (so:=λs w=>(Nb (Φ f [fk s,.int 0,.int w])).bind m_) (splits M) (λs h hn=>by
  simp only[hs s h hn 0 (.inl rfl),hs s h hn 1 (.inr rfl),Nb,DP,sh,and_self]) s.1.length _ g0 (by simp only[gm,ny];omega)
 have w:=λi=>pC (splits M) i _ _ g0;have pw:=pF (sp:=Gb) s.1.length 0 [((s,0),1)] λk hk=>by
  simp only[fu,Bl,Gh] at hk;subst hk;exact⟨0,by omega,rfl⟩
 have ne:=t9 (sp:=Gb) s.1.length [((s,0),1)] (by simp);have ln:=gX (sp:=Gb) s.1.length [((s,0),1)];rw[qb] at pw;unfold BI;rw[sh,DP,e1,DP];unfold D3 QR;generalize zm Gb s.1.length [((s,0),1)]=t at*;have kk:∀a,a∈(xu t).map (·.1)↔∃k∈t.map (·.1),k.1.2=a:=λa=>by
  refine(pD t [] a).trans ?_;simp
 have bl:(xu t).length<=t.length:=by simpa[xu] using m6 t []
 have bl:((xu t).map (·.1)).length<=t.length:=by simpa using bl
 cases e:(xu t).map (·.1) with
 |nil=>
  obtain⟨k,t',rfl⟩:=List.exists_cons_of_ne_nil ne;have:=(kk k.1.1.2).mpr ⟨k.1,by simp,rfl⟩;rw[e] at this;cases this
 |cons x r=>
  rw[e] at kk bl;have mg:=iG r x;have mm:=jJ r x;have m0:∀a∈x::r,0<=a/\a<=M:=λa ha=>by
   obtain⟨k,hk,rfl⟩:=(kk a).mp ha;obtain⟨⟨_,_,g1,g2⟩,_⟩:=(w 0).2 k hk;omega
  have b:=m0 _ mm;simp only[gm,ny] at bl ln;have so:=lO (b:=q_ (xu t)) (jf x r+1).toNat [] s.1.length (s.1.length+1) Bv (jH _ _ _) (λk hk=>y7 t [] s.1.length k pw λg=>jH _ _ _) (by have:=h.2.1;omega);have nd:bh (va (λk=>q_ (xu t) k) (jf x r+1).toNat []):=t7 _ _ _ Bv;show(if r.length<=900/\-1<=jf x r/\jf x r<=5000 then(A7 (q_ (xu t)) (jf x r+1).toNat []).map jy else none)=some (jy (va _ (jf x r+1).toNat []))/\bh (va _ (jf x r+1).toNat [])/\val (va _ (jf x r+1).toNat [])=_/\yb 2 (_+2*((jf x r+1).toNat:Nat)) _ (va _ (jf x r+1).toNat []);rw[bp ⟨by omega,by omega,by omega⟩,so.1];refine⟨rfl,nd,?_,λk hk=>?_⟩
  ·funext i
   rw[o9];have z:val ([]:List (Int×Int))=λ_=>0:=rfl;rw[z,cT];have hv:(λk:Nat=>val (q_ (xu t) k))=λg j=>Aw (λy:Sk=>if y.1.2=((g:Nat):Int)/\y.2=j then 1 else 0) t:=by
    funext g j;exact HY t g j
   rw[hv,yZ (T:=T4) (gd:=J8 M) (λs h e=>by unfold T4;rw[e];exact HU _) (λs h=>h.2.2.1) i _ t (w i).2 (λk hk=>by
    have:=mg k.1.2 ((kk _).mpr ⟨k,hk,rfl⟩);have:=b;omega),(w i).1,gr,b9]
   show 0+(1*T4 s (i-0)+0)=_;simp
  ·obtain⟨e,q1,q2⟩:=so.2 k hk
   exact⟨e,by omega,q2⟩
theorem qA(s:Int):∀(row:List Int)(q:Int)(t:List (Int×Int))(i:Int),val (qt s row q t) i=val t i+s*cc row q i
 |[],q,t,i=>by simp[qt,cc]
 |x::xs,q,t,i=>by
  rw[qt,qA s xs,cS,cc,Int.mul_add];by_cases h:i=q
  ·rw[bp h.symm,bp h,Int.mul_comm x];omega
  ·rw[az λe=>h e.symm,az h];simp
theorem uP(s:Int):∀(row:List Int)(q:Int)(t:List (Int×Int)),bh t->bh (qt s row q t)
 |[],q,t,h=>h
 |x::xs,q,t,h=>uP s xs _ _ (aS h _ _)
theorem uQ(hd:d=2/\q=2\/d=4/\q=1)(s:Int):∀(row:List Int)(e:Nat)(t:List (Int×Int)),yb d a c t->e+q*row.length<c+q->yb d a c (qt s row (a-d*e) t)
 |[],e,t,h,_=>h
 |x::xs,e,t,h,hl=>by
  simp only[gm,Nat.mul_add] at hl;have:=uQ hd s xs (e+q) _ (fA (n:=x*s) h ⟨e,by omega,rfl⟩) (by omega);rw[qt,show a-d*(e:Int)-4=a-d*((e+q:Nat):Int) by rcases hd with⟨rfl,rfl⟩|⟨rfl,rfl⟩<;>omega];exact this
theorem sI:∀(n:Nat)(l:List (Int×Int)),DW n l<=n
 |0,_=>by simp[DW]
 |_+1,[]=>by simp[DW]
 |n+1,(a,b)::r=>by
  have:=sI n (r.map (yh a b));rw[DW];split<;>omega
theorem cE:∀(X:List X4)(w:List Int),(cf X w).length<=2*X.length
 |[],_=>by simp[cf]
 |_::_,[]=>by simp[cf]
 |r::X,w::ws=>by
  have:=cE X ws;have:(Ce r w).length=2:=by unfold Ce;split<;>rfl
  simp only[cf,rj,gm];omega
theorem j8:∀(n:Nat)(w:List Int),w∈ck n->∃e:Nat,e<=n/\w.sum=e
 |0,w,h=>⟨0,fm _,by simp[ck] at h;simp[h]⟩
 |n+1,w,h=>by
  simp only[ck,Bu,Ck] at h;rcases h with⟨v,hv,rfl⟩|⟨v,hv,rfl⟩<;>obtain⟨e,h1,h2⟩:=j8 n v hv
  ·exact⟨e,by omega,by simp[h2]⟩
  ·exact⟨e+1,by omega,by simp[h2]⟩
noncomputable def ltN(X:List X4)(g:Nat)(w:List Int):Nat:=g+rings (cf X w)
noncomputable def E6(X:List X4)(g:Nat)(t:List (Int×Int))(w:List Int):List (Int×Int):=qt (sg (ltN X g w)) (u_ (ltN X g w)) (X.length-2*w.sum+2*ltN X g w) t
noncomputable def ltV(X:List X4)(g:Nat):List (Int×Int):=(ck X.length).foldl (E6 X g) []
def MF(X:List X4)(g:Nat)(t:List (Int×Int)):Prop:=bh t/\yb 2 (X.length+2*(g+2*X.length:Nat)) (X.length+2*(g+2*X.length)+1) t
theorem z8(h:MF X g t)(hw:w∈ck X.length):MF X g (E6 X g t w):=by
 obtain⟨e,h1,h2⟩:=j8 _ _ hw;have h3:=sI (cf X w).length (cf X w);have h4:=cE X w;have h5:ltN X g w<=g+2*X.length:=Kg (qe h3 h4) g;refine⟨uP _ _ _ _ h.1,?_⟩;have:=uQ (.inl ⟨rfl,rfl⟩) (sg (ltN X g w)) (u_ (ltN X g w)) (e+(g+2*X.length-ltN X g w)) t h.2 (by rw[mX];omega);unfold E6;rw[h2,show(X.length:Int)-2*(e:Int)+2*(ltN X g w:Nat)=X.length+2*(g+2*X.length:Nat)-2*((e+(g+2*X.length-ltN X g w):Nat):Int) by omega];exact this
theorem z9:∀(l:List (List Int))(t:List (Int×Int)),(∀w∈l,w∈ck X.length)->MF X g t->MF X g (l.foldl (E6 X g) t)/\∀i,val (l.foldl (E6 X g) t) i=val t i+sumF (λw=>jg (g+rings (cf X w)) (mono (X.length-2*w.sum)) i) l
 |[],t,_,h=>⟨h,λi=>by simp[sumF]⟩
 |w::l,t,hl,h=>by
  have q:=z9 l _ (λv hv=>hl v (o_ _ hv)) (z8 h (hl w si));refine⟨q.1,λi=>?_⟩;rw[Kl,q.2,E6,qA,aV,rK];simp only[ltN];omega
theorem MG(X:List X4)(g:Nat):MF X g (ltV X g)/\val (ltV X g)=vi X g:=by
 have:=z9 (X:=X) (g:=g) (ck X.length) [] (λ_ h=>h) ⟨Bv,jH _ _ _⟩;refine⟨this.1,funext λi=>(this.2 i).trans ?_⟩;show 0+_=_;rw[Int.zero_add];rfl
noncomputable def DF(t:List (Int×Int)):Bool:=decide (t.length<64)||r_ (t.map (·.1))
section
variable{Φ:Nat->List D->R D}{G:List D}{n:Nat}{s:Sm}{ss:List Sm}{δ δ':gk}{v:R D}
theorem aY(h:bg Φ G n s δ=.nx δ')(k:(ao Φ G n ss δ').val=v):(ao Φ G n (s::ss) δ).val=v:=by rw[aC h];exact k
theorem bO(h:bg Φ G n s δ=.nx δ')(k:ao Φ G n ss δ'=o):ao Φ G n (s::ss) δ=o:=by rw[aC h];exact k
theorem Ny(h:ao Φ G n body (δ.set i (some (false,d)))=o):cz Φ G n [i] body d δ=o:=h
theorem cF(ha:ev Φ G true a δ=.ok x)(hb:ev Φ G true b δ=.ok y)(h:ae o x y=v):ev Φ G m (.ae o a b) δ=v:=by rw[ev,ha,bA,hb,bA,h]
theorem j9(a b:List D)(h:a.length+b.length<=5000):ae .add (.lst a) (.lst b)=.ok (.lst (a++b)):=nD a b (qe h (by decide))
theorem nO(h:(cv Φ G false its (av (ag false its) δ)).bind (a_ .g_)=.ok (cj 0 m))(Q:Nat->gk->Prop)(q0:Q 0 (av (ag false its) δ))
  (st:∀i,i<m->∀δ,Q i δ->∃δ',cz Φ G n tg body (.int (i:Nat)) δ=.nx δ'/\Q (i+1) δ') (k:∀δ',Q m δ'->(ao Φ G n ss δ').val=v):(ao Φ G n (.loop .g_ its tg body::ss) δ).val=v:=by
 obtain⟨δ',e,q⟩:=bC h Q q0 st;exact aY e (k δ' q)
noncomputable def J9(Φ:Nat->List D->R D)(G:List D)(ntg:Nat)(cond:Option Tx)(elt:Ex)(cp:gk)(x:D):R (Option D):=match spread ntg x with
 |none=>.bad
 |some ts=>(AM Φ G cond (ts.map (λt=>some (false,t))++cp)).bind λb=>if b then(ev Φ G false elt (ts.map (λt=>some (false,t))++cp)).bind λy=>.ok (some y) else .ok none
theorem qB{α:Type}{cond:Option Tx}{a:α->D}{xs:List α}(p:α->Bool)(f:α->D)(h:(cv Φ G true its δ).bind (a_ k)=.ok (xs.map a))(hf:∀x∈xs,J9 Φ G ntg cond elt (dk δ caps) (a x)=.ok (if p x then some (f x) else none)):
  ev Φ G m (.comp k its caps ntg cond elt) δ=.ok (.lst ((xs.filter p).map f)):=by
 rw[ev]
 cases e:cv Φ G true its δ with
 |ok ss=>
  rw[e] at h;have h:a_ k ss=.ok (xs.map a):=h;rw[bA,h,bA];have key:∀ys:List α,(∀x∈ys,x∈xs)->ji (J9 Φ G ntg cond elt (dk δ caps)) (ys.map a)=.ok ((ys.filter p).map f):=by
   intro ys
   induction ys with
   |nil=>intro _;rfl
   |cons y ys ih=>
    intro hs;rw[fu,ji,ih λx hx=>hs x (o_ _ hx),hf y (hs y si)];cases e:p y<;>simp[e]
  exact congrArg (λz:R (List D)=>(R.quiet z).bind λys=>R.ok (D.lst ys)) (key xs λ_ h=>h)
 |exc c=>rw[e] at h;cases h
 |bad=>rw[e] at h;cases h
noncomputable def gw(p:Int×Int):D:=.tup [.int p.1,.int p.2]
theorem kA:∀l:List (Int×Int),i_ (l.map λp=>[p.1,p.2])=some l
 |[]=>rfl
 |p::l=>by
  show(i_ (l.map λp=>[p.1,p.2])).map _=_;rw[kA l];rfl
theorem IE{α β:Type}{f:β->α->β}{b:β}{l:List α}(h:i<l.length):(l.take (i+1)).foldl f b=f ((l.take i).foldl f b) l[i]:=by
 rw[D4 h,List.foldl_append];rfl
theorem gY:∀(Q:List (List Int))(w:List Int)(j:Nat),j<Q.length->j<w.length->cf ((Q.take (j+1)).map x4) (w.take (j+1))=cf ((Q.take j).map x4) (w.take j)++Ce (x4 (Q.getD j [])) (w.getD j 0)
 |r::Q,v::w,0,_,_=>by simp[cf]
 |r::Q,v::w,j+1,h1,h2=>by
  have:=gY Q w j (by simpa using h1) (by simpa using h2);show Ce (x4 r) v++cf ((Q.take (j+1)).map x4) (w.take (j+1))=_;rw[this,←Jd];rfl
 |[],_,_,h,_=>by cases h
 |_,[],_,_,h=>by cases h
theorem kB:∀(n:Nat)(w:List Int),w∈ck n->(ai w).all tf=true
 |0,w,h=>by simp[ck] at h;simp[h,ai]
 |n+1,w,h=>by
  simp only[ck,Bu,Ck] at h;rcases h with⟨v,hv,rfl⟩|⟨v,hv,rfl⟩<;>(have:=kB n v hv;simp only[ai,Ac,List.all_append,qc] at this⊢;exact⟨this,by decide⟩)
theorem fK(h:fe Φ G c (av (aj c) δ)=.ok t)(k:ao Φ G n (if t then a else b) (av (aj c) δ)=o):bg Φ G n (.ite c a b) δ=o:=by
 rw[bg,h,of_ok,←k];cases t<;>rfl
theorem wK(t:List (Int×Int)):tabOf (t.map (·.1)) (t.map λx=>.int x.2)=some t:=by
 have h:∀t:List (Int×Int),intsOf (t.map λx=>.int x.2)=some (t.map (·.2)):=by
  intro t
  induction t with
  |nil=>rfl
  |cons x t ih=>show(intsOf (t.map λx=>.int x.2)).map _=_;rw[ih];rfl
 unfold tabOf;rw[h,DP,bp (by simp)]
 congr 1
 induction t with
 |nil=>rfl
 |cons x t ih=>simp[ih]
theorem E7(hf:av (aa false p++aa false r) δ=δ')(hi:δ'[i]?=some (some (true,jy t)))(hp:ev Φ G false p δ'=.ok (.int pv))(hr:ev Φ G false r δ'=.ok (.int rv))(hl:xw Φ f t pv rv=some t'):bg Φ G n (.ED i f p r) δ=.nx (δ'.set i (some (true,jy t'))):=by
 rw[bg,hf,hp,hr];unfold EE;rw[hi];show(match(tabOf (t.map (·.1)) (t.map λx=>.int x.2)).bind λt=>xw Φ f t pv rv with
  |some t=>Out.nx (δ'.set i (some (true,jy t)))
  |none=>.bad)=_
 rw[wK,DP,hl]
theorem gZ:∀l:List Int,intsOf (ai l)=some l
 |[]=>rfl
 |x::l=>by show(intsOf (ai l)).map _=_;rw[gZ l];rfl
theorem IF(ch:Φ f [.int (ltN X g w:Nat)]=.ok (.lst (ai (u_ (ltN X g w)))))(ok:MF X g t)(QS:MF X g (E6 X g t w))(hp:p=X.length-2*w.sum)(hb:X.length+g+2*X.length<=1000)(hn:ltN X g w<=900):xw Φ f t p (ltN X g w:Nat)=some (E6 X g t w):=by
 have l:=jI (.inl rfl) QS.1 QS.2;unfold xw;rw[ch];show(intsOf (ai (u_ (ltN X g w)))).bind _=_;rw[gZ,DP,hp];exact bp ⟨ok.1,by rw[mX];omega,qe l (by omega)⟩
theorem qC:∀{t:List (Int×Int)}{i:Int},bh t->i∈t.map (·.1)->mz (t.map (·.1)) (t.map λx=>.int x.2) i=some (.int (val t i))
 |(a,n)::t,i,nd,h=>by
  simp only[bh,fu,Jj] at nd;rw[cQ];show(if a=i then some (D.int n) else mz (t.map (·.1)) (t.map λx=>.int x.2) i)=_;by_cases e:a=i
  ·subst e
   rw[bp rfl,bp rfl,cR nd.1,Int.add_zero]
  ·rw[az e,az e,qC nd.2 ((List.mem_cons.mp h).resolve_left λh=>e h.symm),Int.zero_add]
theorem uR(x:Int):∀l,(ins x l).length=l.length+1
 |[]=>rfl
 |y::r=>by unfold ins;split<;>simp[uR x r]
theorem kC:∀l,(sortI l).length=l.length
 |[]=>rfl
 |x::r=>(uR x (sortI r)).trans (congrArg (· +1) (kC r))
theorem E8:∀{l:List Int},x∉l->l.Pairwise (· <·)->(ins x l).Pairwise (· <·)
 |[],_,_=>by simp[ins]
 |y::r,h,p=>by
  simp only[oz,not_or] at h;unfold ins;split
  ·rename_i hx
   rw[Kj];refine⟨λz hz=>?_,p⟩;rcases List.mem_cons.mp hz with rfl|hz
   ·exact hx
   ·exact Int.lt_trans hx ((List.pairwise_cons.mp p).1 z hz)
  ·rw[Kj] at p⊢
   refine⟨λz hz=>?_,E8 h.2 p.2⟩;rcases(iF x z r).mp hz with rfl|hz
   ·omega
   ·exact p.1 z hz
theorem bX:∀{l:List Int},l.Nodup->(sortI l).Pairwise (· <·)
 |[],_=>List.Pairwise.nil
 |x::r,h=>by
  rw[Jj] at h;exact E8 (λe=>h.1 ((bI x r).mp e)) (bX h.2)
noncomputable def kh(t:List (Int×Int)):List (Int×Int):=told (val t) (sortI (t.map (·.1)))
theorem IG(nd:bh t)(Nv:bh t')(h:val t=val t'):kh t=kh t':=by
 unfold kh;rw[h];refine pB (bX nd) (bX Nv) (λi hi=>?_) λi hi=>?_
 ·rw[←h] at hi
  exact(bI i _).mpr (Classical.not_not.mp λe=>hi (cR e))
 ·exact(bI i _).mpr (Classical.not_not.mp λe=>hi (cR e))
theorem E9(h:DF t=true):t.length<=128:=by
 unfold DF r_ at h;simp only[Bool.or_false,DN] at h;omega
theorem sJ(h:DF t=true):bb .sorted (jy t)=.ok (.lst ((sortI (t.map (·.1))).map .int))/\a_ .seq [.lst ((sortI (t.map (·.1))).map .int)]=.ok ((sortI (t.map (·.1))).map .int):=by
 have l:=E9 h;refine⟨bp ?_,aW (by rw[dz,kC,dz];omega)⟩;unfold DF at h;simpa using h
theorem nP(h:DF t=true):(kh t).length<=128:=by
 unfold kh told;rw[dz];refine qe (List.length_filter_le _ _) ?_;rw[kC,dz];exact E9 h
theorem qD{cond:Tx}(f:Int×Int->D)(nd:bh t)(h:DF t=true)(hi:ev Φ G true it δ=.ok (jy t))(hc:∀i,i∈t.map (·.1)->fe Φ G cond (some (false,.int i)::dk δ caps)=.ok (decide (val t i≠0)))(he:∀i,i∈t.map (·.1)->ev Φ G false elt (some (false,.int i)::dk δ caps)=.ok (f (i,val t i))):
  ev Φ G m (.comp .seq [.bb .sorted it] caps 1 (some cond) elt) δ=.ok (.lst ((kh t).map f)):=by
 obtain⟨s1,s2⟩:=sJ h;have:=qB (Φ:=Φ) (G:=G) (δ:=δ) (m:=m) (k:=.seq) (its:=[.bb .sorted it]) (caps:=caps) (ntg:=1) (cond:=some cond) (elt:=elt) (a:=D.int) (xs:=sortI (t.map (·.1))) (λi=>decide (val t i≠0)) (λi=>f (i,val t i)) (by rw[cv,ev,hi,bA,s1,bA];exact s2) λi hm=>by
  have hm:=(bI i _).mp hm;show(fe Φ G cond (some (false,.int i)::dk δ caps)).bind (λb=>if b then(ev Φ G false elt (some (false,.int i)::dk δ caps)).bind λy=>.ok (some y) else .ok none)=_;rw[hc i hm,bA];cases decide (val t i≠0)
  ·rfl
  ·rw[he i hm];rfl
 rw[this,kh,told,vj];rfl
theorem iJ(nd:bh t)(hm:i∈t.map (·.1))(ha:ev Φ G true a δ=.ok (jy t))(hb:ev Φ G true b δ=.ok (.int i)):ev Φ G m (.om a b) δ=.ok (.int (val t i)):=by
 rw[ev,ha,bA,hb,bA];show vh (mz (t.map (·.1)) (t.map λx=>.int x.2) i)=_;rw[qC nd hm];rfl
theorem E_(ha:ev Φ G true a δ=.ok (.int x)):fe Φ G (.leaf (.ae .ne a (.cst (.int 0)))) δ=.ok (decide (x≠0)):=by
 rw[fe,cF ha rfl rfl];show R.ok (!(x==0))=_
 congr 1
 by_cases h:x=0<;>simp[h]
theorem nQ(ha:ev Φ G false a δ=.ok x)(hb:ev Φ G false b δ=.ok y):ev Φ G m (.tup [a,b]) δ=.ok (.tup [x,y]):=by
 rw[ev,cv,ha,cv,hb,cv];rfl
end
theorem mD(h:∀x∈names l,∀y∈names l,f x=f y↔g x=g y):rings (l.map (mp f))=rings (l.map (mp g)):=by
 let u:Int->Int:=λz=>if e:∃x∈names l,f x=z then g e.choose else z
 have e:∀x∈names l,u (f x)=g x:=λx hx=>by
  have q:∃y∈names l,f y=f x:=⟨x,hx,rfl⟩
  show(if e:∃y∈names l,f y=f x then g e.choose else f x)=_;rw[dif_pos q];exact(h _ q.choose_spec.1 x hx).1 q.choose_spec.2
 have m:∀z∈names (l.map (mp f)),∃x∈names l,f x=z:=λz hz=>by
  simp only[names,Gi,Ck,oz,DO,or_false] at hz⊢;obtain⟨_,⟨p,hp,rfl⟩,e|e⟩:=hz
  ·exact⟨p.1,⟨p,hp,.inl rfl⟩,e.symm⟩
  ·exact⟨p.2,⟨p,hp,.inr rfl⟩,e.symm⟩
 have:=dB u _ (l.map (mp f)) rfl λx hx y hy q=>by
  obtain⟨a,ha,rfl⟩:=m x hx;obtain⟨b,hb,rfl⟩:=m y hy;rw[e a ha,e b hb] at q;exact(h a ha b hb).2 q
 rw[←this,vj]
 congr 1
 refine Bh λp hp=>?_;have q:=bR hp;show(u (f p.1),u (f p.2))=mp g p;rw[e _ q.1,e _ q.2];rfl
theorem MH(a b x y:Int):sb a b x=sb a b y↔sb b a x=sb b a y:=by unfold sb;grind
theorem bF(a b:Int)(l:List (Int×Int)):rings ((a,b)::l)=rings ((b,a)::l):=by
 rw[aE,aE];simp only[eq_comm (a:=b)]
 congr 1
 exact mD λx _ y _=>MH a b x y
theorem cH(a b c d:Int)(l:List (Int×Int)):rings ((a,b)::(c,d)::l)=rings ((c,d)::(a,b)::l):=by
 rw[aE,aE,fu,fu];show _+rings ((sb a b c,sb a b d)::_)=_+rings ((sb c d a,sb c d b)::_);rw[aE,aE,←Nat.add_assoc,←Nat.add_assoc,vj,vj]
 congr 1
 ·unfold sb;grind
 ·exact mD (f:=sb (sb a b c) (sb a b d)∘sb a b) (g:=sb (sb c d a) (sb c d b)∘sb c d) λx _ y _=>by simp only[Function.comp];unfold sb;grind
theorem cG(h:l.Perm l'):rings l=rings l':=by
 have key:∀(n:Nat)(l l':List (Int×Int)),l.length=n->l.Perm l'->rings l=rings l':=by
  intro n
  induction n with
  |zero=>intro l l' hn h;rw[List.length_eq_zero_iff.1 hn] at h⊢;rw[h.symm.eq_nil]
  |succ n ih=>
   have c:∀(p:Int×Int)(l l':List (Int×Int)),l.length=n->l.Perm l'->rings (p::l)=rings (p::l'):=λp l l' hn h=>by
    rw[show p=(p.1,p.2) from rfl,aE,aE,ih _ _ (by rw[dz];exact hn) (h.map _)]
   have g:∀{l l':List (Int×Int)},l.Perm l'->l.length=n+1->rings l=rings l':=λ{l l'} h=>by
    induction h with
    |nil=>intro h;simp at h
    |cons p h _=>exact λhn=>c p _ _ (by simpa using hn) h
    |swap p q l=>exact λ_=>cH _ _ _ _ _
    |trans h _ i1 i2=>exact λhn=>(i1 hn).trans (i2 (h.length_eq▸hn))
   exact λl l' hn h=>g h hn
 exact key _ _ _ rfl h
theorem eC(p:Int)(l:List (Int×Int)):rings ((p,p)::l)=1+rings l:=by
 rw[aE,bp rfl]
 congr 2
 refine(Bh λq _=>?_).trans (List.map_id l);unfold yh sb
 ext<;>dsimp<;>split<;>simp[*]
theorem Fb(h:p∉names l):l.map (yh a p)=l:=by
 refine(Bh λq hq=>?_).trans (List.map_id l);have:=bR hq;unfold yh sb;rw[az λe:q.1=p=>h (e▸this.1),az λe:q.2=p=>h (e▸this.2)];rfl
theorem fM(ha:a≠p)(hb:b≠p)(h:p∉names l):rings ((a,p)::(p,b)::l)=rings ((a,b)::l):=by
 rw[aE,az ha,fu,Fb h,qb];simp only[yh,sb,b_,az hb]
theorem aN:p∉names ((a,b)::L)↔p≠a/\p≠b/\p∉names L:=by simp[names]
theorem ua(e1 e2:Int×Int)(h:l.Perm (e1::e2::L))(h1:e1=(a,p)\/e1=(p,a))(h2:e2=(p,b)\/e2=(b,p))(ha:p≠a)(hb:p≠b)(hL:p∉names L):rings l=rings ((a,b)::L):=by
 have g:∀e,rings ((a,p)::e::L)=rings (e::(a,p)::L):=λe=>cG (.swap _ _ _);rw[cG h];have k:rings (e1::e2::L)=rings ((a,p)::e2::L):=by rcases h1 with rfl|rfl;rfl;exact bF _ _ _
 rw[k,g];have k:rings (e2::(a,p)::L)=rings ((p,b)::(a,p)::L):=by rcases h2 with rfl|rfl;rfl;exact bF _ _ _
 rw[k,←g];exact fM ha.symm hb.symm hL
theorem MI(h:p≠q)(hq:q∉names L):rings ((p,q)::(q,p)::L)=1+rings L:=by
 rw[aE,az h,fu,Fb hq,qb];simp only[yh,sb,b_,az h];exact eC _ _
theorem WL(hp:p≠l/\p≠m/\p≠x/\p≠y/\p≠q)(hq:q≠l/\q≠m/\q≠x/\q≠y)(fp:p∉names L)(fq:q∉names L):
  (rings ((l,p)::(q,x)::(q,p)::(m,y)::L)=rings ((l,x)::(m,y)::L)/\rings ((l,p)::(q,x)::(q,y)::(p,m)::L)=rings ((l,m)::(x,y)::L)/\rings ((l,p)::(q,x)::(q,m)::(p,y)::L)=rings ((l,y)::(m,x)::L))/\
  (rings ((l,x)::(p,q)::(q,p)::(m,y)::L)=1+rings ((l,x)::(m,y)::L)/\rings ((l,x)::(p,q)::(q,y)::(p,m)::L)=rings ((l,x)::(m,y)::L)/\rings ((l,x)::(p,q)::(q,m)::(p,y)::L)=rings ((l,x)::(m,y)::L))/\
  rings ((l,q)::(p,x)::(q,p)::(m,y)::L)=rings ((l,x)::(m,y)::L)/\rings ((l,q)::(p,x)::(q,y)::(p,m)::L)=rings ((l,y)::(m,x)::L)/\rings ((l,q)::(p,x)::(q,m)::(p,y)::L)=rings ((l,m)::(x,y)::L):=by
 obtain⟨a1,a2,a3,a4,a5⟩:=hp;obtain⟨b1,b2,b3,b4⟩:=hq;have z:=a5.symm;refine⟨⟨?_,?_,?_⟩,⟨?_,?_,?_⟩,?_,?_,?_⟩
 ·rw[ua (p:=p) (a:=l) (b:=q) (L:=(q,x)::(m,y)::L) (l,p) (q,p) (by grind) (by simp) (by simp) a1 a5 (by simp[aN, *]),fM b1.symm b3.symm (by simp[aN, *])]
 ·rw[ua (p:=p) (a:=l) (b:=m) (L:=(q,x)::(q,y)::L) (l,p) (p,m) (by grind) (by simp) (by simp) a1 a2 (by simp[aN, *]),ua (p:=q) (a:=x) (b:=y) (L:=(l,m)::L) (q,x) (q,y) (by grind) (by simp) (by simp) b3 b4 (by simp[aN, *]),cH]
 ·rw[ua (p:=p) (a:=l) (b:=y) (L:=(q,x)::(q,m)::L) (l,p) (p,y) (by grind) (by simp) (by simp) a1 a4 (by simp[aN, *]),ua (p:=q) (a:=m) (b:=x) (L:=(l,y)::L) (q,m) (q,x) (by grind) (by simp) (by simp) b2 b3 (by simp[aN, *]),cH]
 ·rw[cG (l':=(p,q)::(q,p)::(l,x)::(m,y)::L) (by grind),MI a5 (by simp[aN, *])]
 ·rw[ua (p:=p) (a:=m) (b:=q) (L:=(q,y)::(l,x)::L) (p,m) (p,q) (by grind) (by simp) (by simp) a2 a5 (by simp[aN, *]),fM b2.symm b4.symm (by simp[aN, *]),cH]
 ·rw[ua (p:=p) (a:=y) (b:=q) (L:=(q,m)::(l,x)::L) (p,y) (p,q) (by grind) (by simp) (by simp) a4 a5 (by simp[aN, *]),fM b4.symm b2.symm (by simp[aN, *]),bF,cH]
 ·rw[ua (p:=q) (a:=l) (b:=p) (L:=(p,x)::(m,y)::L) (l,q) (q,p) (by grind) (by simp) (by simp) b1 z (by simp[aN, *]),fM a1.symm a3.symm (by simp[aN, *])]
 ·rw[ua (p:=q) (a:=l) (b:=y) (L:=(p,x)::(p,m)::L) (l,q) (q,y) (by grind) (by simp) (by simp) b1 b4 (by simp[aN, *]),ua (p:=p) (a:=m) (b:=x) (L:=(l,y)::L) (p,m) (p,x) (by grind) (by simp) (by simp) a2 a3 (by simp[aN, *]),cH]
 ·rw[ua (p:=q) (a:=l) (b:=m) (L:=(p,x)::(p,y)::L) (l,q) (q,m) (by grind) (by simp) (by simp) b1 b2 (by simp[aN, *]),ua (p:=p) (a:=x) (b:=y) (L:=(l,m)::L) (p,x) (p,y) (by grind) (by simp) (by simp) a3 a4 (by simp[aN, *]),cH]
noncomputable def p3(r:X4)(w:Int):List (Int×Int):=if w=2 then[(r.1,r.2.2.1),(r.2.1,r.2.2.2)] else Ce r w
noncomputable def rh:List X4->List Int->List (Int×Int)
 |r::rs,w::ws=>p3 r w++rh rs ws
 |_,_=>[]
noncomputable def R3(X:List X4)(ws:List Int):Nat:=rings (rh X ws)
theorem MJ(f:Int->Int)(r:X4)(w:Int):(p3 r w).map (mp f)=p3 (D0 f r) w:=by
 unfold p3;split
 ·rfl
 ·exact tY f r w
theorem nR(f:Int->Int):∀(rs:List X4)(ws:List Int),(rh rs ws).map (mp f)=rh (rs.map (D0 f)) ws
 |[],_=>rfl
 |_::_,[]=>rfl
 |r::rs,w::ws=>by
  show(p3 r w++rh rs ws).map (mp f)=p3 (D0 f r) w++rh (rs.map (D0 f)) ws;rw[Ac,MJ,nR f rs ws]
theorem nS:∀{X:List X4}{ws:List Int}(Y:List X4)(us:List Int),X.length=ws.length->rh (X++Y) (ws++us)=rh X ws++rh Y us
 |[],[],_,_,_=>rfl
 |r::X,w::ws,Y,us,h=>by
  show p3 r w++rh (X++Y) (ws++us)=(p3 r w++rh X ws)++_;rw[nS Y us (by simpa using h),Jd]
theorem nU:∀(n:Nat)(w:List Int),w∈ck n->∀x∈w,x=0\/x=1
 |0,w,h,x,hx=>by rw[Gh.1 h] at hx;simp at hx
 |n+1,w,h,x,hx=>by
  simp only[ck,Bu,Ck] at h;rcases h with⟨v,hv,rfl⟩|⟨v,hv,rfl⟩<;>rcases Bu.1 hx with e|e
  ·exact nU n v hv x e
  ·exact .inl (Gh.1 e)
  ·exact nU n v hv x e
  ·exact .inr (Gh.1 e)
theorem Fc:∀(X:List X4)(ws:List Int),(∀x∈ws,x=0\/x=1)->rh X ws=cf X ws
 |[],_,_=>rfl
 |_::_,[],_=>rfl
 |r::X,w::ws,h=>by
  show p3 r w++rh X ws=Ce r w++cf X ws;rw[Fc X ws λx hx=>h x (o_ _ hx),p3,az (by have:=h w si;omega)]
noncomputable def zx(n:Nat):List Int:=List.replicate n 2
noncomputable def one(n i:Nat)(u:Int):List Int:=(zx n).set i u
noncomputable def tw(X:List X4):Int:=sumF (λi=>(R3 X (one X.length i 0):Int)-R3 X (one X.length i 1)) (List.range X.length)
noncomputable def st(X:List X4):Nat:=R3 X (zx X.length)
theorem dI(n:Nat):(zx n).length=n:=by simp[zx]
theorem iK(n i:Nat)(u:Int):(one n i u).length=n:=by simp[one,zx]
theorem bY(n:Nat):zx (n+1)=zx n++[2]:=by simp[zx,List.replicate_succ']
theorem fN(u:Int)(h:i<n):one (n+1) i u=one n i u++[2]:=by
 unfold one;rw[bY,List.set_append_left _ _ (by simpa[zx] using h)]
theorem iL(n:Nat)(u:Int):one (n+1) n u=zx n++[u]:=by
 unfold one;rw[bY,List.set_append_right _ _ (by simp[zx])];simp[zx]
theorem IH(X:List X4)(g:Nat)(i:Int):vi X g i=sumF (λw=>jg (g+R3 X w) (mono (X.length-2*w.sum)) i) (ck X.length):=
 aQ λw hw=>by rw[R3,Fc X w (nU _ w hw)]
theorem qE(c:Int)(f:α->Int):∀l:List α,sumF (λx=>c*f x) l=c*sumF f l
 |[]=>by simp[sumF]
 |x::l=>by rw[aV,aV,qE c f l,Int.mul_add]
theorem gI(n:Nat)(f:List Int->Int):sumF f (ck (n+1))=sumF (λw=>f (w++[0])+f (w++[1])) (ck n):=by
 rw[ck,bS,bT,bT,o8]
theorem nV(n:Nat)(s i:Int):jg (n+1) (mono s) i= -jg n (mono (s+2)) i-jg n (mono (s-2)) i:=by
 show tr (jg n (mono s)) i=_;rw[bU s 2,show s-2=s+ -2 from rfl,bU s (-2),b6,b6];rfl
theorem uS(n:Nat)(s k i:Int):jg n (mono (s+k)) i=jg n (mono s) (i-k):=by rw[bU,b6];rfl
def G1(X Y:List X4)(e:Int):Prop:=Y.length=X.length+1/\∀ws:List Int,ws.length=X.length->∀u:Int,u=0\/u=1\/u=2->R3 Y (ws++[u])=(if u=e then 1 else 0)+R3 X ws
theorem G1.st(h:G1 X Y e)(he:e=0\/e=1):Py.st Y=Py.st X:=by
 unfold Py.st;rw[h.1,bY,h.2 _ (dI _) 2 (by simp),az (by omega),qb]
theorem G1.tw(h:G1 X Y e)(he:e=0\/e=1):Py.tw Y=Py.tw X+(1-2*e):=by
 unfold Py.tw;rw[h.1,Df,bS]
 congr 1
 ·refine aQ λi hi=>?_
  have hi:=FR.1 hi;rw[fN _ hi,fN _ hi,h.2 _ (iK _ _ _) 2 (by simp),h.2 _ (iK _ _ _) 2 (by simp),az (by omega),qb,qb]
 ·rw[aV,jC,iL,iL,h.2 _ (dI _) 0 (by simp),h.2 _ (dI _) 1 (by simp)]
  rcases he with rfl|rfl<;>simp<;>omega
theorem G1.vi(h:G1 X Y e)(he:e=0\/e=1)(g:Nat)(i:Int):Py.vi Y g i= -Py.vi X g (i-3*(1-2*e)):=by
 rw[IH,IH,h.1,gI,show∀x:Int,-x= -1*x from λx=>by omega,←qE];refine aQ λw hw=>?_;have l:=cO _ w hw;rw[h.2 w l 0 (by simp),h.2 w l 1 (by simp),List.sum_append,List.sum_append];simp only[List.sum_cons,List.sum_nil];generalize w.sum=s;generalize R3 X w=r;generalize X.length=n;rcases he with rfl|rfl
 ·rw[bp rfl,az (by decide),show g+(1+r)=g+r+1 by omega,qb,nV,show((n+1:Nat):Int)-2*(s+(0+0))+2=(n-2*s)+3 by omega,uS,show((n+1:Nat):Int)-2*(s+(0+0))-2=((n+1:Nat):Int)-2*(s+(1+0)) by omega,show i-3*(1-2*0)=i-3 by omega]
  omega
 ·rw[bp rfl,az (by decide),show g+(1+r)=g+r+1 by omega,qb,nV,show((n+1:Nat):Int)-2*(s+(1+0))+2=((n+1:Nat):Int)-2*(s+(0+0)) by omega,show((n+1:Nat):Int)-2*(s+(1+0))-2=(n-2*s)+ -3 by omega,uS,show i-3*(1-2*1)=i- -3 by omega]
  omega
def G2(X Y:List X4)(e f:Int):Prop:=Y.length=X.length+2/\∀ws:List Int,ws.length=X.length->∃E F:Nat,
 (R3 Y (ws++[e,e])=E/\R3 Y (ws++[e,f])=R3 X ws/\R3 Y (ws++[e,2])=F)/\(R3 Y (ws++[f,e])=1+E/\R3 Y (ws++[f,f])=E/\R3 Y (ws++[f,2])=E)/\R3 Y (ws++[2,e])=E/\R3 Y (ws++[2,f])=F/\R3 Y (ws++[2,2])=R3 X ws
theorem G2.st(h:G2 X Y e f):Py.st Y=Py.st X:=by
 obtain⟨_,_,_,_,_,_,q⟩:=h.2 _ (dI X.length);unfold Py.st;rw[h.1,bY,bY,Jd];exact q
theorem G2.tw(h:G2 X Y e f)(he:e=0/\f=1\/e=1/\f=0):Py.tw Y=Py.tw X:=by
 unfold Py.tw;rw[h.1,Df,Df,bS,bS,aV,jC,aV,jC];obtain⟨E,F,⟨_,_,a⟩,⟨_,_,b⟩,c,d,_⟩:=h.2 _ (dI X.length);have o:sumF (λi=>(R3 Y (one (X.length+2) i 0):Int)-R3 Y (one (X.length+2) i 1)) (List.range X.length)=sumF (λi=>(R3 X (one X.length i 0):Int)-R3 X (one X.length i 1)) (List.range X.length):=aQ λi hi=>by
  have hi:=FR.1 hi;have q:∀u,R3 Y (one (X.length+2) i u)=R3 X (one X.length i u):=λu=>by
   obtain⟨_,_,_,_,_,_,q⟩:=h.2 _ (iK X.length i u);rw[fN _ (by omega),fN _ hi,Jd];exact q
  rw[q,q]
 have n1:∀u,one (X.length+2) X.length u=zx X.length++[u,2]:=λu=>by rw[fN _ (by omega),iL,Jd];rfl
 have n2:∀u,one (X.length+2) (X.length+1) u=zx X.length++[2,u]:=λu=>by rw[iL,bY,Jd];rfl
 rw[o,n1,n1,n2,n2];rcases he with⟨rfl,rfl⟩|⟨rfl,rfl⟩<;>omega
theorem G2.vi(h:G2 X Y e f)(he:e=0/\f=1\/e=1/\f=0)(g:Nat)(i:Int):Py.vi Y g i=Py.vi X g i:=by
 rw[IH,IH,h.1,gI,gI];refine aQ λw hw=>?_;have l:=cO _ w hw;obtain⟨E,F,⟨a,b,_⟩,⟨c,d,_⟩,_⟩:=h.2 w l;have k:∀u v:Int,w++[u]++[v]=w++[u,v]:=λu v=>by simp
 have s2:∀u v:Int,(w++[u,v]).sum=w.sum+(u+v):=λu v=>by simp
 simp only[k,s2];generalize w.sum=s;generalize R3 X w=r at*;generalize X.length=n at*;have t:=nV (g+E) (n-2*s) i;have q1:((n+2:Nat):Int)-2*(s+(0+0))=n-2*s+2:=by omega
 have q2:((n+2:Nat):Int)-2*(s+(0+1))=n-2*s:=by omega
 have q3:((n+2:Nat):Int)-2*(s+(1+0))=n-2*s:=by omega
 have q4:((n+2:Nat):Int)-2*(s+(1+1))=n-2*s-2:=by omega
 have q5:g+(1+E)=g+E+1:=by omega
 rcases he with⟨rfl,rfl⟩|⟨rfl,rfl⟩<;>rw[q1,q2,q3,q4,a,b,c,d,q5]<;>omega
noncomputable def oy(kept new loop:Int)(w:Nat):List Int:=if w=0 then[loop,loop,kept,new] else if w=1 then[kept,loop,loop,new] else if w=2 then[loop,loop,new,kept] else[new,loop,loop,kept]
theorem wL(a b c:Int)(w:Nat):(oy a b c w).length=4:=by
 unfold oy;split
 ·rfl
 split
 ·rfl
 split<;>rfl
noncomputable def Fd(s0 s1 l x f:Int)(w:Nat):List (List Int):=if w<2 then[[l,f,f+1,s0],[f+1,f,x,s1]] else[[l,s0,f+1,f],[f+1,s1,x,f]]
noncomputable def Fe(u N:Int)(w:Nat):Int:=if w%2=0 then u else N
noncomputable def Ff(u N:Int)(w:Nat):Int:=if w%2=0 then N else u
theorem Fg(s0 s1 l x f:Int)(w:Nat):∀r∈Fd s0 s1 l x f w,r.length=4:=by
 intro r hr;unfold Fd at hr;split at hr<;>simp at hr<;>rcases hr with rfl|rfl<;>rfl
theorem II(s0 s1 l x f:Int)(w:Nat):(Fd s0 s1 l x f w).length=2:=by
 unfold Fd;split<;>rfl
theorem bZ(he:e<4):∀{Q:List (List Int)}{k:Nat},(∀r∈Q,r.length=4)->k<Q.length->(fh Q (k,e) v).flatten=Q.flatten.set (4*k+e) v/\Q.flatten[4*k+e]?=some (aq Q (k,e))
 |[],k,_,hk=>by simp at hk
 |r::Q,0,h4,_=>by
  have hr:=h4 r si;refine⟨?_,?_⟩
  ·show r.set e v++Q.flatten=(r++Q.flatten).set (4*0+e) v
   rw[List.set_append,bp (by omega),show 4*0+e=e by omega]
  ·show(r++Q.flatten)[4*0+e]?=some (r.getD e 0)
   rw[De (by omega),show 4*0+e=e by omega];simp[show e<r.length by omega]
 |r::Q,k+1,h4,hk=>by
  have hr:=h4 r si;obtain⟨i1,i2⟩:=bZ he (Q:=Q) (k:=k) (λx hx=>h4 x (o_ _ hx)) (by simpa using hk);refine⟨?_,?_⟩
  ·show r++(fh Q (k,e) v).flatten=(r++Q.flatten).set (4*(k+1)+e) v
   rw[List.set_append,az (by omega),i1,show 4*(k+1)+e-r.length=4*k+e by omega]
  ·show(r++Q.flatten)[4*(k+1)+e]?=some (aq Q (k,e))
   rw[Dd (by omega),show 4*(k+1)+e-r.length=4*k+e by omega,i2]
theorem qF(t:Cf W N)(h:(N:Int)<=v):W.count v=0:=List.count_eq_zero.2 λhm=>by have:=t.g_ v hm;omega
theorem fO:∀{o:List Int}{i:Nat}{x z:Int},o[i]?=some z->(z::o.set i x).Perm (x::o)
 |a::o,0,x,z,h=>by cases h;exact .swap _ _ _
 |a::o,i+1,x,z,h=>(List.Perm.swap _ _ _).trans (((fO (o:=o) h).cons a).trans (.swap _ _ _))
theorem kD(t:Cf W N)(h:W'.Perm ([(N:Int),N,N+1,N+1]++W)):Cf W' (N+2):=by
 refine⟨λv hv=>?_,λv hv=>?_⟩
 ·rcases Bu.1 (h.mem_iff.1 hv) with c|c
  ·simp only[oz,DO,or_false] at c
   omega
  ·have:=t.g_ v c;omega
 ·rw[h.count_eq,List.count_append]
  rcases(by omega:v<N\/v=N\/v=N+1) with c|rfl|rfl
  ·rw[t.cnt v c,List.count_eq_zero.2 (by simp only[oz,DO,or_false];omega)]
  ·rw[qF t (by omega),List.count_cons_self,List.count_cons_self,List.count_eq_zero.2 (by simp only[oz,DO,or_false];omega)]
  ·have e:((N:Nat):Int)≠((N+1:Nat):Int):=by omega
   rw[qF t (by omega),List.count_cons_of_ne e,List.count_cons_of_ne e,Int.natCast_add];show List.count ((N:Int)+1) [(N:Int)+1,(N:Int)+1]+0=2;rw[List.count_cons_self,List.count_cons_self];rfl
theorem Fh(h4:∀r∈Q,r.length=4)(t:Cf Q.flatten N)(hp:pl.1<Q.length/\pl.2<4)(hx:aq Q pl=x):Cf (fh Q pl (N:Nat)++[oy x (N:Nat) ((N:Nat)+1) w]).flatten (N+2):=by
 obtain⟨a,b⟩:=pl;obtain⟨s1,s2⟩:=bZ (v:=(N:Nat)) hp.2 h4 hp.1;rw[hx] at s2;have c:(oy x (N:Nat) ((N:Nat)+1) w).Perm [x,N,N+1,N+1]:=by
  unfold oy;generalize ((N:Nat):Int)=n;generalize n+1=q;split
  ·exact Ke (l₁:=[q,q])
  split
  ·exact(Ke (l₁:=[q,q]) (l₂:=[n])).cons x
  split
  ·exact(Ke (l₁:=[q,q]) (l₂:=[n,x])).trans (.swap _ _ _)
  ·exact(Ke (l₁:=[n,q,q]) (l₂:=[x]))
 refine kD t ?_;rw[Gg,List.flatten_cons,List.flatten_nil,Ci,s1];exact(c.append_left _).trans ((List.perm_middle.trans ((fO s2).append_right _)).trans Ke|>.trans List.perm_middle)
theorem Fi(h4:∀r∈Q,r.length=4)(t:Cf Q.flatten N)(hu:pu.1<Q.length/\pu.2<4)(hl:pl.1<Q.length/\pl.2<4)(hn:pl≠pu)(eu:aq Q pu=u)(el:aq Q pl=l):Cf (fh (fh Q pu (N:Nat)) pl ((N:Nat)+1)++Fd (Fe u (N:Nat) w) (Ff u (N:Nat) w) l ((N:Nat)+1) ((N:Nat)+2) w).flatten (N+4):=by
 obtain⟨a,b⟩:=pu;obtain⟨c,d⟩:=pl;obtain⟨s1,s2⟩:=bZ (v:=(N:Nat)) hu.2 h4 hu.1;obtain⟨q1,_⟩:=bZ (v:=((N:Nat):Int)+1) hl.2 (a9 (p:=(a,b)) (v:=(N:Nat)) h4) (k:=c) (by rw[aU];exact hl.1);obtain⟨_,q2⟩:=bZ (v:=(N:Nat)) hl.2 h4 hl.1;rw[eu] at s2;rw[el] at q2;have qd:4*a+b≠4*c+d:=λe=>hn (by
  have h1:b<4:=hu.2;have h2:d<4:=hl.2;have:a=c/\b=d:=by omega
  rw[this.1,this.2])
 have o:(Fd (Fe u (N:Nat) w) (Ff u (N:Nat) w) l ((N:Nat)+1) ((N:Nat)+2) w).flatten.Perm (l::u::[(N:Int),N+1,N+2,N+2,N+2+1,N+2+1]):=by
  unfold Fd Fe Ff;generalize ((N:Nat):Int)=n;generalize n+2+1=r;generalize n+2=q;generalize n+1=p;refine List.perm_iff_count.2 λz=>?_;split<;>split<;>· simp only[List.flatten_cons,List.flatten_nil,Ci,Je,List.nil_append,List.count_cons];generalize (if(l==z)=true then 1 else 0)=a1;generalize (if(u==z)=true then 1 else 0)=a2;generalize (if(n==z)=true then 1 else 0)=a3;generalize (if(p==z)=true then 1 else 0)=a4;generalize (if(q==z)=true then 1 else 0)=a5;generalize (if(r==z)=true then 1 else 0)=a6;omega
 refine kD (N:=N+2) (W:=[(N:Int),N,N+1,N+1]++Q.flatten) (kD t (.refl _)) ?_;rw[Gg,q1,s1];have g:=fO (x:=((N:Nat):Int)+1) (show(Q.flatten.set (4*a+b) (N:Nat))[4*c+d]?=some l by rw[AW qd];exact q2);have f:=fO (x:=((N:Nat):Int)) s2;generalize Q.flatten=W at*;generalize (W.set (4*a+b) (N:Nat))=V at*;generalize V.set (4*c+d) ((N:Nat)+1)=U at*;refine(o.append_left U).trans (List.perm_middle.trans ((g.append_right _).trans ((List.perm_middle.cons _).trans (((f.append_right _).cons _).trans ?_))));rw[show((N+2:Nat):Int)=N+2 by omega];generalize ((N:Nat):Int)=n;generalize n+2+1=r;generalize n+2=q;generalize n+1=p;refine List.perm_iff_count.2 λz=>?_;simp only[Je,List.nil_append,List.count_append,List.count_cons,List.count_nil];generalize (if(n==z)=true then 1 else 0)=a3;generalize (if(p==z)=true then 1 else 0)=a4;generalize (if(q==z)=true then 1 else 0)=a5;generalize (if(r==z)=true then 1 else 0)=a6;omega
theorem qG{R:List (List Int)}(hl:R.length=m)(h4:∀r∈R,r.length=4)(t:Cf R.flatten (2*m)):ax (gj R) m:=⟨by rw[cX,hl],gG h4,uL t⟩
theorem aP(h:ba Q x≠[]):aq Q (ak Q x)=x:=by
 have:ak Q x∈ba Q x:=by
  rw[ak,jz]
  cases e:ba Q x with
  |nil=>exact absurd e h
  |cons a l=>
   rw[List.getLastD_cons]
   cases l with
   |nil=>simp
   |cons b l=>rw[List.getLastD_cons,List.getLastD_eq_getLast?];cases e:l.getLast? with
    |none=>simp
    |some y=>simp;exact .inr (.inr (List.mem_of_getLast? e))
 exact(fI this).2.2
noncomputable def ko(Q:List (List Int))(u l:Int)(w:Nat):List (List Int):=fh (fh Q (ak Q u) (2*Q.length:Nat)) (ak Q l) ((2*Q.length:Nat)+1)++Fd (Fe u (2*Q.length:Nat) w) (Ff u (2*Q.length:Nat) w) l ((2*Q.length:Nat)+1) ((2*Q.length:Nat)+2) w
theorem gJ(h4:∀r∈Q,r.length=4):∀r∈ko Q u l w,r.length=4:=by
 intro r hr;rcases List.mem_append.mp hr with h|h
 ·exact a9 (a9 h4) r h
 ·exact Fg _ _ _ _ _ _ r h
theorem kE(Q:List (List Int))(u l:Int)(w:Nat):(ko Q u l w).length=Q.length+2:=by
 rw[ko,rj,aU,aU,II]
noncomputable def rq(Q:List (List Int))(x:Int)(w:Nat):List (List Int):=fh Q (ak Q x) (2*Q.length:Nat)++[oy x (2*Q.length:Nat) ((2*Q.length:Nat)+1) w]
theorem gK(h4:∀r∈Q,r.length=4):∀r∈rq Q x w,r.length=4:=by
 intro r hr;rcases List.mem_append.mp hr with h|h
 ·exact a9 h4 r h
 ·simp only[oz,DO,or_false] at h
  subst h;exact wL _ _ _ _
theorem kF(Q:List (List Int))(x:Int)(w:Nat):(rq Q x w).length=Q.length+1:=by
 rw[rq,rj,aU];rfl
theorem ax.rq(s:ax Q m){x:Int}(hx:0<=x/\x<(2*m:Nat)):ax (gj (rq Q x w)) (m+1):=by
 have h:=s.in_of hx;have t:Cf (Py.rq Q x w).flatten (2*(m+1)):=by
  unfold Py.rq;rw[s.len];exact Fh s.four s.two (aX h) (aP h)
 exact qG (by rw[kF,s.len]) (gK s.four) t
theorem ax.laid(s:ax Q m){u l:Int}(hu:0<=u/\u<(2*m:Nat))(hl:0<=l/\l<(2*m:Nat))(hn:l≠u):ax (gj (ko Q u l w)) (m+2):=by
 have h:=s.in_of hu;have k:=s.in_of hl;have ne:ak Q l≠ak Q u:=λe=>hn (by rw[←aP h,←aP k,e]);have t:Cf (ko Q u l w).flatten (2*(m+2)):=by
  unfold ko;rw[s.len];exact Fi s.four s.two (aX h) (aX k) ne (aP h) (aP k)
 exact qG (by rw[kE,s.len]) (gJ s.four) t
theorem kG(h1:p.1<Q.length)(h2:(Q.getD p.1 [])[p.2]?=some a)(hv:v∉Q.flatten):(fh Q p v).map (λr=>r.map (sb a v))=Q:=by
 have id':∀r∈Q,r.map (sb a v)=r:=λr hr=>by
  refine(Bh λx hx=>?_).trans (List.map_id r);unfold sb;rw[az λe:x=v=>hv (e▸List.mem_flatten.2 ⟨r,hr,hx⟩)];rfl
 have hr:Q.getD p.1 []=Q[p.1]:=by simp[h1]
 rw[hr] at h2;obtain⟨hi,hz⟩:=List.getElem?_eq_some_iff.1 h2;have hs:Q[p.1].set p.2 a=Q[p.1]:=by rw[←hz];exact List.set_getElem_self ..
 unfold fh;rw[hr,List.map_set,List.map_set,id' _ (yn h1),show sb a v v=a from bp rfl,hs,(Bh λr h=>id' r h:Q.map (λr=>r.map (sb a v))=Q.map id),List.map_id,List.set_getElem_self]
theorem iM:∀{R:List (List Int)}{ws:List Int}{x:Int},(∀r∈R,r.length=4)->x∈names (rh (R.map x4) ws)->x∈R.flatten
 |[],_,x,_,h=>by simp[rh,names] at h
 |_::_,[],x,_,h=>by simp[rh,names] at h
 |r::R,w::ws,x,h4,h=>by
  have h':x∈names (p3 (x4 r) w)\/x∈names (rh (R.map x4) ws):=by simpa[rh,names,Kh] using h
  rw[List.flatten_cons,Bu];rcases h' with h|h
  ·left
   obtain⟨a,b,c,d,rfl⟩:=DC (h4 r si);unfold p3 Ce at h;split at h
   ·simp[names,x4] at h;simp;grind
   split at h<;>· simp[names,x4] at h;simp;grind
  ·exact .inr (iM (λr hr=>h4 r (o_ _ hr)) h)
theorem Fj{R:List (List Int)}(h:∀r∈R,r.length=4)(ws:List Int):R3 ((gj R).map x4) ws=R3 (R.map x4) ws:=by
 unfold R3 gj;rw[fJ _ h,←nR];refine dB _ _ _ rfl λx hx y hy e=>?_;have yq:∀x∈names (rh (R.map x4) ws),x∈dd [] R.flatten:=λx hx=>(eA _ _ _).mpr (.inr (iM h hx));have e:(dd [] R.flatten).idxOf x=(dd [] R.flatten).idxOf y:=by omega
 rw[←List.getElem_idxOf (List.idxOf_lt_length_iff.mpr (yq x hx)),←List.getElem_idxOf (List.idxOf_lt_length_iff.mpr (yq y hy))];simp only[e]
theorem J_(e1 e2:Int×Int)(h1:e1=(a,q)\/e1=(q,a))(h2:e2=(q,n)\/e2=(n,q))(ha:q≠a)(hb:q≠n)(hL:q∉names L):rings (e1::e2::L)=0+rings ((a,n)::L)/\rings (e2::e1::L)=0+rings ((a,n)::L):=by
 rw[qb];exact⟨ua e1 e2 (.refl _) h1 h2 ha hb hL,ua e1 e2 (.swap _ _ _) h1 h2 ha hb hL⟩
theorem sK(hw:w<4)(hu:u=0\/u=1\/u=2)(h1:q≠a)(h2:q≠n)(hq:q∉names L):rings (p3 (x4 (oy a n q w)) u++L)=(if u=((w%2:Nat):Int) then 1 else 0)+rings ((a,n)::L):=by
 have r:=eC q ((a,n)::L);rcases(by omega:w=0\/w=1\/w=2\/w=3) with rfl|rfl|rfl|rfl<;>rcases hu with rfl|rfl|rfl<;>
  first
  |exact r
  |exact(J_ _ _ (by first|exact .inl rfl|exact .inr rfl) (by first|exact .inl rfl|exact .inr rfl) h1 h2 hq).1
  |exact(J_ _ _ (by first|exact .inl rfl|exact .inr rfl) (by first|exact .inl rfl|exact .inr rfl) h1 h2 hq).2
  |exact(cH _ _ _ _ _).trans r
  |exact(bF _ _ _).trans ((cH _ _ _ _ _).trans r)
  |exact(cH _ _ _ _ _).trans ((eC _ _).trans (congrArg _ (bF _ _ _)))
  |exact(eC _ _).trans (congrArg _ (bF _ _ _))
theorem kH(h4:∀r∈Q,r.length=4)(h:p.1<Q.length/\p.2<4):(Q.getD p.1 [])[p.2]?=some (aq Q p):=by
 have hr:Q.getD p.1 []=Q[p.1]:=by simp[h.1]
 have:=h4 _ (yn h.1);unfold aq;rw[hr,uc (by omega)];simp[show p.2<Q[p.1].length by omega]
theorem nW{R Q:List (List Int)}(h4:∀r∈R,r.length=4)(e:R.map (λr=>r.map (sb a v))=Q)(ws:List Int):(rh (R.map x4) ws).map (yh a v)=rh (Q.map x4) ws:=by
 rw[←e,fJ _ h4,←nR];rfl
theorem ax.MK(s:ax Q m)(h:((2*m:Nat):Int)<=v):v∉Q.flatten:=λhm=>by have:=s.two.g_ v hm;omega
theorem iN(h:x∉Q.flatten)(hx:x≠v):x∉(fh Q p v).flatten:=λhm=>by
 obtain⟨r,hr,Bz⟩:=List.mem_flatten.1 hm;rcases List.mem_or_eq_of_mem_set hr with hr|rfl
 ·exact h (List.mem_flatten.2 ⟨r,hr,Bz⟩)
 ·rcases List.mem_or_eq_of_mem_set Bz with k|k
  ·by_cases hp:p.1<Q.length
   ·rw[show Q.getD p.1 []=Q[p.1] by simp[hp]] at k
    exact h (List.mem_flatten.2 ⟨_,yn hp,k⟩)
   ·rw[show Q.getD p.1 []=[] by simp[Nat.not_lt.1 hp]] at k;simp at k
  ·exact hx k
theorem ax.g1(s:ax Q m){x:Int}(hx:0<=x/\x<(2*m:Nat))(hw:w<4):G1 (Q.map x4) ((gj (Py.rq Q x w)).map x4) ((w%2:Nat):Int):=by
 have hi:=s.in_of hx;have hp:=aX hi;have hl:=aP hi;refine⟨by simp[cX,kF],λws IJ u hu=>?_⟩;rw[dz] at IJ;have f4:=a9 (p:=ak Q x) (v:=(2*Q.length:Nat)) s.four;rw[Fj (gK s.four)];unfold Py.rq R3;rw[Ac,nS _ _ (by rw[dz,aU,IJ]),cG Ke];show rings ((p3 (x4 (oy x _ _ w)) u++[])++_)=_;rw[Ci,sK hw hu (by rw[s.len];omega) (by omega) λh=>iN (s.MK (by rw[s.len];omega)) (by omega) (iM f4 h),aE,az (show¬x=((2*Q.length:Nat):Int) by rw[s.len];omega),qb,
  nW f4 (kG hp.1 (by rw[kH s.four hp,hl]) (s.MK (by rw[s.len];omega)))]
theorem IK(A:List (Int×Int))(b c:Int)(L:List (Int×Int)):rings (A++(b,c)::L)=rings (A++(c,b)::L):=by
 rw[cG List.perm_middle,bF,←cG List.perm_middle]
theorem S1(a d:Int×Int)(b c e f:Int)(L:List (Int×Int)):rings (a::(b,c)::d::(e,f)::L)=rings (a::(c,b)::d::(f,e)::L):=(IK [a] b c _).trans (IK [a,(c,b),d] e f L)
theorem ax.g2(s:ax Q m){u l:Int}(hu:0<=u/\u<(2*m:Nat))(hl:0<=l/\l<(2*m:Nat))(hn:l≠u):∃e f:Int,(e=0/\f=1\/e=1/\f=0)/\G2 (Q.map x4) ((gj (ko Q u l w)).map x4) e f:=by
 have iu:=s.in_of hu;have il:=s.in_of hl;have pu:=aX iu;have pl:=aX il;have lu:=aP iu;have ll:=aP il;have ne:ak Q l≠ak Q u:=λe=>hn (by rw[←lu,←ll,e]);have MK:∀v:Int,((2*m:Nat):Int)<=v->v∉Q.flatten:=λv h=>s.MK h;have hN:2*Q.length=2*m:=by rw[s.len]
 have f4:=a9 (p:=ak Q u) (v:=(2*m:Nat)) s.four;have g4:=a9 (p:=ak Q l) (v:=((2*m:Nat):Int)+1) f4;have b1:=kG (v:=((2*m:Nat):Int)) pu.1 (by rw[kH s.four pu,lu]) (MK _ (Int.le_refl _));have b2:=kG (Q:=fh Q (ak Q u) (2*m:Nat)) (p:=ak Q l) (v:=((2*m:Nat):Int)+1) (a:=l) (by rw[aU];exact pl.1) (by
  unfold fh;by_cases h:(ak Q l).1=(ak Q u).1
  ·have h2:(ak Q u).2≠(ak Q l).2:=λe=>ne (Prod.ext h e.symm)
   rw[h,show(Q.set (ak Q u).1 ((Q.getD (ak Q u).1 []).set (ak Q u).2 ((2*m:Nat):Int))).getD (ak Q u).1 []=(Q.getD (ak Q u).1 []).set (ak Q u).2 ((2*m:Nat):Int) by simp[pu.1],AW h2,←h,kH s.four pl,ll]
  ·rw[show(Q.set (ak Q u).1 ((Q.getD (ak Q u).1 []).set (ak Q u).2 ((2*m:Nat):Int))).getD (ak Q l).1 []=Q.getD (ak Q l).1 [] by simp[AW (λe=>h e.symm)],kH s.four pl,ll]) (iN (MK _ (by omega)) (by omega))
 have key:∀ws:List Int,ws.length=(Q.map x4).length->∀i j,R3 ((gj (ko Q u l w)).map x4) (ws++[i,j])=rings (rh ((Fd (Fe u (2*m:Nat) w) (Ff u (2*m:Nat) w) l ((2*m:Nat)+1) ((2*m:Nat)+2) w).map x4) [i,j]++rh ((fh (fh Q (ak Q u) (2*m:Nat)) (ak Q l) ((2*m:Nat)+1)).map x4) ws):=λws IJ i j=>by
  rw[dz] at IJ;rw[Fj (gJ s.four)];unfold ko R3;rw[hN,Ac,nS _ _ (by rw[dz,aU,aU,IJ]),cG Ke]
 have old:∀ws,rings ((l,((2*m:Nat):Int)+1)::(Fe u (2*m:Nat) w,Ff u (2*m:Nat) w)::rh ((fh (fh Q (ak Q u) (2*m:Nat)) (ak Q l) ((2*m:Nat)+1)).map x4) ws)=R3 (Q.map x4) ws:=λws=>by
  have q:rings ((l,((2*m:Nat):Int)+1)::(u,((2*m:Nat):Int))::rh ((fh (fh Q (ak Q u) (2*m:Nat)) (ak Q l) ((2*m:Nat)+1)).map x4) ws)=R3 (Q.map x4) ws:=by
   rw[aE,az (by omega),qb,fu,nW g4 b2];simp only[yh,sb,az (show¬u=((2*m:Nat):Int)+1 by omega),az (show¬((2*m:Nat):Int)=((2*m:Nat):Int)+1 by omega)];rw[aE,az (by omega),qb,nW f4 b1];rfl
  unfold Fe Ff;split
  ·exact q
  ·exact(IK [_] _ _ _).trans q
 have fr:∀ws v,((2*m:Nat):Int)+2<=v->v∉names (rh ((fh (fh Q (ak Q u) (2*m:Nat)) (ak Q l) ((2*m:Nat)+1)).map x4) ws):=λws v hv h=>iN (iN (MK v (by omega)) (by omega)) (by omega) (iM g4 h);have sd:(Fe u (2*m:Nat) w=u\/Fe u (2*m:Nat) w=(2*m:Nat))/\(Ff u (2*m:Nat) w=u\/Ff u (2*m:Nat) w=(2*m:Nat)):=by unfold Fe Ff;split<;>simp
 have R:=λws=>WL (l:=l) (m:=((2*m:Nat):Int)+1) (x:=Fe u (2*m:Nat) w) (y:=Ff u (2*m:Nat) w) (p:=((2*m:Nat):Int)+2) (q:=((2*m:Nat):Int)+2+1) (L:=rh ((fh (fh Q (ak Q u) (2*m:Nat)) (ak Q l) ((2*m:Nat)+1)).map x4) ws) (by omega) (by omega) (fr ws _ (by omega)) (fr ws _ (by omega));have hlen:((gj (ko Q u l w)).map x4).length=(Q.map x4).length+2:=by simp[cX,kE]
 by_cases h:w<2
 ·refine⟨0,1,.inl ⟨rfl,rfl⟩,hlen,λws IJ=>?_⟩
  obtain⟨⟨a,b,c⟩,⟨d,e,f⟩,g,i,j⟩:=R ws;have o:=old ws;have k:=key ws IJ;unfold Fd at k;rw[bp h] at k;exact⟨_,_,⟨(k 0 0).trans a,(k 0 1).trans (b.trans o),(k 0 2).trans c⟩,⟨(k 1 0).trans d,(k 1 1).trans e,(k 1 2).trans f⟩,(k 2 0).trans g,(k 2 1).trans i,(k 2 2).trans (j.trans o)⟩
 ·refine⟨1,0,.inr ⟨rfl,rfl⟩,hlen,λws IJ=>?_⟩
  obtain⟨⟨a,b,c⟩,⟨d,e,f⟩,g,i,j⟩:=R ws;have o:=old ws;have k:=key ws IJ;unfold Fd at k;rw[az h] at k;have z:=S1;exact⟨_,_,⟨(k 1 1).trans ((z ..).trans a),(k 1 0).trans ((z ..).trans (b.trans o)),(k 1 2).trans ((z ..).trans c)⟩,⟨(k 0 1).trans ((z ..).trans d),(k 0 0).trans ((z ..).trans e),(k 0 2).trans ((z ..).trans f)⟩,(k 2 1).trans ((z ..).trans g),(k 2 0).trans ((z ..).trans i),(k 2 2).trans ((z ..).trans (j.trans o))⟩
noncomputable def jd(v:Nat×Nat):Nat×Nat:=(v.1,v.2%2)
noncomputable def wk(Q:List (List Int))(k:Nat×Nat):Int×Int:=(aq Q k,aq Q (k.1,k.2+2))
theorem dQ(v:Nat×Nat):jd (ij v)=jd v:=by unfold jd ij;ext<;>dsimp;omega
theorem nX(hu:j_ m u)(hv:j_ m v)(h:jd u=jd v):u=v\/u=ij v:=by
 obtain⟨a,b⟩:=u;obtain⟨c,d⟩:=v;have h1:a=c:=congrArg Prod.fst h;have h2:b%2=d%2:=congrArg Prod.snd h;have hb:b<4:=hu.2;have hd:d<4:=hv.2;rcases(by omega:b=d\/b=(d+2)%4) with e|e
 ·exact .inl (by rw[h1,e])
 ·exact .inr (by rw[h1,e];rfl)
theorem Fl(h:j_ m v):wk Q (jd v)=(aq Q v,aq Q (ij v))\/wk Q (jd v)=(aq Q (ij v),aq Q v):=by
 obtain⟨a,b⟩:=v;have hb:b<4:=h.2;rcases(by omega:b=0\/b=1\/b=2\/b=3) with rfl|rfl|rfl|rfl
 ·exact .inl rfl
 ·exact .inl rfl
 ·exact .inr (by simp[wk,jd,ij])
 ·exact .inr (by simp[wk,jd,ij])
def P4(m:Nat)(L:List (Nat×Nat)):Prop:=∀k∈L,k.1<m/\k.2<2
theorem Fm(h:P4 m L)(ha:a∈names (L.map (wk Q))):∃v,j_ m v/\jd v∈L/\aq Q v=a:=by
 simp only[names,Gi,Ck,oz,DO,or_false] at ha;obtain⟨_,⟨k,hk,rfl⟩,e⟩:=ha;have h1:=h k hk;rcases e with e|e
 ·exact⟨k,⟨h1.1,by omega⟩,by rwa[show jd k=k from Prod.ext rfl (Nat.mod_eq_of_lt h1.2)],e.symm⟩
 ·exact⟨(k.1,k.2+2),⟨h1.1,by show k.2+2<4;omega⟩,by rwa[show jd (k.1,k.2+2)=k from Prod.ext rfl (by show(k.2+2)%2=k.2;omega)],e.symm⟩
theorem ML:a∈names (A++B)↔a∈names A\/a∈names B:=by simp[names,Kh]
structure Fp(Q:List (List Int))(m:Nat)(L0 L:List (Nat×Nat))(s0 w:Nat×Nat):Prop where
 sub:∀k∈L,k∈L0
 nd:L.Nodup
 ok:j_ m w
 i1:jd (dm Q w)∉L
 i2:dm Q w=s0\/jd (dm Q w)∈L0
 c:∀v,j_ m v->jd v∈L0->jd v∉L->dm Q v=s0\/(jd (dm Q v)∈L0/\jd (dm Q v)∉L)\/dm Q v=w
 i4:jd w∈L0->jd w∈L
section
variable{Q:List (List Int)}{m:Nat}(s:ax Q m){L0 L:List (Nat×Nat)}{s0 w:Nat×Nat}(hs:jd s0∉L0)
include s hs
theorem Fp.step(F:Fp Q m L0 L s0 w)(h:jd w∈L):Fp Q m L0 (L.erase (jd w)) s0 (DD Q w):=by
 have oo:=aZ F.ok;have mm:dm Q (DD Q w)=ij w:=s.js oo;have me:∀k,k∈L.erase (jd w)↔k≠jd w/\k∈L:=λk=>F.nd.mem_erase_iff;refine⟨λk hk=>F.sub k ((me k).1 hk).2,F.nd.erase _,s.BY F.ok,?_,.inr ?_,λv hv h0 h1=>?_,λh0=>?_⟩
 ·rw[mm,dQ,me];exact λz=>z.1 rfl
 ·rw[mm,dQ];exact F.sub _ h
 ·by_cases e:jd v=jd w
  ·rcases nX hv F.ok e with rfl|rfl
   ·rcases F.i2 with q|q
    ·exact .inl q
    ·exact .inr (.inl ⟨q,λz=>F.i1 ((me _).1 z).2⟩)
   ·exact .inr (.inr rfl)
  ·rcases F.c v hv h0 (λz=>h1 ((me _).2 ⟨e,z⟩)) with q|q|q
   ·exact .inl q
   ·exact .inr (.inl ⟨q.1,λz=>q.2 ((me _).1 z).2⟩)
   ·rw[q];exact .inr (.inl ⟨F.sub _ h,λz=>((me _).1 z).1 rfl⟩)
 ·refine(me _).2 ⟨λe=>?_,Nz λz=>?_⟩
  ·rcases nX (s.BY F.ok) F.ok e with q|q
   ·have:=F.i1
    rw[show dm Q w=ij w by rw[←mm,q],dQ] at this;exact this h
   ·exact s.yu oo q
  ·rcases F.c _ (s.BY F.ok) h0 z with q|q|q
   ·rw[mm] at q;exact hs (by rw[←q,dQ];exact F.sub _ h)
   ·rw[mm,dQ] at q;exact q.2 h
   ·rw[mm] at q;exact nM F.ok q
def MM(Q:List (List Int))(m:Nat)(L0:List (Nat×Nat))(s0:Nat×Nat)(x:Int)(M:List (Int×Int)):Prop:=∀n,n=x\/n∈names M->∃v,j_ m v/\jd v∉L0/\v≠s0/\aq Q v=n
theorem Fp.cut(h0:P4 m L0)(F:Fp Q m L0 L s0 w)(h:jd w∈L)(o:MM Q m L0 s0 x M):rings ((x,aq Q w)::(M++L.map (wk Q)))=rings ((x,aq Q (DD Q w))::(M++(L.erase (jd w)).map (wk Q))):=by
 have oo:=aZ F.ok;have hb:aq Q (DD Q w)=aq Q (ij w):=s.jr oo;have only:∀v,j_ m v->aq Q v=aq Q w->v=w\/v=dm Q w:=λv hv e=>s.ky F.ok hv e;have no:∀n,n=x\/n∈names M->aq Q w≠n:=λn hn e=>by
  obtain⟨v,hv,h1,h2,h3⟩:=o n hn;rcases only v hv (h3.trans e.symm) with rfl|q
  ·exact h1 (F.sub _ h)
  ·rcases F.i2 with z|z
   ·exact h2 (q.trans z)
   ·exact h1 (q▸z)
 rw[hb];refine ua (p:=aq Q w) (a:=x) (b:=aq Q (ij w)) (x,aq Q w) (wk Q (jd w)) (.cons _ ((List.Perm.append_left M ((List.perm_cons_erase h).map _)).trans List.perm_middle)) (.inl rfl) (Fl F.ok) (no x (.inl rfl)) (λe=>?_) λhm=>?_
 ·rcases only _ oo e.symm with q|q
  ·exact nM F.ok q
  ·exact F.i1 (by rw[←q,dQ];exact h)
 ·rcases ML.1 hm with hm|hm
  ·exact no _ (.inr hm) rfl
  ·obtain⟨v,hv,h1,h2⟩:=Fm (λk hk=>h0 k (F.sub k (List.mem_of_mem_erase hk))) hm
   have me:=F.nd.mem_erase_iff.1 h1;rcases only v hv h2 with rfl|rfl
   ·exact me.1 rfl
   ·exact F.i1 me.2
theorem Fq(h0:P4 m L0):∀(n:Nat)(L:List (Nat×Nat))(w:Nat×Nat),L.length=n->Fp Q m L0 L s0 w->∃t L',(∀j,j<t->jd (bz Q w j)∈L)/\jd (bz Q w t)∉L0/\Fp Q m L0 L' s0 (bz Q w t)/\
  (∀x M,MM Q m L0 s0 x M->rings ((x,aq Q w)::(M++L.map (wk Q)))=rings ((x,aq Q (bz Q w t))::(M++L'.map (wk Q))))/\∀k,k∈L'↔k∈L/\∀j,j<t->k≠jd (bz Q w j):=by
 intro n
 induction n with
 |zero=>exact λL w hn F=>⟨0,L,λj hj=>absurd hj (Ji _),λz=>by have:=F.i4 z;rw[List.length_eq_zero_iff.1 hn] at this;simp at this,F,λ_ _ _=>rfl,λk=>⟨λz=>⟨z,λj hj=>absurd hj (Ji _)⟩,λz=>z.1⟩⟩
 |succ n ih=>
  intro L w hn F;by_cases h:jd w∈L
  ·obtain⟨t,L',a,b,c,d,e⟩:=ih _ _ (by rw[List.length_erase_of_mem h];omega) (F.step s hs h)
   have me:∀k,k∈L.erase (jd w)↔k≠jd w/\k∈L:=λk=>F.nd.mem_erase_iff;refine⟨t+1,L',λj hj=>?_,by rwa[aO],by rwa[aO],λx M o=>by rw[F.cut s hs h0 h o,aO];exact d x M o,λk=>?_⟩
   ·cases j with
    |zero=>exact h
    |succ j=>rw[aO];exact((me _).1 (a j (by omega))).2
   ·rw[e,me]
    refine⟨λz=>⟨z.1.2,λj hj=>?_⟩,λz=>⟨⟨z.2 0 (by omega),z.1⟩,λj hj=>?_⟩⟩
    ·cases j with
     |zero=>exact z.1.1
     |succ j=>rw[aO];exact z.2 j (by omega)
    ·have:=z.2 (j+1) (by omega);rwa[aO] at this
  ·exact⟨0,L,λj hj=>absurd hj (Ji _),λz=>h (F.i4 z),F,λ_ _ _=>rfl,λk=>⟨λz=>⟨z,λj hj=>absurd hj (Ji _)⟩,λz=>z.1⟩⟩
end
noncomputable def two(k:Nat):List (Nat×Nat):=[(k,0),(k,1)]
noncomputable def D2(m i:Nat):List (Nat×Nat):=((List.range m).filter (· ≠i)).flatMap two
theorem iO{L:List Nat}:v∈L.flatMap two↔v.1∈L/\v.2<2:=by
 simp only[Gi,two,oz,DO,or_false];refine⟨?_,λ⟨a,b⟩=>⟨v.1,a,?_⟩⟩
 ·rintro⟨k,hk,rfl|rfl⟩
  ·exact⟨hk,Nat.zero_lt_succ _⟩
  ·exact⟨hk,Jg _⟩
 ·rcases(by omega:v.2=0\/v.2=1) with e|e
  ·exact .inl (Prod.ext rfl e)
  ·exact .inr (Prod.ext rfl e)
theorem sL:∀{L:List Nat},L.Nodup->(L.flatMap two).Nodup
 |[],_=>Bv
 |k::L,h=>by
  have:=Jj.1 h;have z:∀e,(k,e)∉L.flatMap two:=λe q=>this.1 (iO.1 q).1;rw[Jb];show((k,0)::(k,1)::L.flatMap two).Nodup;refine Jj.2 ⟨λq=>?_,Jj.2 ⟨z 1,sL this.2⟩⟩;rcases oz.1 q with e|e
  ·exact absurd (congrArg Prod.snd e) (by simp)
  ·exact z 0 e
theorem MN{m:Nat}{L:List Nat}:jd v∈L.flatMap two↔v.1∈L:=by
 rw[iO];exact⟨λh=>h.1,λh=>⟨h,Nat.mod_lt _ (by decide)⟩⟩
theorem Fp.first(s:ax Q m)(h:j_ m s0)(hs:jd s0∉L0)(nd:L0.Nodup):Fp Q m L0 L0 s0 (dm Q s0):=
 ⟨λ_ z=>z,nd,s.ve h,by rw[s.js h];exact hs,.inl (s.js h),λv _ a b=>absurd a b,λz=>z⟩
theorem J'(p:Int×Int)(b c:Int)(L:List (Int×Int)):rings (p::(b,c)::L)=rings (p::(c,b)::L):=IK [p] b c L
theorem ax.CK(s:ax Q m)(hi:i<m)(r:EZ Q m (i,2) c t):
  km c.2=(rings (p3 (x4 (Q.getD i [])) 0++(D2 m i).map (wk Q)):Int)-rings (p3 (x4 (Q.getD i [])) 1++(D2 m i).map (wk Q)):=by
 have ok:∀e,e<4->j_ m (i,e):=λe he=>⟨hi,he⟩
 have o2:=ok 2 (by decide);have out:∀v:Nat×Nat,v.1=i->jd v∉D2 m i:=λv e h=>by
  have:=(MN (m:=m)).1 h;simp[e] at this
 have h0:P4 m (D2 m i):=λk hk=>by
  have:=iO.1 hk;simp at this;exact⟨this.1.1,this.2⟩
 obtain⟨t',L',a,b,F,d,e⟩:=Fq s (out (i,2) rfl) h0 _ _ _ rfl (Fp.first s o2 (out _ rfl) (sL (List.nodup_range.filter _)));have vg:∀j,jh Q (i,2) j=bz Q (dm Q (i,2)) j:=λj=>by
  show bz Q (ij (i,2)) (j+1)=_;rw[aO,DD,dH o2]
 have CI:(bz Q (dm Q (i,2)) t').1=i:=Nz λh=>b ((MN (m:=m)).2 (by simp[h,F.ok.1]));have r':EZ Q m (i,2) (bz Q (dm Q (i,2)) t') t':=⟨vg t',CI,λj hj h=>by
  rw[vg] at h;exact out _ h (a j hj)⟩
 have ec:=r.uniq r';have ne:=s.MC o2 r;rw[←ec] at F d;have cl:c.1=i:=r.CI
 --the row
 have l:∀e,aq Q (i,e)=(Q.getD i []).getD e 0:=λe=>rfl;have O:∀x y z:Nat,x<4->y<4->z<4->x≠2->y≠2->z≠2->MM Q m (D2 m i) (i,2) (aq Q (i,x)) [(aq Q (i,y),aq Q (i,z))]:=λx y z hx hy hz h1 h2 h3 n hn=>by
  have:n=aq Q (i,x)\/n=aq Q (i,y)\/n=aq Q (i,z):=by simpa[names] using hn
  rcases this with rfl|rfl|rfl
  ·exact⟨_,ok x hx,out _ rfl,λz=>h1 (congrArg Prod.snd z),rfl⟩
  ·exact⟨_,ok y hy,out _ rfl,λz=>h2 (congrArg Prod.snd z),rfl⟩
  ·exact⟨_,ok z hz,out _ rfl,λz=>h3 (congrArg Prod.snd z),rfl⟩
 have lm:aq Q (dm Q (i,2))=aq Q (i,2):=s.jr o2;have n0:rings (p3 (x4 (Q.getD i [])) 0++(D2 m i).map (wk Q))=rings ((aq Q (i,3),aq Q c)::(aq Q (i,0),aq Q (i,1))::L'.map (wk Q)):=by
  have:=d _ _ (O 3 0 1 (by decide) (by decide) (by decide) (by decide) (by decide) (by decide));rw[lm] at this;refine Eq.trans ?_ this;exact(cH _ _ _ _ _).trans (bF _ _ _)
 have n1:rings (p3 (x4 (Q.getD i [])) 1++(D2 m i).map (wk Q))=rings ((aq Q (i,1),aq Q c)::(aq Q (i,0),aq Q (i,3))::L'.map (wk Q)):=by
  have:=d _ _ (O 1 0 3 (by decide) (by decide) (by decide) (by decide) (by decide) (by decide));rw[lm] at this;refine Eq.trans ?_ this;exact cH _ _ _ _ _
 have hc:∀e,e<4->e≠2->c≠(i,e)->aq Q c≠aq Q (i,e):=λe he h2 h q=>by
  rcases s.ky F.ok (ok e he) q.symm with z|z
  ·exact h z.symm
  ·rcases F.i2 with y|y
   ·exact h2 (congrArg Prod.snd (z.trans y))
   ·exact out _ rfl (z▸y)
 have hL:aq Q c∉names (L'.map (wk Q)):=λh=>by
  obtain⟨v,hv,h1,h2⟩:=Fm (λk hk=>h0 k (F.sub k hk)) h;rcases s.ky F.ok hv h2 with z|z
  ·exact out c cl (z▸F.sub _ h1)
  ·exact F.i1 (z▸h1)
 rw[n0,n1];obtain⟨c1,c2⟩:=c;dsimp only at cl;subst cl;have c4:c2<4:=F.ok.2;have XB:c2≠2:=λz=>ne (by rw[z]);rcases(by omega:c2=0\/c2=1\/c2=3) with rfl|rfl|rfl
 ·rw[fM (hc 3 (by decide) (by decide) (by simp)).symm (hc 1 (by decide) (by decide) (by simp)).symm hL,fM (hc 1 (by decide) (by decide) (by simp)).symm (hc 3 (by decide) (by decide) (by simp)).symm hL,bF]
  simp[km]
 ·rw[J' (aq Q (c1,3),aq Q (c1,1)),fM (hc 3 (by decide) (by decide) (by simp)).symm (hc 0 (by decide) (by decide) (by simp)).symm hL,eC,bF]
  simp[km];omega
 ·rw[eC,J' (aq Q (c1,1),aq Q (c1,3)),fM (hc 1 (by decide) (by decide) (by simp)).symm (hc 0 (by decide) (by decide) (by simp)).symm hL,bF]
  simp[km]
theorem qH{α β:Type}{f g:α->List β}{l:List α}(h:∀x∈l,f x=g x):l.flatMap f=l.flatMap g:=by
 rw[List.flatMap_def,List.flatMap_def,Bh h]
theorem sM:∀{Q:List (List Int)}{ws:List Int},ws.length=Q.length->rh (Q.map x4) ws=(List.range Q.length).flatMap λk=>p3 (x4 (Q.getD k [])) (ws.getD k 0)
 |[],[],_=>rfl
 |r::Q,w::ws,h=>by
  rw[gm,List.range_succ_eq_map,Jb,List.flatMap_map];show p3 (x4 r) w++rh (Q.map x4) ws=_;rw[sM (by simpa using h)];rfl
theorem uT(Q:List (List Int))(L:List Nat):(L.flatMap λk=>p3 (x4 (Q.getD k [])) 2)=(L.flatMap two).map (wk Q):=by
 rw[List.map_flatMap];rfl
theorem MO(hi:i<Q.length)(u:Int):R3 (Q.map x4) (one Q.length i u)=rings (p3 (x4 (Q.getD i [])) u++(D2 Q.length i).map (wk Q)):=by
 unfold R3;rw[sM (iK _ _ _)];have hm:=FR.2 hi;refine cG ((List.Perm.flatMap_right _ (List.perm_cons_erase hm)).trans ?_);rw[List.nodup_range.erase_eq_filter,Jb];have e1:(one Q.length i u).getD i 0=u:=by simp[one,zx,hi]
 have e2:(((List.range Q.length).filter (·!=i)).flatMap λk=>p3 (x4 (Q.getD k [])) ((one Q.length i u).getD k 0))=((List.range Q.length).filter (·!=i)).flatMap λk=>p3 (x4 (Q.getD k [])) 2:=by
  refine qH λk hk=>?_;simp only[List.mem_filter,FR,bne_iff_ne] at hk;have:(one Q.length i u).getD k 0=2:=by unfold one zx;rw[List.getD_eq_getElem?_getD,AW (jt hk.2)];simp[hk.1]
  rw[this]
 rw[e1,e2,uT];have:(List.range Q.length).filter (·!=i)=(List.range Q.length).filter (· ≠i):=List.filter_congr λk _=>by by_cases h:k=i<;>simp[h]
 rw[this];exact .refl _
theorem MP(Q:List (List Int)):st (Q.map x4)=rings (((List.range Q.length).flatMap two).map (wk Q)):=by
 unfold st R3;rw[dz,sM (dI _),←uT]
 congr 1
 refine qH λk hk=>?_;have:(zx Q.length).getD k 0=2:=by simp[zx,FR.1 hk]
 rw[this]
theorem ax.P5(s:ax Q m)(f:Nat->Nat×Nat)(t:Nat->Nat)(h:∀i,i<m->EZ Q m (i,2) (f i) (t i)):((List.range m).map λi=>km (f i).2).sum=tw (Q.map x4):=by
 unfold tw;rw[dz,s.len];refine aQ (g:=λi=>km (f i).2) λi hi=>?_;have hi:=FR.1 hi;have:=s.CK hi (h i hi);have e:=λu=>MO (Q:=Q) (i:=i) (by rw[s.len];exact hi) u;rw[s.len] at e;rw[e,e];exact this
structure Back(Q:List (List Int))(m:Nat)(p:Nat×Nat)(t:Nat):Prop where
 lt:t<4*m
 back:bz Q p (t+1)=p
 first:∀j,j<t->bz Q p (j+1)≠p
theorem dJ(s:ax Q m){x:Int}(hx:0<=x/\x<(2*m:Nat)):j_ m (ak Q x)/\aq Q (ak Q x)=x:=by
 have hp:=s.in_of hx;obtain⟨_,a,b,qz⟩:=s.CH hp;have:ak Q x∈ba Q x:=by rw[ak,qz];simp[jz]
 have:=lr.mp this;rw[s.len] at this;exact this
open Classical in
noncomputable def Fs(Q:List (List Int))(m:Nat)(p:Nat×Nat):Nat:=if h:∃t,Back Q m p t then h.choose else 0
theorem gL(s:ax Q m)(h:j_ m p):Back Q m p (Fs Q m p):=by
 have hx:∃t,Back Q m p t:=by
  obtain⟨t,a,b,c⟩:=s.back h;exact⟨t,a,b,c⟩
 unfold Fs;rw[dif_pos hx];exact hx.choose_spec
noncomputable def rV(Q:List (List Int))(m:Nat)(x:Int):List Int:=gf Q (ak Q x) (Fs Q m (ak Q x))
theorem Ft(s:ax Q m){x:Int}(hx:0<=x/\x<(2*m:Nat)):(rV Q m x).length<=4*m:=by
 rw[rV,mB];exact(gL s (dJ s hx).1).lt
noncomputable def dw(Q:List (List Int))(m:Nat):Nat->List (List Int)×List Int
 |0=>([],[])
 |i+1=>if((i:Nat):Int)∈(dw Q m i).2 then dw Q m i else((dw Q m i).1++[rV Q m (i:Nat)],(dw Q m i).2++rV Q m (i:Nat))
theorem uU(s:ax Q m):∀i,i<=2*m->(dw Q m i).1.length<=i/\(dw Q m i).2.length<=4*m*i
 |0,_=>by simp[dw]
 |i+1,h=>by
  obtain⟨a,b⟩:=uU s i (by omega);have c:=Ft s (x:=(i:Nat)) (by omega);have d:4*m*(i+1)=4*m*i+4*m:=by rw[Nat.mul_add,Nat.mul_one]
  unfold dw;split
  ·omega
  ·simp only[rj,gm,ny]
   omega
theorem Back.uniq(b:Back Q m p t)(h:bz Q p (t'+1)=p)(f:∀j,j<t'->bz Q p (j+1)≠p):t=t':=by
 rcases Nat.lt_trichotomy t t' with c|c|c
 ·exact absurd b.back (f t c)
 ·exact c
 ·exact absurd h (b.first t' c)
theorem ax.Fu(s:ax Q m):∀i,i<=2*m->∃L,P4 m L/\L.Nodup/\(∀v,j_ m v->(jd v∈L↔aq Q v∉(dw Q m i).2))/\(∀x:Nat,x<i->(x:Int)∈(dw Q m i).2)/\rings (((List.range m).flatMap Py.two).map (wk Q))=(dw Q m i).1.length+rings (L.map (wk Q))
 |0,_=>⟨(List.range m).flatMap Py.two,λk hk=>by have:=iO.1 hk;simpa using this,sL List.nodup_range,λv hv=>by simp[MN (m:=m),dw,hv.1],λx hx=>absurd hx (Ji _),by simp[dw]⟩
 |i+1,hi=>by
  obtain⟨L,h0,nd,hL,hW,hr⟩:=s.Fu i (by omega);by_cases hm:((i:Nat):Int)∈(dw Q m i).2
  ·have e:dw Q m (i+1)=dw Q m i:=bp hm
   rw[e];refine⟨L,h0,nd,hL,λx hx=>?_,hr⟩;rcases(by omega:x<i\/x=i) with c|rfl
   ·exact hW x c
   ·exact hm
  have e:dw Q m (i+1)=((dw Q m i).1++[rV Q m (i:Nat)],(dw Q m i).2++rV Q m (i:Nat)):=az hm;rw[e];obtain⟨pk,pl⟩:=dJ s (x:=(i:Nat)) (by omega);have B:=gL s pk;unfold rV;generalize ak Q ((i:Nat):Int)=p at*;have ok:=s.jv pk;have pL:jd p∈L:=(hL p pk).2 (by rw[pl];exact hm);have me:∀k,k∈L.erase (jd p)↔k≠jd p/\k∈L:=λk=>nd.mem_erase_iff;have so:jd (ij p)∉L.erase (jd p):=by rw[dQ,me];exact λz=>z.1 rfl
  have oo:=aZ pk;obtain⟨t,L',a,b,F,d,f⟩:=Fq s so (λk hk=>h0 k ((me k).1 hk).2) _ _ _ rfl (Fp.first s oo so (nd.erase _));have ws:∀j,bz Q (dm Q (ij p)) j=bz Q p (j+1):=λj=>(aO p j).symm;simp only[ws] at a b F d f;have cL:jd (bz Q p (t+1))∈L:=by
   have q:jd (dm Q (bz Q p (t+1)))∈L:=by
    rcases F.i2 with z|z
    ·rw[z,dQ];exact pL
    ·exact((me _).1 z).2
   have:=(hL _ (s.ve (ok _))).1 q;rw[s.jr (ok _)] at this;exact(hL _ (ok _)).2 this
  have cp:bz Q p (t+1)=p:=by
   have:jd (bz Q p (t+1))=jd p:=Nz λz=>b ((me _).2 ⟨z,cL⟩);rcases nX (ok _) pk this with z|z
   ·exact z
   ·exact absurd z (s.zu _ pk)
  have et:=B.uniq cp λj hj z=>((me _).1 (a j hj)).1 (by rw[z]);rw[et];have rm:∀x,x∈gf Q p t↔∃j,j<=t/\aq Q (bz Q p j)=x:=λx=>by
   simp only[gf,Ck,FR];exact⟨λ⟨j,h,e⟩=>⟨j,by omega,e⟩,λ⟨j,h,e⟩=>⟨j,by omega,e⟩⟩
  refine⟨L',λk hk=>h0 k ((me k).1 ((f k).1 hk).1).2,F.nd,λv hv=>?_,λx hx=>?_,?_⟩
  ·have e1:jd v∈L'↔jd v∈L/\∀j,j<=t->jd v≠jd (bz Q p j):=by
    rw[f,me];refine⟨λz=>⟨z.1.2,λj hj=>?_⟩,λz=>⟨⟨z.2 0 (by omega),z.1⟩,λj hj=>z.2 (j+1) (by omega)⟩⟩
    cases j with
    |zero=>exact z.1.1
    |succ j=>exact z.2 j (by omega)
   have e2:aq Q v∉(dw Q m i).2++gf Q p t↔aq Q v∉(dw Q m i).2/\∀j,j<=t->aq Q (bz Q p j)≠aq Q v:=by
    rw[Bu,not_or,rm];exact and_congr Iff.rfl ⟨λz j hj e=>z ⟨j,hj,e⟩,λz ⟨j,hj,e⟩=>z j hj e⟩
   rw[e1,e2,←hL v hv];refine and_congr Iff.rfl ⟨λz j hj e=>?_,λz j hj e=>?_⟩
   ·rcases s.ky (ok j) hv e.symm with q|q
    ·exact z j hj (by rw[q])
    ·have back:∀k,dm Q (bz Q p (k+1))=ij (bz Q p k):=λk=>s.js (aZ (ok k))
     cases j with
     |zero=>
      have:=back t;rw[cp] at this;exact z t (by omega) (by rw[q,show bz Q p 0=p from rfl,this,dQ])
     |succ j=>exact z j (by omega) (by rw[q,back,dQ])
   ·rcases nX hv (ok j) e with q|q
    ·exact z j hj (by rw[q])
    ·have l:aq Q (bz Q p (j+1))=aq Q v:=by rw[q];exact s.jr (aZ (ok j))
     rcases(by omega:j+1<=t\/j=t) with c|c
     ·exact z (j+1) c l
     ·rw[c,cp] at l;exact z 0 (by omega) l
  ·rcases(by omega:x<i\/x=i) with c|rfl
   ·exact List.mem_append_left _ (hW x c)
   ·exact CL _ ((rm _).2 ⟨0,by omega,pl⟩)
  ·rw[hr,rj,cG ((List.perm_cons_erase pL).map _),fu]
   have q:rings (wk Q (jd p)::(L.erase (jd p)).map (wk Q))=rings ((aq Q p,aq Q (ij p))::(L.erase (jd p)).map (wk Q)):=by
    rcases Fl (Q:=Q) pk with e|e
    ·rw[e]
    ·rw[e,bF]
   have g:=d (aq Q p) [] λn hn=>⟨p,pk,λz=>((me _).1 z).1 rfl,(nM pk).symm,(by simpa[names] using hn:n=aq Q p).symm⟩
   rw[s.jr oo,cp] at g;rw[q,show rings ((aq Q p,aq Q (ij p))::(L.erase (jd p)).map (wk Q))=_ from g];show _+rings ((_,_)::L'.map (wk Q))=_;rw[eC];simp only[gm,ny];omega
theorem ax.DG(s:ax Q m):(dw Q m (2*m)).1.length=st (Q.map x4):=by
 obtain⟨L,h0,nd,hL,hW,hr⟩:=s.Fu (2*m) (fm _);rw[MP,s.len,hr];have:L=[]:=List.eq_nil_iff_forall_not_mem.2 λk hk=>by
  have h:=h0 k hk;have ok:j_ m k:=⟨h.1,by omega⟩
  have e:jd k=k:=Prod.ext rfl (Nat.mod_eq_of_lt h.2);have g:=s.two.g_ (aq Q k) (FP (by have:=kH s.four (Q:=Q) (p:=k) ⟨by rw[s.len];exact h.1,by omega⟩;exact(bZ (v:=0) ok.2 s.four (k:=k.1) (by rw[s.len];exact h.1)).2));have w:=hW (aq Q k).toNat (by omega);rw[show(((aq Q k).toNat:Nat):Int)=aq Q k by omega] at w;exact(hL k ok).1 (by rw[e];exact hk) w
 rw[this];rfl
def Kp(X Y:List X4):Prop:=st Y=st X/\∃d:Int,tw Y=tw X+d/\∀g i,vi Y g (i+3*d)=(1-2*(d%2))*vi X g i
theorem Kp.refl(X:List X4):Kp X X:=⟨rfl,0,by omega,λg i=>by simp⟩
theorem Kp.trans(a:Kp X Y)(b:Kp Y Z):Kp X Z:=by
 obtain⟨a1,d,a2,a3⟩:=a;obtain⟨b1,e,b2,b3⟩:=b;refine⟨b1.trans a1,d+e,by omega,λg i=>?_⟩;rw[show i+3*(d+e)=i+3*d+3*e by omega,b3,a3,←Int.mul_assoc]
 congr 1
 rcases Int.emod_two_eq d with h|h<;>rcases Int.emod_two_eq e with k|k<;>rw[h,k]<;>omega
theorem G1.kp(h:G1 X Y e)(he:e=0\/e=1):Kp X Y:=⟨h.st he,1-2*e,h.tw he,λg i=>by
 rw[h.vi he,show i+3*(1-2*e)-3*(1-2*e)=i by omega,show(1-2*e)%2=1 by omega];omega⟩
theorem G2.kp(h:G2 X Y e f)(he:e=0/\f=1\/e=1/\f=0):Kp X Y:=⟨h.st,0,by rw[h.tw he];omega,λg i=>by rw[h.vi he];simp⟩
theorem ax.P6(s:ax Q m){x:Int}(hx:0<=x/\x<(2*m:Nat))(hw:w<4):Kp (Q.map x4) ((gj (Py.rq Q x w)).map x4):=(s.g1 hx hw).kp (by omega)
theorem ax.P7(s:ax Q m){u l:Int}(hu:0<=u/\u<(2*m:Nat))(hl:0<=l/\l<(2*m:Nat))(hn:l≠u):Kp (Q.map x4) ((gj (ko Q u l w)).map x4):=by
 obtain⟨e,f,h,k⟩:=s.g2 (w:=w) hu hl hn;exact k.kp h
theorem sN(hc:c=1\/c= -1)(h:∀i,u (i+d)=c*v i)(s:List Int):told u (s.map (· +d))=(told v s).map λx=>(x.1+d,c*x.2):=by
 unfold told;rw[List.filter_map,vj,vj];have e:s.filter ((λi=>decide (u i≠0))∘(· +d))=s.filter λi=>decide (v i≠0):=List.filter_congr λi _=>by
  show decide (u (i+d)≠0)=_;rw[h];rcases hc with rfl|rfl
  ·rw[Int.one_mul]
  ·exact decide_eq_decide.2 (by omega)
 rw[e];exact Bh λi _=>by show(i+d,u (i+d))=(i+d,c*v i);rw[h]
theorem wM(nd:bh t)(Nv:bh t')(hc:c=1\/c= -1)(h:∀i,val t' (i+d)=c*val t i):kh t'=(kh t).map λx=>(x.1+d,c*x.2):=by
 have nz:∀{t:List (Int×Int)}{i:Int},val t i≠0->i∈sortI (t.map (·.1)):=λ{t i} z=>(bI i _).2 (Nz λq=>z (cR q));have r:(sortI (t.map (·.1))).Pairwise (· <·):=bX nd;unfold kh;rw[←sN (v:=val t) (u:=val t') hc h];refine pB (bX Nv) ?_ (λi z=>nz z) λi z=>?_
 ·exact List.pairwise_map.2 (r.imp λh=>by omega)
 ·refine Ck.2 ⟨i-d,nz λq=>z ?_,by omega⟩
  have:=h (i-d);rw[q,show i-d+d=i by omega] at this;rw[this];omega
theorem qI(Q:List (List Int)):rh (Q.map x4) (zx Q.length)=Q.flatMap λr=>p3 (x4 r) 2:=by
 induction Q with
 |nil=>rfl
 |cons r Q ih=>exact congrArg (p3 (x4 r) 2++·) ih
end Py
namespace L
open Py
noncomputable def MQ:List Sm:=[(.asg 2 (.lst [])),(.loop .enum [(.ae .at (.var 0) (.cst (.int 0)))] [3,4] [(.loop .g_ [(.cst (.int 4))] [5] [(.ite (.leaf (.ae .eq (.ae .at (.var 4) (.var 5)) (.var 1))) [(.app 2 (.tup [(.var 3),(.var 5)]))] [])])]),(.ite (.not (.leaf (.var 2))) [(.Lm 0)] []),(.ret (.bb .tuple (.var 2)))]
noncomputable def uV:List Sm:=[(.asg 3 (.call 2 [(.var 0),(.var 1)])),(.asg 4 (.comp .seq [(.ae .at (.glob 0) (.var 2))] [3] 2 none (.tup [(.ae .at (.var 2) (.var 0)),(.ae .at (.var 2) (.var 1))]))),(.ret (.call 7 [(.call 6 [(.ae .at (.var 0) (.cst (.int 0))),(.tup [(.var 1)])]),(.ae .at (.var 0) (.cst (.int 1))),(.var 4)]))]
noncomputable def kU:List Sm:=[(.ite (.or (.leaf (.ae .lt (.var 1) (.cst (.int 0)))) (.leaf (.ae .ge (.var 1) (.bb .len (.ae .at (.var 0) (.cst (.int 0))))))) [(.Lm 0)] []),(.ret (.ae .at (.ae .at (.var 0) (.cst (.int 0))) (.var 1)))]
noncomputable def gM:List Sm:=[(.ret (.ae .at (.ae .at (.var 0) (.ae .at (.var 1) (.cst (.int 0)))) (.ae .at (.var 1) (.cst (.int 1)))))]
noncomputable def eD:List Sm:=[(.ret (.tup [(.ae .at (.var 0) (.cst (.int 0))),(.ae .mod (.ae .add (.ae .at (.var 0) (.cst (.int 1))) (.cst (.int 2))) (.cst (.int 4)))]))]
noncomputable def sO:List Sm:=[(.new 2),(.asg 3 (.lst [])),(.loop .seq [(.var 0)] [4] [(.loop .seq [(.var 4)] [5] [(.ite (.leaf (.Cb true (.var 5) (.var 2))) [(.dput 2 (.var 5) (.yi (.var 2)))] [])]),(.app 3 (.bb .tuple (.comp .seq [(.var 4)] [2] 1 none (.om (.var 1) (.var 0)))))]),(.ret (.tup [(.bb .tuple (.var 3)),(.var 1)]))]
noncomputable def wN:List Sm:=[(.ret (.comp .enum [(.var 0)] [1] 2 (some (.leaf (.ae .kj (.var 0) (.var 2)))) (.var 1)))]
noncomputable def Fv:List Sm:=[(.asg 3 (.bb .list (.var 0))),(.asg 4 (.bb .list (.var 2))),(.Cd (.leaf (.var 4)) [(.asg 5 (.ae .at (.ae .at (.var 4) (.cst (.int 0))) (.cst (.int 0)))),(.asg 6 (.ae .at (.ae .at (.var 4) (.cst (.int 0))) (.cst (.int 1)))),(.ite (.leaf (.ae .eq (.var 5) (.var 6))) [(.asg 1 (.ae .add (.var 1) (.cst (.int 1))))] []),(.asg 3 (.call 8 [(.var 3),(.var 6),(.var 5)])),(.asg 4 (.call 8 [(.xv (.var 4) (some (.cst (.int 1))) none),(.var 6),(.var 5)]))]),(.ret (.call 5 [(.var 3),(.var 1)]))]
noncomputable def wO:List Sm:=[(.ret (.comp .seq [(.var 0)] [2,1] 1 none (.bb .tuple (.comp .seq [(.var 0)] [1,2] 1 none (.ite (.leaf (.ae .eq (.var 0) (.var 2))) (.var 1) (.var 0))))))]
noncomputable def kI:List Sm:=[(.new 1),(.asg 2 (.lst [])),(.loop .g_ [(.ae .mul (.cst (.int 2)) (.bb .len (.ae .at (.var 0) (.cst (.int 0)))))] [3] [(.ite (.leaf (.Cb true (.var 3) (.var 1))) [(.asg 4 (.call 12 [(.var 0),(.var 3)])),(.app 2 (.var 4)),(.loop .seq [(.var 4)] [5] [(.dput 1 (.var 5) (.cst (.bl true)))])] [])]),(.ret (.var 2))]
noncomputable def gN:List Sm:=[(.ret (.ae .add (.bb .len (.call 9 [(.var 0)])) (.ae .at (.var 0) (.cst (.int 1)))))]
noncomputable def nY:List Sm:=[(.ret (.bb .sum (.comp .g_ [(.bb .len (.ae .at (.var 0) (.cst (.int 0))))] [0] 1 none (.call 13 [(.var 1),(.var 0)]))))]
noncomputable def eE:List Sm:=[(.asg 2 (.ae .at (.call 0 [(.var 0),(.var 1)]) (.cst (.int 1)))),(.asg 3 (.lst [(.var 1)])),(.asg 4 (.call 14 [(.var 0),(.var 2)])),(.Cd (.leaf (.ae .ne (.var 4) (.var 2))) [(.app 3 (.call 3 [(.ae .at (.var 0) (.cst (.int 0))),(.var 4)])),(.asg 4 (.call 14 [(.var 0),(.var 4)]))]),(.ret (.var 3))]
noncomputable def sP:List Sm:=[(.asg 2 (.call 15 [(.var 0),(.tup [(.var 1),(.cst (.int 2))])])),(.Cd (.leaf (.ae .ne (.ae .at (.var 2) (.cst (.int 0))) (.var 1))) [(.asg 2 (.call 14 [(.var 0),(.var 2)]))]),(.ret (.ae .at (.glob 1) (.ae .at (.var 2) (.cst (.int 1)))))]
noncomputable def kJ:List Sm:=[(.ret (.call 15 [(.var 0),(.call 4 [(.var 1)])]))]
noncomputable def iP:List Sm:=[(.asg 2 (.call 0 [(.var 0),(.call 3 [(.ae .at (.var 0) (.cst (.int 0))),(.var 1)])])),(.ite (.leaf (.ae .eq (.ae .at (.var 2) (.cst (.int 0))) (.var 1))) [(.ret (.ae .at (.var 2) (.cst (.int 1))))] []),(.ret (.ae .at (.var 2) (.cst (.int 0))))]
noncomputable def uW:List Sm:=[(.pow 1 0 1),(.ret (.comp .seq [(.bb .sorted (.var 1))] [1] 1 (some (.leaf (.ae .ne (.om (.var 1) (.var 0)) (.cst (.int 0))))) (.tup [(.var 0),(.om (.var 1) (.var 0))])))]
noncomputable def kK:List Sm:=[(.asg 1 (.call 11 [(.var 0)])),(.asg 2 (.ite (.leaf (.ae .eq (.ae .mod (.var 1) (.cst (.int 2))) (.cst (.int 0)))) (.cst (.int 1)) (.bb .neg (.cst (.int 1))))),(.ret (.comp .seq [(.call 16 [(.var 0)])] [2,1] 2 none (.tup [(.ae .sub (.var 0) (.ae .mul (.cst (.int 3)) (.var 3))),(.ae .mul (.var 2) (.var 1))])))]
noncomputable def sQ:List Sm:=[(.ret (.bb .neg (.cst .cx)))]
noncomputable def nZ:List Sm:=[(.ret (.bb .neg (.cst .cx)))]
noncomputable def hV:List Sm:=[(.ret (.bb .neg (.cst .cx)))]
noncomputable def Fw:List Sm:=[(.ret (.bb .neg (.cst .cx)))]
noncomputable def n4:List Sm:=[(.ret (.bb .neg (.cst .cx)))]
noncomputable def Fy:List Sm:=[(.ret (.bb .neg (.cst .cx)))]
noncomputable def kW:List Sm:=[(.ite (.leaf (.ae .lt (.var 1) (.bb .len (.var 0)))) [(.ret (.ae .at (.var 0) (.var 1)))] []),(.ret (.cst (.int 0)))]
noncomputable def sR:List Sm:=[(.ite (.leaf (.ae .lt (.var 1) (.bb .len (.var 0)))) [(.ret (.ae .at (.var 0) (.var 1)))] []),(.ret (.ae .fdiv (.ae .mod (.ae .mul (.ae .add (.ae .add (.call 24 [(.var 0),(.cst (.int 0))]) (.ae .mul (.cst (.int 7)) (.var 1))) (.cst (.int 3))) (.cst (.int 48271))) (.cst (.int 2147483647))) (.cst (.int 13))))]
noncomputable def sS:List Sm:=[(.asg 4 (.comp .g_ [(.ae .mul (.cst (.int 4)) (.var 2))] [] 1 none (.bb .neg (.cst (.int 1))))),(.loop .g_ [(.bb .len (.var 3))] [5] [(.put 4 (.ae .at (.ae .at (.var 3) (.var 5)) (.cst (.int 0))) (.var 5)),(.put 4 (.ae .at (.ae .at (.var 3) (.var 5)) (.cst (.int 1))) (.var 5))]),(.asg 6 (.comp .g_ [(.ae .mul (.cst (.int 4)) (.var 2))] [4] 1 (some (.leaf (.ae .lt (.ae .at (.var 1) (.var 0)) (.cst (.int 0))))) (.var 0))),(.asg 7 (.bb .len (.var 3))),(.Cd (.leaf (.ae .gt (.bb .len (.var 6)) (.cst (.int 1)))) [(.asg 8 (.ae .add (.cst (.int 1)) (.ae .mod (.call 25 [(.var 0),(.ae .add (.var 1) (.var 7))]) (.ae .sub (.bb .len (.var 6)) (.cst (.int 1)))))),(.put 4 (.ae .at (.var 6) (.cst (.int 0))) (.var 7)),(.put 4 (.ae .at (.var 6) (.var 8)) (.var 7)),(.asg 6 (.ae .add (.xv (.var 6) (some (.cst (.int 1))) (some (.var 8))) (.xv (.var 6) (some (.ae .add (.var 8) (.cst (.int 1)))) none))),(.asg 7 (.ae .add (.var 7) (.cst (.int 1))))]),(.ret (.comp .g_ [(.var 2)] [4] 1 none (.bb .tuple (.xv (.var 1) (some (.ae .mul (.cst (.int 4)) (.var 0))) (some (.ae .add (.ae .mul (.cst (.int 4)) (.var 0)) (.cst (.int 4))))))))]
noncomputable def kL:List Sm:=[(.asg 1 (.lst [])),(.loop .seq [(.var 0)] [2] [(.loop .seq [(.var 2)] [3] [(.ite (.leaf (.ae .kj (.var 3) (.var 1))) [(.app 1 (.var 3))] [])])]),(.asg 4 (.lst [])),(.loop .seq [(.var 0)] [2] [(.app 4 (.bb .tuple (.comp .seq [(.var 2)] [1] 1 none (.ae .index (.var 1) (.var 0)))))]),(.ret (.bb .tuple (.var 4)))]
noncomputable def qJ:List Sm:=[(.ret (.and (.bb .isInt (.var 0)) (.not (.bb .isBool (.var 0)))))]
noncomputable def eF:List Sm:=[(.asg 2 (.ae .at (.ae .at (.var 0) (.ae .at (.var 1) (.cst (.int 0)))) (.ae .at (.var 1) (.cst (.int 1))))),(.loop .g_ [(.bb .len (.var 0))] [3] [(.loop .g_ [(.cst (.int 4))] [4] [(.ite (.and (.leaf (.ae .eq (.ae .at (.ae .at (.var 0) (.var 3)) (.var 4)) (.var 2))) (.leaf (.ae .ne (.tup [(.var 3),(.var 4)]) (.var 1)))) [(.ret (.tup [(.var 3),(.var 4)]))] [])])]),(.ret (.var 1))]
noncomputable def cZ:List Sm:=[(.asg 1 (.cst (.int 0))),(.loop .g_ [(.bb .len (.var 0))] [2] [(.asg 3 (.call 29 [(.var 0),(.tup [(.var 2),(.cst (.int 2))])])),(.Cd (.leaf (.ae .ne (.ae .at (.var 3) (.cst (.int 0))) (.var 2))) [(.asg 3 (.call 29 [(.var 0),(.tup [(.ae .at (.var 3) (.cst (.int 0))),(.ae .mod (.ae .add (.ae .at (.var 3) (.cst (.int 1))) (.cst (.int 2))) (.cst (.int 4)))])]))]),(.ite (.leaf (.ae .eq (.ae .at (.var 3) (.cst (.int 1))) (.cst (.int 3)))) [(.asg 1 (.ae .add (.var 1) (.cst (.int 1))))] []),(.ite (.leaf (.ae .eq (.ae .at (.var 3) (.cst (.int 1))) (.cst (.int 1)))) [(.asg 1 (.ae .sub (.var 1) (.cst (.int 1))))] [])]),(.ret (.var 1))]
noncomputable def qK:List Sm:=[.DW]
noncomputable def kM:List Sm:=[(.asg 1 (.lst [(.lst [])])),(.loop .g_ [(.var 0)] [2] [(.asg 1 (.ae .add (.comp .seq [(.var 1)] [] 1 none (.ae .add (.var 0) (.lst [(.cst (.int 0))]))) (.comp .seq [(.var 1)] [] 1 none (.ae .add (.var 0) (.lst [(.cst (.int 1))])))))]),(.ret (.var 1))]
noncomputable def dR:List Sm:=[(.asg 1 (.lst [(.cst (.int 1))])),(.loop .g_ [(.var 0)] [2] [(.asg 3 (.lst [(.cst (.int 1))])),(.loop .g_ [(.ae .sub (.bb .len (.var 1)) (.cst (.int 1)))] [4] [(.app 3 (.ae .add (.ae .at (.var 1) (.var 4)) (.ae .at (.var 1) (.ae .add (.var 4) (.cst (.int 1))))))]),(.asg 1 (.ae .add (.var 3) (.lst [(.cst (.int 1))])))]),(.ret (.var 1))]
noncomputable def wP:List Sm:=[(.ret (.bb .neg (.cst .cx)))]
noncomputable def g5:List Sm:=[(.new 2),(.loop .seq [(.call 32 [(.bb .len (.var 0))])] [3] [(.asg 4 (.lst [])),(.loop .g_ [(.bb .len (.var 0))] [5] [(.asg 6 (.ae .at (.var 0) (.var 5))),(.ite (.leaf (.ae .eq (.ae .at (.var 3) (.var 5)) (.cst (.int 0)))) [(.asg 4 (.ae .add (.var 4) (.lst [(.tup [(.ae .at (.var 6) (.cst (.int 0))),(.ae .at (.var 6) (.cst (.int 1)))]),(.tup [(.ae .at (.var 6) (.cst (.int 2))),(.ae .at (.var 6) (.cst (.int 3)))])])))] [(.asg 4 (.ae .add (.var 4) (.lst [(.tup [(.ae .at (.var 6) (.cst (.int 0))),(.ae .at (.var 6) (.cst (.int 3)))]),(.tup [(.ae .at (.var 6) (.cst (.int 1))),(.ae .at (.var 6) (.cst (.int 2)))])])))])]),(.ED 2 33 (.ae .sub (.bb .len (.var 0)) (.ae .mul (.cst (.int 2)) (.bb .sum (.var 3)))) (.ae .add (.var 1) (.call 31 [(.var 4)])))]),(.ret (.var 2))]
noncomputable def n5:List Sm:=[(.ret (.comp .seq [(.bb .sorted (.var 0))] [1,2,0] 1 (some (.leaf (.ae .ne (.om (.var 3) (.var 0)) (.cst (.int 0))))) (.tup [(.ae .add (.var 0) (.var 1)),(.ae .mul (.var 2) (.om (.var 3) (.var 0)))])))]
noncomputable def n6:List Sm:=[(.asg 2 (.tup [(.cst (.int 0)),(.cst (.int 0))])),(.loop .g_ [(.bb .len (.var 0))] [3] [(.loop .g_ [(.cst (.int 4))] [4] [(.ite (.leaf (.ae .eq (.ae .at (.ae .at (.var 0) (.var 3)) (.var 4)) (.var 1))) [(.asg 2 (.tup [(.var 3),(.var 4)]))] [])])]),(.ret (.var 2))]
noncomputable def wQ:List Sm:=[(.asg 0 (.bb .list (.var 0))),(.asg 3 (.bb .list (.ae .at (.var 0) (.ae .at (.var 1) (.cst (.int 0)))))),(.put 3 (.ae .at (.var 1) (.cst (.int 1))) (.var 2)),(.put 0 (.ae .at (.var 1) (.cst (.int 0))) (.bb .tuple (.var 3))),(.ret (.var 0))]
noncomputable def eG:List Sm:=[(.ite (.leaf (.ae .eq (.var 0) (.cst (.int 0)))) [(.ret (.tup [(.var 3),(.var 3),(.var 1),(.var 2)]))] []),(.ite (.leaf (.ae .eq (.var 0) (.cst (.int 1)))) [(.ret (.tup [(.var 1),(.var 3),(.var 3),(.var 2)]))] []),(.ite (.leaf (.ae .eq (.var 0) (.cst (.int 2)))) [(.ret (.tup [(.var 3),(.var 3),(.var 2),(.var 1)]))] []),(.ret (.tup [(.var 2),(.var 3),(.var 3),(.var 1)]))]
noncomputable def eI:List Sm:=[(.asg 4 (.ae .mul (.cst (.int 2)) (.bb .len (.var 0)))),(.asg 5 (.call 38 [(.var 0),(.call 37 [(.var 0),(.var 1)]),(.var 4)])),(.asg 5 (.call 38 [(.var 5),(.call 37 [(.var 0),(.var 2)]),(.ae .add (.var 4) (.cst (.int 1)))])),(.asg 6 (.lst [(.var 1),(.var 4)])),(.ite (.leaf (.ae .eq (.ae .mod (.var 3) (.cst (.int 2))) (.cst (.int 1)))) [(.asg 6 (.lst [(.var 4),(.var 1)]))] []),(.ite (.leaf (.ae .lt (.var 3) (.cst (.int 2)))) [(.ret (.ae .add (.var 5) (.lst [(.tup [(.var 2),(.ae .add (.var 4) (.cst (.int 2))),(.ae .add (.var 4) (.cst (.int 3))),(.ae .at (.var 6) (.cst (.int 0)))]),(.tup [(.ae .add (.var 4) (.cst (.int 3))),(.ae .add (.var 4) (.cst (.int 2))),(.ae .add (.var 4) (.cst (.int 1))),(.ae .at (.var 6) (.cst (.int 1)))])])))] []),(.ret (.ae .add (.var 5) (.lst [(.tup [(.var 2),(.ae .at (.var 6) (.cst (.int 0))),(.ae .add (.var 4) (.cst (.int 3))),(.ae .add (.var 4) (.cst (.int 2)))]),(.tup [(.ae .add (.var 4) (.cst (.int 3))),(.ae .at (.var 6) (.cst (.int 1))),(.ae .add (.var 4) (.cst (.int 1))),(.ae .add (.var 4) (.cst (.int 2)))])])))]
noncomputable def c9:List Sm:=[(.asg 3 (.ae .mul (.cst (.int 2)) (.bb .len (.var 0)))),(.asg 4 (.ae .mod (.ae .fdiv (.var 1) (.cst (.int 8))) (.var 3))),(.asg 5 (.ae .mod (.ae .add (.ae .add (.var 4) (.cst (.int 1))) (.ae .mod (.ae .fdiv (.var 1) (.cst (.int 257))) (.ae .sub (.var 3) (.cst (.int 1))))) (.var 3))),(.ite (.and (.leaf (.ae .eq (.ae .mod (.ae .fdiv (.var 1) (.cst (.int 4))) (.cst (.int 2))) (.cst (.int 1)))) (.leaf (.ae .le (.ae .add (.bb .len (.var 0)) (.cst (.int 2))) (.var 2)))) [(.ret (.call 27 [(.call 40 [(.var 0),(.var 4),(.var 5),(.ae .mod (.var 1) (.cst (.int 4)))])]))] []),(.ite (.leaf (.ae .lt (.bb .len (.var 0)) (.var 2))) [(.asg 6 (.call 38 [(.var 0),(.call 37 [(.var 0),(.var 4)]),(.var 3)])),(.ret (.call 27 [(.ae .add (.var 6) (.lst [(.call 39 [(.ae .mod (.var 1) (.cst (.int 4))),(.var 4),(.var 3),(.ae .add (.var 3) (.cst (.int 1)))])]))]))] []),(.ret (.var 0))]
noncomputable def g6:List Sm:=[(.ite (.or (.not (.leaf (.bb .zi (.var 0)))) (.leaf (.ae .ne (.bb .len (.var 0)) (.bb .len (.var 1))))) [(.ret (.cst (.bl false)))] []),(.loop .g_ [(.bb .len (.var 1))] [2] [(.ite (.or (.not (.leaf (.bb .isTup (.ae .at (.var 0) (.var 2))))) (.leaf (.ae .ne (.bb .len (.ae .at (.var 0) (.var 2))) (.cst (.int 2))))) [(.ret (.cst (.bl false)))] []),(.ite (.or (.not (.leaf (.call 28 [(.ae .at (.ae .at (.var 0) (.var 2)) (.cst (.int 0)))]))) (.or (.not (.leaf (.call 28 [(.ae .at (.ae .at (.var 0) (.var 2)) (.cst (.int 1)))]))) (.leaf (.ae .ne (.ae .at (.var 0) (.var 2)) (.ae .at (.var 1) (.var 2)))))) [(.ret (.cst (.bl false)))] [])]),(.ret (.cst (.bl true)))]
noncomputable def Ka:List Sm:=[(.asg 1 (.call 27 [(.call 26 [(.var 0),(.cst (.int 3)),(.ae .add (.cst (.int 1)) (.ae .mod (.call 24 [(.var 0),(.cst (.int 0))]) (.cst (.int 3)))),(.lst [])])])),(.asg 2 (.ae .mod (.call 24 [(.var 0),(.cst (.int 1))]) (.cst (.int 3)))),(.asg 3 (.call 30 [(.var 1)])),(.asg 4 (.call 36 [(.call 35 [(.var 1),(.var 2)]),(.ae .mul (.bb .neg (.cst (.int 3))) (.var 3)),(.ae .sub (.cst (.int 1)) (.ae .mul (.cst (.int 2)) (.ae .mod (.var 3) (.cst (.int 2)))))])),(.asg 5 (.lst [])),(.loop .seq [(.var 1)] [6] [(.asg 5 (.ae .add (.var 5) (.lst [(.tup [(.ae .at (.var 6) (.cst (.int 0))),(.ae .at (.var 6) (.cst (.int 2)))]),(.tup [(.ae .at (.var 6) (.cst (.int 1))),(.ae .at (.var 6) (.cst (.int 3)))])])))]),(.asg 7 (.ae .add (.var 2) (.call 31 [(.var 5)]))),(.loop .g_ [(.ae .mod (.call 24 [(.var 0),(.cst (.int 2))]) (.cst (.int 5)))] [8] [(.asg 1 (.call 41 [(.var 1),(.call 25 [(.var 0),(.ae .add (.cst (.int 10)) (.var 8))]),(.cst (.int 6))]))]),(.asg 9 (.call 10 [(.tup [(.var 1),(.var 2)])])),(.ite (.or (.not (.leaf (.call 28 [(.var 9)]))) (.leaf (.ae .ne (.var 9) (.var 7)))) [(.ret (.cst (.bl false)))] []),(.asg 3 (.call 30 [(.var 1)])),(.asg 10 (.comp .seq [(.var 4)] [3] 1 none (.tup [(.ae .add (.ae .at (.var 0) (.cst (.int 0))) (.ae .mul (.cst (.int 3)) (.var 1))),(.ae .mul (.ae .at (.var 0) (.cst (.int 1))) (.ae .sub (.cst (.int 1)) (.ae .mul (.cst (.int 2)) (.ae .mod (.var 1) (.cst (.int 2))))))]))),(.ret (.and (.call 42 [(.call 17 [(.tup [(.var 1),(.var 2)])]),(.var 4)]) (.call 42 [(.call 16 [(.tup [(.var 1),(.var 2)])]),(.var 10)])))]
noncomputable def prog:Prog:=⟨[⟨2,6,MQ⟩,⟨3,5,uV⟩,⟨2,2,kU⟩,⟨2,2,gM⟩,⟨1,1,eD⟩,⟨2,6,sO⟩,⟨2,2,wN⟩,⟨3,7,Fv⟩,⟨3,3,wO⟩,⟨1,6,kI⟩,⟨1,1,gN⟩,⟨1,1,nY⟩,⟨2,5,eE⟩,⟨2,3,sP⟩,⟨2,2,kJ⟩,⟨2,3,iP⟩,⟨1,2,uW⟩,⟨1,3,kK⟩,⟨1,3,sQ⟩,⟨1,5,nZ⟩,⟨1,4,hV⟩,⟨1,6,Fw⟩,⟨1,5,n4⟩,⟨3,3,Fy⟩,⟨2,2,kW⟩,⟨2,2,sR⟩,⟨4,9,sS⟩,⟨1,5,kL⟩,⟨1,1,qJ⟩,⟨2,5,eF⟩,⟨1,4,cZ⟩,⟨1,6,qK⟩,⟨1,3,kM⟩,⟨1,5,dR⟩,⟨3,6,wP⟩,⟨2,7,g5⟩,⟨3,3,n5⟩,⟨2,5,n6⟩,⟨3,4,wQ⟩,⟨4,4,eG⟩,⟨4,7,eI⟩,⟨3,7,c9⟩,⟨2,3,g6⟩,⟨1,11,Ka⟩],[(.tup [(.tup [(.tup [(.int 0),(.int 1)]),(.tup [(.int 2),(.int 3)])]),(.tup [(.tup [(.int 0),(.int 3)]),(.tup [(.int 1),(.int 2)])])]),(.tup [(.int 0),(.int (-1)),(.int 0),(.int 1)]),(.tup [(.int 1),(.int (-1))]),(.tup [(.int 2),(.int (-2))])]⟩
noncomputable def lawId:Nat:=43
end L
namespace L
open PySem PySem.Spec PyProof.Rows L2 L2.Snd Py
structure FT(K:W.Frag)(mg:Str->Option Value)(fa:Nat->Addr)(fd:Nat->FuncData)(i:Nat):Prop where
 m:mg (nm i)=some (.ref (fa i))
 b:Binds K (fd i) (Ps i) []
 F:GX K (nm i) (nm i) (sT i) (fa i) (fd i)
structure Txt(K:W.Frag)(mg:Str->Option Value)(cl fa:Nat->Addr)(fd:Nat->FuncData):Prop where
 n:∀x,bl.contains x=true->mg x=none
 f:∀i,i<44->FT K mg fa fd i
 DH:mg "NoPlace"=some (.ref (cl 0))
 WM:Lk K (cl 0)
 nv:AR K mg "RING_POWERS" (.tup [(.int 2),(.int (-2))])
 zy:AR K mg "SHIFTS" (.tup [(.int 1),(.int (-1))])
 B4:AR K mg "SPLITS" (.tup [(.tup [(.tup [(.int 0),(.int 1)]),(.tup [(.int 2),(.int 3)])]),(.tup [(.tup [(.int 0),(.int 3)]),(.tup [(.int 1),(.int 2)])])])
 C':AR K mg "TURNS" (.tup [(.int 0),(.int (-1)),(.int 0),(.int 1)])
theorem Txt.m{K:W.Frag}(T:Txt K mg cl fa fd)(h:i<44)(e:nm i=x):mg x=some (.ref (fa i)):=e▸(T.f i h).m
section
variable{P:Program}{w:World}{K:W.Frag}{mg:Str->Option Value}{base:Heap}{cl fa:Nat->Addr}{fd:Nat->FuncData}{j:Nat}
theorem Txt.Gd(T:Txt K mg cl fa fd){X:Cx}{XE:Nat->L2.St->Hp->Prop}{Φ:Nat->List D->R D}{m:Bool}{pos:Pos}(hK:X.K=K:=by rfl)(hM:X.mg=mg:=by rfl)(hg:Gl X "RING_POWERS":=by rfl):cw X cl XE Φ prog.dv m (.glob 3) (.Name "RING_POWERS" pos):=by
 obtain⟨v,u,h,r,hr⟩:=T.nv;exact iB (v:=v) hg (by rw[hM];exact h) r (by decide) λd e F H=>by cases e;rw[hK];exact hr cl F H
theorem Txt.P8(T:Txt K mg cl fa fd){X:Cx}{XE:Nat->L2.St->Hp->Prop}{Φ:Nat->List D->R D}{m:Bool}{pos:Pos}(hK:X.K=K:=by rfl)(hM:X.mg=mg:=by rfl)(hg:Gl X "SHIFTS":=by rfl):cw X cl XE Φ prog.dv m (.glob 2) (.Name "SHIFTS" pos):=by
 obtain⟨v,u,h,r,hr⟩:=T.zy;exact iB (v:=v) hg (by rw[hM];exact h) r (by decide) λd e F H=>by cases e;rw[hK];exact hr cl F H
theorem Txt.Fz(T:Txt K mg cl fa fd){X:Cx}{XE:Nat->L2.St->Hp->Prop}{Φ:Nat->List D->R D}{m:Bool}{pos:Pos}(hK:X.K=K:=by rfl)(hM:X.mg=mg:=by rfl)(hg:Gl X "SPLITS":=by rfl):cw X cl XE Φ prog.dv m (.glob 0) (.Name "SPLITS" pos):=by
 obtain⟨v,u,h,r,hr⟩:=T.B4;exact iB (v:=v) hg (by rw[hM];exact h) r (by decide) λd e F H=>by cases e;rw[hK];exact hr cl F H
theorem Txt.IL(T:Txt K mg cl fa fd){X:Cx}{XE:Nat->L2.St->Hp->Prop}{Φ:Nat->List D->R D}{m:Bool}{pos:Pos}(hK:X.K=K:=by rfl)(hM:X.mg=mg:=by rfl)(hg:Gl X "TURNS":=by rfl):cw X cl XE Φ prog.dv m (.glob 1) (.Name "TURNS" pos):=by
 obtain⟨v,u,h,r,hr⟩:=T.C';exact iB (v:=v) hg (by rw[hM];exact h) r (by decide) λd e F H=>by cases e;rw[hK];exact hr cl F H
noncomputable abbrev xn(i:Nat):Str:=(["NoPlace"]:List Str).getD i ""
abbrev Cs(P:Program)(w:World)(K:W.Frag)(mg:Str->Option Value)(base:Heap)(cl fa:Nat->Addr)(fd:Nat->FuncData)(j:Nat):Prop:=∀i,i<44->nh P w K mg base (yg P w) (4*j+4) (fa i) (fd i) (Ps i) (uy K cl (bc prog j) i)
set_option maxHeartbeats 0
abbrev WN(i:Nat):Prop:=(de (sT i)).kind=.function/\(de (sT i)).isCoroutine=false/\(de (sT i)).isGenerator=false/\(Nn i).Nodup/\(∀x∈Ps i,(de (sT i)).names.lookup x=some .local\/(de (sT i)).names.lookup x=some .cell)/\∀y∈(de (sT i)).names,y.2≠.free
theorem sc:∀i,i<44->ur (Nn i) (Ps i) (de (sT i)):=λi hi=>
 have ⟨a,b,c,d,e,f⟩:=(by decide+kernel:∀i,i<44->WN i) i hi
 ⟨a,b,c,d,by simp,e,f⟩
variable{k:Nat}
theorem uX(T:Txt K mg cl fa fd):nh P w K mg base (yg P w) (k+2) (fa 23) (fd 23) (Ps 23) (ox K):=by
 have nd:=(sc 23 (by decide)).nd;exact CF (t:=λ_=>JV K) (T.f 23 (by decide)).F (sc 23 (by decide)) (λvs H Q E h=>by obtain⟨_,_,_,_,_,_,rfl,_⟩:=h;rfl) (λh=>zF h) λcd A outer s H E hr=>have hu:=bH hr;aJ (mK (qR (rX hu aD (aw aD (aw aH c_))) aD) (zL aD aD (JU hu)))
theorem IM(T:Txt K mg cl fa fd):nh P w K mg base (yg P w) (k+3) (fa 22) (fd 22) (Ps 22) (Bd):=by
 have nd:=(sc 22 (by decide)).nd;obtain⟨v,u,h,r,hq⟩:=T.nv;obtain⟨a,rfl,hs⟩:=uJ hq;exact CF (t:=λ_=>C4 K (.ref a) (Ne cl)) (T.f 22 (by decide)).F (sc 22 (by decide)) (λvs H Q E h=>by obtain⟨_,_,rfl,_⟩:=h;rfl) (λh=>rR hs h) λcd A outer s H E hr=>have hu:=bH hr;aF (bL nd bQ) (aF (cV (iI aD) (uI nd) (aJ (cV (mL (mH (by rfl) h r)) (jT nd) (aJ (jU (bE (cl:=cl) (uX T) hr (T.f 23 (by decide)).m (T.f 23 (by decide)).F.kp (T.f 23 (by decide)).b (aw aD (aw (qR aD aD) (aw (tJ mM aD) c_))))))))) (aJ (dS aD)))
theorem FA(T:Txt K mg cl fa fd):nh P w K mg base (yg P w) (k+4) (fa 21) (fd 21) (Ps 21) (zq):=by
 have nd:=(sc 21 (by decide)).nd;exact CF (t:=λ_=>BU K (Ne cl) (Ne cl)) (T.f 21 (by decide)).F (sc 21 (by decide)) (λvs H Q E h=>by obtain⟨_,_,_,_,rfl,_⟩:=h;rfl) (λh=>pJ h) λcd A outer s H E hr=>have hu:=bH hr;aF (bL nd bQ) (aF (cV (Mp (T.n _ rfl) (aw (PK (T.n _ rfl) (PM (T.n _ rfl) aD)) (aw (tJ mM aH) (aw (tJ mM aH) c_)))) (jT nd) (aF (bL nd (bE (cl:=cl) (IM T) hr (T.f 22 (by decide)).m (T.f 22 (by decide)).F.kp (T.f 22 (by decide)).b (aw aD c_))) (aF (bL nd (rX hu aD (aw aD (aw bQ c_)))) (aJ (cV (iI aD) (uI nd) (aJ (jU (bE (cl:=cl) (uX T) hr (T.f 23 (by decide)).m (T.f 23 (by decide)).F.kp (T.f 23 (by decide)).b (aw aD (aw aD (aw aD c_))))))))))) (aJ (dS aD)))
theorem S4(T:Txt K mg cl fa fd):nh P w K mg base (yg P w) (k+3) (fa 20) (fd 20) (Ps 20) (Mj K):=by
 have nd:=(sc 20 (by decide)).nd;exact CF (t:=λ_=>Pw K (Ne cl)) (T.f 20 (by decide)).F (sc 20 (by decide)) (λvs H Q E h=>by obtain⟨_,_,_,rfl,_⟩:=h;rfl) (λh=>Im h) λcd A outer s H E hr=>have hu:=bH hr;aF (bL nd bQ) (aF (cV (iI aD) (uI nd) (aJ (jU (bE (cl:=cl) (uX T) hr (T.f 23 (by decide)).m (T.f 23 (by decide)).F.kp (T.f 23 (by decide)).b (aw (Mo aD (aw (jR (jR aD aH) aH) (aw bQ c_))) (aw (jR aD aH) (aw aD c_))))))) (aJ (dS aD)))
theorem MR(T:Txt K mg cl fa fd)(C:Cs P w K mg base cl fa fd j):nh P w K mg base (yg P w) (4*j+5) (fa 19) (fd 19) (Ps 19) (CD K (bc prog j) 1):=by
 have nd:=(sc 19 (by decide)).nd;obtain⟨v,u,h,r,hq⟩:=T.zy;obtain⟨a,rfl,hs⟩:=uJ hq;exact CF (t:=λ_=>ES K cl (bc prog j) 1 (.ref a) (Ne cl) (Ne cl)) (T.f 19 (by decide)).F (sc 19 (by decide)) (λvs H Q E h=>by obtain⟨_,_,_,_,rfl,_⟩:=h;rfl) (λh=>v5 hs h) λcd A outer s H E hr=>have hu:=bH hr;aF (bL nd zD) (aF (cV (iI aD) (uI nd) (aJ (cV (mL (mP (aw aH (aw aH c_)))) (jT nd) (aJ (jU (bE (cl:=cl) (uX T) hr (T.f 23 (by decide)).m (T.f 23 (by decide)).F.kp (T.f 23 (by decide)).b (aw aD (aw (mP (aw (bE (cl:=cl) (C 1 (by decide)) hr (T.f 1 (by decide)).m (T.f 1 (by decide)).F.kp (T.f 1 (by decide)).b (aw (jR aD aH) (aw aH (aw aD c_)))) (aw (qR (jR aD aH) (jR (mH (by rfl) h r) aD)) c_))) (aw aD c_))))))))) (aJ (dS aD)))
theorem S5(T:Txt K mg cl fa fd)(C:Cs P w K mg base cl fa fd j):nh P w K mg base (yg P w) (4*j+6) (fa 18) (fd 18) (Ps 18) (Ml K (bc prog j) 1):=by
 have nd:=(sc 18 (by decide)).nd;exact CF (t:=λ_=>PF K (bc prog j) 1 (Ne cl)) (T.f 18 (by decide)).F (sc 18 (by decide)) (λvs H Q E h=>by obtain⟨_,_,_,rfl,_⟩:=h;rfl) (λh=>Io h) λcd A outer s H E hr=>have hu:=bH hr;aF (bL nd (zI hu (mP (aw aD (aw aH c_))) aH)) (aF (cV (mL (jR aD aH)) (jT nd) (aJ (bL nd (bE (cl:=cl) (MR T C) hr (T.f 19 (by decide)).m (T.f 19 (by decide)).F.kp (T.f 19 (by decide)).b (aw aD c_))))) (aJ (dS aD)))
theorem S6(T:Txt K mg cl fa fd)(C:Cs P w K mg base cl fa fd j):nh P w K mg base (yg P w) (4*j+5) (fa 34) (fd 34) (Ps 34) (Mm (bc prog j) 33):=by
 have nd:=(sc 34 (by decide)).nd;exact CF (t:=λ_=>Uz K cl (bc prog j) 33 (Ne cl)) (T.f 34 (by decide)).F (sc 34 (by decide)) (λvs H Q E h=>by obtain⟨_,_,_,_,_,rfl,_⟩:=h;rfl) (λh=>Iq h) λcd A outer s H E hr=>have hu:=bH hr;aF (bL nd (bE (cl:=cl) (C 33 (by decide)) hr (T.f 33 (by decide)).m (T.f 33 (by decide)).F.kp (T.f 33 (by decide)).b (aw aD c_))) (aJ (cV (zM (T.n _ rfl) (aw (J5 (T.n _ rfl) aD) c_)) (jT nd) (aF (bL nd (cI qV (cI A3 aD (cI iS aH aD)) (cI iS aH aD))) (aJ (mK (cI A3 (rX hu aD (aw aD (aw aH c_))) (cI iS (jS aD aD) (cI qV aH (cI iS aH (cI xF aD aH))))) (zL aD aD (JU hu)))))))
theorem FC(T:Txt K mg cl fa fd)(O:∀{c x},c<1->xn c=x->OwnCls x (cl c) Ta "ValueError.__new__" mg base):∀j,Cs P w K mg base cl fa fd j
 |0,i,_=>yO
 |j+1,i,hi=>by
  have C:=FC T O j
  match i,hi with
  |18,_=>exact cA (cB rfl _)
  |19,_=>exact cA (cB rfl _)
  |20,_=>exact cA (cB rfl _)
  |21,_=>exact cA (cB rfl _)
  |22,_=>exact cA (cB rfl _)
  |23,_=>exact cA (cB rfl _)
  |31,_=>exact yN (k:=4*j+7) (T.f _ (by decide)).F (sc _ (by decide)) rfl rfl rfl λcd A outer s H E hr=>have h7:=hr;have hr:=hr.mono (show 4*j+4<=4*j+7 by omega);have hu:=bH hr;have nd:=(sc 31 (by decide)).nd;(Iu (HQ (Φ:=bc prog j) (G:=prog.dv) (["two"]:List Str) (lI (by rfl)) nd (T.n _ rfl) rfl (yI yQ) (λ_ _ _ _ _=>yS (show(["two"]:List Str).Nodup from by decide+kernel)) (λ_ _ _ _ _=>yQ) (λ_ _ _ _ _=>⟨by rfl,by rfl⟩)) (bL nd aH) (Iv (mI (NS (J5 (T.n _ rfl) aD) aH)) (aF (bL nd (jS aD aH)) (aF (bL nd (oO CV aD (tN aH) tM)) (aF (xB (mI (w6 (jS aD aH) (jS aD aH))) (aJ (bL nd (cI A3 aD aH))) mJ) (aJ (cV (tI aD) (jT nd) (aJ (cV (zM (T.n _ rfl) (aw aH c_)) (jT nd) (aJ (xB (mI (w6 (jS aD aD) (jS aD aH))) (aJ (mK (jS aD aH) (zL aD aD oP))) mJ)))))))))) (dS aD))
  |34,_=>exact cA (cB rfl _)
  |0,h|1,h|2,h|3,h|4,h|5,h|6,h|7,h|8,h|9,h|10,h|11,h|12,h|13,h|14,h|15,h|16,h|17,h|24,h|25,h|26,h|27,h|28,h|29,h|30,h|32,h|33,h|35,h|36,h|37,h|38,h|39,h|40,h|41,h|42,h|43,h=>
   refine yN (k:=4*j+7) (T.f _ h).F (sc _ h) rfl rfl rfl λcd A outer s H E hr=>?_;have h7:=hr;have hr:=hr.mono (show 4*j+4<=4*j+7 by omega);have hu:=bH hr;have nd:=(sc _ h).nd
   repeat' first
    |exact yQ
    |refine L1 ?_ ?_
    |refine yK ?_ ?_
    |exact Lp
    |exact HA
    |exact bP
    |refine x_at ?_ ?_
    |refine O_ nd ?_
    |refine x_call (C _ (by decide)) hr (T.m (by decide) (by rfl)) (T.f _ (by decide)).F.kp (T.f _ (by decide)).b (by first|exact λ_=>jA|exact yT rfl tS|exact yT rfl IP|exact S7 hE) ?_
    |refine HD ?_
    |refine O1 ?_ ?_
    |refine Sj ?_
    |refine O7 ?_
    |refine LN ?_ ?_ ?_
    |refine O6 (T.n _ rfl) ?_
    |refine O8 ?_
    |refine L9 ?_ (by first|exact yS nd|exact JO nd) ?_
    |refine yI ?_
    |refine O9 (T.n _ rfl) ?_
    |refine O3 ?_ ?_
    |refine O4 ?_ ?_
    |refine Sh hu ?_ ?_
    |refine L6 ?_ (λ_ _ _ _ _=>?_) λ_ _ _ _ _=>?_
    |exact oV
    |refine Si hu ?_ ?_
    |refine HI (T.n _ rfl) ?_
    |refine O2 ?_ ?_
    |refine Pa ?_
    |refine Hs ?_
    |refine LK ?_ ?_
    |refine Sd ?_ ?_
    |refine x8 ?_
    |exact Ow
    |refine Pb ?_ ?_
    |refine Ht ?_
    |refine LX hu ?_ ?_
    |refine vT ?_ ?_
    |refine yG ?_
    |refine LZ (T.n _ rfl) ?_
    |refine LH ?_ ?_ ?_
    |refine LW ?_ ?_
    |exact O' nd
    |refine O5 ?_
    |refine L4 (T.n _ rfl) ?_
    |exact HM (by first|exact tS|exact M9.never|exact IP) (O (by decide) (by rfl)) PySem.F.excBase_ValueError (by decide) PySem.F.excBase_ValueError
    |refine O0 true hu ?_ ?_
    |refine L8 hu ?_ ?_
    |refine OZ ?_ ?_
    |exact x6
    |refine LC ?_ ?_ ?_
    |refine Pc (T.n _ rfl) ?_
    |refine zK v9 (T.n _ rfl) ?_
    |refine LB ?_ ?_
    |refine LA ?_
    |refine Hu ?_ ?_
    |refine yF ?_
    |exact T.Fz
    |refine Sg ?_ ?_
    |refine LY (T.n _ rfl) ?_
    |exact T.IL
    |exact Ip (bL nd (bE (cl:=cl) (FA T) h7 (T.f 21 (by decide)).m (T.f 21 (by decide)).F.kp (T.f 21 (by decide)).b (aw (bE (cl:=cl) (S4 T) h7 (T.f 20 (by decide)).m (T.f 20 (by decide)).F.kp (T.f 20 (by decide)).b (aw (bE (cl:=cl) (S5 T C) (h7.mono (by omega)) (T.f 18 (by decide)).m (T.f 18 (by decide)).F.kp (T.f 18 (by decide)).b (aw aD c_)) c_)) c_)))
    |refine Sf ?_ ?_
    |refine HH ?_ ?_
    |refine HJ (T.n _ rfl) (T.n _ rfl) ?_
    |refine Lz ?_
    |refine yR (T.n _ rfl) (T.n _ rfl) ?_
    |refine zJ ?_ ?_ λ_ _ hp hq=>jU (bE (cl:=cl) (S6 T C) (h7.mono (by omega)) (T.f 34 (by decide)).m (T.f 34 (by decide)).F.kp (T.f 34 (by decide)).b (aw aD (aw hp (aw hq c_))))
    |refine Se ?_ ?_
    |refine HL (T.n _ rfl) (T.n _ rfl) ?_
    |refine HK (T.n _ rfl) (T.n _ rfl) ?_
    |refine L3 ?_
    |refine Ha.t ?_
    |refine L7 nd ?_ (λ_ _ _ _ _=>?_) λ_ _ _ _ _=>?_
  |n+44,h=>exact absurd h (by omega)
end
abbrev Bn(i:Nat):Prop:=∀(kV dc pm:Value)(an:Option Addr)(cd ct:Value)(us:List Value),us.length=(Ps i).length->bindArgs (W.fnOf (nm i) (nm i) (qx (sT i)) (l_ (sT i)) (de (sT i)) .none kV dc pm an cd ct) ⟨us,[]⟩=pure ((Ps i).zip us)
theorem bn:∀i,i<44->Bn i:=λi hi=>by
 match i,hi with
 |0,_|1,_|2,_|3,_|4,_|5,_|6,_|7,_|8,_|9,_|10,_|11,_|12,_|13,_|14,_|15,_|16,_|17,_|18,_|19,_|20,_|21,_|22,_|23,_|24,_|25,_|26,_|27,_|28,_|29,_|30,_|31,_|32,_|33,_|34,_|35,_|36,_|37,_|38,_|39,_|40,_|41,_|42,_|43,_=>exact λ_ _ _ _ _ _ us hl=>(by first|(obtain⟨_,rfl⟩:=VQ hl;rfl)|(obtain⟨_,_,rfl⟩:=QX hl;rfl)|(obtain⟨_,_,_,rfl⟩:=VR hl;rfl)|(obtain⟨_,_,_,_,rfl⟩:=VS hl;rfl))
 |n+44,h=>exact absurd h (by omega)
theorem P9{K:W.Frag}(X:K.In h)(G:h.Ns mainGlobals mg)(hF:FH K i)(hb:Bn i):∃(f:Addr)(fd:FuncData),mg (nm i)=some (.ref f)/\Binds K fd (Ps i) []/\GX K (nm i) (nm i) (sT i) f fd:=by
 obtain⟨f,oc,kV,dc,pm,cd,ct,od,an,sl,a,b,c,k⟩:=hF;have F:=La b c k;exact⟨f,_,W.mg_of X G a,F.binds hb,F⟩
set_option maxHeartbeats 0 in
theorem all_mk{l:W.OpenLaw}{K:W.Frag}
  (X:K.In h) (Tp:Top qq loose mean mg mb h) (WO:mg "law"=some (.ref UL)) (fx:Fx K)
  (j:Nat):∃(UM:FuncData)(cl:Nat->Addr),(∀(s:Shared)(v:Value),BindsTo s UM ⟨[v],[]⟩ [("script",v)])/\∀base:Heap,K.In base->base.Ns mainGlobals mg->(∀b o,h.get? b=some o->(∀its n,o.data≠.seq its n)->base.get? b=some o)->
   nh l.prog w K mg base (yg l.prog w) (4*j+4) UL UM ["script"] (uy K cl (bc prog j) lawId):=by
 obtain⟨C0,NA,WQ,hF,hB,⟨AV,gs,tk,P_,WR,WS,XC⟩,⟨kz,qf,qg,qh,jl,jm,z_,Aa⟩,⟨vk,AB,AD,AE,qj,qk,DI,DJ⟩,⟨ql,wm,wq,wt,mf,wu,wx,wz,mh,w_,xa,xb,xf,xg,mi,xh,xi,xj,xk,xl,mj,xm,xo,xp,mq,xq,xr,xt,ue,uf,kq,ug,uh,ui,uj,uk,DK,B5,B6,B7,B8,B9,B_,Bg⟩,⟨yw,Bw,Bx,By,sj,sk,sr,sv,FD,FE⟩⟩:=fx;have G:=Tp.g;have hT:∀i,i<44->∃(f:Addr)(fd:FuncData),mg (nm i)=some (.ref f)/\Binds K fd (Ps i) []/\GX K (nm i) (nm i) (sT i) f fd:=λi hi=>P9 X G (hF i hi) (bn i hi);have hT:∀i,∃(f:Addr)(fd:FuncData),i<44->mg (nm i)=some (.ref f)/\Binds K fd (Ps i) []/\GX K (nm i) (nm i) (sT i) f fd:=λi=>by
  by_cases h:i<44
  ·obtain⟨f,d,z⟩:=hT i h
   exact⟨f,d,λ_=>z⟩
  ·obtain⟨f,d,_⟩:=hT 0 (by decide)
   exact⟨f,d,λz=>absurd z h⟩
 let fa:Nat->Addr:=λi=>(hT i).choose
 let fd:Nat->FuncData:=λi=>(hT i).choose_spec.choose
 have hf:∀i,i<44->FT K mg fa fd i:=λi hi=>by
  obtain⟨a,b,c⟩:=(hT i).choose_spec.choose_spec hi;exact⟨a,b,c⟩
 have eL:fa 43=UL:=(Value.ref.inj (ud (WO.symm.trans (hf 43 (by decide)).m))).symm
 let cl:Nat->Addr:=λc=>[C0].getD c C0
 have T:Txt K mg cl fa fd:={
  n:=λx hx=>by
   obtain⟨i,hi,rfl⟩:=List.getElem_of_mem (List.contains_iff_mem.mp hx);have:=hB i hi;rw[List.getD,uc hi] at this;exact W.mg_none_of X G this
  f:=hf
  DH:=W.mg_of X G AV
  WM:=⟨P_.1.1,P_.1.2,P_.2.1,gs,tk,P_.2.2.1,P_.2.2.2,⟨_,WR⟩⟩
  nv:=d4 [((2:Int),jl),((-2:Int),jm)] (W.mg_of X G z_) Aa (show 2<=sizeLine by decide)
  zy:=d4 [((1:Int),qj),((-1:Int),qk)] (W.mg_of X G DI) DJ (show 2<=sizeLine by decide)
  B4:=HR (W.mg_of X G DK) (d5 (vs:=[.ref mf,.ref mj]) B5 (.cons rfl (.cons rfl .nil)) (.cons (d5 (vs:=[.ref mh,.ref mi]) B6 (.cons rfl (.cons rfl .nil)) (.cons (d5 (vs:=[.int (0),.int (1)]) B7 (.cons ⟨_,rfl⟩ (.cons ⟨_,rfl⟩ .nil)) (.cons cN (.cons cN .nil)) (show 2<=sizeLine by decide)) (.cons (d5 (vs:=[.int (2),.int (3)]) B8 (.cons ⟨_,rfl⟩ (.cons ⟨_,rfl⟩ .nil)) (.cons cN (.cons cN .nil)) (show 2<=sizeLine by decide)) .nil)) (show 2<=sizeLine by decide)) (.cons (d5 (vs:=[.ref mq,.ref kq]) B9 (.cons rfl (.cons rfl .nil)) (.cons (d5 (vs:=[.int (0),.int (3)]) B_ (.cons ⟨_,rfl⟩ (.cons ⟨_,rfl⟩ .nil)) (.cons cN (.cons cN .nil)) (show 2<=sizeLine by decide)) (.cons (d5 (vs:=[.int (1),.int (2)]) Bg (.cons ⟨_,rfl⟩ (.cons ⟨_,rfl⟩ .nil)) (.cons cN (.cons cN .nil)) (show 2<=sizeLine by decide)) .nil)) (show 2<=sizeLine by decide)) .nil)) (show 2<=sizeLine by decide))
  C':=d4 [((0:Int),sj),((-1:Int),sk),((0:Int),sr),((1:Int),sv)] (W.mg_of X G FD) FE (show 4<=sizeLine by decide)
 }
 refine⟨fd 43,cl,λs v=>?_,λbase kb nb hh=>?_⟩
 ·obtain⟨_,_,_,_,_,_,_,_,_,e,_⟩:=(hf 43 (by decide)).F.ex
  rw[e];exact .of_eq rfl
 rw[←eL];refine FC T (λ{c x} hc e=>e▸?_) j 43 (by decide)
 match c,hc with
 |0,_=>
  obtain⟨D,OD,_⟩:=Tp.ownAt WQ;cases OD.bound.symm.trans (W.mg_of X G AV);exact yP OD.own hh
 |n+1,h=>exact absurd h (by omega)
end L
namespace L
open Py
noncomputable def depth:Nat:=12
theorem n8(k:Nat)(ns:List Int)(i:Nat):bc prog (k+1) 24 [.gu ns,.int (i:Nat)]=.ok (.int (jj ns i)):=by
 show(ao (bc prog k) prog.dv 1000 C7 [some (false,.gu ns),some (false,.int (i:Nat))]).val=_;rw[zQ];rfl
theorem sU(k:Nat)(ns:List Int)(i:Nat):bc prog (k+2) 25 [.gu ns,.int (i:Nat)]=.ok (.int (ng ns i)):=by
 show(ao (bc prog (k+1)) prog.dv 1000 (C8 24) [some (false,.gu ns),some (false,.int (i:Nat))]).val=_;rw[pick_run ns i (n8 k ns 0)];rfl
theorem MS(k:Nat)(ns:List Int)(start m:Nat)(hm:m<=50):bc prog (k+3) 26 [.gu ns,.int (start:Nat),.int (m:Nat),.lst []]=.ok (.lst ((kg m (Be (λk=>ng ns (start+k)) (kf m [])).owner).map af)):=by
 show(ao (bc prog (k+2)) prog.dv 1000 (C9 25) [some (false,.gu ns),some (false,.int (start:Nat)),some (false,.int (m:Nat)),some (false,.lst (([]:List (Nat×Nat)).map pairD)),none,none,none,none,none]).val=_;rw[pU (by omega) (by simp) (by simp) (sU k ns) (by decide)];rfl
theorem eJ(k:Nat){R:List (List Int)}(h4:∀r∈R,r.length=4)(hL:R.length<=50):bc prog (k+1) 27 [.lst (R.map af)]=.ok (.tup ((gj R).map af)):=by
 show(ao (bc prog k) prog.dv 1000 rf [some (false,.lst (R.map af)),none,none,none,none]).val=_;have hf:=uN h4;rw[nK (aW (by simp;omega)) (λr hr=>by rw[h4 r hr];decide) (by omega) (by omega)];rfl
theorem uY(k:Nat)(x:Int):bc prog (k+1) 28 [.int x]=.ok (.bl true):=by
 show(ao (bc prog k) prog.dv 1000 CG [some (false,.int x)]).val=_;rw[wD];rfl
theorem Qa(k:Nat){R:List (List Int)}(h4:∀r∈R,r.length=4)(hL:R.length<=50):bc prog (k+1) 5 [.lst (R.map af),.int g]=.ok (eh (gj R) g):=by
 show(ao (bc prog k) prog.dv 1000 Mx [some (false,.lst (R.map af)),some (false,.int g),none,none,none,none]).val=_;have hf:=uN h4;rw[zW (aW (by simp;omega)) (λr hr=>by rw[h4 r hr];decide) (by omega) (by omega)];rfl
theorem FF(k:Nat)(h4:∀r∈Q,r.length=4)(hQ:Q.length<=50):bc prog (k+1) 0 [eh Q g,.int line]=if ba Q line=[] then .exc 0 else .ok (.tup ((ba Q line).map pairD)):=by
 show(ao (bc prog k) prog.dv 1000 (EY 0) [some (false,.tup [.tup (Q.map af),.int g]),some (false,.int line),none,none,none,none]).val=_;exact zT h4 (by omega)
theorem kN(k:Nat)(h4:∀r∈Q,r.length=4)(hQ:Q.length<=50):bc prog (k+1) 37 [.tup (Q.map af),.int line]=.ok (pairD (ak Q line)):=by
 show(ao (bc prog k) prog.dv 1000 yt [some (false,.tup (Q.map af)),some (false,.int line),none,none,none]).val=_;rw[sF h4 (by omega)];rfl
theorem FG(k:Nat)(hl:bb .list d0=.ok (.lst (Q.map af)))(h4:∀r∈Q,r.length=4)(hp:p.1<Q.length/\p.2<4):bc prog (k+1) 38 [d0,pairD p,.int v]=.ok (.lst ((fh Q p v).map af)):=by
 show(ao (bc prog k) prog.dv 1000 MA [some (false,d0),some (false,pairD p),some (false,.int v),none]).val=_;rw[IA hl h4 hp.1 hp.2];rfl
theorem QT(k:Nat)(ns:List Int)(start m:Nat)(hm:m<=50)(hl:fx.length<=1000)(hf:∀x∈fx,x.1<4*m/\x.2<4*m):bc prog (k+3) 26 [.gu ns,.int (start:Nat),.int (m:Nat),.lst (fx.map pairD)]=.ok (.lst ((kg m (Be (λk=>ng ns (start+k)) (kf m fx)).owner).map af)):=by
 show(ao (bc prog (k+2)) prog.dv 1000 (C9 25) [some (false,.gu ns),some (false,.int (start:Nat)),some (false,.int (m:Nat)),some (false,.lst (fx.map pairD)),none,none,none,none,none]).val=_;rw[pU (by omega) hl hf (sU k ns) (by decide)];rfl
theorem FI(k:Nat)(h4:∀r∈L,r.length=4)(h2:∀r∈P,r.length=2)(hL:L.length<=50)(hP:P.length<=50):bc prog (k+2) 7 [.lst (L.map af),.int g,.lst (P.map af)]=.ok (eh (gj (kn L g P).1) (kn L g P).2):=by
 show(ao (bc prog (k+1)) prog.dv 1000 (Bf 8 5) [some (false,.lst (L.map af)),some (false,.int g),some (false,.lst (P.map af)),none,none,none,none]).val=_;rw[sH (λR old new hR hr=>by
  show(ao (bc prog k) prog.dv 1000 zv [some (false,.lst (R.map af)),some (false,.int old),some (false,.int new)]).val=_;rw[p6 hR hr];rfl) (λR g h4 hL=>Qa k h4 hL) h4 h2 hL hP (by decide)];rfl
theorem wR(k:Nat)(hQ:Q.length<=50):bc prog (k+1) 6 [.tup (Q.map af),.tup (ai ks)]=.ok (.lst ((lx Q ks).map af)):=by
 show(ao (bc prog k) prog.dv 1000 zw [some (false,.tup (Q.map af)),some (false,.tup (ai ks))]).val=_;rw[p8 (by omega)];rfl
theorem S8(k:Nat):bc prog (k+1) 2 [eh Q g,.int x]=if x<0\/(Q.length:Int)<=x then .exc 0 else .ok (af (Q.getD x.toNat [])):=by
 show(ao (bc prog k) prog.dv 1000 (S0 0) [some (false,eh Q g),some (false,.int x)]).val=_;exact MD
theorem mE(a b:Nat×Nat):e_ (pairD a) (pairD b)=decide (a=b):=by
 obtain⟨a1,a2⟩:=a;obtain⟨b1,b2⟩:=b;have:e_ (pairD (a1,a2)) (pairD (b1,b2))=(((a1:Nat):Int)==(b1:Nat)&&(((a2:Nat):Int)==(b2:Nat)&&true)):=by simp[pairD,e_,nr]
 rw[this,Bool.eq_iff_iff];simp;omega
theorem wS(r:List Int)(x:Int):ai (r++[x])=ai r++[.int x]:=by simp[ai]
theorem fP(a b:Nat×Nat):ae .ne (pairD a) (pairD b)=.ok (.bl (!decide (a=b))):=by
 show(if(dj 9 (pairD a)&&dj 9 (pairD b)&&Bm (pairD a) (pairD b))=true then Py.R.ok (D.bl (!e_ (pairD a) (pairD b))) else Py.R.bad)=_;rw[mE];rfl
theorem qL(a b:Nat×Nat):ae .eq (pairD a) (pairD b)=.ok (.bl (decide (a=b))):=by
 show(if(dj 9 (pairD a)&&dj 9 (pairD b)&&Bm (pairD a) (pairD b))=true then Py.R.ok (D.bl (e_ (pairD a) (pairD b))) else Py.R.bad)=_;rw[mE];rfl
theorem g7(p:Nat×Nat):ae .at (pairD p) (.int 0)=.ok (.int (p.1:Nat)):=rfl
theorem g8(p:Nat×Nat):ae .at (pairD p) (.int 1)=.ok (.int (p.2:Nat)):=rfl
theorem n9(s:ax Q m)(h:j_ m p):ae .at (.tup (Q.map af)) (.int (p.1:Nat))=.ok (af (Q.getD p.1 [])):=by
 rw[zO,dG (by rw[s.len];exact h.1),jV]
theorem sV(s:ax Q m)(h:j_ m p):ae .at (af (Q.getD p.1 [])) (.int (p.2:Nat))=.ok (.int (aq Q p)):=by
 have h1:p.1<Q.length:=by rw[s.len];exact h.1
 have:(Q.getD p.1 []).length=4:=by
  rw[show Q.getD p.1 []=Q[p.1] by simp[h1]];exact s.four _ (yn h1)
 rw[af,zO,j4 (by rw[this];exact h.2),jV];rfl
theorem m4(x:Int):ae .mod (.int x) (.int 4)=.ok (.int (x%4)):=dP _ _ (by decide)
theorem QU(p:Nat×Nat):D.tup [.int (p.1:Nat),.int (((p.2:Nat):Int)+2)]=D.tup [.int (p.1:Nat),.int (((p.2:Nat):Int)+2)]:=rfl
theorem uZ(p:Nat×Nat):D.tup [.int (p.1:Nat),.int ((((p.2:Nat):Int)+2)%4)]=pairD (ij p):=by
 rw[show((((p.2:Nat):Int)+2)%4)=(((p.2+2)%4:Nat):Int) by omega];rfl
theorem mF(k:Nat)(s:ax Q m)(h:j_ m p):bc prog (k+1) 3 [.tup (Q.map af),pairD p]=.ok (.int (aq Q p)):=by
 show(ao (bc prog k) prog.dv 1000 gM [some (false,.tup (Q.map af)),some (false,pairD p)]).val=_;have r:=n9 s h;have e:=sV s h;generalize D.tup (Q.map af)=T at*;generalize af (Q.getD p.1 [])=W at*;simp only[gM,ao,bg,ev,av,aa,cg,bx,Zc,Zf,Zk,Zl,Zq,b_,g7,g8,r,e];rfl
theorem sW(k:Nat)(p:Nat×Nat):bc prog (k+1) 4 [pairD p]=.ok (pairD (ij p)):=by
 show(ao (bc prog k) prog.dv 1000 eD [some (false,pairD p)]).val=_;simp only[eD,ao,bg,ev,cv,av,aa,ag,cg,bx,Zc,Zf,Zk,Zq,b_,ZA,g7,g8,m4,uZ];rfl
theorem u0(k:Nat)(s:ax Q m)(hm:m<=10)(h:j_ m p):bc prog (k+2) 15 [eh Q g,pairD p]=.ok (pairD (dm Q p)):=by
 have hl:=mF k s h;have he:=FF k (g:=g) (line:=aq Q p) s.four (by rw[s.len];omega);have a0:ae .at (eh Q g) (.int 0)=.ok (.tup (Q.map af)):=rfl;obtain⟨q,e,qd,_,_,hq⟩:=s.pair h;rw[e];show(ao (bc prog (k+1)) prog.dv 1000 iP [some (false,eh Q g),some (false,pairD p),none]).val=_;rcases hq with hq|hq
 ·rw[az (by rw[hq];simp),hq,fu,fu,Bl] at he
  have z:decide (p=p)=true:=Ad rfl;simp only[iP,ao,bg,fe,ev,cv,av,cq,aj,aa,ag,cg,bx,Za,Zc,ay,bj,Ze,Zf,Zi,Zj,Zk,Zl,Zo,Zp,Zq,b_,df,gV,Zu,ZJ,a0,hl,he,l8,j6,qL,z];rfl
 ·rw[az (by rw[hq];simp),hq,fu,fu,Bl] at he
  have z:decide (q=p)=false:=Al qd;simp only[iP,ao,bg,fe,ev,cv,av,cq,aj,aa,ag,cg,bx,Za,Zc,ay,bj,Ze,Zf,Zi,Zj,Zk,Zl,Zo,Zp,Zq,b_,df,gV,Zu,ZJ,a0,hl,he,l8,j6,qL,z];rfl
theorem qM(k:Nat)(s:ax Q m)(hm:m<=10)(h:j_ m p):bc prog (k+3) 14 [eh Q g,pairD p]=.ok (pairD (DD Q p)):=by
 have h1:=sW (k+1) p;have h2:=u0 k (g:=g) s hm (aZ h);show(ao (bc prog (k+2)) prog.dv 1000 kJ [some (false,eh Q g),some (false,pairD p)]).val=_;simp only[kJ,ao,bg,ev,cv,av,cq,aa,ag,cg,bx,Zc,Zf,Zk,Zl,Zo,Zp,Zq,df,gV,h1,h2];rfl
theorem u8(n:Nat)(I:Nat->gk->Prop)(j:Nat)(hj:j<n)(h:∀i,i<j->∀δ,I i δ->∃δ',f (.int (i:Nat)) δ=.nx δ'/\I (i+1) δ')(hr:∀δ,I j δ->f (.int (j:Nat)) δ=.rt d)(δ:gk)(q:I 0 δ):forM f (cj 0 n) δ=.rt d:=by
 have gen:∀(xs:List D)(a:Nat) δ,a<=j->I a δ->(∀i,a<=i->i<=j->∃h:i-a<xs.length,xs[i-a]=.int (i:Nat))->forM f xs δ=.rt d:=by
  intro xs
  induction xs with
  |nil=>intro a δ ha _ hx;obtain⟨h,_⟩:=hx j ha (fm _);cases h
  |cons x r ih=>
   intro a δ ha ia hx;obtain⟨_,e⟩:=hx a (fm _) ha;have e:x=.int (a:Nat):=by simpa using e
   rw[Py.forM.eq_2,e];by_cases WT:a=j
   ·subst WT
    rw[hr δ ia]
   ·obtain⟨δ',e',i'⟩:=h a (by omega) δ ia
    rw[e'];refine ih (a+1) δ' (by omega) i' λi h1 h2=>?_;obtain⟨hh,ee⟩:=hx i (by omega) h2;obtain⟨c,hc⟩:∃c,i-a=c+1:=⟨i-a-1,by omega⟩
    refine⟨by simp only[gm] at hh;omega,?_⟩;simp only[hc,List.getElem_cons_succ] at ee;simp only[show i-(a+1)=c by omega];exact ee
 refine gen (cj 0 n) 0 δ (DQ _) q λi _ hi=>⟨by rw[d9];omega,?_⟩
 simp[cj]
theorem IQ(k:Nat)(s:ax Q m)(hm:m<=10)(h:j_ m p):bc prog (k+1) 29 [.tup (Q.map af),pairD p]=.ok (pairD (dm Q p)):=by
 show(ao (bc prog k) prog.dv 1000 eF [some (false,.tup (Q.map af)),some (false,pairD p),none,none,none]).val=_;have cell:∀a b:Nat,a<m->b<4->ae .at (.tup (Q.map af)) (.int (a:Nat))=.ok (af (Q.getD a []))/\ae .at (af (Q.getD a [])) (.int (b:Nat))=.ok (.int (aq Q (a,b))):=λa b ha hb=>⟨n9 s (p:=(a,b)) ⟨ha,hb⟩,sV s (p:=(a,b)) ⟨ha,hb⟩⟩
 have hlen:bb .len (.tup (Q.map af))=.ok (.int (m:Nat)):=by rw[nG,dz,s.len]
 have r0:=n9 s h;have r1:=sV s h;have mo:=s.ve h;have ml:=s.jr h;have mn:=s.yu h;have only:=λa b (ha:a<m)(hb:b<4)=>s.ky (q:=(a,b)) h ⟨ha,hb⟩;generalize dm Q p=q at*;generalize D.tup (Q.map af)=T at*;have e1:bg (bc prog k) prog.dv 1000 (.asg 2 (.ae .at (.ae .at (.var 0) (.ae .at (.var 1) (.cst (.int 0)))) (.ae .at (.var 1) (.cst (.int 1))))) [some (false,T),some (false,pairD p),none,none,none]=.nx [some (false,T),some (false,pairD p),some (false,.int (aq Q p)),none,none]:=by
  generalize af (Q.getD p.1 [])=W at*;simp only[bg,ev,av,aa,cg,bx,Zc,ay,bj,Zf,Zi,Zj,Zk,Zl,Zq,b_,Zu,g7,g8,r0,r1]
 have Qb:∀a b:Nat,D.tup [.int (a:Nat),.int (b:Nat)]=pairD (a,b):=λ_ _=>rfl;have miss:∀a b:Nat,a<m->b<4->(a,b)≠q->∀c4,cz (bc prog k) prog.dv 1000 [4] [(.ite (.and (.leaf (.ae .eq (.ae .at (.ae .at (.var 0) (.var 3)) (.var 4)) (.var 2))) (.leaf (.ae .ne (.tup [(.var 3),(.var 4)]) (.var 1)))) [(.ret (.tup [(.var 3),(.var 4)]))] [])] (.int (b:Nat)) [some (false,T),some (false,pairD p),some (false,.int (aq Q p)),some (false,.int (a:Nat)),c4]=.nx [some (false,T),some (false,pairD p),some (false,.int (aq Q p)),some (false,.int (a:Nat)),some (false,.int (b:Nat))]:=by
  intro a b ha hb hq c4;obtain⟨ca,cb⟩:=cell a b ha hb;generalize af (Q.getD a [])=W at*;by_cases hl:aq Q (a,b)=aq Q p
  ·have hp:(a,b)=p:=(only a b ha hb hl).resolve_right hq
   have z1:(aq Q (a,b)==aq Q p)=true:=by simpa using hl
   have z2:decide ((a,b)=p)=true:=Ad hp;simp only[cz,ao,bg,fe,ev,cv,av,cq,aj,aa,ag,cg,bx,Za,Zc,Py.sets,spread,Zf,Zi,Zj,Zk,Zl,Zo,Zp,Zq,b_,df,gV,Zv,ZG,ca,cb,z1,Qb,fP,z2,gm,ny,qb]
  ·have z1:(aq Q (a,b)==aq Q p)=false:=by simpa using hl
   simp only[cz,ao,bg,fe,ev,cv,av,cq,aj,aa,ag,cg,bx,Za,Zc,Py.sets,spread,Zf,Zi,Zj,Zk,Zl,Zo,Zp,Zq,b_,df,gV,ZG,ca,cb,z1,gm,ny,qb]
 have hit:∀c4,cz (bc prog k) prog.dv 1000 [4] [(.ite (.and (.leaf (.ae .eq (.ae .at (.ae .at (.var 0) (.var 3)) (.var 4)) (.var 2))) (.leaf (.ae .ne (.tup [(.var 3),(.var 4)]) (.var 1)))) [(.ret (.tup [(.var 3),(.var 4)]))] [])] (.int (q.2:Nat)) [some (false,T),some (false,pairD p),some (false,.int (aq Q p)),some (false,.int (q.1:Nat)),c4]=.rt (pairD q):=by
  intro c4;obtain⟨ca,cb⟩:=cell q.1 q.2 mo.1 mo.2;have z1:(aq Q (q.1,q.2)==aq Q p)=true:=by simpa using ml
  have z2:decide ((q.1,q.2)=p)=false:=Al mn;generalize af (Q.getD q.1 [])=W at*;simp only[cz,ao,bg,fe,ev,cv,av,cq,aj,aa,ag,cg,bx,Za,Zc,Py.sets,spread,Zf,Zi,Zj,Zk,Zl,Zo,Zp,Zq,b_,df,gV,Zw,ZG,ca,cb,z1,Qb,fP,z2,gm,ny,qb]
 have e2:bg (bc prog k) prog.dv 1000 (.loop .g_ [(.bb .len (.var 0))] [3] [(.loop .g_ [(.cst (.int 4))] [4] [(.ite (.and (.leaf (.ae .eq (.ae .at (.ae .at (.var 0) (.var 3)) (.var 4)) (.var 2))) (.leaf (.ae .ne (.tup [(.var 3),(.var 4)]) (.var 1)))) [(.ret (.tup [(.var 3),(.var 4)]))] [])])]) [some (false,T),some (false,pairD p),some (false,.int (aq Q p)),none,none]=.rt (pairD q):=by
  rw[fG (xs:=cj 0 m) (by simp only[ev,cv,av,aa,ag,cg,bx,Zf,Zk,Zq,b_,hlen];exact aK (by omega))];refine u8 m (λ_ δ=>∃c3 c4,δ=[some (false,T),some (false,pairD p),some (false,.int (aq Q p)),c3,c4]) q.1 mo.1 ?_ ?_ _ ⟨none,none,by rfl⟩
  ·rintro a ha δ ⟨c3,c4,rfl⟩
   obtain⟨δ',e,c,rfl⟩:=bC (Φ:=bc prog k) (G:=prog.dv) (n:=1000) (its:=[(.cst (.int 4))]) (tg:=[4]) (body:=[(.ite (.and (.leaf (.ae .eq (.ae .at (.ae .at (.var 0) (.var 3)) (.var 4)) (.var 2))) (.leaf (.ae .ne (.tup [(.var 3),(.var 4)]) (.var 1)))) [(.ret (.tup [(.var 3),(.var 4)]))] [])]) (δ:=[some (false,T),some (false,pairD p),some (false,.int (aq Q p)),some (false,.int (a:Nat)),c4]) (m:=4) (by simp only[ev,cv,Zf];exact aK (by decide))
    (λ_ δ=>∃c,δ=[some (false,T),some (false,pairD p),some (false,.int (aq Q p)),some (false,.int (a:Nat)),c]) ⟨c4,rfl⟩ (by
     rintro b hb δ ⟨c,rfl⟩;exact⟨_,miss a b (by have:=mo.1;omega) hb (λe=>by have:=congrArg Prod.fst e;simp only at this;omega) c,_,rfl⟩)
   refine⟨_,?_,some (false,.int (a:Nat)),c,rfl⟩;simp only[cz,spread,gm,ny,qb,b_,Py.sets,D5,DL];rw[aC e];rfl
  ·rintro δ ⟨c3,c4,rfl⟩
   have:bg (bc prog k) prog.dv 1000 (.loop .g_ [(.cst (.int 4))] [4] [(.ite (.and (.leaf (.ae .eq (.ae .at (.ae .at (.var 0) (.var 3)) (.var 4)) (.var 2))) (.leaf (.ae .ne (.tup [(.var 3),(.var 4)]) (.var 1)))) [(.ret (.tup [(.var 3),(.var 4)]))] [])]) [some (false,T),some (false,pairD p),some (false,.int (aq Q p)),some (false,.int (q.1:Nat)),c4]=.rt (pairD q):=by
    rw[fG (xs:=cj 0 4) (by simp only[ev,cv,Zf];exact aK (by decide))];refine u8 4 (λ_ δ=>∃c,δ=[some (false,T),some (false,pairD p),some (false,.int (aq Q p)),some (false,.int (q.1:Nat)),c]) q.2 mo.2 ?_ ?_ _ ⟨c4,by rfl⟩
    ·rintro b hb δ ⟨c,rfl⟩
     exact⟨_,miss q.1 b mo.1 (by have:=mo.2;omega) (λe=>by have:=congrArg Prod.snd e;simp only at this;omega) c,_,rfl⟩
    ·rintro δ ⟨c,rfl⟩
     exact hit c
   simp only[cz,spread,gm,ny,qb,b_,Py.sets,D5,DL];exact bN this
 unfold eF;rw[aC e1,bN e2];rfl
theorem MT(s:ax Q m)(h:j_ m a):∃z:Nat×(Nat×Nat),z.1<4*m/\EZ Q m a z.2 z.1:=by
 obtain⟨t,c,h1,h2⟩:=s.ret h;exact⟨(t,c),h1,h2⟩
open Classical in
noncomputable def Dc(Q:List (List Int))(m:Nat)(a:Nat×Nat):Nat×(Nat×Nat):=if h:∃z:Nat×(Nat×Nat),z.1<4*m/\EZ Q m a z.2 z.1 then h.choose else(0,a)
theorem oA(s:ax Q m)(h:j_ m a):(Dc Q m a).1<4*m/\EZ Q m a (Dc Q m a).2 (Dc Q m a).1:=by
 have hx:=MT s h;unfold Dc;rw[dif_pos hx];exact hx.choose_spec
noncomputable def Bq(Q:List (List Int))(m i:Nat):Int:=km (Dc Q m (i,2)).2.2
theorem FJ(h:e<4):ae .at (.tup [.int 0,.int (-1),.int 0,.int 1]) (.int (e:Nat))=.ok (.int (km e)):=by
 have:e=0\/e=1\/e=2\/e=3:=by omega
 rcases this with rfl|rfl|rfl|rfl<;>rfl
theorem u9(i:Nat):D.tup [.int (i:Nat),.int 2]=pairD (i,2):=rfl
theorem sX(h:i<m):j_ m (i,2):=⟨h,show 2<4 by decide⟩
theorem MU(k:Nat)(s:ax Q m)(hm:m<=10)(hi:i<m):bc prog (k+4) 13 [eh Q g,.int (i:Nat)]=.ok (.int (Bq Q m i)):=by
 have ok:=sX hi;obtain⟨ht,r⟩:=oA s ok;have al:bc prog (k+3) 15 [eh Q g,.tup [.int (i:Nat),.int 2]]=.ok (pairD (jh Q (i,2) 0)):=by
  have z:=u0 (k+1) (g:=g) s hm ok;rw[s.BZ ok,u9];exact z
 have on:=λj=>qM k (g:=g) s hm (s.CJ ok j);have gl:vh prog.dv[1]?=.ok (.tup [.int 0,.int (-1),.int 0,.int 1]):=rfl;have h4:(Dc Q m (i,2)).2.2<4:=by rw[←r.hit];exact(s.CJ ok _).2
 have F_:=FJ h4;unfold Bq;generalize (Dc Q m (i,2)).2=w at*;generalize (Dc Q m (i,2)).1=t at*;show(ao (bc prog (k+3)) prog.dv 1000 sP [some (false,eh Q g),some (false,.int (i:Nat)),none]).val=_;have e1:bg (bc prog (k+3)) prog.dv 1000 (.asg 2 (.call 15 [(.var 0),(.tup [(.var 1),(.cst (.int 2))])])) [some (false,eh Q g),some (false,.int (i:Nat)),none]=.nx [some (false,eh Q g),some (false,.int (i:Nat)),some (false,pairD (jh Q (i,2) 0))]:=by
  simp only[bg,ev,cv,av,cq,aa,ag,cg,bx,Zc,ay,bj,Zf,Zi,Zj,Zk,Zl,Zo,Zp,Zq,df,gV,Zu,al]
 have e2:bg (bc prog (k+3)) prog.dv 1000 (.Cd (.leaf (.ae .ne (.ae .at (.var 2) (.cst (.int 0))) (.var 1))) [(.asg 2 (.call 14 [(.var 0),(.var 2)]))]) [some (false,eh Q g),some (false,.int (i:Nat)),some (false,pairD (jh Q (i,2) 0))]=.nx [some (false,eh Q g),some (false,.int (i:Nat)),some (false,pairD (jh Q (i,2) t))]:=by
  rw[bg];refine dE (c:=fe (bc prog (k+3)) prog.dv (.leaf (.ae .ne (.ae .at (.var 2) (.cst (.int 0))) (.var 1)))) (fz:=av (aj (.leaf (.ae .ne (.ae .at (.var 2) (.cst (.int 0))) (.var 1))))) (b:=ao (bc prog (k+3)) prog.dv 1000 [(.asg 2 (.call 14 [(.var 0),(.var 2)]))]) t 1000 (λj=>[some (false,eh Q g),some (false,.int (i:Nat)),some (false,pairD (jh Q (i,2) j))]) (by omega) (λj hj=>?_) ?_
  ·have z:((((jh Q (i,2) j).1:Nat):Int)==(i:Nat))=false:=by
    have:(jh Q (i,2) j).1≠i:=r.first j hj;simp;omega
   have o1:bc prog (k+3) 14 [eh Q g,pairD (jh Q (i,2) j)]=.ok (pairD (jh Q (i,2) (j+1))):=on j;exact⟨by simp only[fe,ev,av,aj,aa,cg,bx,Za,Zf,Zk,Zl,Zq,b_,Zw,ZH,g7,z],by simp only[ao,bg,ev,cv,av,cq,aj,aa,ag,cg,bx,Zc,ay,bj,Zf,Zi,Zj,Zk,Zl,Zo,Zp,Zq,b_,df,gV,Zu,o1]⟩
  ·have z:((((jh Q (i,2) t).1:Nat):Int)==(i:Nat))=true:=by
    have:(jh Q (i,2) t).1=i:=by rw[r.hit];exact r.CI
    simp;omega
   simp only[fe,ev,av,aj,aa,cg,bx,Za,Zf,Zk,Zl,Zq,b_,Zv,ZH,g7,z]
 unfold sP;rw[aC e1,aC e2,r.hit];simp only[ao,bg,ev,av,aa,cg,bx,Zf,Zk,Zl,Zq,b_,ZJ,gl,g8];have:ae .at (.tup [.int 0,.int (-1),.int 0,.int 1]) (.int (w.2:Nat))=vh (rn [D.int 0,.int (-1),.int 0,.int 1] (w.2:Nat)):=rfl;rw[this] at F_;rw[F_];rfl
theorem kO:∀xs:List Int,A8 (ai xs)=some xs.sum
 |[]=>rfl
 |x::r=>by
  show(A8 (ai r)).map (x+·)=_;rw[kO r];simp
theorem sY(e:Nat): -1<=km e/\km e<=1:=by
 unfold km;split
 ·omega
 ·split<;>omega
noncomputable def IS(Q:List (List Int))(m:Nat):Int:=((List.range m).map (Bq Q m)).sum
theorem IT(k:Nat)(s:ax Q m)(hm:m<=10):bc prog (k+5) 11 [eh Q g]=.ok (.int (IS Q m)):=by
 show(ao (bc prog (k+4)) prog.dv 1000 nY [some (false,eh Q g)]).val=_;have a0:ae .at (eh Q g) (.int 0)=.ok (.tup (Q.map af)):=rfl;have hl:((Q.map af).length:Int)=(m:Nat):=by rw[dz,s.len]
 have e1:ev (bc prog (k+4)) prog.dv true (.comp .g_ [(.bb .len (.ae .at (.var 0) (.cst (.int 0))))] [0] 1 none (.call 13 [(.var 1),(.var 0)])) [some (false,eh Q g)]=.ok (.lst ((List.range m).map λi=>D.int (Bq Q m i))):=by
  refine cY (a:=λi:Nat=>D.int (i:Nat)) (λi=>D.int (Bq Q m i)) ?_ λi hi=>?_
  ·simp only[ev,cv,cg,bx,Zf,Zk,b_,ZM,a0]
   rw[bM hl (by omega),cW];rfl
  ·have:=MU k (g:=g) s hm (List.mem_range.mp hi)
   simp only[ev,cv,cg,bx,dk,Zf,Zk,Zl,Zm,Zn,df,gV,Zx,this]
 have e2:bb .sum (.lst ((List.range m).map λi=>D.int (Bq Q m i)))=.ok (.int (IS Q m)):=by
  have ee:((List.range m).map λi=>D.int (Bq Q m i))=ai ((List.range m).map (Bq Q m)):=by simp[ai]
  rw[ee];show(if(ai ((List.range m).map (Bq Q m))).length<=1000/\(ai ((List.range m).map (Bq Q m))).all tf=true then vh ((A8 (ai ((List.range m).map (Bq Q m)))).map .int) else .bad)=_;rw[bp ⟨by simp[ai];omega,by
   rw[List.all_eq_true];intro d hd;simp only[ai,Ck] at hd;obtain⟨x,⟨i,_,rfl⟩,rfl⟩:=hd;have:=sY (Dc Q m (i,2)).2.2;show decide (-1000000<=km _/\km _<=1000000)=true;exact Ad (by omega)⟩,kO]
  rfl
 have e3:ev (bc prog (k+4)) prog.dv false (.bb .sum (.comp .g_ [(.bb .len (.ae .at (.var 0) (.cst (.int 0))))] [0] 1 none (.call 13 [(.var 1),(.var 0)]))) [some (false,eh Q g)]=.ok (.int (IS Q m)):=by
  rw[ev,e1,bA,e2]
 unfold nY;rw[ao,dF (v:=.int (IS Q m)) e3];rfl
theorem qN(k:Nat)(s:ax Q m)(hm:m<=10):bc prog (k+2) 30 [.tup (Q.map af)]=.ok (.int (IS Q m)):=by
 show(ao (bc prog (k+1)) prog.dv 1000 cZ [some (false,.tup (Q.map af)),none,none,none]).val=_;have hlen:bb .len (.tup (Q.map af))=.ok (.int (m:Nat)):=by rw[nG,dz,s.len]
 have lm:=λ(p:Nat×Nat)(h:j_ m p)=>IQ k s hm h;generalize D.tup (Q.map af)=T at*;have e1:bg (bc prog (k+1)) prog.dv 1000 (.asg 1 (.cst (.int 0))) [some (false,T),none,none,none]=.nx [some (false,T),some (false,.int 0),none,none]:=by
  simp only[bg,ev,av,aa,Zc,ay,bj,Zi,Zj,Zu]
 have step:∀i,i<m->∀δ,(∃c2 c3,δ=[some (false,T),some (false,.int ((List.range i).map (Bq Q m)).sum),c2,c3])->∃δ',cz (bc prog (k+1)) prog.dv 1000 [2] [(.asg 3 (.call 29 [(.var 0),(.tup [(.var 2),(.cst (.int 2))])])),(.Cd (.leaf (.ae .ne (.ae .at (.var 3) (.cst (.int 0))) (.var 2))) [(.asg 3 (.call 29 [(.var 0),(.tup [(.ae .at (.var 3) (.cst (.int 0))),(.ae .mod (.ae .add (.ae .at (.var 3) (.cst (.int 1))) (.cst (.int 2))) (.cst (.int 4)))])]))]),(.ite (.leaf (.ae .eq (.ae .at (.var 3) (.cst (.int 1))) (.cst (.int 3)))) [(.asg 1 (.ae .add (.var 1) (.cst (.int 1))))] []),(.ite (.leaf (.ae .eq (.ae .at (.var 3) (.cst (.int 1))) (.cst (.int 1)))) [(.asg 1 (.ae .sub (.var 1) (.cst (.int 1))))] [])] (.int (i:Nat)) δ=.nx δ'/\∃c2 c3,δ'=[some (false,T),some (false,.int ((List.range (i+1)).map (Bq Q m)).sum),c2,c3]:=by
  rintro i hi δ ⟨c2,c3,rfl⟩;have ok:=sX hi;obtain⟨ht,r⟩:=oA s ok;have al:bc prog (k+1) 29 [T,.tup [.int (i:Nat),.int 2]]=.ok (pairD (jh Q (i,2) 0)):=by
   have z:=lm _ ok;rw[s.BZ ok,u9];exact z
  have on:∀j,bc prog (k+1) 29 [T,pairD (ij (jh Q (i,2) j))]=.ok (pairD (jh Q (i,2) (j+1))):=λj=>lm _ (aZ (s.CJ ok j));have es:((List.range (i+1)).map (Bq Q m)).sum=((List.range i).map (Bq Q m)).sum+km (Dc Q m (i,2)).2.2:=by
   rw[Df,Ac,List.sum_append];simp[Bq]
  rw[es];generalize ((List.range i).map (Bq Q m)).sum=F at*;generalize (Dc Q m (i,2)).2=w at*;generalize (Dc Q m (i,2)).1=t at*;have f1:bg (bc prog (k+1)) prog.dv 1000 (.asg 3 (.call 29 [(.var 0),(.tup [(.var 2),(.cst (.int 2))])])) [some (false,T),some (false,.int F),some (false,.int (i:Nat)),c3]=.nx [some (false,T),some (false,.int F),some (false,.int (i:Nat)),some (false,pairD (jh Q (i,2) 0))]:=by
   simp only[bg,ev,cv,av,cq,aa,ag,cg,bx,Zc,ay,bj,Zf,Zi,Zj,Zk,Zl,Zo,Zp,Zq,df,gV,Zu,al]
  have f2:bg (bc prog (k+1)) prog.dv 1000 (.Cd (.leaf (.ae .ne (.ae .at (.var 3) (.cst (.int 0))) (.var 2))) [(.asg 3 (.call 29 [(.var 0),(.tup [(.ae .at (.var 3) (.cst (.int 0))),(.ae .mod (.ae .add (.ae .at (.var 3) (.cst (.int 1))) (.cst (.int 2))) (.cst (.int 4)))])]))]) [some (false,T),some (false,.int F),some (false,.int (i:Nat)),some (false,pairD (jh Q (i,2) 0))]=.nx [some (false,T),some (false,.int F),some (false,.int (i:Nat)),some (false,pairD (jh Q (i,2) t))]:=by
   rw[bg];refine dE (c:=fe (bc prog (k+1)) prog.dv (.leaf (.ae .ne (.ae .at (.var 3) (.cst (.int 0))) (.var 2)))) (fz:=av (aj (.leaf (.ae .ne (.ae .at (.var 3) (.cst (.int 0))) (.var 2))))) (b:=ao (bc prog (k+1)) prog.dv 1000 [(.asg 3 (.call 29 [(.var 0),(.tup [(.ae .at (.var 3) (.cst (.int 0))),(.ae .mod (.ae .add (.ae .at (.var 3) (.cst (.int 1))) (.cst (.int 2))) (.cst (.int 4)))])]))]) t 1000 (λj=>[some (false,T),some (false,.int F),some (false,.int (i:Nat)),some (false,pairD (jh Q (i,2) j))]) (by omega) (λj hj=>?_) ?_
   ·have z:((((jh Q (i,2) j).1:Nat):Int)==(i:Nat))=false:=by
     have:(jh Q (i,2) j).1≠i:=r.first j hj;simp;omega
    have o1:=on j;exact⟨by simp only[fe,ev,av,aj,aa,cg,bx,Za,Zf,Zk,Zl,Zq,b_,Zw,ZH,g7,z],by simp only[ao,bg,ev,cv,av,cq,aj,aa,ag,cg,bx,Zc,ay,bj,Zf,Zi,Zj,Zk,Zl,Zq,b_,df,gV,Zu,ZA,g7,g8,m4,uZ,o1]⟩
   ·have z:((((jh Q (i,2) t).1:Nat):Int)==(i:Nat))=true:=by
     have:(jh Q (i,2) t).1=i:=by rw[r.hit];exact r.CI
     simp;omega
    simp only[fe,ev,av,aj,aa,cg,bx,Za,Zf,Zk,Zl,Zq,b_,Zv,ZH,g7,z]
  have WU:ao (bc prog (k+1)) prog.dv 1000 [(.ite (.leaf (.ae .eq (.ae .at (.var 3) (.cst (.int 1))) (.cst (.int 3)))) [(.asg 1 (.ae .add (.var 1) (.cst (.int 1))))] []),(.ite (.leaf (.ae .eq (.ae .at (.var 3) (.cst (.int 1))) (.cst (.int 1)))) [(.asg 1 (.ae .sub (.var 1) (.cst (.int 1))))] [])] [some (false,T),some (false,.int F),some (false,.int (i:Nat)),some (false,pairD w)]=.nx [some (false,T),some (false,.int (F+km w.2)),some (false,.int (i:Nat)),some (false,pairD w)]:=by
   unfold km;by_cases h3:w.2=3
   ·have z1:(((w.2:Nat):Int)==3)=true:=by simp;omega
    have z2:(((w.2:Nat):Int)==1)=false:=by simp;omega
    rw[bp h3];simp only[ao,bg,fe,ev,av,aj,aa,cg,bx,Za,Zc,ay,bj,Zf,Zi,Zj,Zk,Zl,Zq,b_,df,gV,Zt,Zu,ZA,ZB,ZG,g8,z1,z2]
   ·have z1:(((w.2:Nat):Int)==3)=false:=by simp;omega
    rw[az h3];by_cases h1:w.2=1
    ·have z2:(((w.2:Nat):Int)==1)=true:=by simp;omega
     rw[bp h1,show F+ -1=F-1 by omega];simp only[ao,bg,fe,ev,av,aj,aa,cg,bx,Za,Zc,ay,bj,Zf,Zi,Zj,Zk,Zl,Zq,b_,df,gV,Zt,Zu,ZA,ZB,ZG,g8,z1,z2]
    ·have z2:(((w.2:Nat):Int)==1)=false:=by simp;omega
     rw[az h1,Int.add_zero];simp only[ao,bg,fe,ev,av,aj,aa,cg,bx,Za,Zc,ay,bj,Zf,Zi,Zj,Zk,Zl,Zq,b_,df,gV,Zt,Zu,ZA,ZB,ZG,g8,z1,z2]
  refine⟨_,?_,some (false,.int (i:Nat)),some (false,pairD w),rfl⟩;simp only[cz,spread,gm,ny,qb,b_,Py.sets,D5,DL];rw[aC f1,aC f2,r.hit];exact WU
 obtain⟨δ',e2,c2,c3,rfl⟩:=bC (Φ:=bc prog (k+1)) (G:=prog.dv) (n:=1000) (its:=[(.bb .len (.var 0))]) (tg:=[2]) (body:=[(.asg 3 (.call 29 [(.var 0),(.tup [(.var 2),(.cst (.int 2))])])),(.Cd (.leaf (.ae .ne (.ae .at (.var 3) (.cst (.int 0))) (.var 2))) [(.asg 3 (.call 29 [(.var 0),(.tup [(.ae .at (.var 3) (.cst (.int 0))),(.ae .mod (.ae .add (.ae .at (.var 3) (.cst (.int 1))) (.cst (.int 2))) (.cst (.int 4)))])]))]),(.ite (.leaf (.ae .eq (.ae .at (.var 3) (.cst (.int 1))) (.cst (.int 3)))) [(.asg 1 (.ae .add (.var 1) (.cst (.int 1))))] []),(.ite (.leaf (.ae .eq (.ae .at (.var 3) (.cst (.int 1))) (.cst (.int 1)))) [(.asg 1 (.ae .sub (.var 1) (.cst (.int 1))))] [])]) (δ:=[some (false,T),some (false,.int 0),none,none]) (m:=m) (by simp only[ev,cv,av,aa,ag,cg,bx,Zf,Zk,Zq,b_,hlen];exact aK (by omega))
  (λi δ=>∃c2 c3,δ=[some (false,T),some (false,.int ((List.range i).map (Bq Q m)).sum),c2,c3]) ⟨none,none,rfl⟩ step
 unfold cZ;rw[aC e1,aC e2];simp only[ao,bg,ev,av,cq,aa,cg,bx,Zc,Zk,Zl,df,gV];rfl
theorem vA(k:Nat)(h4:∀r∈Q,r.length=4)(hQ:Q.length<=50)(hn:Q≠[])(hw:w=0\/w=1):bc prog (k+3) 1 [eh Q g,.int 0,.int w]=.ok (fk (Gb w (Q,g))):=by
 obtain⟨r,R,rfl⟩:=List.exists_cons_of_ne_nil hn;have ha:=S8 (k+1) (Q:=r::R) (g:=g) (x:=0);rw[az (by simp only[gm];omega)] at ha;have wo:lx (r::R) [0]=R:=p7 (k:=0) (by simp);have Ng:=wR (k+1) (ks:=[0]) hQ;rw[wo] at Ng;obtain⟨q1,q2⟩:=p9 r w;have hj:=FI k (g:=g) (λq hq=>h4 q (o_ _ hq)) q2 (by simp only[gm] at hQ;omega) (by omega);have e2:ev (bc prog (k+2)) prog.dv false (.comp .seq [(.ae .at (.glob 0) (.var 2))] [3] 2 none (.tup [(.ae .at (.var 2) (.var 0)),(.ae .at (.var 2) (.var 1))])) [some (false,eh (r::R) g),some (false,.int 0),some (false,.int w),some (false,af r),none]=.ok (.lst ((wj r w).map af)):=by
  obtain⟨a,b,c,d,rfl⟩:=DC (h4 r (by simp));rcases hw with rfl|rfl<;>rfl
 show(ao (bc prog (k+2)) prog.dv 1000 uV [some (false,eh (r::R) g),some (false,.int 0),some (false,.int w),none,none]).val=_;refine aY (aM rfl ha) (aY (aM rfl e2) ?_);have a0:ae .at (eh (r::R) g) (.int 0)=.ok (.tup ((r::R).map af)):=rfl;have a1:ae .at (eh (r::R) g) (.int 1)=.ok (.int g):=rfl;have UN:bc prog (k+2) 6 [.tup ((r::R).map af),.tup [.int 0]]=.ok (.lst (R.map af)):=Ng;generalize D.tup ((r::R).map af)=T at a0 UN;simp only[ao,bg,ev,cv,av,cq,aa,ag,cg,bx,Zc,ay,bj,Zf,Zi,Zj,Zk,Zl,Zo,Zp,Zq,b_,df,gV,Zr,Zu,a0,a1,UN,hj];rfl
theorem gO:∀n,(ck n).length=2^n
 |0=>rfl
 |n+1=>by rw[ck,rj,dz,dz,gO n,Nat.pow_succ];omega
theorem MV(k:Nat)(hm:m<=9):bc prog (k+1) 32 [.int (m:Nat)]=.ok (.lst ((ck m).map v_)):=by
 have c:∀i,i<m->(ck i).length<=256:=λi hi=>by rw[gO];exact Nat.pow_le_pow_right (by decide) (by omega:i<=8)
 show(ao (bc prog k) prog.dv 1000 kM [some (false,.int (m:Nat)),none,none]).val=_;refine aY rfl (nO (m:=m) (aK (by omega)) (λi δ=>∃c,δ=[some (false,.int (m:Nat)),some (true,.lst ((ck i).map v_)),c]) ⟨_,rfl⟩ ?_ ?_)
 ·rintro i hi δ ⟨c2,rfl⟩
  have e:∀x:Int,ev (bc prog k) prog.dv true (.comp .seq [(.var 1)] [] 1 none (.ae .add (.var 0) (.lst [(.cst (.int x))]))) [some (false,.int (m:Nat)),some (true,.lst ((ck i).map v_)),some (false,.int (i:Nat))]=.ok (.lst (((ck i).map (· ++[x])).map v_)):=λx=>by
   rw[vj];refine cY (a:=v_) (v_∘(· ++[x])) (aW (by rw[dz];have:=c i hi;omega)) λw hw=>?_;have:=cO _ _ hw;refine(j9 (w.map .int) [.int x] (by simp only[dz,gm,ny];omega)).trans ?_;simp[v_]
  refine⟨_,aC (aM (v:=.lst ((ck (i+1)).map v_)) rfl (cF (e 0) (e 1) ?_)),_,rfl⟩;rw[j9 _ _ (by simp only[dz];have:=c i hi;omega),←Ac];rfl
 ·rintro δ ⟨c2,rfl⟩
  rfl
theorem iQ:∀l:List Int,(Bp l).length=l.length-1
 |[]=>rfl
 |[_]=>rfl
 |x::y::r=>by simp[Bp,iQ (y::r)]
theorem qO:∀(l:List Int)(j:Nat),j+1<l.length->(Bp l).take (j+1)=(Bp l).take j++[l.getD j 0+l.getD (j+1) 0]
 |x::y::r,0,_=>by simp[Bp]
 |x::y::r,j+1,h=>by
  have:=qO (y::r) j (by simpa using h);simp only[Bp,List.take_succ_cons,this,Je];rfl
 |[],j,h=>by simp at h
 |[_],j,h=>by simp at h
theorem oB(h:i<l.length):ae .at (.lst (ai l)) (.int (i:Nat))=.ok (.int (l.getD i 0)):=by
 rw[J6,jc (by simpa[ai] using h)];simp[ai,vh,h]
theorem wU(k:Nat)(hn:n<=900):bc prog (k+1) 33 [.int (n:Nat)]=.ok (.lst (ai (u_ n))):=by
 show(ao (bc prog k) prog.dv 1000 dR [some (false,.int (n:Nat)),none,none,none,none]).val=_;refine aY rfl (nO (m:=n) (aK (by omega)) (λi δ=>∃c2 c3 c4,δ=[some (false,.int (n:Nat)),some (true,.lst (ai (u_ i))),c2,c3,c4]) ⟨_,_,_,rfl⟩ ?_ ?_)
 ·rintro i hi δ ⟨c2,c3,c4,rfl⟩
  have cl:=mX i;obtain⟨δ',e,c,rfl⟩:=bC (Φ:=bc prog k) (G:=prog.dv) (n:=1000) (its:=[(.ae .sub (.bb .len (.var 1)) (.cst (.int 1)))]) (tg:=[4]) (body:=[(.app 3 (.ae .add (.ae .at (.var 1) (.var 4)) (.ae .at (.var 1) (.ae .add (.var 4) (.cst (.int 1))))))]) (δ:=[some (false,.int (n:Nat)),some (true,.lst (ai (u_ i))),some (false,.int (i:Nat)),some (true,.lst [.int 1]),c4]) (m:=i)
   (bM (by show(((ai (u_ i)).length:Nat):Int)-1=_;simp only[ai,dz];omega) (by omega)) (λj δ=>∃c,δ=[some (false,.int (n:Nat)),some (true,.lst (ai (u_ i))),some (false,.int (i:Nat)),some (true,.lst (ai ([1]++(Bp (u_ i)).take j))),c]) ⟨c4,rfl⟩ (by
    rintro j hj δ ⟨c,rfl⟩;have h1:=oB (l:=u_ i) (i:=j) (by omega);have h2:=oB (l:=u_ i) (i:=j+1) (by omega);have nl:=iQ (u_ i);have ht:=qO (u_ i) j (by omega);refine⟨_,aC (nH (v:=.int ((u_ i).getD j 0+(u_ i).getD (j+1) 0)) rfl ?_ rfl ?_),some (false,.int (j:Nat)),?_⟩
    ·simp only[ev,cg,bx,Py.sets,Zf,Zi,Zj,Zk,Zl,Zo,Zp,b_,ZA,ZI,h1]
     rw[show((j:Nat):Int)+1=((j+1:Nat):Int) by omega,←ZI,h2];rfl
    ·refine Bi (m:=5000) ?_ (by decide)
     simp only[ai,dz,rj,gm,ny,Bj];omega
    ·show[_,_,_,some (true,D.lst (ai ([1]++(Bp (u_ i)).take j)++[_])),_]=_
     rw[ht];simp[ai])
  refine⟨_,Ny (bO rfl (bO e (bO (aM (v:=.lst (ai (u_ (i+1)))) rfl ?_) rfl))),_,_,_,rfl⟩;rw[Kc (by rw[iQ];omega),yU];refine(j9 _ [.int 1] (by simp only[ai,dz,rj,gm,ny,iQ];omega)).trans ?_;simp[ai]
 ·rintro δ ⟨c2,c3,c4,rfl⟩
  rfl
theorem vB(k:Nat)(hl:l.length<=900):bc prog (k+1) 31 [.lst (l.map gw)]=.ok (.int (rings l:Nat)):=by
 have e:bg (bc prog k) prog.dv 1000 .DW [some (false,.lst (l.map gw)),none,none,none,none,none]=.rt (.int (rings l:Nat)):=by
  have a0:(qv (bx [some (false,.lst (l.map gw)),none,none,none,none,none] 0)).bind i_=some l:=by
   show(ft (l.map gw)).bind i_=_;rw[show l.map gw=(l.map λp=>[p.1,p.2]).map af by rw[vj];rfl,gH];exact kA l
  show Ds _=_;unfold Ds;rw[a0];exact bp ⟨rfl,hl⟩
 exact congrArg Out.val (bN (ss:=[]) e)
theorem FK(k:Nat)(s:ax Q m)(hm:m<=9)(hg:g<=60):bc prog (k+2) 35 [.tup (Q.map af),.int (g:Nat)]=.ok (jy (ltV (Q.map x4) g)):=by
 have wl:=MV k hm;have wc:(ck m).length<=512:=by rw[gO];exact Nat.pow_le_pow_right (by decide) hm
 have ex:(Q.map x4).length=m:=by rw[dz,s.len]
 have hlen:bb .len (.tup (Q.map af))=.ok (.int (m:Nat)):=by rw[nG,dz,s.len]
 have WV:∀j,j<m->ae .at (.tup (Q.map af)) (.int (j:Nat))=.ok (af (Q.getD j [])):=λj hj=>n9 s (p:=(j,0)) ⟨hj,show 0<4 by decide⟩;have four:∀j,j<m->∃a b c d,Q.getD j []=[a,b,c,d]:=λj hj=>DC (by
  have h:j<Q.length:=by rw[s.len];exact hj
  rw[show Q.getD j []=Q[j] by simp[h]];exact s.four _ (yn h))
 show(ao (bc prog (k+1)) prog.dv 1000 g5 [some (false,.tup (Q.map af)),some (false,.int (g:Nat)),none,none,none,none,none]).val=_;generalize D.tup (Q.map af)=T at*;refine aY (δ':=[some (false,T),some (false,.int (g:Nat)),some (true,jy []),none,none,none,none]) rfl ?_;have ti:(cv (bc prog (k+1)) prog.dv false [(.call 32 [(.bb .len (.var 0))])] [some (false,T),some (false,.int (g:Nat)),some (true,jy []),none,none,none,none]).bind (a_ .seq)=.ok ((ck m).map v_):=by
  simp only[ev,cv,cg,bx,Zf,Zk,b_,hlen,wl];exact aW (by rw[dz];omega)
 obtain⟨δ',e,c3,c4,c5,c6,rfl⟩:=bB (n:=1000) (tg:=[3]) (body:=[(.asg 4 (.lst [])),(.loop .g_ [(.bb .len (.var 0))] [5] [(.asg 6 (.ae .at (.var 0) (.var 5))),(.ite (.leaf (.ae .eq (.ae .at (.var 3) (.var 5)) (.cst (.int 0)))) [(.asg 4 (.ae .add (.var 4) (.lst [(.tup [(.ae .at (.var 6) (.cst (.int 0))),(.ae .at (.var 6) (.cst (.int 1)))]),(.tup [(.ae .at (.var 6) (.cst (.int 2))),(.ae .at (.var 6) (.cst (.int 3)))])])))] [(.asg 4 (.ae .add (.var 4) (.lst [(.tup [(.ae .at (.var 6) (.cst (.int 0))),(.ae .at (.var 6) (.cst (.int 3)))]),(.tup [(.ae .at (.var 6) (.cst (.int 1))),(.ae .at (.var 6) (.cst (.int 2)))])])))])]),(.ED 2 33 (.ae .sub (.bb .len (.var 0)) (.ae .mul (.cst (.int 2)) (.bb .sum (.var 3)))) (.ae .add (.var 1) (.call 31 [(.var 4)])))]) ti
  (λi δ=>∃c3 c4 c5 c6,δ=[some (false,T),some (false,.int (g:Nat)),some (true,jy (((ck m).take i).foldl (E6 (Q.map x4) g) [])),c3,c4,c5,c6]) ⟨_,_,_,_,rfl⟩ (by
   rintro i hi δ ⟨c3,c4,c5,c6,rfl⟩;rw[dz] at hi;have hw:=yn hi;have ok:=(z9 (X:=Q.map x4) (g:=g) ((ck m).take i) [] (λw h=>by rw[ex];exact List.mem_of_mem_take h) ⟨Bv,jH _ _ _⟩).1;rw[IE hi,List.getElem_map];generalize ((ck m).take i).foldl (E6 (Q.map x4) g) []=t at*;generalize (ck m)[i]=w at*;have lw:=cO _ _ hw;obtain⟨e,he,Pq⟩:=j8 _ _ hw;have QS:=z8 ok (by rw[ex];exact hw);obtain⟨δ',e1,AU,XD,rfl⟩:=bC (Φ:=bc prog (k+1)) (G:=prog.dv) (n:=1000) (its:=[(.bb .len (.var 0))]) (tg:=[5]) (body:=[(.asg 6 (.ae .at (.var 0) (.var 5))),(.ite (.leaf (.ae .eq (.ae .at (.var 3) (.var 5)) (.cst (.int 0)))) [(.asg 4 (.ae .add (.var 4) (.lst [(.tup [(.ae .at (.var 6) (.cst (.int 0))),(.ae .at (.var 6) (.cst (.int 1)))]),(.tup [(.ae .at (.var 6) (.cst (.int 2))),(.ae .at (.var 6) (.cst (.int 3)))])])))] [(.asg 4 (.ae .add (.var 4) (.lst [(.tup [(.ae .at (.var 6) (.cst (.int 0))),(.ae .at (.var 6) (.cst (.int 3)))]),(.tup [(.ae .at (.var 6) (.cst (.int 1))),(.ae .at (.var 6) (.cst (.int 2)))])])))])]) (δ:=[some (false,T),some (false,.int (g:Nat)),some (true,jy t),some (false,v_ w),some (true,.lst []),c5,c6]) (m:=m)
    (by simp only[ev,cv,av,aa,ag,cg,bx,Zf,Zk,Zq,b_,hlen];exact aK (by omega)) (λj δ=>∃c5 c6,δ=[some (false,T),some (false,.int (g:Nat)),some (true,jy t),some (false,v_ w),some (true,.lst ((cf ((Q.take j).map x4) (w.take j)).map gw)),c5,c6]) ⟨c5,c6,rfl⟩ (by
     rintro j hj δ ⟨c5,c6,rfl⟩;have hQ:j<Q.length:=by rw[s.len];exact hj
     have hx:=gY Q w j hQ (by omega);have pl:=cE ((Q.take j).map x4) (w.take j);rw[dz,Bj] at pl;have WW:ae .at (v_ w) (.int (j:Nat))=.ok (.int (w.getD j 0)):=oB (by omega);obtain⟨a,b,c,d,hr⟩:=four j hj;have h6:=WV j hj;rw[hr] at h6 hx;rw[hx,Ac];generalize cf ((Q.take j).map x4) (w.take j)=P at*;have ha:∀x y,ae .add (.lst (P.map gw)) (.lst [x,y])=.ok (.lst (P.map gw++[x,y])):=λx y=>j9 _ _ (by rw[dz];simp only[gm,ny];omega);refine⟨_,Ny (bO (aM (v:=af [a,b,c,d]) rfl h6) (bO (fK (t:=w.getD j 0==0) ?_ ?_) rfl)),some (false,.int (j:Nat)),some (false,af [a,b,c,d]),rfl⟩
     ·simp only[fe,ev,av,aj,aa,cg,bx,Za,ay,bj,Zf,Zi,Zj,Zk,Zl,Zq,b_,Zu,ZG,WW]
     ·unfold Ce
      by_cases h0:w.getD j 0=0
      ·rw[bp h0,h0]
       exact bO (aM rfl (cF rfl rfl (ha _ _))) rfl
      ·rw[az h0,show(w.getD j 0==0)=false by simpa using h0]
       exact bO (aM rfl (cF rfl rfl (ha _ _))) rfl)
   rw[Kc (by rw[s.len];omega),Kc (by omega)] at e1;have pl:=cE (Q.map x4) w;rw[ex] at pl;have rr:=vB k (l:=cf (Q.map x4) w) (by omega);have rl:=sI (cf (Q.map x4) w).length (cf (Q.map x4) w);have ch:=wU k (n:=ltN (Q.map x4) g w) (qe (Kg rl g) (by omega));have su:bb .sum (v_ w)=.ok (.int w.sum):=by
    show(if(ai w).length<=1000/\(ai w).all tf=true then vh ((A8 (ai w)).map .int) else .bad)=_;rw[bp ⟨by simp only[ai,dz];omega,kB _ _ hw⟩,kO];rfl
   refine⟨_,Ny (bO rfl (bO e1 (bO (E7 (t:=t) (pv:=(m:Int)-2*w.sum) (rv:=(ltN (Q.map x4) g w:Nat)) (t':=E6 (Q.map x4) g t w) rfl rfl ?_ ?_ ?_) rfl))),_,_,_,_,rfl⟩
   ·simp only[ev,av,cq,aa,ag,cg,bx,Zf,Zi,Zj,Zk,Zl,Zo,Zq,b_,df,gV,ZB,hlen,su,DB]
   ·simp only[ev,cv,av,cq,aa,ag,cg,bx,Zf,Zi,Zj,Zk,Zl,Zo,Zq,b_,df,gV,ZA,rr];rfl
   ·exact IF ch ok QS (by rw[ex]) (by omega) (qe (Kg rl g) (by omega)))
 rw[dz,Bk] at e;refine aY e ?_;unfold ltV;rw[ex];rfl
theorem FL(k:Nat)(nd:bh t)(h:DF t=true)(hs:s=1\/s= -1):bc prog (k+1) 36 [jy t,.int sh,.int s]=.ok (.lst ((kh t).map λx=>gw (x.1+sh,s*x.2))):=by
 have mu:∀x:Int,ae .mul (.int s) (.int x)=.ok (.int (s*x)):=λx=>dO _ _ (.inl (by rcases hs with rfl|rfl<;>decide));have e:ev (bc prog k) prog.dv false (.comp .seq [(.bb .sorted (.var 0))] [1,2,0] 1 (some (.leaf (.ae .ne (.om (.var 3) (.var 0)) (.cst (.int 0))))) (.tup [(.ae .add (.var 0) (.var 1)),(.ae .mul (.var 2) (.om (.var 3) (.var 0)))])) [some (false,jy t),some (false,.int sh),some (false,.int s)]=_:=
  qD (λx=>gw (x.1+sh,s*x.2)) nd h rfl (λi hi=>E_ (iJ nd hi rfl rfl)) λi hi=>nQ rfl (cF rfl (iJ nd hi rfl rfl) (mu _))
 exact congrArg Out.val (bN (ss:=[]) (dF e))
theorem IU(k:Nat){g M:Nat}(h:J8 M (Q,(g:Int)))(hM:M<=62)(hg:DF (D3 (Q,(g:Int)))=true):bc prog (k+4) 16 [eh Q (g:Int)]=.ok (.lst ((kh (D3 (Q,(g:Int)))).map gw)):=by
 obtain⟨e1,nd,_⟩:=uO (Φ:=bc prog (k+3)) (f:=1) h hM λs hs hn w hw=>vA k hs.1 (by have:=hs.2.1;omega) hn hw;show(ao (bc prog (k+3)) prog.dv 1000 uW [some (false,eh Q (g:Int)),none]).val=_;have e2:bg (bc prog (k+3)) prog.dv 1000 (.pow 1 0 1) [some (false,eh Q (g:Int)),none]=.nx [some (false,eh Q (g:Int)),some (false,jy (D3 (Q,(g:Int))))]:=by
  have e1:BI (bc prog (k+3)) 1 (eh Q (g:Int))=some (jy (D3 (Q,(g:Int)))):=e1;rw[bg];show(match BI (bc prog (k+3)) 1 (eh Q (g:Int)) with
   |some r=>Out.nx [some (false,eh Q (g:Int)),some (false,r)]
   |none=>.bad)=_
  rw[e1]
 refine aY e2 ?_;generalize D3 (Q,(g:Int))=t at*;have e:ev (bc prog (k+3)) prog.dv false (.comp .seq [(.bb .sorted (.var 1))] [1] 1 (some (.leaf (.ae .ne (.om (.var 1) (.var 0)) (.cst (.int 0))))) (.tup [(.var 0),(.om (.var 1) (.var 0))])) [some (false,eh Q (g:Int)),some (false,jy t)]=_:=
  qD gw nd hg rfl (λi hi=>E_ (iJ nd hi rfl rfl)) λi hi=>nQ rfl (iJ nd hi rfl rfl)
 exact congrArg Out.val (bN (ss:=[]) (dF e))
theorem sZ(k:Nat){m g:Nat}{L:List (Int×Int)}(s:ax Q m)(hm:m<=9)(hL:L.length<=1000)(ht:bc prog (k+5) 16 [eh Q (g:Int)]=.ok (.lst (L.map gw))):bc prog (k+6) 17 [eh Q (g:Int)]=.ok (.lst (L.map λx=>gw (x.1+ -3*IS Q m,(1-2*(IS Q m%2))*x.2))):=by
 have tw:=IT k (g:=(g:Int)) s (by omega);show(ao (bc prog (k+5)) prog.dv 1000 kK [some (false,eh Q (g:Int)),none,none]).val=_;generalize IS Q m=w at*;generalize eh Q (g:Int)=T at*;have e2:ev (bc prog (k+5)) prog.dv false (.ite (.leaf (.ae .eq (.ae .mod (.var 1) (.cst (.int 2))) (.cst (.int 0)))) (.cst (.int 1)) (.bb .neg (.cst (.int 1)))) [some (false,T),some (false,.int w),none]=.ok (.int (1-2*(w%2))):=by
  have m2:ae .mod (.int w) (.int 2)=.ok (.int (w%2)):=dP _ _ (by decide);have:w%2=0\/w%2=1:=by omega
  rcases this with h|h<;>rw[h] at m2⊢<;>simp only[fe,ev,cg,bx,Za,Zf,Zk,Zl,b_,ZG,ZO,m2]<;>rfl
 refine aY (aM rfl tw) (aY (aM rfl e2) ?_);have hs:1-2*(w%2)=1\/1-2*(w%2)= -1:=by omega
 generalize 1-2*(w%2)=sg at*;have mu:∀x:Int,ae .mul (.int sg) (.int x)=.ok (.int (sg*x)):=λx=>dO _ _ (.inl (by rcases hs with rfl|rfl<;>decide));have e:=qB (Φ:=bc prog (k+5)) (G:=prog.dv) (m:=false) (k:=.seq) (its:=[(.call 16 [(.var 0)])]) (caps:=[2,1]) (ntg:=2) (cond:=none) (elt:=.tup [(.ae .sub (.var 0) (.ae .mul (.cst (.int 3)) (.var 3))),(.ae .mul (.var 2) (.var 1))]) (δ:=[some (false,T),some (false,.int w),some (false,.int sg)]) (a:=gw) (xs:=L) (λ_=>true) (λx=>gw (x.1+ -3*w,sg*x.2))
  (by simp only[ev,cv,cg,bx,Zf,Zk,df,gV,ht];exact aW (by simpa using hL)) λx _=>by
   have m3:ae .mul (.int 3) (.int w)=.ok (.int (3*w)):=dO _ _ (.inl (by decide));have mx:=mu x.2;rw[show gw (x.1+ -3*w,sg*x.2)=.tup [.int (x.1-3*w),.int (sg*x.2)] by unfold gw;congr 3;omega];exact(congrArg (R.bind · λy=>R.ok (some y)) (nQ (Φ:=bc prog (k+5)) (G:=prog.dv) (m:=false) (δ:=[some (false,.int x.1),some (false,.int x.2),some (false,.int sg),some (false,.int w)]) (cF rfl (cF rfl rfl m3) rfl) (cF rfl rfl mx)))
 rw[List.filter_eq_self.mpr λ_ _=>rfl] at e;exact congrArg Out.val (bN (ss:=[]) (dF e))
theorem IV(k:Nat){L:List (Int×Int)}(hL:L.length<=1000):bc prog (k+2) 42 [.lst (L.map gw),.lst (L.map gw)]=.ok (.bl true):=by
 have wh:∀x,bc prog (k+1) 28 [.int x]=.ok (.bl true):=uY k;have i1:bb .zi (.lst (L.map gw))=.ok (.bl true):=Mt _ (by
  rw[show L.map gw=(L.map λp=>[p.1,p.2]).map af by rw[vj];rfl];exact wF 998 _)
 have il:bb .len (.lst (L.map gw))=.ok (.int (L.length:Nat)):=by rw[Mq,dz]
 have ia:∀i,i<L.length->∃p:Int×Int,ae .at (.lst (L.map gw)) (.int (i:Nat))=.ok (gw p):=λi hi=>⟨L[i],by
  rw[J6,jc (by simpa using hi)];simp[vh]⟩
 show(ao (bc prog (k+1)) prog.dv 1000 g6 [some (false,.lst (L.map gw)),some (false,.lst (L.map gw)),none]).val=_;generalize D.lst (L.map gw)=T at*;refine aY (fK (t:=false) (by simp only[fe,ev,av,aj,aa,cg,bx,Za,Zf,Zk,Zl,Zq,b_,df,gV,Zv,ZH,i1,il,beq_self_eq_true]) rfl) (nO (m:=L.length) (by simp only[ev,cv,av,aj,aa,ag,cg,bx,Zf,Zk,Zl,Zq,b_,il];exact aK hL) (λ_ δ=>∃c,δ=[some (false,T),some (false,T),c]) ⟨_,rfl⟩ ?_ ?_)
 ·rintro i hi δ ⟨c,rfl⟩
  obtain⟨p,hp⟩:=ia i hi;have t1:bb .isTup (gw p)=.ok (.bl true):=wG [p.1,p.2];have t2:bb .len (gw p)=.ok (.int 2):=rfl;have a0:ae .at (gw p) (.int 0)=.ok (.int p.1):=rfl;have a1:ae .at (gw p) (.int 1)=.ok (.int p.2):=rfl;have ne:ae .ne (gw p) (gw p)=.ok (.bl false):=by
   have:e_ (gw p) (gw p)=true:=by simp[gw,e_,nr]
   show(if(dj 9 (gw p)&&dj 9 (gw p)&&Bm (gw p) (gw p))=true then R.ok (D.bl (!e_ (gw p) (gw p))) else R.bad)=_;rw[this];rfl
  refine⟨_,Ny (bO (fK (t:=false) ?_ rfl) (bO (fK (t:=false) ?_ rfl) rfl)),_,rfl⟩
  ·simp only[fe,ev,av,aj,aa,cg,bx,Za,Zf,Zi,Zj,Zk,Zl,Zq,b_,df,gV,Zv,ZH,hp,t1,t2,beq_self_eq_true]
  ·simp only[fe,ev,cv,av,aj,aa,ag,cg,bx,Za,Zf,Zi,Zj,Zk,Zl,Zq,b_,df,gV,Zv,hp,a0,a1,wh,ne]
 ·rintro δ ⟨c,rfl⟩
  rfl
theorem tD(k:Nat){g x:Int}(s:ax Q m)(hm:m<=10)(hx:0<=x/\x<(2*m:Nat))(B:Back Q m (ak Q x) t):bc prog (k+4) 12 [eh Q g,.int x]=.ok (.lst (ai (gf Q (ak Q x) t))):=by
 have hp:=s.in_of hx;obtain⟨_,a,b,qz⟩:=s.CH hp;have sb:b=ak Q x:=by rw[ak,qz];rfl
 obtain⟨ok,hl⟩:=dJ s hx;have he:=FF (k+2) (g:=g) (line:=x) s.four (by rw[s.len];omega);rw[az hp,qz,fu,fu,Bl,sb] at he;clear qz sb hp;have UO:=λj=>qM k (g:=g) s hm (s.jv ok j);have WX:=λj=>mF (k+2) s (s.jv ok j);have a0:ae .at (eh Q g) (.int 0)=.ok (.tup (Q.map af)):=rfl;generalize ak Q x=p at*;have h0:gf Q p 0=[x]:=by
  show[aq Q p]=[x]
  rw[hl]
 show(ao (bc prog (k+3)) prog.dv 1000 eE [some (false,eh Q g),some (false,.int x),none,none,none]).val=_;unfold eE;have e1:bg (bc prog (k+3)) prog.dv 1000 (.asg 2 (.ae .at (.call 0 [(.var 0),(.var 1)]) (.cst (.int 1)))) [some (false,eh Q g),some (false,.int x),none,none,none]=.nx [some (false,eh Q g),some (false,.int x),some (false,pairD p),none,none]:=by
  simp only[bg,ev,cv,av,cq,aa,ag,cg,bx,Zc,ay,bj,Ze,Zf,Zi,Zj,Zk,Zl,Zo,Zp,Zq,df,gV,Zu,ZJ,he,j6]
 have e2:bg (bc prog (k+3)) prog.dv 1000 (.asg 3 (.lst [(.var 1)])) [some (false,eh Q g),some (false,.int x),some (false,pairD p),none,none]=.nx [some (false,eh Q g),some (false,.int x),some (false,pairD p),some (true,.lst (ai (gf Q p 0))),none]:=by
  rw[h0];simp only[bg,ev,cv,av,cq,aa,ag,cg,bx,Zc,ay,bj,Zf,Zi,Zj,Zk,Zl,Zm,Zn,Zq,df,gV,Zt,ai]
 have e3:bg (bc prog (k+3)) prog.dv 1000 (.asg 4 (.call 14 [(.var 0),(.var 2)])) [some (false,eh Q g),some (false,.int x),some (false,pairD p),some (true,.lst (ai (gf Q p 0))),none]=.nx [some (false,eh Q g),some (false,.int x),some (false,pairD p),some (true,.lst (ai (gf Q p 0))),some (false,pairD (bz Q p (0+1)))]:=by
  have:=UO 0;simp only[bg,ev,cv,av,cq,aa,ag,cg,bx,Zc,ay,bj,Zf,Zi,Zj,Zk,Zl,Zo,Zp,Zq,df,gV,Zu,show bc prog (k+3) 14 [eh Q g,pairD p]=_ from this];rfl
 have e4:bg (bc prog (k+3)) prog.dv 1000 (.Cd (.leaf (.ae .ne (.var 4) (.var 2))) [(.app 3 (.call 3 [(.ae .at (.var 0) (.cst (.int 0))),(.var 4)])),(.asg 4 (.call 14 [(.var 0),(.var 4)]))]) [some (false,eh Q g),some (false,.int x),some (false,pairD p),some (true,.lst (ai (gf Q p 0))),some (false,pairD (bz Q p (0+1)))]=.nx [some (false,eh Q g),some (false,.int x),some (false,pairD p),some (true,.lst (ai (gf Q p t))),some (false,pairD (bz Q p (t+1)))]:=by
  rw[bg];refine dE (c:=fe (bc prog (k+3)) prog.dv (.leaf (.ae .ne (.var 4) (.var 2)))) (fz:=av (aj (.leaf (.ae .ne (.var 4) (.var 2))))) (b:=ao (bc prog (k+3)) prog.dv 1000 [(.app 3 (.call 3 [(.ae .at (.var 0) (.cst (.int 0))),(.var 4)])),(.asg 4 (.call 14 [(.var 0),(.var 4)]))]) t 1000 (λi=>[some (false,eh Q g),some (false,.int x),some (false,pairD p),some (true,.lst (ai (gf Q p i))),some (false,pairD (bz Q p (i+1)))]) (by have:=B.lt;omega) (λi hi=>?_) ?_
  ·have z:decide (bz Q p (i+1)=p)=false:=Al (B.first i hi)
   have hlen:(ai (gf Q p i)).length<gx:=by
    have:gx=100000:=rfl;have:=B.lt;simp only[ai,dz,mB];omega
   have o1:=UO (i+1);have l1:=WX (i+1);refine⟨by simp only[fe,ev,av,aj,aa,cg,bx,Za,Zf,Zk,Zl,Zq,b_,Zw,fP,z],?_⟩;rw[sG,wS];simp only[ao,bg,ev,cv,av,cq,aj,aa,ag,cg,bx,Zc,ay,bj,Zf,Zi,Zj,Zk,Zl,Zo,Zp,Zq,b_,df,gV,Zu,a0,show bc prog (k+3) 3 [.tup (Q.map af),pairD (bz Q p (i+1))]=_ from l1,show bc prog (k+3) 14 [eh Q g,pairD (bz Q p (i+1))]=_ from o1,tj,Cv,hlen];rfl
  ·have z:decide (bz Q p (t+1)=p)=true:=Ad B.back
   simp only[fe,ev,av,aj,aa,cg,bx,Za,Zf,Zk,Zl,Zq,b_,Zv,fP,z]
 rw[aC e1,aC e2,aC e3,aC e4];simp only[ao,bg,ev,av,cq,aa,cg,bx,Zc,Zi,Zj,Zk,Zl,df,gV];rfl
noncomputable def iq(L:List (List Int)):List D:=L.map λr=>.lst (ai r)
theorem wV(L:List (List Int))(r:List Int):iq (L++[r])=iq L++[.lst (ai r)]:=by simp[iq]
theorem FN(k:Nat)(s:ax Q m)(hm:m<=10):bc prog (k+5) 9 [eh Q g]=.ok (.lst (iq (dw Q m (2*m)).1)):=by
 show(ao (bc prog (k+4)) prog.dv 1000 kI [some (false,eh Q g),none,none,none,none,none]).val=_;have a0:ae .at (eh Q g) (.int 0)=.ok (.tup (Q.map af)):=rfl;have e1:bg (bc prog (k+4)) prog.dv 1000 (.new 1) [some (false,eh Q g),none,none,none,none,none]=.nx [some (false,eh Q g),some (true,.gb [] []),none,none,none,none]:=by
  simp only[bg,Zi,Zj]
 have e2:bg (bc prog (k+4)) prog.dv 1000 (.asg 2 (.lst [])) [some (false,eh Q g),some (true,.gb [] []),none,none,none,none]=.nx [some (false,eh Q g),some (true,.gb [] []),some (true,.lst []),none,none,none]:=by
  simp only[bg,ev,cv,av,aa,ag,Zc,ay,bj,Zf,Zi,Zj,Zt]
 have put:∀(L:D)(c3:Slot)(r:List Int)(ks:List Int)(vs:List D)(c5:Slot),r.length<=40->ks.length<=900->∃Br Ag AU,bg (bc prog (k+4)) prog.dv 1000 (.loop .seq [(.var 4)] [5] [(.dput 1 (.var 5) (.cst (.bl true)))]) [some (false,eh Q g),some (true,.gb ks vs),some (true,L),c3,some (false,.lst (ai r)),c5]=.nx [some (false,eh Q g),some (true,.gb Br Ag),some (true,L),c3,some (false,.lst (ai r)),AU]/\(∀x,x∈Br↔x∈ks\/x∈r)/\Br.length<=ks.length+r.length:=by
  intro L c3 r ks vs c5 hr hk;have hi:a_ .seq [.lst (ai r)]=.ok (ai r):=aW (by simp[ai];omega);obtain⟨δ',e,Br,Ag,AU,rfl,h1,h2⟩:=bB (Φ:=bc prog (k+4)) (G:=prog.dv) (n:=1000) (k:=.seq) (its:=[(.var 4)]) (tg:=[5]) (body:=[(.dput 1 (.var 5) (.cst (.bl true)))]) (δ:=[some (false,eh Q g),some (true,.gb ks vs),some (true,L),c3,some (false,.lst (ai r)),c5]) (xs:=ai r) (by simp only[ev,cv,av,cq,aa,ag,cg,bx,Zf,Zk,Zl,Zq,df,gV];exact hi)
   (λi δ=>∃Br Ag AU,δ=[some (false,eh Q g),some (true,.gb Br Ag),some (true,L),c3,some (false,.lst (ai r)),AU]/\(∀x,x∈Br↔x∈ks\/x∈r.take i)/\Br.length<=ks.length+i) ⟨ks,vs,c5,rfl,by simp,by simp⟩ (by
    rintro i h δ ⟨Br,Ag,AU,rfl,h1,h2⟩;have hi:i<r.length:=by simpa[ai] using h
    have et:r.take (i+1)=r.take i++[r[i]]:=D4 hi;have eg:(ai r)[i]=.int r[i]:=by simp[ai]
    have hL:Br.length<gx:=by
     have:gx=100000:=rfl;omega
    rw[eg];by_cases B':r[i]∈Br
    ·refine⟨_,?_,Br,Dq Br Ag r[i] (.bl true),some (false,.int r[i]),rfl,?_,by omega⟩
     ·simp only[cz,ao,bg,ev,av,aa,cg,bx,Zc,Py.sets,spread,Zi,Zj,Zk,Zl,Zq,b_,Dr,AO,hL,B',gm,ny,qb]
     ·intro x
      rw[h1,et,Bu,Gh];constructor
      ·rintro(h|h)
       ·exact .inl h
       ·exact .inr (.inl h)
      ·rintro(h|h|h)
       ·exact .inl h
       ·exact .inr h
       ·subst h;exact(h1 _).mp B'
    ·refine⟨_,?_,Br++[r[i]],Ag++[.bl true],some (false,.int r[i]),rfl,?_,by simp only[rj,gm,ny];omega⟩
     ·simp only[cz,ao,bg,ev,av,aa,cg,bx,Zc,Py.sets,spread,Zi,Zj,Zk,Zl,Zq,b_,df,Dr,AO,hL,B',gm,ny,qb]
     ·intro x
      rw[et,Bu,Bu,Gh,h1];exact or_assoc)
  refine⟨Br,Ag,AU,e,?_,?_⟩
  ·intro x
   rw[h1,show(ai r).length=r.length by simp[ai],Bk]
  ·rw[show(ai r).length=r.length by simp[ai]] at h2
   exact h2
 have step:∀i,i<2*m->∀δ,(∃ks vs c3 c4 c5,δ=[some (false,eh Q g),some (true,.gb ks vs),some (true,.lst (iq (dw Q m i).1)),c3,c4,c5]/\(∀x,x∈ks↔x∈(dw Q m i).2)/\ks.length<=4*m*i)->
   ∃δ',cz (bc prog (k+4)) prog.dv 1000 [3] [(.ite (.leaf (.Cb true (.var 3) (.var 1))) [(.asg 4 (.call 12 [(.var 0),(.var 3)])),(.app 2 (.var 4)),(.loop .seq [(.var 4)] [5] [(.dput 1 (.var 5) (.cst (.bl true)))])] [])] (.int (i:Nat)) δ=.nx δ'/\∃ks vs c3 c4 c5,δ'=[some (false,eh Q g),some (true,.gb ks vs),some (true,.lst (iq (dw Q m (i+1)).1)),c3,c4,c5]/\(∀x,x∈ks↔x∈(dw Q m (i+1)).2)/\ks.length<=4*m*(i+1):=by
  rintro i hi δ ⟨ks,vs,c3,c4,c5,rfl,h1,h2⟩;have d:4*m*(i+1)=4*m*i+4*m:=by rw[Nat.mul_add,Nat.mul_one]
  by_cases B':((i:Nat):Int)∈(dw Q m i).2
  ·have hk:=(h1 _).mpr B'
   have es:dw Q m (i+1)=dw Q m i:=by rw[dw,bp B']
   rw[es];refine⟨_,?_,ks,vs,some (false,.int (i:Nat)),c4,c5,rfl,h1,by omega⟩;simp[cz,ao,bg,fe,ev,cv,Cc,AM,av,cq,aj,aa,ag,nu,qu,cg,bx,Za,Zb,Zc,Zd,Dp,G',Py.sets,spread,dk,ay,bj,xv,Ze,Zf,Zg,Zh,Zi,Zj,Zk,Zl,Zm,Zn,Zo,Zp,Zq,b_,df,gV,Zr,Zs,Zt,Zu,Zv,Zw,Zx,ZA,ZB,ZC,ZD,ZE,ZF,ZG,ZH,ZI,ZJ,ZK,ZL,ZM,ZN,ZO,ZP,ZQ,ZR,ZS,ZT,ZU,hk]
  ·have hk:¬((i:Nat):Int)∈ks:=λh=>B' ((h1 _).mp h)
   have hx:(0:Int)<=(i:Nat)/\((i:Nat):Int)<(2*m:Nat):=by omega
   have WY:bc prog (k+4) 12 [eh Q g,.int (i:Nat)]=.ok (.lst (ai (rV Q m (i:Nat)))):=tD k s hm hx (gL s (dJ s hx).1);have XF:=Ft s hx;obtain⟨XG,Oa⟩:=uU s i (by omega);have es:dw Q m (i+1)=((dw Q m i).1++[rV Q m (i:Nat)],(dw Q m i).2++rV Q m (i:Nat)):=by rw[dw,az B']
   have XH:4*m*i<=800:=by
    have:m*i<=10*20:=Nat.mul_le_mul hm (by omega);rw[Nat.mul_assoc];omega
   rw[es];generalize rV Q m (i:Nat)=r at*;obtain⟨Br,Ag,AU,e,k1,k2⟩:=put (.lst (iq ((dw Q m i).1++[r]))) (some (false,.int (i:Nat))) r ks vs c5 (by omega) (by omega);refine⟨_,?_,Br,Ag,some (false,.int (i:Nat)),some (false,.lst (ai r)),AU,rfl,?_,by omega⟩
   ·have hlen:(iq (dw Q m i).1).length<gx:=by
     have:gx=100000:=rfl;simp only[iq,dz];omega
    have f1:bg (bc prog (k+4)) prog.dv 1000 (.asg 4 (.call 12 [(.var 0),(.var 3)])) [some (false,eh Q g),some (true,.gb ks vs),some (true,.lst (iq (dw Q m i).1)),some (false,.int (i:Nat)),c4,c5]=.nx [some (false,eh Q g),some (true,.gb ks vs),some (true,.lst (iq (dw Q m i).1)),some (false,.int (i:Nat)),some (false,.lst (ai r)),c5]:=by
     simp only[bg,ev,cv,av,cq,aa,ag,cg,bx,Zc,ay,bj,Zf,Zi,Zj,Zk,Zl,Zo,Zp,Zq,df,gV,Zu,WY]
    have f2:bg (bc prog (k+4)) prog.dv 1000 (.app 2 (.var 4)) [some (false,eh Q g),some (true,.gb ks vs),some (true,.lst (iq (dw Q m i).1)),some (false,.int (i:Nat)),some (false,.lst (ai r)),c5]=.nx [some (false,eh Q g),some (true,.gb ks vs),some (true,.lst (iq ((dw Q m i).1++[r]))),some (false,.int (i:Nat)),some (false,.lst (ai r)),c5]:=by
     rw[wV];simp only[bg,ev,av,cq,aa,cg,bx,Zc,Zi,Zj,Zk,Zl,b_,df,gV,tj,Cv,hlen]
    have ff:ao (bc prog (k+4)) prog.dv 1000 [(.asg 4 (.call 12 [(.var 0),(.var 3)])),(.app 2 (.var 4)),(.loop .seq [(.var 4)] [5] [(.dput 1 (.var 5) (.cst (.bl true)))])] [some (false,eh Q g),some (true,.gb ks vs),some (true,.lst (iq (dw Q m i).1)),some (false,.int (i:Nat)),c4,c5]=.nx [some (false,eh Q g),some (true,.gb Br Ag),some (true,.lst (iq ((dw Q m i).1++[r]))),some (false,.int (i:Nat)),some (false,.lst (ai r)),AU]:=by
     rw[aC f1,aC f2,aC e,ao]
    simp only[cz,spread,gm,ny,qb,b_,Py.sets,D5,DL];rw[ao,bg];have tt:fe (bc prog (k+4)) prog.dv (.leaf (.Cb true (.var 3) (.var 1))) [some (false,eh Q g),some (true,.gb ks vs),some (true,.lst (iq (dw Q m i).1)),some (false,.int (i:Nat)),c4,c5]=.ok true:=by
     simp[ao,bg,fe,ev,cv,Cc,AM,av,cq,aj,aa,ag,nu,qu,cg,bx,Za,Zb,Zc,Zd,Dp,G',Py.sets,spread,dk,ay,bj,xv,Ze,Zf,Zg,Zh,Zi,Zj,Zk,Zl,Zm,Zn,Zo,Zp,Zq,b_,df,gV,Zr,Zs,Zt,Zu,Zv,Zw,Zx,ZA,ZB,ZC,ZD,ZE,ZF,ZG,ZH,ZI,ZJ,ZK,ZL,ZM,ZN,ZO,ZP,ZQ,ZR,ZS,ZT,ZU,hk]
    rw[show av (aj (.leaf (.Cb true (.var 3) (.var 1)))) [some (false,eh Q g),some (true,.gb ks vs),some (true,.lst (iq (dw Q m i).1)),some (false,.int (i:Nat)),c4,c5]=[some (false,eh Q g),some (true,.gb ks vs),some (true,.lst (iq (dw Q m i).1)),some (false,.int (i:Nat)),c4,c5] from rfl,tt,of_ok,bp rfl,ff];rfl
   ·intro x
    rw[k1,Bu,h1]
 obtain⟨δ',e3,ks,vs,c3,c4,c5,rfl,_,_⟩:=bC (Φ:=bc prog (k+4)) (G:=prog.dv) (n:=1000) (its:=[(.ae .mul (.cst (.int 2)) (.bb .len (.ae .at (.var 0) (.cst (.int 0)))))]) (tg:=[3]) (body:=[(.ite (.leaf (.Cb true (.var 3) (.var 1))) [(.asg 4 (.call 12 [(.var 0),(.var 3)])),(.app 2 (.var 4)),(.loop .seq [(.var 4)] [5] [(.dput 1 (.var 5) (.cst (.bl true)))])] [])]) (δ:=[some (false,eh Q g),some (true,.gb [] []),some (true,.lst []),none,none,none]) (m:=2*m)
  (by simp only[ev,cv,av,aa,ag,cg,bx,Zf,Zk,Zq,b_,ZM,a0,DB];exact bM (by rw[dz,s.len];omega) (by omega)) (λi δ=>∃ks vs c3 c4 c5,δ=[some (false,eh Q g),some (true,.gb ks vs),some (true,.lst (iq (dw Q m i).1)),c3,c4,c5]/\(∀x,x∈ks↔x∈(dw Q m i).2)/\ks.length<=4*m*i) ⟨[],[],none,none,none,rfl,by simp[dw],by simp⟩ step
 unfold kI;rw[aC e1,aC e2,aC e3];simp only[ao,bg,ev,av,cq,aa,cg,bx,Zc,Zi,Zj,Zk,Zl,df,gV];rfl
theorem wW(k:Nat)(s:ax Q m)(hm:m<=10):bc prog (k+6) 10 [eh Q g]=.ok (.int (((dw Q m (2*m)).1.length:Nat)+g)):=by
 have h:=FN k (g:=g) s hm;have a1:ae .at (eh Q g) (.int 1)=.ok (.int g):=rfl;show(ao (bc prog (k+5)) prog.dv 1000 gN [some (false,eh Q g)]).val=_;simp only[gN,ao,bg,ev,cv,av,cq,aa,ag,cg,bx,Zc,Zf,Zk,Zq,b_,df,gV,ZA,ZL,h,a1,iq,dz];rfl
theorem IW(k:Nat)(a b c:Int)(hw:w<4):bc prog (k+1) 39 [.int (w:Nat),.int a,.int b,.int c]=.ok (af (oy a b c w)):=by
 show(ao (bc prog k) prog.dv 1000 eG [some (false,.int (w:Nat)),some (false,.int a),some (false,.int b),some (false,.int c)]).val=_;unfold eG;have:w=0\/w=1\/w=2\/w=3:=by omega
 rcases this with rfl|rfl|rfl|rfl
 ·simp only[ao,bg,fe,ev,cv,av,cq,aj,aa,ag,cg,bx,Za,Zc,Zf,Zk,Zl,Zo,Zp,Zq,b_,df,gV,ZG,show(((0:Nat):Int)==0)=true from rfl];rfl
 ·simp only[ao,bg,fe,ev,cv,av,cq,aj,aa,ag,cg,bx,Za,Zc,Zf,Zk,Zl,Zo,Zp,Zq,b_,df,gV,ZG,show(((1:Nat):Int)==0)=false from rfl,show(((1:Nat):Int)==1)=true from rfl];rfl
 ·simp only[ao,bg,fe,ev,cv,av,cq,aj,aa,ag,cg,bx,Za,Zc,Zf,Zk,Zl,Zo,Zp,Zq,b_,df,gV,ZG,show(((2:Nat):Int)==0)=false from rfl,show(((2:Nat):Int)==1)=false from rfl,show(((2:Nat):Int)==2)=true from rfl];rfl
 ·simp only[ao,bg,fe,ev,cv,av,cq,aj,aa,ag,cg,bx,Za,Zc,Zf,Zk,Zl,Zo,Zp,Zq,b_,df,gV,ZG,show(((3:Nat):Int)==0)=false from rfl,show(((3:Nat):Int)==1)=false from rfl,show(((3:Nat):Int)==2)=false from rfl];rfl
theorem IX(k:Nat)(sh:ax Q m)(hm:m<=10)(hw:w<4)(hu:ba Q u≠[])(hl:ba Q l≠[]):bc prog (k+2) 40 [.tup (Q.map af),.int u,.int l,.int (w:Nat)]=.ok (.lst ((ko Q u l w).map af)):=by
 have hQ:Q.length<=50:=by rw[sh.len];omega
 show(ao (bc prog (k+1)) prog.dv 1000 eI [some (false,.tup (Q.map af)),some (false,.int u),some (false,.int l),some (false,.int (w:Nat)),none,none,none]).val=_;have eN:(2*((Q.map af).length:Int))=((2*Q.length:Nat):Int):=by rw[dz];omega
 have r1:=FG k (d0:=.tup (Q.map af)) (v:=(2*Q.length:Nat)) (zP _) sh.four (aX hu);have r2:=FG k (v:=(2*Q.length:Nat)+1) (Mr ((fh Q (ak Q u) (2*Q.length:Nat)).map af)) (a9 sh.four) (by rw[aU];exact aX hl);have s1:=kN k (line:=u) sh.four hQ;have s2:=kN k (line:=l) sh.four hQ;rw[ko,Ac];have hlen:((fh (fh Q (ak Q u) (2*Q.length:Nat)) (ak Q l) ((2*Q.length:Nat)+1)).map af).length+2<=gx:=by
  have:gx=100000:=rfl;simp only[dz,aU];omega
 generalize (fh (fh Q (ak Q u) (2*Q.length:Nat)) (ak Q l) ((2*Q.length:Nat)+1)).map af=Y at*;generalize (fh Q (ak Q u) (2*Q.length:Nat)).map af=X at*;generalize ((2*Q.length:Nat):Int)=N at*;have h3:N+3=N+2+1:=by omega
 have ad:∀a b:D,ae .add (.lst Y) (.lst [a,b])=.ok (.lst (Y++[a,b])):=λa b=>nD _ _ (by simpa using hlen);have m2:∀x:Int,ae .mod (.int x) (.int 2)=.ok (.int (x%2)):=λx=>dP _ _ (by decide);have t1:∀x:Int,decide (((x:Int))<2)=decide (x<2):=λ_=>rfl;unfold eI;have e1:bg (bc prog (k+1)) prog.dv 1000 (.asg 4 (.ae .mul (.cst (.int 2)) (.bb .len (.var 0)))) [some (false,.tup (Q.map af)),some (false,.int u),some (false,.int l),some (false,.int (w:Nat)),none,none,none]=.nx [some (false,.tup (Q.map af)),some (false,.int u),some (false,.int l),some (false,.int (w:Nat)),some (false,.int N),none,none]:=by
  simp only[bg,ev,av,aa,cg,bx,Zc,ay,bj,Zf,Zi,Zj,Zk,Zq,b_,Zu,ZM,DB,eN]
 have e2:bg (bc prog (k+1)) prog.dv 1000 (.asg 5 (.call 38 [(.var 0),(.call 37 [(.var 0),(.var 1)]),(.var 4)])) [some (false,.tup (Q.map af)),some (false,.int u),some (false,.int l),some (false,.int (w:Nat)),some (false,.int N),none,none]=.nx [some (false,.tup (Q.map af)),some (false,.int u),some (false,.int l),some (false,.int (w:Nat)),some (false,.int N),some (false,.lst X),none]:=by
  simp only[bg,ev,cv,av,cq,aa,ag,cg,bx,Zc,ay,bj,Zf,Zi,Zj,Zk,Zl,Zo,Zp,Zq,df,gV,Zu,s1,r1]
 have e3:bg (bc prog (k+1)) prog.dv 1000 (.asg 5 (.call 38 [(.var 5),(.call 37 [(.var 0),(.var 2)]),(.ae .add (.var 4) (.cst (.int 1)))])) [some (false,.tup (Q.map af)),some (false,.int u),some (false,.int l),some (false,.int (w:Nat)),some (false,.int N),some (false,.lst X),none]=.nx [some (false,.tup (Q.map af)),some (false,.int u),some (false,.int l),some (false,.int (w:Nat)),some (false,.int N),some (false,.lst Y),none]:=by
  simp only[bg,ev,cv,av,cq,aa,ag,cg,bx,Zc,ay,bj,Zf,Zi,Zj,Zk,Zl,Zo,Zp,Zq,b_,df,gV,Zu,ZA,s2,r2]
 rw[aC e1,aC e2,aC e3];have:w=0\/w=1\/w=2\/w=3:=by omega
 rcases this with rfl|rfl|rfl|rfl
 ·have q1:(((0:Nat):Int)%2==1)=false:=rfl
  have q2:decide (((0:Nat):Int)<2)=true:=rfl;simp only[ao,bg,fe,ev,cv,av,cq,aj,aa,ag,cg,bx,Za,Zc,ay,bj,Ze,Zf,Zi,Zj,Zk,Zl,Zo,Zp,Zq,b_,df,gV,Zt,ZA,ZC,ZG,ZI,m2,q1,q2,ad,h3,l8,j6];rfl
 ·have q1:(((1:Nat):Int)%2==1)=true:=rfl
  have q2:decide (((1:Nat):Int)<2)=true:=rfl;simp only[ao,bg,fe,ev,cv,av,cq,aj,aa,ag,cg,bx,Za,Zc,ay,bj,Ze,Zf,Zi,Zj,Zk,Zl,Zo,Zp,Zq,b_,df,gV,Zt,ZA,ZC,ZG,ZI,m2,q1,q2,ad,h3,l8,j6];rfl
 ·have q1:(((2:Nat):Int)%2==1)=false:=rfl
  have q2:decide (((2:Nat):Int)<2)=false:=rfl;simp only[ao,bg,fe,ev,cv,av,cq,aj,aa,ag,cg,bx,Za,Zc,ay,bj,Ze,Zf,Zi,Zj,Zk,Zl,Zo,Zp,Zq,b_,df,gV,Zt,ZA,ZC,ZG,ZI,m2,q1,q2,ad,h3,l8,j6];rfl
 ·have q1:(((3:Nat):Int)%2==1)=true:=rfl
  have q2:decide (((3:Nat):Int)<2)=false:=rfl;simp only[ao,bg,fe,ev,cv,av,cq,aj,aa,ag,cg,bx,Za,Zc,ay,bj,Ze,Zf,Zi,Zj,Zk,Zl,Zo,Zp,Zq,b_,df,gV,Zt,ZA,ZC,ZG,ZI,m2,q1,q2,ad,h3,l8,j6];rfl
theorem IY(k:Nat)(sh:ax Q m)(h1:1<=m)(hm:m<=6):∃(Q':List (List Int))(m':Nat),bc prog (k+3) 41 [.tup (Q.map af),.int cell,.int 6]=.ok (.tup (Q'.map af))/\ax Q' m'/\1<=m'/\m'<=6/\Kp (Q.map x4) (Q'.map x4):=by
 have hQ:Q.length<=50:=by rw[sh.len];omega
 obtain⟨x,hx,ex⟩:∃x:Int,(0<=x/\x<(2*m:Nat))/\cell/8%((2*m:Nat):Int)=x:=⟨_,⟨Int.emod_nonneg _ (by omega),Int.emod_lt_of_pos _ (by omega)⟩,rfl⟩
 obtain⟨z,hz,ez⟩:∃z:Int,(0<=z/\z<(2*m:Nat)-1)/\cell/257%(((2*m:Nat):Int)-1)=z:=⟨_,⟨Int.emod_nonneg _ (by omega),Int.emod_lt_of_pos _ (by omega)⟩,rfl⟩
 obtain⟨y,hy,ey,qd⟩:∃y:Int,(0<=y/\y<(2*m:Nat))/\(x+1+z)%((2*m:Nat):Int)=y/\y≠x:=by
  refine⟨_,⟨Int.emod_nonneg _ (by omega),Int.emod_lt_of_pos _ (by omega)⟩,rfl,?_⟩;by_cases c:x+1+z<(2*m:Nat)
  ·rw[Int.emod_eq_of_lt (by omega) c];omega
  ·have:(x+1+z)%((2*m:Nat):Int)=x+1+z-(2*m:Nat):=by
    rw[←Int.sub_emod_right,Int.emod_eq_of_lt (by omega) (by omega)]
   omega
 obtain⟨w,hw,ew⟩:∃w:Nat,w<4/\cell%4=(w:Nat):=⟨(cell%4).toNat,by omega,by omega⟩
 have eN:(2*((Q.map af).length:Int))=((2*m:Nat):Int):=by rw[dz,sh.len];omega
 have m8:∀x:Int,ae .mod (.int x) (.int (2*m:Nat))=.ok (.int (x%(2*m:Nat))):=λx=>dP _ _ (by omega);have m7:∀x:Int,ae .mod (.int x) (.int ((2*m:Nat)-1))=.ok (.int (x%((2*m:Nat)-1))):=λx=>dP _ _ (by omega);have m4:∀x:Int,ae .mod (.int x) (.int 4)=.ok (.int (x%4)):=λx=>dP _ _ (by decide);have m2:∀x:Int,ae .mod (.int x) (.int 2)=.ok (.int (x%2)):=λx=>dP _ _ (by decide);have f8:∀x:Int,ae .fdiv (.int x) (.int 8)=.ok (.int (x/8)):=λx=>nE _ _ (by decide);have f4:∀x:Int,ae .fdiv (.int x) (.int 4)=.ok (.int (x/4)):=λx=>nE _ _ (by decide);have S9:∀x:Int,ae .fdiv (.int x) (.int 257)=.ok (.int (x/257)):=λx=>nE _ _ (by decide);have hl:=IX (k+0) (w:=w) sh (by omega) hw (sh.in_of hx) (sh.in_of hy);have hc:=IW (k+1) x (2*m:Nat) ((2*m:Nat)+1) hw;have hs:=kN (k+1) (line:=x) sh.four hQ;have hp:=FG (k+1) (d0:=.tup (Q.map af)) (v:=(2*m:Nat)) (zP _) sh.four (aX (sh.in_of hx));have WZ:=eJ (k+1) (R:=ko Q x y w) (gJ sh.four) (by rw[kE,sh.len];omega);have Nq:=eJ (k+1) (R:=rq Q x w) (gK sh.four) (by rw[kF,sh.len];omega);rw[show rq Q x w=fh Q (ak Q x) (2*m:Nat)++[oy x (2*m:Nat) ((2*m:Nat)+1) w] by rw[rq,sh.len],Ac] at Nq;have a1:=sh.rq (w:=w) hx;have a2:=sh.P6 hx hw;have b1:=sh.laid (w:=w) hx hy qd;have b2:=sh.P7 (w:=w) hx hy qd;rw[show rq Q x w=fh Q (ak Q x) (2*m:Nat)++[oy x (2*m:Nat) ((2*m:Nat)+1) w] by rw[rq,sh.len]] at a1 a2;have hlen:((fh Q (ak Q x) (2*m:Nat)).map af).length+1<=gx:=by
  have:gx=100000:=rfl;simp only[dz,aU];omega
 have ad:∀a:D,ae .add (.lst ((fh Q (ak Q x) (2*m:Nat)).map af)) (.lst [a])=.ok (.lst ((fh Q (ak Q x) (2*m:Nat)).map af++[a])):=λa=>nD _ _ (by simpa using hlen);have Qc:(Q.map af).length=m:=by rw[dz,sh.len]
 generalize gj (fh Q (ak Q x) (2*m:Nat)++[oy x (2*m:Nat) ((2*m:Nat)+1) w])=QA at*;generalize gj (ko Q x y w)=QB at*;generalize (fh Q (ak Q x) (2*m:Nat)).map af=Y at*;generalize (ko Q x y w).map af=Z at*;rw[fu,Bl] at Nq;generalize af (oy x (2*m:Nat) ((2*m:Nat)+1) w)=CU at*;generalize pairD (ak Q x)=PD at*;have hN:((2*m:Nat):Int)=2*(m:Int):=by omega
 generalize ((2*m:Nat):Int)=N at*;have e1:bg (bc prog (k+2)) prog.dv 1000 (.asg 3 (.ae .mul (.cst (.int 2)) (.bb .len (.var 0)))) [some (false,.tup (Q.map af)),some (false,.int cell),some (false,.int 6),none,none,none,none]=.nx [some (false,.tup (Q.map af)),some (false,.int cell),some (false,.int 6),some (false,.int N),none,none,none]:=by
  simp only[bg,ev,av,aa,cg,bx,Zc,ay,bj,Zf,Zi,Zj,Zk,Zq,b_,Zu,ZM,DB,eN]
 have e2:bg (bc prog (k+2)) prog.dv 1000 (.asg 4 (.ae .mod (.ae .fdiv (.var 1) (.cst (.int 8))) (.var 3))) [some (false,.tup (Q.map af)),some (false,.int cell),some (false,.int 6),some (false,.int N),none,none,none]=.nx [some (false,.tup (Q.map af)),some (false,.int cell),some (false,.int 6),some (false,.int N),some (false,.int x),none,none]:=by
  simp only[bg,ev,av,aa,cg,bx,Zc,ay,bj,Zf,Zi,Zj,Zk,Zl,Zq,b_,Zu,f8,m8,ex]
 have e3:bg (bc prog (k+2)) prog.dv 1000 (.asg 5 (.ae .mod (.ae .add (.ae .add (.var 4) (.cst (.int 1))) (.ae .mod (.ae .fdiv (.var 1) (.cst (.int 257))) (.ae .sub (.var 3) (.cst (.int 1))))) (.var 3))) [some (false,.tup (Q.map af)),some (false,.int cell),some (false,.int 6),some (false,.int N),some (false,.int x),none,none]=.nx [some (false,.tup (Q.map af)),some (false,.int cell),some (false,.int 6),some (false,.int N),some (false,.int x),some (false,.int y),none]:=by
  simp only[bg,ev,av,aa,cg,bx,Zc,ay,bj,Zf,Zi,Zj,Zk,Zl,Zq,b_,Zu,ZA,ZB,S9,m7,ez,m8,ey]
 show∃(Q':List (List Int))(m':Nat),(ao (bc prog (k+2)) prog.dv 1000 c9 [some (false,.tup (Q.map af)),some (false,.int cell),some (false,.int 6),none,none,none,none]).val=.ok (.tup (Q'.map af))/\_;unfold c9;rw[aC e1,aC e2,aC e3];by_cases hA:(cell/4%2==1)=true/\decide (((m:Nat):Int)+2<=6)=true
 ·have h8:m<=4:=by have:=of_decide_eq_true hA.2;omega
  refine⟨QB,m+2,?_,b1,by omega,by omega,b2⟩;simp only[ao,bg,fe,ev,cv,av,cq,aj,aa,ag,cg,bx,Za,Zc,Zf,Zk,Zl,Zo,Zp,Zq,b_,df,gV,ZA,ZD,ZG,ZM,f4,m2,m4,ew,hA.1,hA.2,Qc,show bc prog (k+2) 40 [.tup (Q.map af),.int x,.int y,.int (w:Nat)]=_ from hl,show bc prog (k+2) 27 [.lst Z]=_ from WZ];rfl
 have e4:bg (bc prog (k+2)) prog.dv 1000 (.ite (.and (.leaf (.ae .eq (.ae .mod (.ae .fdiv (.var 1) (.cst (.int 4))) (.cst (.int 2))) (.cst (.int 1)))) (.leaf (.ae .le (.ae .add (.bb .len (.var 0)) (.cst (.int 2))) (.var 2)))) [(.ret (.call 27 [(.call 40 [(.var 0),(.var 4),(.var 5),(.ae .mod (.var 1) (.cst (.int 4)))])]))] []) [some (false,.tup (Q.map af)),some (false,.int cell),some (false,.int 6),some (false,.int N),some (false,.int x),some (false,.int y),none]=.nx [some (false,.tup (Q.map af)),some (false,.int cell),some (false,.int 6),some (false,.int N),some (false,.int x),some (false,.int y),none]:=by
  by_cases c1:(cell/4%2==1)=true
  ·have c2:decide (((m:Nat):Int)+2<=6)=false:=by
    rw[Bool.eq_false_iff];exact λc=>hA ⟨c1,c⟩
   simp only[ao,bg,fe,ev,cv,av,cq,aj,aa,ag,cg,bx,Za,Zc,Zf,Zk,Zl,Zo,Zp,Zq,b_,df,gV,ZA,ZD,ZG,ZM,f4,m2,c1,Qc,c2]
  ·have c2:=Bool.eq_false_iff.2 c1
   simp only[ao,bg,fe,ev,cv,av,cq,aj,aa,ag,cg,bx,Za,Zc,Zf,Zk,Zl,Zo,Zp,Zq,b_,df,gV,ZA,ZD,ZG,ZM,f4,m2,c2,Qc]
 rw[aC e4];by_cases hB:decide (((m:Nat):Int)<6)=true
 ·have h9:m<6:=by have:=of_decide_eq_true hB;omega
  refine⟨QA,m+1,?_,a1,by omega,by omega,a2⟩;simp only[ao,bg,fe,ev,cv,av,cq,aj,aa,ag,cg,bx,Za,Zc,ay,bj,Zf,Zi,Zj,Zk,Zl,Zo,Zp,Zq,b_,df,gV,Zu,ZA,ZC,ZM,Qc,hB,m4,ew,show bc prog (k+2) 37 [.tup (Q.map af),.int x]=_ from hs,show bc prog (k+2) 38 [.tup (Q.map af),PD,.int N]=_ from hp,show bc prog (k+2) 39 [.int (w:Nat),.int x,.int N,.int (N+1)]=_ from hc,ad,show bc prog (k+2) 27 [.lst (Y++[CU])]=_ from Nq];rfl
 ·refine⟨Q,m,?_,sh,h1,hm,Kp.refl _⟩
  have W3:=Bool.eq_false_iff.2 hB;simp only[ao,bg,fe,ev,cv,av,cq,aj,aa,ag,cg,bx,Za,Zc,ay,bj,Zf,Zi,Zj,Zk,Zl,Zo,Zp,Zq,b_,df,gV,Zu,ZC,ZM,Qc,W3];rfl
theorem Kb(s:ax Q m):IS Q m=tw (Q.map x4):=s.P5 (λi=>(Dc Q m (i,2)).2) (λi=>(Dc Q m (i,2)).1) λi hi=>(oA s (sX hi)).2
theorem IZ(h:(cv Φ G false its (av (ag false its) δ)).bind (a_ k)=.ok xs)(Q:Nat->gk->Prop)(q0:Q 0 (av (ag false its) δ))
  (st:∀i (h:i<xs.length) δ,Q i δ->∃δ',cz Φ G n tg body xs[i] δ=.nx δ'/\Q (i+1) δ') (f:∀δ',Q xs.length δ'->(ao Φ G n ss δ').val=v):(ao Φ G n (.loop k its tg body::ss) δ).val=v:=by
 obtain⟨δ',e,q⟩:=bB h Q q0 st;exact aY e (f δ' q)
theorem sums(sh:ax Q m)(hm:m<=6)(hg:g<=2):∃t,bh t/\DF t=true/\val t=vi (Q.map x4) g/\(∀k,bc prog (k+4) 16 [eh Q (g:Int)]=.ok (.lst ((kh t).map gw)))/\∀k,bc prog (k+2) 35 [.tup (Q.map af),.int (g:Nat)]=.ok (jy t):=by
 have gd:J8 ((g+2*m:Nat):Int) (Q,(g:Int)):=⟨sh.four,by show Q.length<=9;rw[sh.len];omega,by show(0:Int)<=g;omega,by show(g:Int)+2*(Q.length:Nat)<=_;rw[sh.len];omega⟩
 obtain⟨_,nd,pv,pi⟩:=uO (Φ:=bc prog 3) (f:=1) gd (by omega) λs hs hn w hw=>vA 0 hs.1 (by have:=hs.2.1;omega) hn hw;have pi:yb 2 ((Q.length:Nat)+2*_) (Q.length+1+2*(g+2*m+1)) _:=pi;rw[sh.len] at pi;obtain⟨⟨ld,lk⟩,lv⟩:=MG (Q.map x4) g;rw[dz,sh.len] at lk;have g1:DF (D3 (Q,(g:Int)))=true:=by
  have:=jI (.inl rfl) nd pi;unfold DF;rw[Ad (by omega)];rfl
 have g2:DF (ltV (Q.map x4) g)=true:=by
  have:=jI (.inl rfl) ld lk;unfold DF;rw[Ad (by omega)];rfl
 have te:kh (D3 (Q,(g:Int)))=kh (ltV (Q.map x4) g):=IG nd ld (pv.trans lv.symm);exact⟨_,ld,g2,lv,λk=>by rw[←te];exact IU k gd (by omega) g1,λk=>FK k sh (by omega) (by omega)⟩
theorem law_true:∀ns:List Int,ns.length<=63->bc prog depth lawId [.gu ns]=.ok (.bl true):=by
 intro ns _;show(ao (bc prog 11) prog.dv 1000 Ka [some (false,.gu ns),none,none,none,none,none,none,none,none,none,none]).val=_;have c0:bc prog 11 24 [.gu ns,.int 0]=.ok (.int (jj ns 0)):=n8 10 ns 0;have c1:bc prog 11 24 [.gu ns,.int 1]=.ok (.int (jj ns 1)):=n8 10 ns 1;have c2:bc prog 11 24 [.gu ns,.int 2]=.ok (.int (jj ns 2)):=n8 10 ns 2;have md:∀x y:Int,0<y->ae .mod (.int x) (.int y)=.ok (.int (x%y)):=λx y h=>dP _ _ h;have m2:=λx=>md x 2 (by decide);have m3:=λx=>md x 3 (by decide);have m5:=λx=>md x 5 (by decide);obtain⟨m,h1,hm,em⟩:∃m:Nat,1<=m/\m<=3/\1+jj ns 0%3=(m:Nat):=⟨(1+jj ns 0%3).toNat,by omega,by omega,by omega⟩
 obtain⟨g,hg,eg⟩:∃g:Nat,g<=2/\jj ns 1%3=(g:Nat):=⟨(jj ns 1%3).toNat,by omega,by omega⟩
 have hr:=MS 8 ns 3 m (by omega);have s0:=sA (λk=>ng ns (3+k)) m;have gp:=(GP.EX m).run (pk:=λk=>ng ns (3+k)) (m:=m) (by show(List.replicate (4*m) (-1:Int)).length=_;simp);obtain⟨k1,k2⟩:=j3 m _ gp.2;generalize kg m (Be (λk=>ng ns (3+k)) (kf m [])).owner=R at*;have hn:bc prog 11 27 [.lst (R.map af)]=_:=eJ 10 k2 (by omega);generalize gj R=Q0 at*;have hr:bc prog 11 26 [.gu ns,.int 3,.int (m:Nat),.lst []]=_:=hr;obtain⟨t0,UP,UQ,v0,_,l0⟩:=sums s0 (by omega) hg;have l0:bc prog 11 35 [.tup (Q0.map af),.int (g:Nat)]=_:=l0 9;have tl:=nP UQ;have w0:bc prog 11 30 [.tup (Q0.map af)]=_:=qN 9 s0 (by omega);rw[Kb s0] at w0;have d0:∀w:Int,bc prog 11 36 [jy t0,.int (-3*w),.int (1-2*(w%2))]=.ok (.lst ((kh t0).map λx=>gw (x.1+ -3*w,(1-2*(w%2))*x.2))):=λw=>FL 10 UP UQ (by omega);have W4:∀w:Int,ae .mul (.int (-3)) (.int w)=.ok (.int (-3*w)):=λw=>dO _ _ (.inl (by decide));have S_:∀w:Int,ae .mul (.int 3) (.int w)=.ok (.int (3*w)):=λw=>dO _ _ (.inl (by decide));generalize hW:tw (Q0.map x4)=W0 at*;obtain⟨FO,hD⟩:∃FO,D.lst ((kh t0).map λx=>gw (x.1+ -3*W0,(1-2*(W0%2))*x.2))=FO:=⟨_,rfl⟩
 have d0:=d0 W0;rw[hD] at d0;have rl:∀j,(((Q0.take j).flatMap λr=>p3 (x4 r) 2).map gw).length<=2*j:=λj=>by
  have:∀L:List (List Int),(L.flatMap λr=>p3 (x4 r) 2).length=2*L.length:=λL=>by
   induction L with
   |nil=>rfl
   |cons r L ih=>rw[Jb,rj,ih];show 2+_=_;simp only[gm];omega
  rw[dz,this,Bj];omega
 refine aY (aM (v:=.tup (Q0.map af)) rfl (by simp only[ev,cv,cg,bx,Zf,Zk,df,gV,ZA,c0,m3,em,hr,hn])) (aY (aM (v:=.int (g:Nat)) rfl (by simp only[ev,cv,cg,bx,ay,bj,Zf,Zi,Zj,Zk,df,gV,Zs,c1,m3,eg])) (aY (aM (v:=.int W0) rfl (by simp only[ev,cv,cg,bx,ay,bj,Zf,Zi,Zj,Zk,Zl,df,gV,Zs,w0])) (aY (aM (v:=FO) rfl (by simp only[ev,cv,cg,bx,ay,bj,Zf,Zi,Zj,Zk,Zl,b_,df,gV,Zs,ZB,ZO,l0,W4,m2,DB,d0])) (aY rfl ?_))));refine IZ (by simp only[ev,cv,av,cq,aa,ag,cg,bx,ay,bj,Zf,Zi,Zj,Zk,Zl,Zq,df,gV,Zr,Zs,Zu];exact bW (by rw[dz,s0.len];omega)) (λi δ=>∃c6,δ=[some (false,.gu ns),some (false,.tup (Q0.map af)),some (false,.int (g:Nat)),some (false,.int W0),some (false,FO),some (true,.lst (((Q0.take i).flatMap λr=>p3 (x4 r) 2).map gw)),c6,none,none,none,none]) ⟨none,rfl⟩ ?_ ?_
 ·rintro i hi δ ⟨c6,rfl⟩
  have hq:i<Q0.length:=by simpa using hi
  rw[List.getElem_map];have hl:=rl i;have e:(((Q0.take (i+1)).flatMap λr=>p3 (x4 r) 2).map gw)=(((Q0.take i).flatMap λr=>p3 (x4 r) 2).map gw)++(p3 (x4 Q0[i]) 2).map gw:=by
   rw[D4 hq,Kh,Ac,Jb,List.flatMap_nil,Ci]
  rw[e];obtain⟨a,b,c,d,W5⟩:=DC (s0.four _ (yn hq));rw[W5];have ad:=j9 (((Q0.take i).flatMap λr=>p3 (x4 r) 2).map gw) ((p3 (x4 [a,b,c,d]) 2).map gw) (by show _+2<=_;rw[s0.len] at hq;omega);generalize ((Q0.take i).flatMap λr=>p3 (x4 r) 2).map gw=P at*;exact⟨_,Ny (bO (aM rfl (cF rfl rfl ad)) rfl),_,rfl⟩
 rintro δ ⟨c6,rfl⟩;have eP:((Q0.take (Q0.map af).length).flatMap λr=>p3 (x4 r) 2)=rh (Q0.map x4) (zx Q0.length):=by
  rw[dz,Bk,qI]
 rw[eP];have rg:bc prog 11 31 [.lst ((rh (Q0.map x4) (zx Q0.length)).map gw)]=.ok (.int (st (Q0.map x4):Nat)):=by
  have:=rl Q0.length;rw[Bk,←qI,dz,s0.len] at this;have:=vB 10 (l:=rh (Q0.map x4) (zx Q0.length)) (by rw[s0.len];omega);rw[this];unfold st;rw[dz];rfl
 generalize (rh (Q0.map x4) (zx Q0.length)).map gw=PL at*;refine aY (δ':=[some (false,.gu ns),some (false,.tup (Q0.map af)),some (false,.int (g:Nat)),some (false,.int W0),some (false,FO),some (false,.lst PL),c6,some (false,.int ((g:Nat)+(st (Q0.map x4):Nat))),none,none,none]) (by simp only[bg,ev,cv,av,cq,aa,ag,cg,bx,Zc,ay,bj,Zf,Zi,Zj,Zk,Zl,Zo,Zq,b_,df,gV,Zt,ZA,rg]) ?_;obtain⟨n,XI,en⟩:∃n:Nat,n<=4/\jj ns 2%5=(n:Nat):=⟨(jj ns 2%5).toNat,by omega,by omega⟩
 refine nO (m:=n) (by simp only[ev,cv,av,cq,aa,ag,cg,bx,Zf,Zk,Zq,df,gV,c2,m5,en];exact aK (by omega)) (λ_ δ=>∃(Q:List (List Int))(m':Nat)(c8:Slot),δ=[some (false,.gu ns),some (false,.tup (Q.map af)),some (false,.int (g:Nat)),some (false,.int W0),some (false,FO),some (false,.lst PL),c6,some (false,.int ((g:Nat)+(st (Q0.map x4):Nat))),c8,none,none]/\ax Q m'/\1<=m'/\m'<=6/\Kp (Q0.map x4) (Q.map x4)) ⟨Q0,m,none,rfl,s0,h1,by omega,Kp.refl _⟩ ?_ ?_
 ·rintro i hi δ ⟨Q,m',c8,rfl,s,a1,a2,kp⟩
  have e5:bc prog 11 25 [.gu ns,.int (10+(i:Nat))]=_:=sU 9 ns (10+i);obtain⟨Q',m2,e6,s',b1,b2,W6⟩:=IY 8 (cell:=ng ns (10+i)) s a1 a2;have e6:bc prog 11 41 [.tup (Q.map af),.int (ng ns (10+i)),.int 6]=_:=e6;refine⟨_,Ny (bO (aM (v:=.tup (Q'.map af)) rfl ?_) rfl),Q',m2,some (false,.int (i:Nat)),rfl,s',b1,b2,kp.trans W6⟩;generalize D.tup (Q.map af)=U at*;generalize D.tup (Q'.map af)=U' at*;generalize ((i:Nat):Int)=I at*;simp only[ev,cv,cg,bx,Zf,Zi,Zj,Zk,Zl,b_,df,gV,ZA,e5,e6]
 rintro δ ⟨Q,m',c8,rfl,s,a1,a2,ks,d,kd,kt⟩;obtain⟨t,nd,gd,v,pt,_⟩:=sums s a2 hg;have pt:∀k,bc prog (k+4) 16 [eh Q (g:Int)]=.ok (.lst ((kh t).map gw)):=pt;have sg:1-2*(d%2)=1\/1-2*(d%2)= -1:=by omega
 have te:=wM UP nd sg λi=>by rw[v,v0];exact kt g i
 have f9:bc prog 11 10 [eh Q (g:Int)]=_:=wW 5 s (by omega);rw[s.DG,ks] at f9;have w1:bc prog 11 30 [.tup (Q.map af)]=_:=qN 9 s (by omega);have t5:bc prog 11 17 [eh Q (g:Int)]=_:=sZ 5 s (by omega) (by have:=nP gd;omega) (pt 6);rw[Kb s] at w1 t5;have pt:bc prog 11 16 [eh Q (g:Int)]=_:=pt 7;rw[kd,hW] at w1 t5;have a7:∀L:List (Int×Int),L.length<=1000->bc prog 11 42 [.lst (L.map gw),.lst (L.map gw)]=.ok (.bl true):=λL h=>IV 9 h;have sq:(1-2*((W0+d)%2))*(1-2*(d%2))=1-2*(W0%2)/\(1-2*(W0%2))*(1-2*((W0+d)%2))=1-2*(d%2):=by
  rcases Int.emod_two_eq W0 with h|h<;>rcases Int.emod_two_eq d with k|k<;>rw[h,k,show(W0+d)%2=_ from Int.add_emod W0 d 2,h,k]<;>decide
 have E1:D.lst ((kh t).map λx=>gw (x.1+ -3*(W0+d),(1-2*((W0+d)%2))*x.2))=FO:=by
  rw[←hD,te,vj]
  congr 1
  refine Bh λx _=>?_;show gw (x.1+3*d+ -3*(W0+d),(1-2*((W0+d)%2))*((1-2*(d%2))*x.2))=_;rw[←Int.mul_assoc,sq.1,show x.1+3*d+ -3*(W0+d)=x.1+ -3*W0 by omega]
 have E2:(kh t0).map (λx=>gw (x.1+ -3*W0+3*(W0+d),(1-2*(W0%2))*x.2*(1-2*((W0+d)%2))))=(kh t).map gw:=by
  rw[te,vj];refine Bh λx _=>?_;show _=gw (x.1+3*d,(1-2*(d%2))*x.2);rw[←sq.2,show x.1+ -3*W0+3*(W0+d)=x.1+3*d by omega,Int.mul_right_comm]
 have al:=a7 (kh t) (by have:=nP gd;omega);have ad:bc prog 11 42 [FO,FO]=.ok (.bl true):=by
  have:=a7 ((kh t0).map λx=>(x.1+ -3*W0,(1-2*(W0%2))*x.2)) (by rw[dz];omega);rw[vj] at this;rw[←hD];exact this
 have t5:bc prog 11 17 [eh Q (g:Int)]=.ok FO:=by rw[←E1];exact t5
 have wh:∀x,bc prog 11 28 [.int x]=.ok (.bl true):=uY 10;have cm:∀W:Int,ev (bc prog 11) prog.dv false (.comp .seq [(.var 4)] [3] 1 none (.tup [(.ae .add (.ae .at (.var 0) (.cst (.int 0))) (.ae .mul (.cst (.int 3)) (.var 1))),(.ae .mul (.ae .at (.var 0) (.cst (.int 1))) (.ae .sub (.cst (.int 1)) (.ae .mul (.cst (.int 2)) (.ae .mod (.var 1) (.cst (.int 2))))))])) [some (false,.gu ns),some (false,.tup (Q.map af)),some (false,.int (g:Nat)),some (false,.int W),some (false,FO),some (false,.lst PL),c6,some (false,.int ((g:Nat)+(st (Q0.map x4):Nat))),c8,some (false,.int (((st (Q0.map x4):Nat):Int)+(g:Nat))),none]=.ok (.lst ((kh t0).map λx=>gw (x.1+ -3*W0+3*W,(1-2*(W0%2))*x.2*(1-2*(W%2))))):=λW=>by
  rw[←hD];refine cY (a:=λx:Int×Int=>gw (x.1+ -3*W0,(1-2*(W0%2))*x.2)) _ (aW (by rw[dz];omega)) λx _=>?_;have mx:∀y:Int,ae .mul (.int y) (.int (1-2*(W%2)))=.ok (.int (y*(1-2*(W%2)))):=λy=>dO _ _ (.inr (by omega));have a0:ae .at (gw (x.1+ -3*W0,(1-2*(W0%2))*x.2)) (.int 0)=.ok (.int (x.1+ -3*W0)):=rfl;have a1:ae .at (gw (x.1+ -3*W0,(1-2*(W0%2))*x.2)) (.int 1)=.ok (.int ((1-2*(W0%2))*x.2)):=rfl;generalize gw (x.1+ -3*W0,(1-2*(W0%2))*x.2)=PX at*;simp only[ev,cv,cg,bx,dk,Zf,Zk,Zl,Zm,Zn,b_,Zx,ZA,ZB,dk,fu,Bl,a0,a1,S_,m2,DB,mx];rfl
 have cm:=cm (W0+d);rw[E2] at cm;have sd:D.tup [.tup (Q.map af),.int (g:Int)]=eh Q (g:Int):=rfl;generalize (kh t).map gw=TL at*;have eq:(((st (Q0.map x4):Nat):Int)+(g:Nat)==(g:Nat)+((st (Q0.map x4):Nat):Int))=true:=by rw[Int.add_comm];exact beq_self_eq_true _
 refine aY (aM (v:=.int (((st (Q0.map x4):Nat):Int)+(g:Nat))) rfl (by simp only[ev,cv,cg,bx,Zf,Zk,Zl,df,gV,sd,f9])) (aY (fK (t:=false) (by simp only[fe,ev,cv,av,cq,aj,aa,ag,cg,bx,Za,ay,bj,Zf,Zi,Zj,Zk,Zl,Zq,b_,df,gV,Zs,Zv,ZH,wh,eq]) rfl) (aY (aM (v:=.int (W0+d)) rfl (by simp only[ev,cv,av,cq,aj,aa,ag,cg,bx,ay,bj,Zf,Zi,Zj,Zk,Zl,Zq,b_,df,gV,Zs,w1])) (aY (aM rfl cm) ?_)));generalize eh Q (g:Int)=S at*;generalize D.tup (Q.map af)=U at*;simp only[ao,bg,ev,cv,av,cq,aj,aa,ag,cg,bx,Zc,Dp,ay,bj,Zf,Zi,Zj,Zk,Zl,Zo,Zp,Zq,b_,df,gV,Zr,Zs,sd,t5,ad,pt,al];rfl
end L
theorem PySem.Challenge.cw_cordbook_k20_whole_sum_of_many_holds : PySem.Challenge.rw_cordbook_k20_whole_sum_of_many.Holds :=
 L.beg fun hn hd hY hf => L2.Snd.walk_law4 (l := PySem.Challenge.rw_cordbook_k20_whole_sum_of_many) (Pg := L.prog) (f := L.lawId) (j := L.depth) L.law_true rfl hd hY (fun _ _ _ _ _ _ KX Tp hmg => L.all_mk KX Tp (hn ▸ hmg) (hf _) L.depth) (by decide)
