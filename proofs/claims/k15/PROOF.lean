import PyProof.Rows.All
import Wide.All
import OpenK.AllK
import Wide.FinOn
import Lean
import PyProof.EqAt
import PyProof.EqKinds
import PyProof.TupleCall
import PyProof.ConsumeS
import PySem.Challenge.RW_cordbook_k15_whole_moves_keep_colours
set_option Elab.async false
set_option linter.all false
set_option maxRecDepth 100000
set_option genSizeOf false
noncomputable section
theorem gV:type_of% @Bool.false_eq_true:=@Bool.false_eq_true
theorem w5:type_of% @List.length_cons:=@List.length_cons
theorem w6:type_of% @if_false:=@if_false
theorem xA:type_of% @PySem.wpAny_bind:=@PySem.wpAny_bind
theorem xB:type_of% @List.length_map:=@List.length_map
theorem xC:type_of% @if_neg:=@if_neg
theorem xD:type_of% @if_true:=@if_true
theorem xE:type_of% @if_pos:=@if_pos
theorem xF:type_of% @Bool.false_ne_true:=@Bool.false_ne_true
theorem xG:type_of% @Bool.and_eq_true:=@Bool.and_eq_true
theorem xH:type_of% @PySem.Heap.get?_push_of_some:=@PySem.Heap.get?_push_of_some
theorem xI:type_of% @PySem.Heap.lt_size:=@PySem.Heap.lt_size
theorem xJ:type_of% @List.length_nil:=@List.length_nil
theorem xK:type_of% @List.mem_cons_of_mem:=@List.mem_cons_of_mem
theorem xL:type_of% @List.length_append:=@List.length_append
theorem xM:type_of% @List.map_cons:=@List.map_cons
theorem xN:type_of% @Nat.le_refl:=@Nat.le_refl
theorem xO:type_of% @List.size_toArray:=@List.size_toArray
theorem xP:type_of% @List.mem_append_right:=@List.mem_append_right
theorem xQ:type_of% @Nat.zero_add:=@Nat.zero_add
theorem xR:type_of% @List.getElem?_set_ne:=@List.getElem?_set_ne
theorem xS:type_of% @List.count_cons:=@List.count_cons
theorem xT:type_of% @List.mem_cons_self:=@List.mem_cons_self
theorem xU:type_of% @Nat.le_trans:=@Nat.le_trans
theorem xV:type_of% @List.getElem_mem:=@List.getElem_mem
theorem xW:type_of% @List.take_succ_eq_append_getElem:=@List.take_succ_eq_append_getElem
theorem xX:type_of% @PySem.wpAny_pure:=@PySem.wpAny_pure
theorem xY:type_of% @List.getD_eq_getElem?_getD:=@List.getD_eq_getElem?_getD
theorem xZ:type_of% @List.flatten_cons:=@List.flatten_cons
theorem x6:type_of% @PySem.Heap.get?_update_other:=@PySem.Heap.get?_update_other
theorem x8:type_of% @decide_eq_false:=@decide_eq_false
theorem x9:type_of% @List.getElem?_set_self:=@List.getElem?_set_self
theorem yA:type_of% @Nat.lt_of_lt_of_le:=@Nat.lt_of_lt_of_le
theorem yB:type_of% @List.map_append:=@List.map_append
theorem yC:type_of% @List.mem_cons:=@List.mem_cons
theorem yD:type_of% @List.append_nil:=@List.append_nil
theorem yE:type_of% @Int.toNat_natCast:=@Int.toNat_natCast
theorem yF:type_of% @List.not_mem_nil:=@List.not_mem_nil
theorem yG:type_of% @PySem.wpAny_mono:=@PySem.wpAny_mono
theorem yH:type_of% @PySem.Heap.get?_update_self:=@PySem.Heap.get?_update_self
theorem yI:type_of% @Ne.symm:=@Ne.symm
theorem yJ:type_of% @decide_eq_true:=@decide_eq_true
theorem yK:type_of% @Nat.lt_of_le_of_lt:=@Nat.lt_of_le_of_lt
theorem yL:type_of% @List.count_nil:=@List.count_nil
theorem yM:type_of% @List.lookup_cons:=@List.lookup_cons
theorem yN:type_of% @Option.some.inj:=@Option.some.inj
theorem yO:type_of% @PySem.wpAny_field:=@PySem.wpAny_field
theorem yP:type_of% @List.mem_filter:=@List.mem_filter
theorem yQ:type_of% @Nat.ne_of_lt:=@Nat.ne_of_lt
theorem yR:type_of% @PySem.Obj.isFreed_of_fields:=@PySem.Obj.isFreed_of_fields
theorem yS:type_of% @List.length_take:=@List.length_take
theorem yT:type_of% @PySem.Obj.data_mapFields:=@PySem.Obj.data_mapFields
theorem yU:type_of% @PySem.Heap.get?_push_size:=@PySem.Heap.get?_push_size
theorem yV:type_of% @List.length_set:=@List.length_set
theorem yW:type_of% @Nat.lt_irrefl:=@Nat.lt_irrefl
theorem yX:type_of% @List.map_nil:=@List.map_nil
theorem yY:type_of% @List.getElem?_eq_getElem:=@List.getElem?_eq_getElem
theorem yZ:type_of% @List.mem_map:=@List.mem_map
theorem y4:type_of% @List.count_append:=@List.count_append
theorem y7:type_of% @List.take_length:=@List.take_length
theorem y8:type_of% @List.drop_succ_cons:=@List.drop_succ_cons
theorem y9:type_of% @List.flatten_append:=@List.flatten_append
theorem zA:type_of% @List.take_succ_cons:=@List.take_succ_cons
theorem zB:type_of% @beq_iff_eq:=@beq_iff_eq
theorem zC:type_of% @List.getElem?_eq_none:=@List.getElem?_eq_none
theorem zD:type_of% @List.getElem?_append_right:=@List.getElem?_append_right
theorem zE:type_of% @List.getElem?_replicate:=@List.getElem?_replicate
theorem zF:type_of% @List.mem_flatten:=@List.mem_flatten
theorem zG:type_of% @List.getElem?_append_left:=@List.getElem?_append_left
theorem zH:type_of% @Bool.eq_iff_iff:=@Bool.eq_iff_iff
theorem zI:type_of% @List.filter_cons:=@List.filter_cons
theorem zJ:type_of% @List.filterMap_cons:=@List.filterMap_cons
theorem zK:type_of% @PySem.mem_of_lookup:=@PySem.mem_of_lookup
theorem zL:type_of% @List.length_replicate:=@List.length_replicate
theorem zM:type_of% @Nat.ne_of_gt:=@Nat.ne_of_gt
theorem zN:type_of% @List.getElem?_map:=@List.getElem?_map
theorem zO:type_of% @PySem.wpAny_newObj_type:=@PySem.wpAny_newObj_type
theorem zP:type_of% @List.drop_zero:=@List.drop_zero
theorem zQ:type_of% @List.nodup_nil:=@List.nodup_nil
theorem zR:type_of% @Int.emod_lt_of_pos:=@Int.emod_lt_of_pos
theorem zS:type_of% @List.take_zero:=@List.take_zero
theorem zT:type_of% @List.all_cons:=@List.all_cons
theorem zU:type_of% @List.range_succ:=@List.range_succ
theorem zV:type_of% @beq_self_eq_true:=@beq_self_eq_true
theorem zW:type_of% @List.getElem_map:=@List.getElem_map
theorem zX:type_of% @Int.emod_eq_of_lt:=@Int.emod_eq_of_lt
theorem zY:type_of% @Int.zero_emod:=@Int.zero_emod
theorem zZ:type_of% @Nat.lt_trans:=@Nat.lt_trans
namespace L2
open PySem PySem.Spec PyProof.Rows
def defArgs(s:Stmt):Arguments:=match s with
 |.FunctionDef _ a _ _ _ _ _ _ _ _=>a
 |_=>{posonlyargs:=[],args:=[],vararg:=none,kwonlyargs:=[],kw_defaults:=[],kwarg:=none,defaults:=[]}
def defBody(s:Stmt):List Stmt:=match s with
 |.FunctionDef _ _ b _ _ _ _ _ _ _=>b
 |_=>[]
def defScope(s:Stmt):Scope:=match s with
 |.FunctionDef _ _ _ _ _ _ sc _ _ _=>sc
 |_=>{kind:=.function,names:=[],isGenerator:=false,isCoroutine:=false}
end L2
namespace L
open PySem PySem.Spec PyProof.Rows L2
def ta:Nat->Nat×Str×Nat×List Str
 |0=>(1,"colourings",2,["sheet","prime","lines","free","count","chosen"])
 |1=>(2,"conditions",2,["crossings","lines","rows","crossing"])
 |2=>(3,"weighed",2,["weights","lines","row","line","weight"])
 |3=>(4,"rank",3,["rows","lines","prime","settled","left","line","leading","others"])
 |4=>(5,"cleared",4,["row","leading","line","prime"])
 |5=>(13,"ends",2,["sheet","line","places","at","crossing","end"])
 |6=>(14,"crossing_at",2,["sheet","at"])
 |7=>(15,"turned",2,["crossing","by"])
 |8=>(16,"line_at",2,["crossings","place"])
 |9=>(17,"opposite",1,["place"])
 |10=>(18,"numbered",2,["crossings","rings","numbers","told","crossing","line"])
 |11=>(19,"without",2,["crossings","gone"])
 |12=>(20,"joined",3,["crossings","rings","pairs","left","waiting","kept","lost"])
 |13=>(21,"renamed",3,["rows","old","new"])
 |14=>(24,"curled",3,["sheet","line","way","crossings","fresh","into_ring","opened"])
 |15=>(25,"curl",4,["kept","new","loop","way"])
 |16=>(26,"uncurled",2,["sheet","at","crossing","end","others"])
 |17=>(27,"laid_over",4,["sheet","upper","lower","way","upper_place","lower_place","fresh","opened","sides"])
 |18=>(28,"overlay",4,["upper","lower","fresh","way","bow","under"])
 |19=>(29,"taken_apart",3,["sheet","one","other","first","second","turns","pairs"])
 |20=>(30,"loosened",2,["first","second","end"])
 |21=>(31,"slid",4,["sheet","first","second","third","told","step","low","found"])
 |22=>(32,"slide_ends",3,["told","low","step","over","into","beneath","last","closing"])
 |23=>(33,"end_with",3,["crossing","choices","line","end"])
 |24=>(34,"passed",3,["crossings","numbers","found","cords","left","one","other","inner"])
 |25=>(35,"relined",3,["crossings","place","line","left","crossing"])
 |26=>(37,"_law_cell_at",2,["script","k"])
 |27=>(38,"_law_pick",2,["script","k"])
 |28=>(39,"_law_rows",4,["script","start","many","fixed","owner","k","left","name","at"])
 |29=>(40,"_law_numbered",1,["rows","names","row","name","found"])
 |30=>(41,"_law_whole",1,["x"])
 |31=>(42,"_law_good",1,["found","lines","row","line"])
 |32=>(43,"_law_corners",4,["c","g","h","ways","step","p","j","q","one","two"])
 |33=>(44,"_law_start",2,["script","room","kind","ways","many","fixed","a","b","end"])
 |34=>(45,"_law_paints",2,["many","prime","found","k","more","paint","x"])
 |35=>(46,"_law_fits",3,["row","paint","prime"])
 |36=>(47,"_law_count",2,["rows","prime","found","paint","good","row"])
 |37=>(48,"_law_deed",3,["sheet","cell","room","many","lines","part","spots","found"])
 |38=>(49,"_law_all",2,["sheet","prime","found","ring"])
 |39=>(50,"law",1,["script","prime","room","sheet","due","k","found","many"])
 |_=>(0,"",0,[])
abbrev nm(i:Nat):Str:=(ta i).2.1
abbrev Nn(i:Nat):List Str:=(ta i).2.2.2
abbrev Ps(i:Nat):List Str:=(Nn i).take (ta i).2.2.1
abbrev sT(i:Nat):Stmt:=PySem.Challenge.pw_cordbook_k15_whole_moves_keep_colours.main.body.getD (ta i).1 (.Pass ⟨0,0,0,0⟩)
abbrev bmV:List Value:=[.type "ValueError",.type "Exception",.type "BaseException",.type "object"]
def bl:List Str:=["bool","enumerate","int","isinstance","len","list","max","range","tuple","zip"]
abbrev FH(K:W.Frag)(i:Nat):Prop:=∃(f:Addr)(oc kV dc pm cd ct:Value)(od an:Option Addr)(sl:Array (Option Value)),W.nsIn K mainGlobals (nm i)=some (some (.ref f))/\K.lookup f=some ⟨oc,od,.func (W.fnOf (nm i) (nm i) (defArgs (sT i)) (defBody (sT i)) (defScope (sT i)) .none kV dc pm an cd ct),sl⟩/\W.codeIn K cd (nm i)=true/\W.keepIn K (.ref f)=true
abbrev ExB(K:W.Frag)(C:Addr):Prop:=(W.findIn K (.ref C) "__getattribute__"=some (some (.builtin "BaseException.__getattribute__"))/\W.findIn K (.ref C) "__getattr__"=some none)/\W.findIn K (.ref C) "__class__"=some (some (.builtin "object.__class__"))/\W.mroIn K C (.type "object")=some true/\W.mroIn K C (.type "BaseException")=some true
abbrev qq:Program:=W.view PySem.Challenge.pw_cordbook_k15_whole_moves_keep_colours [1,2,3,4,5,7,8,9,10,12,13,14,15,16,17,18,19,20,21,23,24,25,26,27,28,29,30,31,32,33,34,35,37,38,39,40,41,42,43,44,45,46,47,48,49,50]
def Fx(K:W.Frag):Prop:=∃(C0 C1 C2 C3:Addr)(cd_0:ClassData)(cd_1:ClassData)(cd_2:ClassData)(cd_3:ClassData)(tk_LIMIT:Tok)(ad_READINGS_0:Addr)(od_READINGS_0:Option Addr)(sl_READINGS_0:Array (Option Value))(nn_READINGS_0:Nat)(ad_READINGS_1:Addr)(od_READINGS_1:Option Addr)(sl_READINGS_1:Array (Option Value))(nn_READINGS_1:Nat)(tk_READINGS_2:Tok)(tk_READINGS_3:Tok)(ad_READINGS_4:Addr)(od_READINGS_4:Option Addr)(sl_READINGS_4:Array (Option Value))(nn_READINGS_4:Nat)(tk_READINGS_5:Tok)(tk_READINGS_6:Tok)(ad_READINGS_7:Addr)(od_READINGS_7:Option Addr)(sl_READINGS_7:Array (Option Value))(nn_READINGS_7:Nat)(tk_READINGS_8:Tok)(tk_READINGS_9:Tok)(ad_READINGS_10:Addr)(od_READINGS_10:Option Addr)(sl_READINGS_10:Array (Option Value))(nn_READINGS_10:Nat)(tk_READINGS_11:Tok)(tk_READINGS_12:Tok),specOf qq "Crowded"=some ("ValueError.__new__",bmV)/\specOf qq "NoPlace"=some ("ValueError.__new__",bmV)/\specOf qq "NoMove"=some ("ValueError.__new__",bmV)/\(∀i,i<40->FH K i)/\(∀i,i<10->W.nsIn K mainGlobals (bl.getD i "")=some none)/\W.nsIn K mainGlobals "Crowded"=some (some (.ref C0))/\W.nsIn K mainGlobals "NoPlace"=some (some (.ref C1))/\W.nsIn K mainGlobals "NoMove"=some (some (.ref C2))/\W.nsIn K mainGlobals "CordError"=some (some (.ref C3))/\W.specialIn K (.builtin "object.__class__") "__get__"=some (some (.builtin "getset_descriptor.__get__"))/\W.takesIn K (.builtin "object.__class__")=some true/\ExB K C0/\ExB K C1/\ExB K C2/\W.clsIn K C0=some cd_0/\W.typeIn K (.ref C0)=some (.type "type")/\W.subIn K (.ref C0) (.ref C0)=some true/\W.clsIn K C1=some cd_1/\W.typeIn K (.ref C1)=some (.type "type")/\W.subIn K (.ref C1) (.ref C1)=some true/\W.clsIn K C2=some cd_2/\W.typeIn K (.ref C2)=some (.type "type")/\W.subIn K (.ref C2) (.ref C2)=some true/\W.clsIn K C3=some cd_3/\W.typeIn K (.ref C3)=some (.type "type")/\W.subIn K (.ref C3) (.ref C3)=some true/\W.subIn K (.ref C0) (.ref C3)=some true/\W.subIn K (.ref C1) (.ref C3)=some true/\W.subIn K (.ref C2) (.ref C3)=some true/\W.subIn K (.ref C3) (.type "BaseException")=some true/\W.nsIn K mainGlobals "LIMIT"=some (some (.int 10 tk_LIMIT))/\W.nsIn K mainGlobals "READINGS"=some (some (.ref ad_READINGS_0))/\K.lookup ad_READINGS_0=some ⟨.type "tuple",od_READINGS_0,.seq #[.ref ad_READINGS_1,.ref ad_READINGS_4,.ref ad_READINGS_7,.ref ad_READINGS_10] nn_READINGS_0,sl_READINGS_0⟩/\K.lookup ad_READINGS_1=some ⟨.type "tuple",od_READINGS_1,.seq #[.int (0) tk_READINGS_2,.int (0) tk_READINGS_3] nn_READINGS_1,sl_READINGS_1⟩/\K.lookup ad_READINGS_4=some ⟨.type "tuple",od_READINGS_4,.seq #[.int (0) tk_READINGS_5,.int (2) tk_READINGS_6] nn_READINGS_4,sl_READINGS_4⟩/\K.lookup ad_READINGS_7=some ⟨.type "tuple",od_READINGS_7,.seq #[.int (2) tk_READINGS_8,.int (0) tk_READINGS_9] nn_READINGS_7,sl_READINGS_7⟩/\K.lookup ad_READINGS_10=some ⟨.type "tuple",od_READINGS_10,.seq #[.int (2) tk_READINGS_11,.int (2) tk_READINGS_12] nn_READINGS_10,sl_READINGS_10⟩
end L
section
open PySem PySem.W PyProof.Rows
set_option hygiene false in
local macro_rules | `(tactic| o_head $H) => `(tactic| (refine holds_open (N := 6000) (loose := []) (q := (view PySem.Challenge.pw_cordbook_k15_whole_moves_keep_colours [1, 2, 3, 4, 5, 7, 8, 9, 10, 12, 13, 14, 15, 16, 17, 18, 19, 20, 21, 23, 24, 25, 26, 27, 28, 29, 30, 31, 32, 33, 34, 35, 37, 38, 39, 40, 41, 42, 43, 44, 45, 46, 47, 48, 49, 50])) (XP := XL (view PySem.Challenge.pw_cordbook_k15_whole_moves_keep_colours [1, 2, 3, 4, 5, 7, 8, 9, 10, 12, 13, 14, 15, 16, 17, 18, 19, 20, 21, 23, 24, 25, 26, 27, 28, 29, 30, 31, 32, 33, 34, 35, 37, 38, 39, 40, 41, 42, 43, 44, 45, 46, 47, 48, 49, 50]) []) (YP := Hook.says $H) (Yf := Hook.obs $H) (Ya := Hook.val $H) (Xt := fun s => xlAt (view PySem.Challenge.pw_cordbook_k15_whole_moves_keep_colours [1, 2, 3, 4, 5, 7, 8, 9, 10, 12, 13, 14, 15, 16, 17, 18, 19, 20, 21, 23, 24, 25, 26, 27, 28, 29, 30, 31, 32, 33, 34, 35, 37, 38, 39, 40, 41, 42, 43, 44, 45, 46, 47, 48, 49, 50]) [] s && recOk (RowW.records (OpenRow.toRowW (OpenLaw.row PySem.Challenge.rw_cordbook_k15_whole_moves_keep_colours))) s) ?hl (Hook.of $H) (Hook.keeps $H) (fun s e => xl_of s (Bool.and_eq_true_iff.mp e).1) XL.keeps (by rfl) (by rfl) (by rfl) (fun s e => recFacts_of (Bool.and_eq_true_iff.mp e).2) (by rfl) (by first | assumption | decide +kernel) (by decide +kernel) ⟨rfl, rfl, rfl, rfl, rfl, by decide +kernel⟩ ?hw ?hc; case hl => (intro w; kernel_rfl)))
set_option maxRecDepth 100000 in
set_option maxHeartbeats 0 in
theorem L.beg (call : ∀ {XP : (Str → Option Value) → Heap → Prop} {YP : World → Heap → Prop} {d : DefRec} {K : Params → W.Frag}, d.name = "law" → d.params.defaults = [] → (∀ (w : World) (h : Heap), YP w h → (K w.params).In h) → (∀ p, L.Fx (K p)) →
  W.WalkO L.qq [] XP YP PySem.Challenge.rw_cordbook_k15_whole_moves_keep_colours.row.toRowW d [] fun f vs => PySem.call f vs) : PySem.Challenge.rw_cordbook_k15_whole_moves_keep_colours.Holds := by
 w_on; o_law; k_head; (case hw => w_witness2)
 k_fill
 refine call rfl rfl (fun w h Y => W.kIn_of Y) fun p => ?_
 refine ⟨_, _, _, _, _, _, _, _, _, _, _, _, _, _, _, _, _, _, _, _, _, _, _, _, _, _, _, _, _, _, _, _, _, _, _, _, _, by first | rfl | decide +kernel, by first | rfl | decide +kernel, by first | rfl | decide +kernel, ?hF, ?hB, by k_is, by k_is, by k_is, by k_is, by k_is, by k_is, ⟨⟨by k_is, by k_is⟩, by k_is, by k_is, by k_is⟩, ⟨⟨by k_is, by k_is⟩, by k_is, by k_is, by k_is⟩, ⟨⟨by k_is, by k_is⟩, by k_is, by k_is, by k_is⟩, by k_is, by k_is, by k_is, by k_is, by k_is, by k_is, by k_is, by k_is, by k_is, by k_is, by k_is, by k_is, by k_is, by k_is, by k_is, by k_is, by k_is, by k_is, by k_is, by k_is, by k_is, by k_is, by k_is⟩
 case hF =>
  intro i hi
  match i, hi with
  | 0, _ | 1, _ | 2, _ | 3, _ | 4, _ | 5, _ | 6, _ | 7, _ | 8, _ | 9, _ | 10, _ | 11, _ | 12, _ | 13, _ | 14, _ | 15, _ | 16, _ | 17, _ | 18, _ | 19, _ | 20, _ | 21, _ | 22, _ | 23, _ | 24, _ | 25, _ | 26, _ | 27, _ | 28, _ | 29, _ | 30, _ | 31, _ | 32, _ | 33, _ | 34, _ | 35, _ | 36, _ | 37, _ | 38, _ | 39, _ =>
   exact ⟨_, _, _, _, _, _, _, _, _, _, by k_is, by k_is, by k_is, by k_is⟩
  | n + 40, h => exact absurd h (by omega)
 case hB =>
  intro i hi
  match i, hi with
  | 0, _ | 1, _ | 2, _ | 3, _ | 4, _ | 5, _ | 6, _ | 7, _ | 8, _ | 9, _ => show _ = _; k_is
  | n + 10, h => exact absurd h (by omega)
end
namespace L2
open PySem PySem.Spec PyProof.Rows
abbrev Key:=Sum Int Str
def keyIs:Key->Value->Bool
 |.inl k,v=>Value.isInt k v
 |.inr x,v=>Value.isStrOf x v
def keyH(w:World):Key->Int
 |.inl k=>hashInt k
 |.inr x=>hashStr w x
theorem aI:∀{k:Key}{v:Value},keyIs k v=true->(∃i t,k=Sum.inl i/\v=Value.int i t)\/(∃x t,k=Sum.inr x/\v=Value.str x t)
 |.inl i,v,h=>by
  obtain⟨t,e⟩:=Value.isInt_shape (k:=i) (v:=v) h;exact .inl ⟨i,t,rfl,e⟩
 |.inr x,v,h=>by
  obtain⟨t,e⟩:=Value.isStrOf_shape (x:=x) (v:=v) h;exact .inr ⟨x,t,rfl,e⟩
theorem rB(i:Int)(t:Tok):keyIs (.inl i) (.int i t)=true:=by simp[keyIs,Value.isInt]
theorem rC(x:Str)(t:Tok):keyIs (.inr x) (.str x t)=true:=by simp[keyIs,Value.isStrOf]
theorem key_ll(a b:Int):decide ((Sum.inl a:Key)=Sum.inl b)=(a==b):=by
 by_cases e:a=b
 ·subst e;simp
 ·have h:¬(Sum.inl a:Key)=Sum.inl b:=λq=>e (Sum.inl.inj q)
  rw[x8 h];exact(beq_eq_false_iff_ne.mpr e).symm
theorem key_rr(a b:Str):decide ((Sum.inr a:Key)=Sum.inr b)=decide (a=b):=by
 by_cases e:a=b
 ·subst e;simp
 ·have h:¬(Sum.inr a:Key)=Sum.inr b:=λq=>e (Sum.inr.inj q)
  rw[x8 h,x8 e]
theorem key_lr(a:Int)(b:Str):decide ((Sum.inl a:Key)=Sum.inr b)=false:=x8 (λq=>nomatch q)
theorem key_rl(a:Str)(b:Int):decide ((Sum.inr a:Key)=Sum.inl b)=false:=x8 (λq=>nomatch q)
def mixKind(prog:Program)(w:World):PySem.KeyKind prog w Key where
 is:=keyIs
 hash:=keyH w
 inj:=λv a b ha hb=>by
  rcases aI ha with⟨i,t,rfl,rfl⟩|⟨x,t,rfl,rfl⟩
  ·rcases aI hb with⟨j,u,rfl,e⟩|⟨y,u,rfl,e⟩
   ·injection e with e1 _;rw[e1]
   ·exact nomatch e
  ·rcases aI hb with⟨j,u,rfl,e⟩|⟨y,u,rfl,e⟩
   ·exact nomatch e
   ·injection e with e1 _;rw[e1]
 byValue:=λk v h=>by
  rcases aI h with⟨i,t,rfl,rfl⟩|⟨x,t,rfl,rfl⟩<;>rfl
 pyHash:=λhv h=>by
  rcases aI hv with⟨i,t,rfl,rfl⟩|⟨x,t,rfl,rfl⟩
  ·exact wpAny_pyHash_int h
  ·exact wpAny_pyHash_str h
 eqBool:=λhu hv h=>by
  rcases aI hu with⟨i,t,rfl,rfl⟩|⟨x,t,rfl,rfl⟩
  ·rcases aI hv with⟨j,u,rfl,rfl⟩|⟨y,u,rfl,rfl⟩
   ·rw[key_ll] at h;exact wpAny_eqBool_int h
   ·rw[key_lr] at h;exact SeqAt.EqAt.int_str i t y u _ _ _ _ h
  ·rcases aI hv with⟨j,u,rfl,rfl⟩|⟨y,u,rfl,rfl⟩
   ·rw[key_rl] at h;exact SeqAt.EqAt.str_int x t j u _ _ _ _ h
   ·rw[key_rr] at h;exact wpAny_eqBool_str h
 «strs»:=λk x t v h=>by
  rcases aI h with⟨i,u,rfl,e⟩|⟨y,u,rfl,e⟩
  ·exact nomatch e
  ·injection e with e1 _
   subst e1;cases v<;>rfl
theorem lX(prog:Program)(w:World)(i:Int)(t:Tok):(mixKind prog w).is (.inl i) (.int i t)=true:=rB i t
theorem lY(prog:Program)(w:World)(x:Str)(t:Tok):(mixKind prog w).is (.inr x) (.str x t)=true:=rC x t
inductive V where
 |non|bl (b:Bool)|int (i:Int)|str (x:Str)|byt (b:Array UInt8)|flt (b:UInt64)|ref (a:Addr)|ty (n:String)
 deriving DecidableEq
def RelV:V->Value->Prop
 |.non,u=>u=Value.none
 |.bl b,u=>u=Value.bool b
 |.int i,u=>∃t,u=Value.int i t
 |.str x,u=>∃t,u=Value.str x t
 |.byt b,u=>∃t,u=Value.bytes b t
 |.flt b,u=>∃t,u=Value.float b t
 |.ref a,u=>u=Value.ref a
 |.ty n,u=>u=Value.type n
abbrev Vals:List V->List Value->Prop:=Paired RelV
theorem Vals.length(r:Vals xs us):xs.length=us.length:=Paired.length r
theorem Vals.get:∀{xs:List V}{us:List Value}{i:Nat}{x:V},Vals xs us->xs[i]?=some x->∃u,us[i]?=some u/\RelV x u
 |_,_,_,_,.nil,e=>by simp at e
 |_,_,0,_,.cons r _,e=>by simp at e;subst e;exact⟨_,rfl,r⟩
 |_,_,i+1,x,.cons _ t,e=>by
  obtain⟨u,h1,h2⟩:=Vals.get (i:=i) (x:=x) t (by simpa using e);exact⟨u,by simpa using h1,h2⟩
theorem Vals.set(r:RelV x u):∀{xs:List V}{us:List Value}(i:Nat),Vals xs us->Vals (xs.set i x) (us.set i u)
 |_,_,_,.nil=>.nil
 |_,_,0,.cons _ t=>.cons r t
 |_,_,i+1,.cons q t=>.cons q (Vals.set r i t)
theorem Vals.append:∀{xs ys:List V}{us ws:List Value},Vals xs us->Vals ys ws->Vals (xs++ys) (us++ws)
 |_,_,_,_,.nil,s=>s
 |_,_,_,_,.cons r t,s=>.cons r (Vals.append t s)
theorem Vals.take:∀{xs:List V}{us:List Value}(n:Nat),Vals xs us->Vals (xs.take n) (us.take n)
 |_,_,0,_=>.nil
 |_,_,_+1,.nil=>.nil
 |_,_,n+1,.cons r t=>.cons r (Vals.take n t)
theorem Vals.drop:∀{xs:List V}{us:List Value}(n:Nat),Vals xs us->Vals (xs.drop n) (us.drop n)
 |_,_,0,r=>r
 |_,_,_+1,.nil=>.nil
 |_,_,n+1,.cons _ t=>Vals.drop n t
def RelO:Option V->Option Value->Prop
 |some v,some u=>RelV v u
 |none,none=>True
 |_,_=>False
def KV{κ:Type}:List (κ×V)->List (κ×Value)->Prop:=Paired λ(p:κ×V)(q:κ×Value)=>p.1=q.1/\RelV p.2 q.2
def kV:Key->V
 |.inl i=>.int i
 |.inr x=>.str x
inductive HO where
 |lst (xs:List V)
 |tup (xs:List V)
 |dK (kvs:List (Key×V))|dT (kvs:List (List Key×V))
 |set (S:Int->Bool) (n:Nat)
 |ins (C dx:Addr) (fs:List (Str×V))
 |own (x:Addr)
 |xd (fs:List (Str×V))
 |met (f x:Addr)
 |rng (lo hi:Int)
 |frz (o:Obj) (u:HO)
 |tbl (ps:Array Value)
 |ext (φ:Heap->Prop)
abbrev Hp:=Addr->Option HO
def upd(H:Hp)(a:Addr)(o:HO):Hp:=λb=>if b=a then some o else H b
theorem aE:upd H a o a=some o:=by unfold upd;rw[xE rfl]
theorem aB(h:b≠a):upd H a o b=H b:=by unfold upd;rw[xC h]
theorem ne_of{H:Hp}(h:H a=some o)(h':H b=some u)(d:o≠u):a≠b:=by
 intro e;subst e;rw[h] at h';exact d (yN h')
theorem bA{H:Hp}(h:H a=some o)(h':H b=none):a≠b:=by
 intro e;subst e;rw[h] at h';cases h'
section
variable(P:Program)(w:World)
def ObjOk(H:Hp)(h:Heap)(a:Addr):HO->Prop
 |.lst xs=>xs.length<=sizeLine/\∃(its:List Value)(n:Nat),Vals xs its/\h.get? a=some {cls:=.type "list",data:=.seq its.toArray n}
 |.tup xs=>xs.length<=sizeLine/\∃its:List Value,Vals xs its/\IsTup h a its.toArray
 |.dK kvs=>kvs.length<=sizeLine/\(a==sysModules)=false/\∃vs,KV kvs vs/\h.DictOf (mixKind P w) a vs
 | .dT kvs=>kvs.length<=sizeLine/\(a==sysModules)=false/\∃xs:List (List Key×Addr×Value),
   Paired (λ(p:List Key×V)(q:List Key×Addr×Value)=>p.1=q.1/\H q.2.1=some (.tup (p.1.map kV))/\RelV p.2 q.2.2) kvs xs/\
   ∃o es ep,h.get? a=some o/\o.ExactDict/\o.data=.dict es ep/\es.toList=xs.map (entryOfKey (tupleKind (mixKind P w)))/\(xs.map (·.1)).Nodup
 |.set S n=>h.SetOf (intKind P w) a S n
 | .ins C dx fs=>H dx=some (.own a)/\fs.length<=1000/\dx≠a/\h.get? a=some (PySem.W.instObj C dx)/\
   ∃mA,h.Ns1 dx mA/\(∀f,RelO (fs.lookup f) (mA f))/\PySem.Within mA (fs.map (·.1))
 |.own _=>∃o,h.get? a=some o
 |.xd fs=>∃mA,h.Ns1 a mA/\∀f,RelO (fs.lookup f) (mA f)
 |.rng lo hi=>∃t u v,h.get? a=some {cls:=.type "range",data:=.fields #[.int lo t,.int hi u,.int 1 v]}
 |.frz o u=>h.get? a=some o/\ObjOk H h a u
 |.tbl ps=>h.get? a=some {cls:=.none,data:=.fields ps}
 |.met f x=>h.get? a=some (PySem.W.methodObj (.ref f) (.ref x))
 |.ext φ=>φ h/\(∃o,h.get? a=some o)/\∀h1 h2:Heap,φ h1->(∀o,h1.get? a=some o->h2.get? a=some o)->φ h2
def HOk(H:Hp)(h:Heap):Prop:=∀a o,H a=some o->ObjOk P w H h a o
end
section
variable{P:Program}{w:World}{H H':Hp}{h h':Heap}{a:Addr}{o:HO}
theorem ObjOk.lt(x:ObjOk P w H h a o):a<h.objs.size:=by
 cases o with
 |lst xs=>obtain⟨_,_,_,_,e⟩:=x;exact xI e
 |tup xs=>obtain⟨_,_,_,p⟩:=x;exact p.lt
 |dK kvs=>obtain⟨_,_,_,_,o,_,_,e,_⟩:=x;exact xI e
 |dT kvs=>obtain⟨_,_,_,_,o,_,_,e,_⟩:=x;exact xI e
 |set S n=>obtain⟨o,_,_,_,e,_⟩:=x;exact xI e
 |ins C dx fs=>obtain⟨_,_,_,e,_⟩:=x;exact xI e
 |own y=>obtain⟨_,e⟩:=x;exact xI e
 |xd fs=>obtain⟨_,⟨_,_,_,e,_⟩,_⟩:=x;exact xI e
 |rng lo hi=>obtain⟨_,_,_,e⟩:=x;exact xI e
 |frz ob u=>obtain⟨e,_⟩:=x;exact xI e
 |tbl ps=>exact xI (show h.get? a=some _ from x)
 |met f y=>exact xI (show h.get? a=some _ from x)
 |ext φ=>obtain⟨_,⟨_,e⟩,_⟩:=x;exact xI e
theorem Paired.mapP:∀{l₁:List α}{l₂:List β},Paired F l₁ l₂->(∀a b,F a b->G a b)->Paired G l₁ l₂
 |_,_,.nil,_=>.nil
 |_,_,.cons r t,f=>.cons (f _ _ r) (Paired.mapP t f)
theorem ObjOk.stay(x:ObjOk P w H h a o)(k:∀b u,(b=a\/H b=some (.own a))->h.get? b=some u->h'.get? b=some u)
  (ho:∀b,H b=some (.own a)->H' b=some (.own a)) (ht:∀b xs,H b=some (.tup xs)->H' b=some (.tup xs)):ObjOk P w H' h' a o:=by
 induction o with
 |lst xs=>obtain⟨z,its,n,r,e⟩:=x;exact⟨z,its,n,r,k _ _ (.inl rfl) e⟩
 |tup xs=>obtain⟨z,its,r,ob,e,c⟩:=x;exact⟨z,its,r,ob,k _ _ (.inl rfl) e,c⟩
 |dK kvs=>obtain⟨z,y,vs,r,ob,es,ep,e,c⟩:=x;exact⟨z,y,vs,r,ob,es,ep,k _ _ (.inl rfl) e,c⟩
 |dT kvs=>
  obtain⟨z,y,xs,r,ob,es,ep,e,c⟩:=x;exact⟨z,y,xs,Paired.mapP r λp q z=>⟨z.1,ht _ _ z.2.1,z.2.2⟩,ob,es,ep,k _ _ (.inl rfl) e,c⟩
 |set S n=>obtain⟨ob,es,ep,t,e,c⟩:=x;exact⟨ob,es,ep,t,k _ _ (.inl rfl) e,c⟩
 |ins C dx fs=>
  obtain⟨d,z,ne,e,mA,⟨od,es,ep,e2,c⟩,r⟩:=x;exact⟨ho _ d,z,ne,k _ _ (.inl rfl) e,mA,⟨od,es,ep,k _ _ (.inr d) e2,c⟩,r⟩
 |own y=>obtain⟨ob,e⟩:=x;exact⟨ob,k _ _ (.inl rfl) e⟩
 |xd fs=>obtain⟨mA,⟨od,es,ep,e,c⟩,r⟩:=x;exact⟨mA,⟨od,es,ep,k _ _ (.inl rfl) e,c⟩,r⟩
 |rng lo hi=>obtain⟨t,u,v,e⟩:=x;exact⟨t,u,v,k _ _ (.inl rfl) e⟩
 |frz ob u ih=>obtain⟨e,q⟩:=x;exact⟨k _ _ (.inl rfl) e,ih q⟩
 |tbl ps=>
  have e:h.get? a=some {cls:=.none,data:=.fields ps}:=x;show h'.get? a=some {cls:=.none,data:=.fields ps};exact k a _ (.inl rfl) e
 |met f y=>
  have e:h.get? a=some (PySem.W.methodObj (.ref f) (.ref y)):=x;show h'.get? a=some (PySem.W.methodObj (.ref f) (.ref y));exact k a _ (.inl rfl) e
 |ext φ=>obtain⟨p,⟨o,e⟩,st⟩:=x;exact⟨st _ _ p λo q=>k _ _ (.inl rfl) q,⟨o,k _ _ (.inl rfl) e⟩,st⟩
theorem HOk.lt(x:HOk P w H h)(e:H a=some o):a<h.objs.size:=(x a o e).lt
theorem HOk.fresh(x:HOk P w H h)(e:h.objs.size<=a):H a=none:=by
 cases q:H a with
 |none=>rfl
 |some u=>exact absurd (yA (x.lt q) e) (yW _)
theorem HOk.kept(x:HOk P w H h)(k:∀b u,h.get? b=some u->h'.get? b=some u):HOk P w H h':=λa o e=>
 (x a o e).stay (λb u _ q=>k b u q) (λ_ q=>q) λ_ _ q=>q
theorem HOk.laid(x:HOk P w H h)(k:∀b u,h.get? b=some u->h'.get? b=some u)(hp:h.objs.size<=a)(new:ObjOk P w (upd H a o) h' a o):HOk P w (upd H a o) h':=λb u e=>by
 have hn:=x.fresh hp;by_cases hb:b=a
 ·subst hb;rw[aE] at e;cases e;exact new
 ·rw[aB hb] at e
  exact(x b u e).stay (λc v _ q=>k c v q) (λc q=>by rw[aB (bA q hn)];exact q) λc xs q=>by rw[aB (bA q hn)];exact q
end
def Rd(H:Hp)(a:Addr)(u:HO):Prop:=H a=some u\/∃o,H a=some (.frz o u)
theorem Rd.ok(r:Rd H a u)(x:HOk P w H h):ObjOk P w H h a u:=by
 rcases r with r|⟨o,r⟩
 ·exact x a u r
 ·obtain⟨_,q⟩:=x a _ r
  exact q
def Mut:Option HO->Prop
 |some (.lst _)=>True
 |some (.dK _)=>True
 |some (.dT _)=>True
 |some (.set _ _)=>True
 |some (.ins _ _ _)=>True
 |some (.ext _)=>True
 |_=>False
section
variable{P:Program}{w:World}{H:Hp}{h h':Heap}{x e:Addr}{o':HO}
theorem HOk.write(ok:HOk P w H h)(mu:Mut (H x))(he:e=x\/H e=some (.own x))(k:∀b u,b≠e->h.get? b=some u->h'.get? b=some u)(heo:∃u,h'.get? e=some u)
  (new:ObjOk P w (upd H x o') h' x o'):HOk P w (upd H x o') h':=λb u q=>by
 have nown:∀c y,H c=some (.own y)->c≠x:=λc y r z=>by subst z;rw[r] at mu;exact mu
 have ntup:∀c xs,H c=some (.tup xs)->c≠x:=λc xs r z=>by subst z;rw[r] at mu;exact mu
 by_cases hb:b=x
 ·subst hb;rw[aE] at q;cases q;exact new
 ·rw[aB hb] at q
  by_cases hbe:b=e
  ·have q':H b=some (.own x):=by
    rcases he with z|z
    ·exact absurd (hbe.trans z) hb
    ·rw[hbe];exact z
   rw[q] at q';cases q';obtain⟨v,hv⟩:=heo;exact⟨v,by rw[hbe];exact hv⟩
  ·refine(ok b u q).stay (λc v hc r=>k c v ?_ r) (λc r=>by rw[aB (nown c b r)];exact r) λc xs r=>by rw[aB (ntup c xs r)];exact r
   rcases hc with rfl|hc
   ·exact hbe
   ·rintro rfl
    rcases he with z|z
    ·exact nown c b hc z
    ·rw[hc] at z;cases z;exact hb rfl
end
structure Un(fs ex:List Addr)(H H':Hp)(h h':Heap):Prop where
 keep:∀b o,h.get? b=some o->H b=none->b∉fs->b∉ex->h'.get? b=some o
 slot:∀b o,h.get? b=some o->H b=none->b∈fs->b∉ex->∃sl,h'.get? b=some {o with slots:=sl}
 free:∀b o,h.get? b=some o->H b=none->b∉ex->H' b=none
 there:∀b o,h.get? b=some o->b∉ex->∃o',h'.get? b=some o'
 tups:∀b xs,H b=some (.tup xs)->H' b=some (.tup xs)
 frzs:∀b o u,H b=some (.frz o u)->H' b=some (.frz o u)
 tbls:∀b ps,H b=some (.tbl ps)->∃more,H' b=some (.tbl (ps++more))
section
variable{fs fs' ex ex':List Addr}{H H1 H2:Hp}{h h1 h2 h':Heap}{a x e:Addr}{o:HO}
theorem Un.any(u:Un fs ex H H1 h h1)(q:h.get? b=some ob)(n:H b=none)(hx:b∉ex):∃sl,h1.get? b=some {ob with slots:=sl}:=by
 by_cases hb:b∈fs
 ·exact u.slot b ob q n hb hx
 ·exact⟨ob.slots,u.keep b ob q n hb hx⟩
theorem Un.trans(a:Un fs ex H H1 h h1)(b:Un fs ex H1 H2 h1 h2):Un fs ex H H2 h h2 where
 keep:=λc ob q n hc hx=>b.keep c ob (a.keep c ob q n hc hx) (a.free c ob q n hx) hc hx
 slot:=λc ob q n hc hx=>by
  obtain⟨sl,e1⟩:=a.slot c ob q n hc hx;obtain⟨sl',e2⟩:=b.slot c _ e1 (a.free c ob q n hx) hc hx;exact⟨sl',e2⟩
 free:=λc ob q n hx=>by
  obtain⟨o',e1⟩:=a.there c ob q hx;exact b.free c o' e1 (a.free c ob q n hx) hx
 there:=λc ob q hx=>by
  obtain⟨o',e1⟩:=a.there c ob q hx;exact b.there c o' e1 hx
 tups:=λc xs q=>b.tups c xs (a.tups c xs q)
 frzs:=λc ob xs q=>b.frzs c ob xs (a.frzs c ob xs q)
 tbls:=λc ps q=>by
  obtain⟨m1,e1⟩:=a.tbls c ps q;obtain⟨m2,e2⟩:=b.tbls c _ e1;exact⟨m1++m2,by rw[e2,Array.append_assoc]⟩
theorem Un.kept(k:∀b u,h.get? b=some u->h'.get? b=some u):Un fs ex H H h h':=
 ⟨λb ob q _ _ _=>k b ob q,λb ob q _ _ _=>⟨ob.slots,k b ob q⟩,λ_ _ _ n _=>n,λb ob q _=>⟨ob,k b ob q⟩,λ_ _ q=>q,λ_ _ _ q=>q,λ_ ps q=>⟨#[],by rw[q];simp⟩⟩
theorem Un.refl:Un fs ex H H h h:=Un.kept λ_ _ q=>q
theorem Un.laid(k:∀b u,h.get? b=some u->h'.get? b=some u)(hp:h.objs.size<=a)(hn:H a=none):Un fs ex H (upd H a o) h h' where
 keep:=λb u q _ _ _=>k b u q
 slot:=λb u q _ _ _=>⟨u.slots,k b u q⟩
 free:=λb u q n _=>by rw[aB (yQ (yA (xI q) hp))];exact n
 there:=λb u q _=>⟨u,k b u q⟩
 tups:=λb xs q=>by rw[aB (bA q hn)];exact q
 frzs:=λb u xs q=>by rw[aB (bA q hn)];exact q
 tbls:=λb ps q=>⟨#[],by rw[aB (bA q hn),q];simp⟩
theorem Un.write(mu:Mut (H x))(he:e=x\/H e=some (.own x))(k:∀b u,b≠e->h.get? b=some u->h'.get? b=some u)(heo:∃u,h'.get? e=some u):Un fs ex H (upd H x o) h h':=by
 have hx:∀b,H b=none->b≠x:=λb n z=>by subst z;rw[n] at mu;exact mu
 have hb:∀b,H b=none->b≠e:=λb n z=>by
  subst z;rcases he with r|r
  ·exact hx b n r
  ·rw[n] at r;cases r
 have hm:∀b u,H b=some u->¬Mut (some u)->b≠x:=λb u q nm z=>by subst z;rw[q] at mu;exact nm mu
 refine⟨λb u q n _ _=>k b u (hb b n) q,λb u q n _ _=>⟨u.slots,k b u (hb b n) q⟩,λb u q n _=>by rw[aB (hx b n)];exact n,λb u q _=>?_,
  λb xs q=>by rw[aB (hm b _ q λz=>z)];exact q,λb u xs q=>by rw[aB (hm b _ q λz=>z)];exact q,λb ps q=>⟨#[],by rw[aB (hm b _ q λz=>z),q];simp⟩⟩
 by_cases hbe:b=e
 ·subst hbe;exact heo
 ·exact⟨u,k b u hbe q⟩
end
def trk(h:Heap)(H:Hp):List Addr:=(List.range h.objs.size).filter λa=>(H a).isSome
def hidT(h:Heap)(H:Hp):Heap:=PySem.W.hideAll h (trk h H)
theorem rD(h:Heap)(H:Hp):(hidT h H).objs.size=h.objs.size:=PySem.W.hideAll_size _ _
theorem tN(e:h.get? b=some o)(n:H b=none):(hidT h H).get? b=some o:=
 PySem.W.hideAll_get _ e λhm=>by
  have q:(H b).isSome=true:=(List.mem_filter.mp hm).2;rw[n] at q;simp at q
theorem of_hidT(e:(hidT h H).get? b=some o):h.get? b=some o/\H b=none:=by
 have e':h.get? b=some o:=PySem.W.of_hideAll (trk h H) e;refine⟨e',?_⟩
 cases q:H b with
 |none=>rfl
 |some x=>
  have hm:b∈trk h H:=List.mem_filter.mpr ⟨List.mem_range.mpr (xI e'),by simp[q]⟩;have z:(hidT h H).get? b=none:=PySem.W.hideAll_none (trk h H) hm;rw[z] at e;cases e
structure Mod(K:PySem.W.Frag)(mg:Str->Option Value)(base:Heap):Prop where
 kin:K.In base
 glob:base.Ns mainGlobals mg
 blt:∃mb,base.Ns builtinsNs mb/\∀x:Str,x≠"__name__"->mb x=bootBuiltins x
 nolimit:base.NoLimit
structure Cx where
 prog:Program
 w:World
 K:PySem.W.Frag
 mg:Str->Option Value
 base:Heap
 A:Around
 N:List Str
 s₀:Shared
 H₀:Hp
 env:Env
 outer:List Env
 stack:List Env
 ex:List Addr
 fn:Str->Bool
 calm:Bool
 pn:List (Addr×Obj)
 xe:Value->Shared->Prop
def frs(l:List Env):List Addr:=l.filterMap (·.frame)
abbrev Cx.fs(X:Cx):List Addr:=frs X.outer
def Vis(sc:Scope)(x:Str):Prop:=sc.names.lookup x=some .local\/sc.names.lookup x=some .cell\/sc.names.lookup x=some .free
def Loc(sc:Scope)(x:Str):Prop:=sc.names.lookup x=some .local\/sc.names.lookup x=some .cell
def Look(env:Env)(h:Heap)(m:Str->Option Value)(x:Str)(u:Value):Prop:=
 (env.kindOf x=some .local/\m x=some u)\/((env.kindOf x=some .cell\/env.kindOf x=some .free)/\∃c,env.cells.lookup x=some c/\h.IsCell c (some u))
structure Cx.Ok(X:Cx):Prop where
 mod:Mod X.K X.mg X.base
 kind:X.env.scope.kind=.function
 glob:X.env.globals=mainGlobals
 blt:X.env.builtins=builtinsNs
 above:X.s₀.heap.objs.size<=X.env.locals
 inj:∀x y c,X.env.cells.lookup x=some c->X.env.cells.lookup y=some c->x=y
 has:∀x,(X.env.kindOf x=some .cell\/X.env.kindOf x=some .free)->∃c,X.env.cells.lookup x=some c
 cab:∀x c,X.fn x=true->X.env.cells.lookup x=some c->X.s₀.heap.objs.size<=c
 hd:X.calm=true->X.A.handled=none
 frames:X.A.frames=some X.stack
 stk:X.stack=X.outer\/(X.stack=X.env::X.outer/\X.env.frame=some X.env.locals)
 exf:∀b∈X.ex,b≠X.env.locals/\∀x c,X.env.cells.lookup x=some c->c≠b
 bs:∀b o,X.base.get? b=some o->X.s₀.heap.get? b=some o/\X.H₀ b=none
 bsz:X.base.objs.size<=X.s₀.heap.objs.size
 noex:∀b o,X.base.get? b=some o->b∉X.ex
 exfs:∀b∈X.ex,b∉X.fs
 funs:X.s₀.heap.FunFrames X.base X.outer
 frf:∀b∈X.fs,X.H₀ b=none
structure Inv(X:Cx)(pins:List (Addr×Obj))(σ:List (Option V))(H:Hp)(s:Shared):Prop where
 ok:X.Ok
 os:s.os=X.s₀.os
 bare:AllBare s.gens
 base:Un X.fs X.ex X.H₀ H X.s₀.heap s.heap
 loc:∃m,s.heap.Ns X.env.locals m/\∀(i:Nat)(x:Str)(v:V),X.N[i]?=some x->σ[i]?=some (some v)->Vis X.env.scope x->∃u,RelV v u/\Look X.env s.heap m x u
 cell:∀x c,X.env.cells.lookup x=some c->∃v,s.heap.IsCell c v
 free:H X.env.locals=none
 freeC:∀x c,X.env.cells.lookup x=some c->H c=none
 pin:∀p∈X.pn++pins,s.heap.get? p.1=some p.2/\H p.1=none/\p.1≠X.env.locals/\p.1∉X.fs/\∀v,p.2.data≠.cell v
 hok:HOk X.prog X.w H s.heap
 len:σ.length=X.N.length
section
variable{X:Cx}{pins:List (Addr×Obj)}{σ:List (Option V)}{H H':Hp}{s:Shared}{h':Heap}
theorem Cx.Ok.nofr(ok:X.Ok)(e:X.base.get? b=some o):b∉X.fs:=λhb=>by
 have:=(ok.funs.mem hb).1;rw[e] at this;cases this
theorem Inv.bs(I:Inv X pins σ H s):∀b o,X.base.get? b=some o->s.heap.get? b=some o/\H b=none:=λb o e=>
 ⟨I.base.keep b o (I.ok.bs b o e).1 (I.ok.bs b o e).2 (I.ok.nofr e) (I.ok.noex b o e),I.base.free b o (I.ok.bs b o e).1 (I.ok.bs b o e).2 (I.ok.noex b o e)⟩
theorem Inv.bk(I:Inv X pins σ H s):∀b o,X.base.get? b=some o->s.heap.get? b=some o:=λb o e=>(I.bs b o e).1
theorem Inv.mod(I:Inv X pins σ H s):Mod X.K X.mg X.base:=I.ok.mod
theorem Inv.kIn(I:Inv X pins σ H s):X.K.In s.heap:=I.ok.mod.kin.keeps I.bk
theorem Inv.lt(I:Inv X pins σ H s):X.env.locals<s.heap.objs.size:=let⟨_,hn,_⟩:=I.loc;hn.lt
theorem Inv.sz(I:Inv X pins σ H s):X.s₀.heap.objs.size<=s.heap.objs.size:=xU I.ok.above (Nat.le_of_lt I.lt)
theorem Inv.nofs(I:Inv X pins σ H s)(h:s.heap.objs.size<=a):a∉X.fs:=λhb=>by
 obtain⟨_,o,ho,_⟩:=I.ok.funs.mem hb;exact absurd (yA (xI ho) (xU I.sz h)) (yW _)
theorem Inv.cne(I:Inv X pins σ H s):∀x c,X.env.cells.lookup x=some c->c≠X.env.locals:=λx c e z=>by
 obtain⟨v,o,ho,hd⟩:=I.cell x c e;obtain⟨m,⟨o',es,ep,ho',hd',_⟩,_⟩:=I.loc;rw[z,ho'] at ho;cases ho;rw[hd'] at hd;cases hd
theorem Inv.funs(I:Inv X pins σ H s):s.heap.FunFrames X.base X.outer:=by
 have all:∀(l:List Env),(∀b∈frs l,b∈X.fs)->X.s₀.heap.FunFrames X.base l->s.heap.FunFrames X.base l:=by
  intro l
  induction l with
  |nil=>intro _ _;trivial
  |cons env r ih=>
   intro hs hl;obtain⟨hk,⟨L,o,hf,hn,ho,hd⟩,hr⟩:=hl;have hL:L∈X.fs:=hs L (by unfold frs;rw[zJ,hf];exact xT);obtain⟨sl,e⟩:=I.base.slot L o ho (I.ok.frf L hL) hL λz=>I.ok.exfs L z hL;exact⟨hk,⟨L,_,hf,hn,e,hd⟩,ih (λb hb=>hs b (by unfold frs;rw[zJ,hf];exact xK _ hb)) hr⟩
 exact all X.outer (λ_ hb=>hb) I.ok.funs
theorem Inv.stack(I:Inv X pins σ H s):s.heap.FunFrames X.base X.stack:=by
 rcases I.ok.stk with e|⟨e,hf⟩
 ·rw[e];exact I.funs
 ·rw[e]
  obtain⟨m,hn,_⟩:=I.loc;refine .cons (by rw[I.ok.kind];decide) hf hn ?_ I.funs;exact Heap.get?_none_of_le (xU I.ok.bsz I.ok.above)
theorem Inv.stkSub(I:Inv X pins σ H s):∀b∈frs X.stack,b∈X.env.locals::X.fs:=λb hb=>by
 rcases I.ok.stk with e|⟨e,hf⟩
 ·rw[e] at hb;exact xK _ hb
 ·rw[e] at hb
  unfold frs at hb;rw[zJ,hf] at hb;exact hb
theorem Inv.stkFree(I:Inv X pins σ H s):∀b∈frs X.stack,H b=none:=λb hb=>by
 rcases List.mem_cons.mp (I.stkSub b hb) with e|hb
 ·rw[e];exact I.free
 ·obtain⟨_,o,ho,_⟩:=I.ok.funs.mem hb
  exact I.base.free b o ho (I.ok.frf b hb) λz=>I.ok.exfs b z hb
theorem Inv.step{g':Array GenState}{t':Nat}{d':Drawn}{ch:List Addr}(I:Inv X pins σ H s)
  (hch:∀b∈ch,(b∈X.ex\/X.s₀.heap.objs.size<=b)/\b≠X.env.locals/\(∀x c,X.env.cells.lookup x=some c->c≠b)/\∀p∈X.pn++pins,p.1≠b)
  (keep:∀b o,b≠X.env.locals->b∉X.fs->b∉ch->s.heap.get? b=some o->H b=none->h'.get? b=some o)
  (slot:∀b o,b≠X.env.locals->b∈X.fs->b∉ch->s.heap.get? b=some o->H b=none->∃sl,h'.get? b=some {o with slots:=sl}) (free:∀b o,b∉ch->s.heap.get? b=some o->H b=none->H' b=none)
  (there:∀b o,b∉ch->s.heap.get? b=some o->∃o',h'.get? b=some o')
  (tups:∀b xs,H b=some (.tup xs)->H' b=some (.tup xs)) (frzs:∀b o u,H b=some (.frz o u)->H' b=some (.frz o u)) (tbls:∀b ps,H b=some (.tbl ps)->∃more,H' b=some (.tbl (ps++more)))
  (ns:∀m,s.heap.Ns X.env.locals m->h'.Ns X.env.locals m) (hok:HOk X.prog X.w H' h') (hg:AllBare g'):
  Inv X pins σ H' {s with heap:=h',gens:=g',drawn:=d',toks:=t'}:=by
 have neL:∀b o,X.s₀.heap.get? b=some o->b≠X.env.locals:=λb o e=>yQ (yA (xI e) I.ok.above);have neC:∀b o,X.s₀.heap.get? b=some o->b∉X.ex->b∉ch:=λb o e hx hb=>by
  rcases(hch b hb).1 with z|z
  ·exact hx z
  ·exact absurd (yA (xI e) z) (yW _)
 have cellK:∀x c,X.env.cells.lookup x=some c->∀v,s.heap.IsCell c v->h'.IsCell c v:=λx c e v ⟨o,ho,hd⟩=>by
  have nch:c∉ch:=λz=>(hch c z).2.2.1 x c e rfl;by_cases hc:c∈X.fs
  ·obtain⟨sl,q⟩:=slot c o (I.cne x c e) hc nch ho (I.freeC x c e)
   exact⟨_,q,hd⟩
  ·exact⟨o,keep c o (I.cne x c e) hc nch ho (I.freeC x c e),hd⟩
 refine⟨I.ok,I.os,hg,⟨λb o e n hb hx=>?_,λb o e n hb hx=>?_,λb o e n hx=>?_,λb o e hx=>?_,λb xs e=>tups b xs (I.base.tups b xs e),λb o xs e=>frzs b o xs (I.base.frzs b o xs e),λb ps e=>?_⟩,?_,λx c e=>?_,?_,λx c e=>?_,λp hp=>?_,hok,I.len⟩
 ·exact keep b o (neL b o e) hb (neC b o e hx) (I.base.keep b o e n hb hx) (I.base.free b o e n hx)
 ·obtain⟨sl,e1⟩:=I.base.slot b o e n hb hx
  obtain⟨sl',e2⟩:=slot b _ (neL b o e) hb (neC b o e hx) e1 (I.base.free b o e n hx);exact⟨sl',e2⟩
 ·obtain⟨o',e1⟩:=I.base.there b o e hx
  exact free b o' (neC b o e hx) e1 (I.base.free b o e n hx)
 ·obtain⟨o',e1⟩:=I.base.there b o e hx
  exact there b o' (neC b o e hx) e1
 ·obtain⟨m1,e1⟩:=I.base.tbls b ps e
  obtain⟨m2,e2⟩:=tbls b _ e1;exact⟨m1++m2,by rw[e2,Array.append_assoc]⟩
 ·obtain⟨m,hn,hl⟩:=I.loc
  refine⟨m,ns m hn,λi x v e1 e2 e3=>?_⟩;obtain⟨u,r,l⟩:=hl i x v e1 e2 e3;refine⟨u,r,?_⟩;rcases l with l|⟨k,c,e,z⟩
  ·exact .inl l
  ·exact .inr ⟨k,c,e,cellK x c e _ z⟩
 ·obtain⟨v,z⟩:=I.cell x c e
  exact⟨v,cellK x c e v z⟩
 ·obtain⟨m,⟨o,_,_,ho,_⟩,_⟩:=I.loc
  exact free _ o (λz=>(hch _ z).2.1 rfl) ho I.free
 ·obtain⟨v,o,ho,hd⟩:=I.cell x c e
  exact free c o (λz=>(hch c z).2.2.1 x c e rfl) ho (I.freeC x c e)
 ·obtain⟨e,n,ne,nf,d⟩:=I.pin p hp
  have nch:p.1∉ch:=λz=>(hch p.1 z).2.2.2 p hp rfl;exact⟨keep p.1 p.2 ne nf nch e n,free p.1 p.2 nch e n,ne,nf,d⟩
theorem Inv.un{t':Nat}(I:Inv X pins σ H s)(u:Un X.fs [] H H' s.heap h')(hok:HOk X.prog X.w H' h'):Inv X pins σ H' {s with heap:=h',toks:=t'}:=by
 obtain⟨m,⟨o,es,ep,ho,r⟩,_⟩:=id I.loc;obtain⟨sl,hL⟩:=u.any ho I.free (by simp);exact I.step (g':=s.gens) (d':=s.drawn) (ch:=[]) (λ_ z=>nomatch z) (λb o _ hb _ e n=>u.keep b o e n hb (by simp)) (λb o _ hb _ e n=>u.slot b o e n hb (by simp)) (λb o _ e n=>u.free b o e n (by simp)) (λb o _ e=>u.there b o e (by simp)) u.tups u.frzs u.tbls (λm' hm=>by
  obtain⟨o',es',ep',ho',r'⟩:=hm;rw[ho] at ho';cases ho';exact⟨_,es',ep',hL,r'⟩) hok I.bare
theorem Inv.call{g':Array GenState}{t':Nat}{d':Drawn}{ch:List Addr}(I:Inv X pins σ H s)(u:Un (frs X.stack) ch H H' s.heap h')(hok:HOk X.prog X.w H' h')(hg:AllBare g')
  (hch:∀b∈ch,(b∈X.ex\/X.s₀.heap.objs.size<=b)/\b≠X.env.locals/\(∀x c,X.env.cells.lookup x=some c->c≠b)/\∀p∈X.pn++pins,p.1≠b):
  Inv X pins σ H' {s with heap:=h',gens:=g',drawn:=d',toks:=t'}:=by
 obtain⟨m,⟨o,es,ep,ho,r⟩,_⟩:=id I.loc;obtain⟨sl,hL⟩:=u.any ho I.free λz=>(hch _ z).2.1 rfl;exact I.step (ch:=ch) hch (λb o hL hb hc e n=>u.keep b o e n (λz=>(List.mem_cons.mp (I.stkSub b z)).elim hL hb) hc) (λb o _ _ hc e n=>u.any e n hc) (λb o hc e n=>u.free b o e n hc) (λb o hc e=>u.there b o e hc) u.tups u.frzs u.tbls (λm' hm=>by
  obtain⟨o',es',ep',ho',r'⟩:=hm;rw[ho] at ho';cases ho';exact⟨_,es',ep',hL,r'⟩) hok hg
theorem Inv.turned{t':Nat}{it:Addr}(I:Inv X pins σ H s)(k:∀b o,b≠it->s.heap.get? b=some o->h'.get? b=some o)(hn:H it=none)(hL:it≠X.env.locals)
  (h1:it∈X.ex\/X.s₀.heap.objs.size<=it) (h2:∀x c,X.env.cells.lookup x=some c->c≠it) (h3:∀p∈X.pn++pins,p.1≠it):Inv X pins σ H {s with heap:=h',toks:=t'}:=by
 have nit:∀b u,H b=some u->b≠it:=λb u e z=>by rw[z,hn] at e;cases e
 refine I.step (g':=s.gens) (d':=s.drawn) (ch:=[it]) (λb hb=>?_) (λb o _ _ hc e _=>k b o (λz=>hc (by simp[z])) e) (λb o _ _ hc e _=>⟨o.slots,k b o (λz=>hc (by simp[z])) e⟩) (λ_ _ _ _ n=>n)
  (λb o hc e=>⟨o,k b o (λz=>hc (by simp[z])) e⟩) (λ_ _ e=>e) (λ_ _ _ e=>e) (λb ps e=>⟨#[],by rw[e];simp⟩) (λm hm=>?_) (λb u e=>?_) I.bare
 ·have e:b=it:=by simpa using hb
  subst e;exact⟨h1,hL,h2,h3⟩
 ·obtain⟨o,es,ep,ho,r⟩:=hm
  exact⟨o,es,ep,k _ o (yI hL) ho,r⟩
 ·refine(I.hok b u e).stay (λc v hc q=>k c v ?_ q) (λ_ q=>q) λ_ _ q=>q
  rcases hc with z|z
  ·rw[z];exact nit b u e
  ·exact nit c _ z
theorem Inv.tok(I:Inv X pins σ H s)(t:Nat):Inv X pins σ H {s with toks:=t}:=I.un (h':=s.heap) (t':=t) Un.refl I.hok
theorem Inv.kept{t':Nat}(I:Inv X pins σ H s)(k:∀b u,s.heap.get? b=some u->h'.get? b=some u):Inv X pins σ H {s with heap:=h',toks:=t'}:=I.un (Un.kept k) (I.hok.kept k)
theorem Inv.laid{a:Addr}{o:HO}{t':Nat}(I:Inv X pins σ H s)(k:∀b u,s.heap.get? b=some u->h'.get? b=some u)(hp:s.heap.objs.size<=a)(new:ObjOk X.prog X.w (upd H a o) h' a o):
  Inv X pins σ (upd H a o) {s with heap:=h',toks:=t'}:=I.un (Un.laid k hp (I.hok.fresh hp)) (I.hok.laid k hp new)
theorem Inv.write{x e:Addr}{o:HO}{t':Nat}(I:Inv X pins σ H s)(mu:Mut (H x))(he:e=x\/H e=some (.own x))(k:∀b u,b≠e->s.heap.get? b=some u->h'.get? b=some u)(heo:∃u,h'.get? e=some u)
  (new:ObjOk X.prog X.w (upd H x o) h' x o):Inv X pins σ (upd H x o) {s with heap:=h',toks:=t'}:=I.un (Un.write mu he k heo) (I.hok.write mu he k heo new)
theorem Inv.pins_of(I:Inv X pins σ H s)(h:∀p∈pins',s.heap.get? p.1=some p.2/\H p.1=none/\p.1≠X.env.locals/\p.1∉X.fs/\∀v,p.2.data≠.cell v):Inv X pins' σ H s:=
 ⟨I.ok,I.os,I.bare,I.base,I.loc,I.cell,I.free,I.freeC,λp hp=>(List.mem_append.mp hp).elim (λz=>I.pin p (List.mem_append_left _ z)) (h p),I.hok,I.len⟩
theorem lZ{N:List Str}(hN:N.Nodup){i j:Nat}(a:N[i]?=some x)(b:N[j]?=some x):i=j:=by
 obtain⟨h1,e1⟩:=List.getElem?_eq_some_iff.mp a;obtain⟨h2,e2⟩:=List.getElem?_eq_some_iff.mp b;exact(List.getElem_inj hN).mp (e1.trans e2.symm)
theorem rE{M:Model}{A:Around}{E:Value->Shared->Prop}{i:Nat}{x:Str}{v:V}{u:Value}{Q:Unit->Shared->Prop}(I:Inv X pins σ H s)(hN:X.N.Nodup)(hi:X.N[i]?=some x)(hx:Loc X.env.scope x)(r:RelV v u)
  (h:∀s',Inv X pins (σ.set i (some v)) H s'->(∃a,Heap.SameBut a s.heap s'.heap/\(a=X.env.locals\/X.env.cells.lookup x=some a))->Q () s') (hf:X.fn x=true\/X.env.scope.names.lookup x=some .local:=by first|exact .inl rfl|exact .inr rfl|assumption):wpAny M A (storeName X.env x u) Q E s:=by
 obtain⟨m,hn,hl⟩:=id I.loc;have hcls:(X.env.scope.kind== .class||(X.env.scope.kind== .module&&X.env.locals !=X.env.globals))=false:=by rw[I.ok.kind];rfl
 have hiσ:i<σ.length:=by rw[I.len];exact(List.getElem?_eq_some_iff.mp hi).1
 have cne:=I.cne;have tracked:∀{a:Addr}{h':Heap},(∃o,s.heap.get? a=some o/\H a=none)->Heap.SameBut a s.heap h'->HOk X.prog X.w H h':=λ{a h'} ha hs b ob e=>by
  obtain⟨_,_,hfree⟩:=ha;refine(I.hok b ob e).stay (λc w' hc q=>(hs.2 c ?_).trans q) (λ_ q=>q) λ_ _ q=>q;rintro rfl;rcases hc with rfl|hc
  ·rw[hfree] at e;cases e
  ·rw[hfree] at hc;cases hc
 rcases hx with hk|hk
 ·refine wpAny_storeName_local hk hn (λh' hn' hs=>?_) hcls
  obtain⟨oL,_,_,hoL,_⟩:=id hn;refine h _ ⟨I.ok,I.os,I.bare,⟨λb o e n hb hx=>?_,λb o e n hb hx=>?_,I.base.free,λb o e hx=>?_,I.base.tups,I.base.frzs,I.base.tbls⟩,⟨_,hn',λj y v' e1 e2 e3=>?_⟩,λy c e=>?_,I.free,I.freeC,λp hp=>?_,tracked ⟨oL,hoL,I.free⟩ hs,by simpa using I.len⟩ ⟨_,hs,.inl rfl⟩
  ·exact(hs.2 b (yQ (yA (xI e) I.ok.above))).trans (I.base.keep b o e n hb hx)
  ·obtain⟨sl,e1⟩:=I.base.slot b o e n hb hx
   exact⟨sl,(hs.2 b (yQ (yA (xI e) I.ok.above))).trans e1⟩
  ·obtain⟨o',e1⟩:=I.base.there b o e hx
   exact⟨o',(hs.2 b (yQ (yA (xI e) I.ok.above))).trans e1⟩
  ·by_cases hj:j=i
   ·subst hj
    rw[hi] at e1;cases e1;rw[x9 hiσ] at e2;cases e2;exact⟨u,r,.inl ⟨hk,by simp⟩⟩
   ·rw[xR (yI hj)] at e2
    obtain⟨u',r',q⟩:=hl j y v' e1 e2 e3;refine⟨u',r',?_⟩;rcases q with⟨k,e⟩|⟨k,c,e,z⟩
    ·refine .inl ⟨k,?_⟩
     have:y≠x:=λe=>hj (lZ hN e1 (e▸hi));simp[this,e]
    ·exact .inr ⟨k,c,e,z.sameBut hs (cne y c e)⟩
  ·obtain⟨w',z⟩:=I.cell y c e
   exact⟨w',z.sameBut hs (cne y c e)⟩
  ·obtain⟨e,n,ne,nf,d⟩:=I.pin p hp
   exact⟨(hs.2 p.1 ne).trans e,n,ne,nf,d⟩
 ·have hfn:X.fn x=true:=by
   rcases hf with z|z
   ·exact z
   ·rw[z] at hk;cases hk
  obtain⟨c,hc⟩:=I.ok.has x (.inl hk);obtain⟨w',z⟩:=I.cell x c hc;refine wpAny_storeName_cell I.ok.kind hk hc z (λh' hc' hs=>?_);obtain⟨oc,hoc,hocd⟩:=id z;refine h {s with heap:=h'} ⟨I.ok,I.os,I.bare,⟨λb o e n hb hx=>?_,λb o e n hb hx=>?_,I.base.free,λb o e hx=>?_,I.base.tups,I.base.frzs,I.base.tbls⟩,⟨m,hn.sameBut hs (yI (cne x c hc)),λj y v' e1 e2 e3=>?_⟩,λy c' e=>?_,I.free,I.freeC,λp hp=>?_,tracked ⟨oc,hoc,I.freeC x c hc⟩ hs,by simpa using I.len⟩ ⟨c,hs,.inr hc⟩
  ·exact(hs.2 b (yQ (yA (xI e) (I.ok.cab x c hfn hc)))).trans (I.base.keep b o e n hb hx)
  ·obtain⟨sl,e1⟩:=I.base.slot b o e n hb hx
   exact⟨sl,(hs.2 b (yQ (yA (xI e) (I.ok.cab x c hfn hc)))).trans e1⟩
  ·obtain⟨o',e1⟩:=I.base.there b o e hx
   exact⟨o',(hs.2 b (yQ (yA (xI e) (I.ok.cab x c hfn hc)))).trans e1⟩
  ·by_cases hj:j=i
   ·subst hj
    rw[hi] at e1;cases e1;rw[x9 hiσ] at e2;cases e2;exact⟨u,r,.inr ⟨.inl hk,c,hc,hc'⟩⟩
   ·rw[xR (yI hj)] at e2
    obtain⟨u',r',q⟩:=hl j y v' e1 e2 e3;refine⟨u',r',?_⟩;rcases q with q|⟨k,c',e,z'⟩
    ·exact .inl q
    ·refine .inr ⟨k,c',e,z'.sameBut hs ?_⟩
     rintro rfl;exact hj (lZ hN e1 (I.ok.inj _ _ _ e hc▸hi))
  ·by_cases hcc:c'=c
   ·subst hcc;exact⟨_,hc'⟩
   ·obtain⟨w2,z2⟩:=I.cell y c' e
    exact⟨w2,z2.sameBut hs hcc⟩
  ·obtain⟨e,n,ne,nf,d⟩:=I.pin p hp
   refine⟨(hs.2 p.1 ?_).trans e,n,ne,nf,d⟩;intro q;rw[q,hoc] at e;have q':oc=p.2:=yN e;exact d w' (by rw[←q'];exact hocd)
theorem l7{M:Model}{A:Around}{E:Value->Shared->Prop}{i:Nat}{x:Str}{v:V}{u:Value}{Q:Unit->Shared->Prop}(I:Inv X pins σ H s)(hN:X.N.Nodup)(hi:X.N[i]?=some x)(hx:Loc X.env.scope x)(r:RelV v u)
  (h:∀s',Inv X pins (σ.set i (some v)) H s'->Q () s') (hf:X.fn x=true\/X.env.scope.names.lookup x=some .local:=by first|exact .inl rfl|exact .inr rfl|assumption):wpAny M A (storeName X.env x u) Q E s:=
 rE I hN hi hx r (λs' I' _=>h s' I') hf
theorem Inv.call'(I:Inv X pins σ H s)(ho:s'.os=s.os)(u:Un (frs X.stack) ch H H' s.heap s'.heap)(hok:HOk X.prog X.w H' s'.heap)(hg:AllBare s'.gens)
  (hch:∀b∈ch,(b∈X.ex\/X.s₀.heap.objs.size<=b)/\b≠X.env.locals/\(∀x c,X.env.cells.lookup x=some c->c≠b)/\∀p∈X.pn++pins,p.1≠b):Inv X pins σ H' s':=by
 obtain⟨h',g',d',t',o'⟩:=s';have e:o'=s.os:=ho;subst e;exact I.call (g':=g') (t':=t') (d':=d') u hok hg hch
end
abbrev XK:=Value->Option Addr->Hp->Prop
abbrev St:=List (Option V)
abbrev VK:=V->Hp->Prop
abbrev TE:=St->Hp->VK->Prop
abbrev TT:=St->Hp->(Bool->Hp->Prop)->Prop
abbrev TA:=St->Hp->(List V->Hp->Prop)->Prop
structure Ends where
 nx:St->Hp->Prop
 rt:VK
 bk:St->Hp->Prop:=λ_ _=>False
 ct:St->Hp->Prop:=λ_ _=>False
abbrev TS:=Ends->St->Hp->Prop
def EP(X:Cx)(pins:List (Addr×Obj))(σ:St)(Q:VK)(u:Value)(s':Shared):Prop:=∃v H',Inv X pins σ H' s'/\RelV v u/\Q v H'
def TP(X:Cx)(pins:List (Addr×Obj))(σ:St)(Q:Bool->Hp->Prop)(b:Bool)(s':Shared):Prop:=∃H',Inv X pins σ H' s'/\Q b H'
def AP(X:Cx)(pins:List (Addr×Obj))(σ:St)(Q:List V->Hp->Prop)(us:List Value)(s':Shared):Prop:=∃vs H',Inv X pins σ H' s'/\Vals vs us/\Q vs H'
def SP(X:Cx)(pins:List (Addr×Obj))(D:Ends)(f:Flow)(s':Shared):Prop:=
 match f with
 |.next=>∃σ' H',Inv X pins σ' H' s'/\D.nx σ' H'
 |.brk=>∃σ' H',Inv X pins σ' H' s'/\D.bk σ' H'
 |.cont=>∃σ' H',Inv X pins σ' H' s'/\D.ct σ' H'
 |.ret u=>∃v σ' H',Inv X pins σ' H' s'/\RelV v u/\D.rt v H'
def PE(X:Cx)(e:Expr)(t:TE):Prop:=
 ∀(pins:List (Addr×Obj))(s:Shared)(σ:St)(H:Hp)(Q:VK),Inv X pins σ H s->t σ H Q->wpAny (model X.prog X.w) X.A (eval e X.env) (EP X pins σ Q) X.xe s
def PT(X:Cx)(e:Expr)(t:TT):Prop:=
 ∀(pins:List (Addr×Obj))(s:Shared)(σ:St)(H:Hp)(Q:Bool->Hp->Prop),Inv X pins σ H s->t σ H Q->wpAny (model X.prog X.w) X.A (isTrue e X.env (eval e X.env)) (TP X pins σ Q) X.xe s
def PW(X:Cx)(e:Expr)(t:TT):Prop:=
 ∀(whole:Sem Value)(pins:List (Addr×Obj))(s:Shared)(σ:St)(H:Hp)(Q:Bool->Hp->Prop),Inv X pins σ H s->t σ H Q->wpAny (model X.prog X.w) X.A (isTrue e X.env whole) (TP X pins σ Q) X.xe s
theorem PW.pt(h:PW X e t):PT X e t:=h _
def PA(X:Cx)(es:List Expr)(t:TA):Prop:=
 ∀(pos:Pos)(pins:List (Addr×Obj))(s:Shared)(σ:St)(H:Hp)(Q:List V->Hp->Prop),Inv X pins σ H s->t σ H Q->wpAny (model X.prog X.w) X.A (spliced (backTo pos (starEach es X.env))) (AP X pins σ Q) X.xe s
def PS(X:Cx)(st:Stmt)(t:TS):Prop:=
 ∀(pins:List (Addr×Obj))(s:Shared)(σ:St)(H:Hp)(D:Ends),Inv X pins σ H s->t D σ H->wpAny (model X.prog X.w) X.A (exec st X.env) (SP X pins D) X.xe s
def PSs(X:Cx)(st:List Stmt)(t:TS):Prop:=
 ∀(pins:List (Addr×Obj))(s:Shared)(σ:St)(H:Hp)(D:Ends),Inv X pins σ H s->t D σ H->wpAny (model X.prog X.w) X.A (execs st X.env) (SP X pins D) X.xe s
theorem thn{α:Type}{t:Sem α}{Q Q':α->Shared->Prop}{M:Model}{A:Around}{E:Value->Shared->Prop}{s:Shared}(h:wpAny M A t Q E s)(hQ:∀a s,Q a s->Q' a s):wpAny M A t Q' E s:=yG h hQ λ_ _ x=>x
section
variable{X:Cx}
def tVar(i:Nat):TE:=λσ H Q=>∃v,σ[i]?=some (some v)/\Q v H
def tC(v:V):TE:=λ_ H Q=>Q v H
theorem k4{i:Nat}{x:Str}{pos:Pos}(hN:X.N[i]?=some x)(hv:Vis X.env.scope x)(hd:(x==("__debug__":Str))=false:=by decide)(hcd:(x==("__classdict__":Str))=false:=by decide):PE X (.Name x pos) (tVar i):=by
 intro pins s σ H Q I h;obtain⟨v,e,h⟩:=h;obtain⟨m,hn,hl⟩:=I.loc;obtain⟨u,r,l⟩:=hl i x v hN e hv;have fin:EP X pins σ Q u s:=⟨v,H,I,r,h⟩
 rcases l with⟨hk,hm⟩|⟨hk,c,hc,hcell⟩
 ·exact wpAny_Name (wpAny_loadName_local I.ok.kind hk hn hm fin) hd
 ·rcases hk with hk|hk
  ·exact wpAny_Name (wpAny_loadName_cell I.ok.kind hk hc hcell fin) hd
  ·exact wpAny_Name (wpAny_loadName_free I.ok.kind hk hc hcell fin hcd) hd
theorem pe_int{i j pos}:PE X (.Constant (.int i) j pos) (tC (.int i)):=λ_ _ _ H _ I h=>wpAny_Constant_int ⟨.int i,H,I.tok _,⟨_,rfl⟩,h⟩
theorem pe_bl{b j pos}:PE X (.Constant (.bool b) j pos) (tC (.bl b)):=λ_ _ _ H _ I h=>Constant_bool ⟨.bl b,H,I,rfl,h⟩
theorem pe_non{j pos}:PE X (.Constant .none j pos) (tC .non):=λ_ _ _ H _ I h=>Constant_none ⟨.non,H,I,rfl,h⟩
theorem pe_str{x j pos}:PE X (.Constant (.str x) j pos) (tC (.str x)):=λ_ _ _ H _ I h=>Calls.Constant_str ⟨.str x,H,I.tok _,⟨_,rfl⟩,h⟩
def Gl(X:Cx)(x:Str):Prop:=X.env.kindOf x=some .globalImplicit
theorem gY{E:Value->Shared->Prop}{pins:List (Addr×Obj)}{s:Shared}{σ:St}{H:Hp}{x:Str}{u:Value}{pos:Pos}{Q:Value->Shared->Prop}(I:Inv X pins σ H s)(hg:Gl X x)(hm:X.mg x=some u)(h:Q u s)
  (hd:(x==("__debug__":Str))=false:=by decide):wpAny (model X.prog X.w) X.A (eval (.Name x pos) X.env) Q E s:=
 Calls.Name_function_global I.ok.kind hg (Calls.loadGlobal_global (by rw[I.ok.glob];exact I.mod.glob.keeps I.bk) hm h) hd
theorem fG{E:Value->Shared->Prop}{pins:List (Addr×Obj)}{s:Shared}{σ:St}{H:Hp}{x:Str}{u:Value}{pos:Pos}{Q:Value->Shared->Prop}(I:Inv X pins σ H s)(hg:Gl X x)(hm:X.mg x=none)(hv:bootBuiltins x=some u)(h:Q u s)
  (hn:x≠"__name__":=by decide) (hd:(x==("__debug__":Str))=false:=by decide):wpAny (model X.prog X.w) X.A (eval (.Name x pos) X.env) Q E s:=by
 obtain⟨mb,h1,h2⟩:=I.mod.blt;exact Calls.Name_function_global I.ok.kind hg (Calls.loadGlobal_builtin (by rw[I.ok.glob];exact I.mod.glob.keeps I.bk) hm (by rw[I.ok.blt];exact h1.keeps I.bk) ((h2 x hn).trans hv) h) hd
theorem pe_glob{x:Str}{v:V}{u:Value}{pos:Pos}(hg:Gl X x)(hm:X.mg x=some u)(r:RelV v u)(hd:(x==("__debug__":Str))=false:=by decide):PE X (.Name x pos) (tC v):=
 λ_ _ _ H _ I h=>gY I hg hm ⟨v,H,I,r,h⟩ hd
theorem pe_bltn{x:Str}{v:V}{u:Value}{pos:Pos}(hg:Gl X x)(hm:X.mg x=none)(hv:bootBuiltins x=some u)(r:RelV v u)(hn:x≠"__name__":=by decide)(hd:(x==("__debug__":Str))=false:=by decide):PE X (.Name x pos) (tC v):=
 λ_ _ _ H _ I h=>fG I hg hm hv ⟨v,H,I,r,h⟩ hn hd
variable{a b:Expr}{ta tb:TE}{pos:Pos}
def PC(X:Cx)(op:CmpOp)(a b:Expr)(t:TE):Prop:=
 ∀(pins:List (Addr×Obj))(s:Shared)(σ:St)(H:Hp)(Q:VK),Inv X pins σ H s->t σ H Q->
  wpAny (model X.prog X.w) X.A (eval a X.env) (λv s₁=>wpAny (model X.prog X.w) X.A (eval b X.env) (λu s₂=>wpAny (model X.prog X.w) X.A (compareOp op v u) (EP X pins σ Q) X.xe s₂) X.xe s₁) X.xe s
def tIsN(ta:TE):TE:=λσ H Q=>ta σ H λx H1=>Q (.bl (decide (x=.non))) H1
def tNotN(ta:TE):TE:=λσ H Q=>ta σ H λx H1=>Q (.bl (!decide (x=.non))) H1
theorem RelV.none_iff(r:RelV x v):(v==Value.none)=decide (x=.non):=by
 cases x with
 |non=>cases r;rfl
 |bl _=>cases r;rfl
 |int _=>obtain⟨t,rfl⟩:=r;rfl
 |str _=>obtain⟨t,rfl⟩:=r;rfl
 |byt _=>obtain⟨t,rfl⟩:=r;rfl
 |flt _=>obtain⟨t,rfl⟩:=r;rfl
 |ref _=>cases r;rfl
 |ty _=>cases r;rfl
theorem pc_isN{j pos'}(ha:PE X a ta):PC X .Is a (.Constant .none j pos') (tIsN ta):=by
 intro pins s σ H Q I h;refine thn (ha pins s σ H _ I h) λv s1 ⟨x,H1,I1,r1,q1⟩=>?_;exact Constant_none (is_none_gen ⟨.bl _,H1,I1,by rw[r1.none_iff];rfl,q1⟩)
theorem pc_notN{j pos'}(ha:PE X a ta):PC X .IsNot a (.Constant .none j pos') (tNotN ta):=by
 intro pins s σ H Q I h;refine thn (ha pins s σ H _ I h) λv s1 ⟨x,H1,I1,r1,q1⟩=>?_;exact Constant_none (isnot_none_gen ⟨.bl _,H1,I1,by rw[r1.none_iff];rfl,q1⟩)
def tB(t:TE):TT:=λσ H Q=>t σ H λx H1=>∃c,x=.bl c/\Q c H1
theorem pe_cmp(h:PC X op a b t)(h1:behindInMarks op b=false:=by first|exact nobehind _ (by decide) (by decide)|rfl):PE X (.Compare a [op] [b] pos) t:=λpins s σ H Q I hw=>wpAny_Compare1 (h pins s σ H Q I hw) h1
theorem pt_cmp(h:PC X op a b t)(h1:behindInMarks op b=false:=by first|exact nobehind _ (by decide) (by decide)|rfl):PT X (.Compare a [op] [b] pos) (tB t):=by
 intro pins s σ H Q I hw;refine wpAny_isTrue_Compare1 (thn (h pins s σ H _ I hw) λv s1 h1=>thn h1 λu s2 h2=>thn h2 λc s3 ⟨x,H1,I1,r1,q1⟩=>?_) h1;obtain⟨d,rfl,q⟩:=q1;cases r1;exact wpAny_truthy_bool ⟨H1,I1,q⟩
variable{tA tB':TT}{rest:List Expr}
def tAnd(t u:TT):TT:=λσ H Q=>t σ H λc H1=>if c=true then u σ H1 Q else Q false H1
def tOr(t u:TT):TT:=λσ H Q=>t σ H λc H1=>if c=true then Q true H1 else u σ H1 Q
def tNot(t:TT):TT:=λσ H Q=>t σ H λc H1=>Q (!c) H1
theorem pw_and1(ha:PT X a tA):PW X (.BoolOp .And [a] pos) tA:=by
 intro wh pins s σ H Q I h;refine isTrue_and (thn (ha pins s σ H Q I h) λc s1 e=>?_)
 cases c with
 |true=>exact isTrue_and_nil e
 |false=>exact e
theorem pw_or1(ha:PT X a tA):PW X (.BoolOp .Or [a] pos) tA:=by
 intro wh pins s σ H Q I h;refine isTrue_or (thn (ha pins s σ H Q I h) λc s1 e=>?_)
 cases c with
 |false=>exact isTrue_or_nil e
 |true=>exact e
theorem pw_and(ha:PT X a tA)(hb:PW X (.BoolOp .And (b::rest) pos) tB'):PW X (.BoolOp .And (a::b::rest) pos) (tAnd tA tB'):=by
 intro wh pins s σ H Q I h;refine isTrue_and (thn (ha pins s σ H _ I h) λc s1 ⟨H1,I1,q1⟩=>?_)
 cases c with
 |true=>exact hb wh pins s1 σ H1 Q I1 q1
 |false=>exact⟨H1,I1,q1⟩
theorem pw_or(ha:PT X a tA)(hb:PW X (.BoolOp .Or (b::rest) pos) tB'):PW X (.BoolOp .Or (a::b::rest) pos) (tOr tA tB'):=by
 intro wh pins s σ H Q I h;refine isTrue_or (thn (ha pins s σ H _ I h) λc s1 ⟨H1,I1,q1⟩=>?_)
 cases c with
 |true=>exact⟨H1,I1,q1⟩
 |false=>exact hb wh pins s1 σ H1 Q I1 q1
theorem pt_not(ha:PT X a tA):PT X (.UnaryOp .Not a pos) (tNot tA):=by
 intro pins s σ H Q I h;exact isTrue_not (ha pins s σ H (λc H1=>Q (!c) H1) I h)
def tAndV(ta tb:TE):TE:=λσ H Q=>ta σ H λx H1=>∃c,x=.bl c/\if c=true then tb σ H1 Q else Q (.bl false) H1
def tNotV(ta:TE):TE:=λσ H Q=>ta σ H λx H1=>∃c,x=.bl c/\Q (.bl (!c)) H1
theorem pe_one{op}(h:PE X a t):PE X (.BoolOp op [a] pos) t:=λpins s σ H Q I hw=>BoolOp_one (h pins s σ H Q I hw)
theorem pe_and(ha:PE X a ta)(hb:PE X (.BoolOp .And (b::rest) pos) tb):PE X (.BoolOp .And (a::b::rest) pos) (tAndV ta tb):=by
 intro pins s σ H Q I h;refine BoolOp_and (thn (ha pins s σ H _ I h) λv s1 ⟨x,H1,I1,r1,q1⟩=>?_);obtain⟨c,rfl,q1⟩:=q1;cases r1;refine wpAny_truthy_bool ?_
 cases c with
 |true=>exact hb pins s1 σ H1 Q I1 q1
 |false=>exact⟨.bl false,H1,I1,rfl,q1⟩
theorem pe_not(ha:PE X a ta):PE X (.UnaryOp .Not a pos) (tNotV ta):=by
 intro pins s σ H Q I h;refine UnaryOp_ (thn (ha pins s σ H _ I h) λv s1 ⟨x,H1,I1,r1,q1⟩=>?_);obtain⟨c,rfl,q1⟩:=q1;cases r1;exact not_of (wpAny_truthy_bool ⟨.bl (!c),H1,I1,rfl,q1⟩)
def tIf(t:TT)(ta tb:TE):TE:=λσ H Q=>t σ H λc H1=>if c=true then ta σ H1 Q else tb σ H1 Q
theorem tP(hc:PT X c tA)(ha:PE X a ta)(hb:PE X b tb):PE X (.IfExp c a b pos) (tIf tA ta tb):=by
 intro pins s σ H Q I h;refine wpAny_IfExp (thn (hc pins s σ H _ I h) λd s1 ⟨H1,I1,q1⟩=>?_)
 cases d with
 |true=>exact ha pins s1 σ H1 Q I1 q1
 |false=>exact hb pins s1 σ H1 Q I1 q1
end
def SqL(K:PySem.W.Frag)(H:Hp)(a:Addr)(xs:List V):Prop:=
 Rd H a (.lst xs)\/
  ∃(o:Obj)(its:Array Value)(n:Nat),K.lookup a=some o/\o.cls=.type "list"/\o.dict=none/\o.data=.seq its n/\its.size<=sizeLine/\Vals xs its.toList
def SqT(K:PySem.W.Frag)(H:Hp)(a:Addr)(xs:List V):Prop:=
 Rd H a (.tup xs)\/
  ∃(o:Obj)(its:Array Value)(n:Nat),K.lookup a=some o/\o.cls=.type "tuple"/\o.data=.seq its n/\its.size<=sizeLine/\Vals xs its.toList
def absV:Value->Option V
 |.none=>some .non
 |.bool b=>some (.bl b)
 |.int i _=>some (.int i)
 |.str x _=>some (.str x)
 |.bytes b _=>some (.byt b)
 |.float b _=>some (.flt b)
 |.ref a=>some (.ref a)
 |.type n=>some (.ty n)
 |_=>none
theorem RelV.abs(r:RelV x u):absV u=some x:=by
 cases x with
 |non=>cases r;rfl
 |bl _=>cases r;rfl
 |int _=>obtain⟨t,rfl⟩:=r;rfl
 |str _=>obtain⟨t,rfl⟩:=r;rfl
 |byt _=>obtain⟨t,rfl⟩:=r;rfl
 |flt _=>obtain⟨t,rfl⟩:=r;rfl
 |ref _=>cases r;rfl
 |ty _=>cases r;rfl
theorem RelV.inj(r:RelV x u)(q:RelV y u):x=y:=yN (r.abs.symm.trans q.abs)
theorem Vals.inj:∀{xs ys:List V}{us:List Value},Vals xs us->Vals ys us->xs=ys
 |_,_,_,.nil,.nil=>rfl
 |_,_,_,.cons r t,.cons r' t'=>by rw[r.inj r',Vals.inj t t']
section
variable{X:Cx}{pins:List (Addr×Obj)}{σ:St}{H:Hp}{s:Shared}{a:Addr}{xs ys:List V}
theorem SqL.of{K:PySem.W.Frag}(h:H a=some (.lst xs)):SqL K H a xs:=.inl (.inl h)
theorem SqT.of{K:PySem.W.Frag}(h:H a=some (.tup xs)):SqT K H a xs:=.inl (.inl h)
theorem Inv.list(I:Inv X pins σ H s)(h:SqL X.K H a xs):∃its:List Value,Vals xs its/\PlainL s.heap a its.toArray/\xs.length<=sizeLine:=by
 rcases h with h|⟨o,its,n,hk,hc,hd,hs,hz,r⟩
 ·obtain⟨z,its,n,r,e⟩:=h.ok I.hok
  exact⟨its,r,⟨_,n,e,rfl,rfl,rfl⟩,z⟩
 ·refine⟨its.toList,r,⟨o,n,I.kIn a o hk,hc,hd,by simpa using hs⟩,?_⟩
  have e:=r.length;simp only[Array.length_toList] at e;omega
theorem Inv.tuple(I:Inv X pins σ H s)(h:SqT X.K H a xs):∃its:List Value,Vals xs its/\IsTup s.heap a its.toArray/\xs.length<=sizeLine:=by
 rcases h with h|⟨o,its,n,hk,hc,hs,hz,r⟩
 ·obtain⟨z,its,r,p⟩:=h.ok I.hok
  exact⟨its,r,p,z⟩
 ·refine⟨its.toList,r,⟨o,I.kIn a o hk,hc,n,by simpa using hs⟩,?_⟩
  have e:=r.length;simp only[Array.length_toList] at e;omega
theorem Inv.list_inj(I:Inv X pins σ H s)(h:SqL X.K H a xs)(h':SqL X.K H a ys):xs=ys:=by
 obtain⟨its,r,⟨o,n,e,_,_,d⟩,_⟩:=I.list h;obtain⟨its',r',⟨o',n',e',_,_,d'⟩,_⟩:=I.list h';rw[e] at e';cases e';rw[d] at d'
 injection d' with d1 _
 have:its=its':=by simpa using congrArg Array.toList d1
 subst this;exact r.inj r'
theorem Inv.tuple_inj(I:Inv X pins σ H s)(h:SqT X.K H a xs)(h':SqT X.K H a ys):xs=ys:=by
 obtain⟨its,r,⟨o,e,_,n,d⟩,_⟩:=I.tuple h;obtain⟨its',r',⟨o',e',_,n',d'⟩,_⟩:=I.tuple h';rw[e] at e';cases e';rw[d] at d'
 injection d' with d1 _
 have:its=its':=by simpa using congrArg Array.toList d1
 subst this;exact r.inj r'
end
abbrev Cx.wish(X:Cx)(E:Value->Shared->Prop):Cx:={X with xe:=E}
abbrev Cx.nox(X:Cx):Cx:=X.wish λ_ _=>False
theorem Cx.Ok.wish{X:Cx}(ok:X.Ok)(E:Value->Shared->Prop):(X.wish E).Ok:=
 ⟨ok.mod,ok.kind,ok.glob,ok.blt,ok.above,ok.inj,ok.has,ok.cab,ok.hd,ok.frames,ok.stk,ok.exf,ok.bs,ok.bsz,ok.noex,ok.exfs,ok.funs,ok.frf⟩
theorem Cx.Ok.unwish{X:Cx}(ok:(X.wish E).Ok):X.Ok:=
 ⟨ok.mod,ok.kind,ok.glob,ok.blt,ok.above,ok.inj,ok.has,ok.cab,ok.hd,ok.frames,ok.stk,ok.exf,ok.bs,ok.bsz,ok.noex,ok.exfs,ok.funs,ok.frf⟩
section
variable{X:Cx}{pins:List (Addr×Obj)}{σ:St}{H:Hp}{s:Shared}{E:Value->Shared->Prop}
theorem Inv.wish(I:Inv X pins σ H s)(E:Value->Shared->Prop):Inv (X.wish E) pins σ H s:=⟨I.ok.wish E,I.os,I.bare,I.base,I.loc,I.cell,I.free,I.freeC,I.pin,I.hok,I.len⟩
theorem Inv.unwish(I:Inv (X.wish E) pins σ H s):Inv X pins σ H s:=⟨I.ok.unwish,I.os,I.bare,I.base,I.loc,I.cell,I.free,I.freeC,I.pin,I.hok,I.len⟩
theorem SP.unwish(h:SP (X.wish E) pins D f s'):SP X pins D f s':=by
 cases f with
 |next=>obtain⟨σ',H',I,q⟩:=h;exact⟨σ',H',I.unwish,q⟩
 |brk=>obtain⟨σ',H',I,q⟩:=h;exact⟨σ',H',I.unwish,q⟩
 |cont=>obtain⟨σ',H',I,q⟩:=h;exact⟨σ',H',I.unwish,q⟩
 |ret u=>obtain⟨v,σ',H',I,r,q⟩:=h;exact⟨v,σ',H',I.unwish,r,q⟩
end
section
variable{X:Cx}{st:Stmt}{rest:List Stmt}{t u:TS}{e:Expr}{te:TE}{pos:Pos}
def tNext:TS:=λD σ H=>D.nx σ H
def tSeq(t u:TS):TS:=λD σ H=>t {D with nx:=u D} σ H
theorem pss_nil:PSs X [] tNext:=λ_ _ σ H _ I h=>wpAny_execs_nil ⟨σ,H,I,h⟩
theorem tQ(h1:PS X st t)(h2:PSs X rest u):PSs X (st::rest) (tSeq t u):=by
 intro pins s σ H D I h;refine wpAny_execs_cons (thn (h1 pins s σ H {D with nx:=u D} I h) λf s1 q=>?_)
 cases f with
 |next=>
  obtain⟨σ',H',I',q⟩:=q;exact h2 pins s1 σ' H' D I' q
 |ret v=>exact q
 |brk=>exact q
 |cont=>exact q
theorem Inv.quiet(I:Inv X pins σ H s):interactive X.env=false:=by simp[interactive,I.ok.kind]
def tDrop(te:TE):TS:=λD σ H=>te σ H λ_ H1=>D.nx σ H1
theorem ps_expr(he:PE X e te)(hs:swapsWith e none pos.line X.env=pure false:=by rfl):PS X (.Expr e pos) (tDrop te):=by
 intro pins s σ H D I h;exact wpAny_Expr_any (thn (he pins s σ H _ I h) λv s1 ⟨x,H1,I1,r1,q1⟩=>⟨σ,H1,I1,q1⟩) I.quiet hs
def tRet(te:TE):TS:=λD σ H=>te σ H D.rt
theorem ps_ret(he:PE X e te):PS X (.Return (some e) pos) (tRet te):=by
 intro pins s σ H D I h;exact wpAny_Return_some (thn (he pins s σ H _ I h) λv s1 ⟨x,H1,I1,r1,q1⟩=>⟨x,σ,H1,I1,r1,q1⟩)
def tIfS(c:TT)(t u:TS):TS:=λD σ H=>c σ H λb H1=>if b=true then t D σ H1 else u D σ H1
theorem ps_if(hc:PT X c tc)(ha:PSs X a t)(hb:PSs X b u):PS X (.If c a b pos) (tIfS tc t u):=by
 intro pins s σ H D I h;refine wpAny_If (thn (hc pins s σ H _ I h) λd s1 ⟨H1,I1,q1⟩=>?_)
 cases d with
 |true=>exact ha pins s1 σ H1 D I1 q1
 |false=>exact hb pins s1 σ H1 D I1 q1
end
abbrev TG:=V->St->Hp->(St->Hp->Prop)->Prop
abbrev TGs:=List V->St->Hp->(St->Hp->Prop)->Prop
def PG(X:Cx)(target:Expr)(t:TG):Prop:=
 ∀(pins:List (Addr×Obj))(s:Shared)(σ:St)(H:Hp)(v:V)(u:Value)(Q:St->Hp->Prop),Inv X pins σ H s->RelV v u->t v σ H Q->
  wpAny (model X.prog X.w) X.A (assign target X.env u) (λ_ s'=>∃σ' H',Inv X pins σ' H' s'/\Q σ' H') X.xe s
def PGs(X:Cx)(ts:List Expr)(t:TGs):Prop:=
 ∀(pins:List (Addr×Obj))(s:Shared)(σ:St)(H:Hp)(vs:List V)(us:List Value)(Q:St->Hp->Prop),Inv X pins σ H s->Vals vs us->t vs σ H Q->
  wpAny (model X.prog X.w) X.A (assignInOrder ((assignEach ts X.env).map (·.2)) us) (λ_ s'=>∃σ' H',Inv X pins σ' H' s'/\Q σ' H') X.xe s
abbrev TSet:=V->V->V->Hp->(Hp->Prop)->Prop
def PSet(X:Cx)(t:TSet):Prop:=
 ∀(pins:List (Addr×Obj))(s:Shared)(σ:St)(H:Hp)(o i v:V)(ov iv u:Value)(Q:Hp->Prop),Inv X pins σ H s->RelV o ov->RelV i iv->RelV v u->t o i v H Q->
  wpAny (model X.prog X.w) X.A (setItem ov iv u) (λ_ s'=>∃H',Inv X pins σ H' s'/\Q H') X.xe s
section
variable{X:Cx}{pos:Pos}
def gName(i:Nat):TG:=λv σ H Q=>Q (σ.set i (some v)) H
theorem eK(hN:X.N.Nodup)(hi:X.N[i]?=some x)(hx:Loc X.env.scope x)(hf:X.fn x=true\/X.env.scope.names.lookup x=some .local:=by first|exact .inl rfl|exact .inr rfl|assumption):PG X (.Name x pos) (gName i):=by
 intro pins s σ H v u Q I r h;exact wpAny_assign_Name (l7 I hN hi hx r (λs' I'=>⟨_,H,I',h⟩) hf)
def gNil:TGs:=λvs σ H Q=>vs=[]/\Q σ H
def gCons(t:TG)(u:TGs):TGs:=λvs σ H Q=>∃v r,vs=v::r/\t v σ H λσ' H'=>u r σ' H' Q
theorem pgs_nil:PGs X [] gNil:=by
 intro pins s σ H vs us Q I r h;obtain⟨e,h⟩:=h;subst e;cases r;exact assignInOrder_nil ⟨σ,H,I,h⟩
theorem l8(h1:PG X e t)(h2:PGs X es u)
  (hs:(assignEach (e::es) X.env).map (·.2)=assign e X.env::(assignEach es X.env).map (·.2):=by rfl):PGs X (e::es) (gCons t u):=by
 intro pins s σ H vs us Q I r h;obtain⟨v,vr,e1,h⟩:=h;subst e1
 cases r with
 |cons r rr=>
  rw[hs];refine assignInOrder_cons (thn (h1 pins s σ H _ _ _ I r h) λ_ s1 ⟨σ1,H1,I1,q1⟩=>?_);exact h2 pins s1 σ1 H1 _ _ Q I1 rr q1
def gTup(K:PySem.W.Frag)(n:Nat)(t:TGs):TG:=λv σ H Q=>∃a xs,v=.ref a/\SqT K H a xs/\xs.length=n/\t xs σ H Q
theorem pg_tup{es:List Expr}{k:Nat}{t:TGs}{n:Nat}(hc:X.calm=true)(h:PGs X es t)
  (hn:(assignEach es X.env).length=n:=by rfl) (hst:(assignEach es X.env).findIdx? (·.1)=none:=by rfl):PG X (.Tuple es k pos) (gTup X.K n t):=by
 intro pins s σ H v u Q I r hw;obtain⟨a,xs,e1,hq,hl,hw⟩:=hw;subst e1;cases r;obtain⟨its,rv,ht,hz⟩:=I.tuple hq;refine assign_Tuple_tuple (I.ok.hd hc) ht (by simp[hn,←hl,rv.length]) hst λh' hx=>?_;have I1:Inv X pins σ H {s with heap:=h'}:=I.kept (t':=s.toks) λb o e=>hx b o (yQ (xI e)) e;exact h pins _ σ H xs _ Q I1 (by simpa using rv) hw
def gSub(to ti:TE)(t:TSet):TG:=λv σ H Q=>to σ H λo H1=>ti σ H1 λi H2=>t o i v H2 λH3=>Q σ H3
theorem pg_sub(ho:PE X o to)(hi:PE X i ti)(hs:PSet X t)
  (ha:∀v,assign (.Subscript o i pos) X.env v=(do
   let ov←holding [v] (eval o X.env)
   let iv←holding [v,ov] (eval i X.env)
   standAt pos
   holding [v,ov,iv] (setItem ov iv v)
   release [v,ov,iv] []):=by intro _;rfl):PG X (.Subscript o i pos) (gSub to ti t):=by
 intro pins s σ H v u Q I r h;rw[ha];refine xA (wpAny_holding (thn (ho pins s σ H _ I h) λov s1 ⟨x,H1,I1,r1,q1⟩=>?_));refine xA (wpAny_holding (thn (hi pins s1 σ H1 _ I1 q1) λiv s2 ⟨y,H2,I2,r2,q2⟩=>?_));refine xA (wpAny_standAt (xA (wpAny_holding (thn (hs pins s2 σ H2 x y v ov iv u _ I2 r1 r2 r q2) λ_ s3 ⟨H3,I3,q3⟩=>?_))));exact wpAny_release ⟨σ,H3,I3,q3⟩
def tAsg(te:TE)(g:TG):TS:=λD σ H=>te σ H λx H1=>g x σ H1 D.nx
theorem ps_asg(he:PE X e te)(hg:PG X tg g)(hs:swapsWithSole [tg] e pos.line X.env=pure false:=by rfl)(hw:swappedStores [tg] e X.env=pure none:=by rfl)
  (h1:(assignEach [tg] X.env).map (·.2)=[assign tg X.env]:=by rfl):PS X (.Assign [tg] e pos) (tAsg te g):=by
 intro pins s σ H D I h;refine wpAny_Assign_stores (thn (he pins s σ H _ I h) λv s1 ⟨x,H1,I1,r1,q1⟩=>?_) hs hw;rw[h1];exact thn (hg pins s1 σ H1 x v _ I1 r1 q1) λ_ s2 q=>q
theorem tR(hN:X.N.Nodup)(hi:X.N[i]?=some x)(hx:Loc X.env.scope x)(he:PE X e te)(hs:swapsWith e (some (.Name x pos')) pos.line X.env=pure false:=by rfl)(hf:X.fn x=true\/X.env.scope.names.lookup x=some .local:=by first|exact .inl rfl|exact .inr rfl|assumption):
  PS X (.Assign [.Name x pos'] e pos) (tAsg te (gName i)):=by
 intro pins s σ H D I h;refine wpAny_Assign_Name (thn (he pins s σ H _ I h) λv s1 ⟨y,H1,I1,r1,q1⟩=>?_) hs;exact l7 I1 hN hi hx r1 (λs2 I2=>⟨_,H1,I2,q1⟩) hf
end
section
variable{X:Cx}{pos:Pos}
def tWhile(c:TT)(tb:TS):TS:=λD σ H=>∃W:Nat->St->Hp->Prop,(∃m,W m σ H)/\∀m σ H,W m σ H->
 c σ H λb H1=>if b=true then∃N:St->Hp->Prop,(∀σ' H',N σ' H'->∃m',m'<m/\W m' σ' H')/\tb {D with nx:=N,ct:=N,bk:=D.nx} σ H1 else D.nx σ H1
theorem tS(hp:PassesOwn (model X.prog X.w) X.A X.env X.xe)(hc:PT X c tc)(hb:PSs X body tb):PS X (.While c body [] pos) (tWhile tc tb):=by
 intro pins s σ H D I h;obtain⟨W,⟨m0,w0⟩,turn⟩:=h;refine wpAny_While (codeAny_whileLoop (λn s'=>∃σ' H',Inv X pins σ' H' s'/\W n σ' H') ?_ m0 ⟨σ,H,I,w0⟩);rintro n s1 ⟨σ1,H1,I1,w1⟩;refine wpAny_passesOwn hp (thn (hc pins s1 σ1 H1 _ I1 (turn n σ1 H1 w1)) λb s2 ⟨H2,I2,q2⟩=>?_)
 cases b with
 |true=>
  obtain⟨N,hN,q2⟩:=q2;rw[xE rfl];refine wpAny_passesOwn hp (thn (hb pins s2 σ1 H2 _ I2 q2) λf s3 q3=>?_)
  cases f with
  |next=>
   obtain⟨σ3,H3,I3,n3⟩:=q3;obtain⟨m',hm,w3⟩:=hN σ3 H3 n3;exact⟨m',hm,σ3,H3,I3,w3⟩
  |cont=>
   obtain⟨σ3,H3,I3,n3⟩:=q3;obtain⟨m',hm,w3⟩:=hN σ3 H3 n3;exact⟨m',hm,σ3,H3,I3,w3⟩
  |brk=>exact q3
  |ret v=>exact q3
 |false=>
  rw[xC xF];exact wpAny_execs_nil ⟨σ1,H2,I2,q2⟩
end
structure It where
 go:Nat->Hp->Prop
 yld:Nat->Hp->V->Hp->Prop
 stop:Nat->Hp->Prop
def FpOk(X:Cx)(pins:List (Addr×Obj))(H:Hp)(b:Addr):Prop:=
 H b=none/\b≠X.env.locals/\b∉X.fs/\(b∈X.ex\/X.s₀.heap.objs.size<=b)/\(∀x c,X.env.cells.lookup x=some c->c≠b)/\∀p∈X.pn++pins,p.1≠b
theorem Inv.fpOk(I:Inv X pins σ H s)(hb:s.heap.objs.size<=b)(hn:H' b=none):FpOk X pins H' b:=by
 refine⟨hn,zM (yA I.lt hb),I.nofs hb,.inr (xU I.sz hb),λx c e z=>?_,λp hp z=>?_⟩
 ·obtain⟨v,q⟩:=I.cell x c e
  exact absurd (yA q.lt (by rw[z];exact hb)) (yW _)
 ·exact absurd (yA (xI (I.pin p hp).1) (by rw[z];exact hb)) (yW _)
structure Turn(P:Program)(w:World)(K:PySem.W.Frag)(tg:Expr)(J:It)(fp:List Addr)(it:Addr)(tn:Nat->Heap->Prop):Prop where
 mem:it∈fp
 obj:∀i h,tn i h->∀b∈fp,∃o,h.get? b=some o/\∀v,o.data≠.cell v
 keep:∀i h h',tn i h->(∀b∈fp,∀o,h.get? b=some o->h'.get? b=some o)->tn i h'
 item:∀(X:Cx),X.prog=P->X.w=w->X.K=K->X.calm=true->∀(i:Nat)(pins:List (Addr×Obj))(s:Shared)(σ:St)(H:Hp)(E:Value->Shared->Prop),Inv X pins σ H s->(∀b∈fp,FpOk X pins H b)->tn i s.heap->J.go i H->
  wpAny (model P w) X.A (pyNext (.ref it)) (λr s1=>∃u,r=some u/\
   wpAny (model P w) X.A (letOwnedTupleGo tg (.ref it) u) (λ_ s2=>∃x H',Inv X pins σ H' s2/\RelV x u/\J.yld i H x H'/\tn (i+1) s2.heap/\∀b∈fp,H' b=none) E s1) E s
 done:∀(X:Cx),X.prog=P->X.w=w->X.K=K->X.calm=true->∀(i:Nat)(pins:List (Addr×Obj))(s:Shared)(σ:St)(H:Hp)(E:Value->Shared->Prop),Inv X pins σ H s->(∀b∈fp,FpOk X pins H b)->tn i s.heap->J.stop i H->
  wpAny (model P w) X.A (pyNext (.ref it)) (λr s1=>r=none/\Inv X pins σ H s1) E s
 self:∀(A:Around)(i:Nat)(s:Shared)(Q:Value->Shared->Prop)(E:Value->Shared->Prop),tn i s.heap->Q (.ref it) s->wpAny (model P w) A (pyIter (.ref it)) Q E s
abbrev TI:=St->Hp->(It->Hp->Prop)->Prop
def PIE(X:Cx)(pins:List (Addr×Obj))(σ:St)(tg:Expr)(R:It->Hp->Prop)(itv:Value)(s2:Shared):Prop:=
 ∃(it:Addr)(fp:List Addr)(tn:Nat->Heap->Prop)(J:It)(H':Hp),itv=.ref it/\Inv X pins σ H' s2/\Turn X.prog X.w X.K tg J fp it tn/\tn 0 s2.heap/\(∀b∈fp,FpOk X pins H' b)/\R J H'
def PI(X:Cx)(tg iter:Expr)(wi:TI):Prop:=
 ∀(pins:List (Addr×Obj))(s:Shared)(σ:St)(H:Hp)(R:It->Hp->Prop),Inv X pins σ H s->wi σ H R->
  wpAny (model X.prog X.w) X.A (eval iter X.env) (λv s1=>wpAny (model X.prog X.w) X.A (pyIter v) (PIE X pins σ tg R) X.xe s1) X.xe s
theorem tT(ho:s.heap.get? it=some o)(hc:o.cls=.type n)(hd:o.data=.fields vs)
   (hn:["enumerate","zip","dict_itemiterator","dict_reverseitemiterator","odict_iterator","itertools.zip_longest","itertools.pairwise"].contains n=false) (hQ:Q () s):wpAny M A (letOwnedTupleGo tg (.ref it) u) Q E s:=by
 unfold letOwnedTupleGo;cases tg<;>first
   |exact xX hQ
   |(cases u<;>first
       |exact xX hQ
       | (refine xA (wpAny_load ho ?_)
          rw[hc,hd];show wpAny M A (if(["enumerate","zip","dict_itemiterator","dict_reverseitemiterator","odict_iterator","itertools.zip_longest","itertools.pairwise"].contains n&&vs[0]?==some (rawInt _))=true then _ else _) Q E s;rw[xC (by intro h;rw[hn,Bool.false_and] at h;cases h)];exact xX hQ))
def Itl(K:PySem.W.Frag)(a:Addr):It:=
 ⟨λi H=>∃xs x,SqL K H a xs/\xs[i]?=some x,λi H x H'=>H'=H/\∀xs,SqL K H a xs->xs[i]?=some x,λi H=>∃xs,SqL K H a xs/\xs.length<=i⟩
def Itt(K:PySem.W.Frag)(a:Addr):It:=
 ⟨λi H=>∃xs x,SqT K H a xs/\xs[i]?=some x,λi H x H'=>H'=H/\∀xs,SqT K H a xs->xs[i]?=some x,λi H=>∃xs,SqT K H a xs/\xs.length<=i⟩
def Itr(lo:Int)(n:Nat):It:=⟨λi _=>i<n,λi H x H'=>H'=H/\x=.int (lo+i),λi _=>n<=i⟩
theorem rF{P:Program}{w:World}{K:PySem.W.Frag}{tg:Expr}(a it:Addr):Turn P w K tg (Itl K a) [it] it (λi h=>h.IsListIter it a i) where
 mem:=by simp
 obj:=λi h st b hb=>by
  have e:b=it:=by simpa using hb
  subst e;obtain⟨o,e,c,d⟩:=st;exact⟨o,e,λv z=>by rw[d] at z;cases z⟩
 keep:=λi h h' st k=>st.at λo e=>k it (by simp) o e
 item:=by
  intro X hP hw hK hc i pins s σ H E I hf st hg;subst hP hw hK;obtain⟨xs,x,hq,hx⟩:=hg;obtain⟨its,rv,p,hz⟩:=I.list hq;obtain⟨u,hu,ru⟩:=rv.get hx;obtain⟨f0,f1,f2,f3,f4,f5⟩:=hf it (by simp);refine wpAny_pyNext_list_item st p.isList (x:=u) (by simpa using hu) λh' st' sb=>?_;have I1:Inv X pins σ H {s with heap:=h'}:=I.turned (t':=s.toks) (λb o hb e=>(sb.2 b hb).trans e) f0 f1 f3 f4 f5;obtain⟨o,e,c,d⟩:=id st';exact⟨u,rfl,tT (s:={s with heap:=h'}) e c d (by decide) ⟨x,H,I1,ru,⟨rfl,λys hy=>by rw[I.list_inj hy hq];exact hx⟩,st',λb hb=>(hf b hb).1⟩⟩
 done:=by
  intro X hP hw hK hc i pins s σ H E I hf st hg;subst hP hw hK;obtain⟨xs,hq,hx⟩:=hg;obtain⟨its,rv,p,hz⟩:=I.list hq;obtain⟨f0,f1,f2,f3,f4,f5⟩:=hf it (by simp);have hl:=rv.length;exact wpAny_pyNext_list_end (I.ok.hd hc) st p.isList (by simp;omega) λh' eb=>⟨rfl,I.turned (t':=s.toks) (λb o hb e=>eb b o hb e) f0 f1 f3 f4 f5⟩
 self:=λ_ _ _ _ _ st h=>wpAny_pyIter_listiter st h
theorem n9{P:Program}{w:World}{K:PySem.W.Frag}{tg:Expr}(a it:Addr):Turn P w K tg (Itt K a) [it] it (λi h=>h.IsTupleIter it a i) where
 mem:=by simp
 obj:=λi h st b hb=>by
  have e:b=it:=by simpa using hb
  subst e;obtain⟨o,e,c,d⟩:=st;exact⟨o,e,λv z=>by rw[d] at z;cases z⟩
 keep:=λi h h' st k=>st.at λo e=>k it (by simp) o e
 item:=by
  intro X hP hw hK hc i pins s σ H E I hf st hg;subst hP hw hK;obtain⟨xs,x,hq,hx⟩:=hg;obtain⟨its,rv,p,hz⟩:=I.tuple hq;obtain⟨u,hu,ru⟩:=rv.get hx;obtain⟨f0,f1,f2,f3,f4,f5⟩:=hf it (by simp);refine wpAny_pyNext_tuple_item st (show s.heap.IsTuple a its.toArray from p) (x:=u) (by simpa using hu) λh' st' sb=>?_;have I1:Inv X pins σ H {s with heap:=h'}:=I.turned (t':=s.toks) (λb o hb e=>(sb.2 b hb).trans e) f0 f1 f3 f4 f5;obtain⟨o,e,c,d⟩:=id st';exact⟨u,rfl,tT (s:={s with heap:=h'}) e c d (by decide) ⟨x,H,I1,ru,⟨rfl,λys hy=>by rw[I.tuple_inj hy hq];exact hx⟩,st',λb hb=>(hf b hb).1⟩⟩
 done:=by
  intro X hP hw hK hc i pins s σ H E I hf st hg;subst hP hw hK;obtain⟨xs,hq,hx⟩:=hg;obtain⟨its,rv,p,hz⟩:=I.tuple hq;obtain⟨f0,f1,f2,f3,f4,f5⟩:=hf it (by simp);have hl:=rv.length;exact wpAny_pyNext_tuple_end (I.ok.hd hc) st (show s.heap.IsTuple a its.toArray from p) (by simp;omega) λh' eb=>⟨rfl,I.turned (t':=s.toks) (λb o hb e=>eb b o hb e) f0 f1 f3 f4 f5⟩
 self:=λ_ _ _ _ _ st h=>wpAny_pyIter_tupleiter st h
theorem oA{P:Program}{w:World}{K:PySem.W.Frag}{tg:Expr}(it:Addr)(lo:Int)(n:Nat):Turn P w K tg (Itr lo n) [it] it (λi h=>IsRangeIter h it (lo+(i:Nat)*1) ((n:Int)-(i:Nat)) 1) where
 mem:=by simp
 obj:=λi h st b hb=>by
  have e:b=it:=by simpa using hb
  subst e;exact⟨_,st,λv z=>by
   have z':Data.fields _=Data.cell v:=z;cases z'⟩
 keep:=λi h h' st k=>k it (by simp) _ st
 item:=by
  intro X hP hw hK hc i pins s σ H E I hf st hg;subst hP hw hK;obtain⟨f0,f1,f2,f3,f4,f5⟩:=hf it (by simp);have W:=Walks.range (prog:=X.prog) (w:=X.w) (I.ok.hd hc) it lo 1 n;refine W.item i s _ _ hg st λv h' tk hv st' kk=>?_;obtain⟨t,rfl⟩:=hv;have I1:Inv X pins σ H {s with heap:=h',toks:=tk}:=I.turned (λb o hb e=>kk b o (by simpa using hb) e) f0 f1 f3 f4 f5;refine⟨_,rfl,tT (s:={s with heap:=h',toks:=tk}) (n:="range_iterator") st' rfl rfl (by decide) ⟨.int (lo+i),H,I1,⟨t,?_⟩,⟨rfl,rfl⟩,st',λb hb=>(hf b hb).1⟩⟩;rw[Int.mul_one]
 done:=by
  intro X hP hw hK hc i pins s σ H E I hf st hg;subst hP hw hK;obtain⟨f0,f1,f2,f3,f4,f5⟩:=hf it (by simp);exact wpAny_pyNext_range_end (I.ok.hd hc) st (by have:n<=i:=hg;omega) λh' eb=>⟨rfl,I.turned (t':=s.toks) (λb o hb e=>eb b o hb e) f0 f1 f3 f4 f5⟩
 self:=λ_ _ _ _ _ st h=>wpAny_pyIter_rangeiter st h
section
variable{X:Cx}{tg:Expr}
def iList(K:PySem.W.Frag)(tl:TE):TI:=λσ H R=>tl σ H λx H1=>∃a,x=.ref a/\(∃xs,SqL K H1 a xs)/\R (Itl K a) H1
def iTup(K:PySem.W.Frag)(tl:TE):TI:=λσ H R=>tl σ H λx H1=>∃a,x=.ref a/\(∃xs,SqT K H1 a xs)/\R (Itt K a) H1
theorem pi_list(hl:PE X l tl):PI X tg l (iList X.K tl):=by
 intro pins s σ H R I h;refine thn (hl pins s σ H _ I h) λv s1 ⟨x,H1,I1,r1,q1⟩=>?_;obtain⟨a,e,⟨xs,hq⟩,q⟩:=q1;subst e;cases r1;obtain⟨its,rv,p,hz⟩:=I1.list hq;refine wpAny_pyIter_list p.isList ?_;refine⟨s1.heap.objs.size,[s1.heap.objs.size],_,_,H1,rfl,I1.kept (t':=s1.toks) λb o e=>xH _ e,rF a _,⟨_,yU _ rfl,rfl,rfl⟩,λb hb=>?_,q⟩;have e:b=s1.heap.objs.size:=by simpa using hb
 subst e;exact I1.fpOk (xN _) (I1.hok.fresh (xN _))
theorem pi_tup(hl:PE X l tl):PI X tg l (iTup X.K tl):=by
 intro pins s σ H R I h;refine thn (hl pins s σ H _ I h) λv s1 ⟨x,H1,I1,r1,q1⟩=>?_;obtain⟨a,e,⟨xs,hq⟩,q⟩:=q1;subst e;cases r1;obtain⟨its,rv,p,hz⟩:=I1.tuple hq;refine wpAny_pyIter_tuple (show s1.heap.IsTuple a its.toArray from p) ?_;refine⟨s1.heap.objs.size,[s1.heap.objs.size],_,_,H1,rfl,I1.kept (t':=s1.toks) λb o e=>xH _ e,n9 a _,⟨_,yU _ rfl,rfl,rfl⟩,λb hb=>?_,q⟩;have e:b=s1.heap.objs.size:=by simpa using hb
 subst e;exact I1.fpOk (xN _) (I1.hok.fresh (xN _))
theorem tU{pins:List (Addr×Obj)}{σ:St}{H:Hp}{s:Shared}{R:It->Hp->Prop}{E:Value->Shared->Prop}{lo hi:Int}{t u v:Tok}{tk:Nat}(I:Inv X pins σ H s)(h1: -(2^62)<=lo)(h2:lo<2^62)(h3: -(2^62)<=hi)(h4:hi<2^62)
  (q:R (Itr lo (hi-lo).toNat) H):wpAny (model X.prog X.w) X.A (pyIter (.ref s.heap.objs.size)) (PIE X pins σ tg R) E {s with heap:=s.heap.push {cls:=.type "range",data:=.fields #[.int lo t,.int hi u,.int 1 v]},toks:=tk}:=by
 refine wpAny_pyIter_range (IsRange.new ..) (small_one h1 h2 h3 h4) ?_;have I1:Inv X pins σ H {s with heap:=s.heap.push {cls:=.type "range",data:=.fields #[.int lo t,.int hi u,.int 1 v]},toks:=tk}:=I.kept λb o e=>xH _ e;refine⟨(s.heap.push {cls:=.type "range",data:=.fields #[.int lo t,.int hi u,.int 1 v]}).objs.size,[(s.heap.push {cls:=.type "range",data:=.fields #[.int lo t,.int hi u,.int 1 v]}).objs.size],_,_,H,rfl,
  I1.kept (t':=tk) λb o e=>xH _ e,oA _ lo (hi-lo).toNat,?_,λb hb=>?_,q⟩
 ·have e1:lo+((0:Nat):Int)*1=lo:=by simp
  have e2:(((hi-lo).toNat:Nat):Int)-((0:Nat):Int)=Builtin.Range.rangeSize lo hi 1:=by rw[rangeSize_one];split<;>omega
  show IsRangeIter _ _ (lo+((0:Nat):Int)*1) ((((hi-lo).toNat:Nat):Int)-((0:Nat):Int)) 1;rw[e1,e2];exact yU _ rfl
 ·have e:b=(s.heap.push {cls:=.type "range",data:=.fields #[.int lo t,.int hi u,.int 1 v]}).objs.size:=by simpa using hb
  subst e;exact I1.fpOk (xN _) (I1.hok.fresh (xN _))
def iRng1(ta:TA):TI:=λσ H R=>ta σ H λvs H1=>∃j:Int,vs=[.int j]/\-(2^62)<=j/\j<2^62/\R (Itr 0 j.toNat) H1
theorem rG{a:Expr}{ta:TA}{p pos:Pos}(hg:Gl X "range")(hm:X.mg "range"=none)(ha:PA X [a] ta)(hs:starEach [a] X.env=[(false,eval a X.env)]:=by rfl):PI X tg (.Call (.Name "range" p) [a] [] pos) (iRng1 ta):=by
 intro pins s σ H R I h;refine Call_ (fG I hg hm boot_range (PyProof.Rows.callWith_type1 (thn (ha pos pins s σ H _ I h) λus s1 ⟨vs,H1,I1,r1,q1⟩=>?_) hs rfl));obtain⟨j,e,q1,q2,q⟩:=q1;subst e
 cases r1 with
 |cons r rr=>
  cases rr;obtain⟨t,rfl⟩:=r;exact call_range_1 (tU I1 (by omega) (by omega) q1 q2 (by simpa using q))
def tFor(wi:TI)(g:TG)(tb:TS):TS:=λD σ H=>wi σ H λJ H1=>∃W:Nat->Nat->St->Hp->Prop,(∃m,W 0 m σ H1)/\∀i m σ H,W i m σ H->
 (J.stop i H/\D.nx σ H)\/(J.go i H/\∃N:St->Hp->Prop,(∀σ' H',N σ' H'->∃m',m'<m/\W (i+1) m' σ' H')/\∀x H',J.yld i H x H'->g x σ H' λσ2 H2=>tb {D with nx:=N,ct:=N,bk:=D.nx} σ2 H2)
def pinsAt(fp:List Addr)(h:Heap):List (Addr×Obj):=fp.filterMap λb=>(h.get? b).map λo=>(b,o)
theorem bG(hb:b∈fp)(e:h.get? b=some o):(b,o)∈pinsAt fp h:=List.mem_filterMap.mpr ⟨b,hb,by rw[e];rfl⟩
theorem rH(hp:p∈pinsAt fp h):p.1∈fp/\h.get? p.1=some p.2:=by
 obtain⟨b,hb,e⟩:=List.mem_filterMap.mp hp
 cases q:h.get? b with
 |none=>rw[q] at e;cases e
 |some o=>
  rw[q] at e;have e':(b,o)=p:=yN e;subst e';exact⟨hb,q⟩
theorem Inv.pinned(I:Inv X pins σ H s)(hf:∀b∈fp,FpOk X pins H b)(ho:∀b∈fp,∃o,s.heap.get? b=some o/\∀v,o.data≠.cell v):Inv X (pins++pinsAt fp s.heap) σ H s:=
 I.pins_of λp hp=>(List.mem_append.mp hp).elim (λz=>I.pin p (xP _ z)) λz=>by
  obtain⟨hb,e⟩:=rH z;obtain⟨f0,f1,f2,_⟩:=hf p.1 hb;obtain⟨o,e',d⟩:=ho p.1 hb;rw[e] at e';cases e';exact⟨e,f0,f1,f2,d⟩
theorem Inv.unpinned(I:Inv X (pins++pl) σ H s):Inv X pins σ H s:=I.pins_of λp hp=>I.pin p (xP _ (List.mem_append_left _ hp))
theorem ps_for{iter:Expr}{body:List Stmt}{wi:TI}{g:TG}{tb:TS}{pos:Pos}(hp:PassesOwn (model X.prog X.w) X.A X.env X.xe)(hc:X.calm=true)(hi:PI X tg iter wi)(hg:PG X tg g)(hb:PSs X body tb)
  (hs:∀x,foldedSetIterable iter X.env x=pure x:=by intro _;rfl):PS X (.For tg iter body [] pos) (tFor wi g tb):=by
 intro pins s σ H D I h;refine wpAny_For (thn (hi pins s σ H _ I h) λv s1 h1=>thn h1 λitv s2 h2=>?_) hs;obtain⟨it,fp,tn,J,H2,e,I2,T,st2,f2,W,⟨m0,w0⟩,turn⟩:=h2;subst e
 --what stays true of the iterator's objects through the loop
 have stat:∀{H':Hp},(∀b∈fp,H' b=none)->∀b∈fp,FpOk X pins H' b:=λhn b hb=>⟨hn b hb,(f2 b hb).2⟩
 refine codeAny_forLoop_any (λn s'=>∃i σ' H',Inv X pins σ' H' s'/\tn i s'.heap/\(∀b∈fp,H' b=none)/\W i n σ' H') ?_ m0 ⟨0,σ,H2,I2,st2,λb hb=>(f2 b hb).1,w0⟩;rintro n s3 ⟨i,σ3,H3,I3,st3,fr3,w3⟩;rcases turn i n σ3 H3 w3 with⟨stop,qn⟩|⟨go,N,hN,step⟩
 ·refine wpAny_passesOwn hp (thn (T.done X rfl rfl rfl hc i pins s3 σ3 H3 X.xe I3 (stat fr3) st3 stop) λr s4 ⟨hr,I4⟩=>?_)
  subst hr;exact wpAny_execs_nil ⟨σ3,H3,I4,qn⟩
 ·refine wpAny_passesOwn hp (thn (T.item X rfl rfl rfl hc i pins s3 σ3 H3 X.xe I3 (stat fr3) st3 go) λr s4 ⟨u,hr,h4⟩=>?_)
  subst hr;refine wpAny_passesOwn hp (thn h4 λ_ s5 ⟨x,H5,I5,r5,y5,st5,fr5⟩=>?_);have I5':=I5.pinned (stat fr5) (T.obj _ _ st5);refine wpAny_passesOwn hp (thn (hg _ s5 σ3 H5 x u _ I5' r5 (step x H5 y5)) λ_ s6 ⟨σ6,H6,I6,q6⟩=>?_);refine wpAny_passesOwn hp (thn (hb _ s6 σ6 H6 _ I6 q6) λf s7 q7=>?_);have again:∀{σ7:St}{H7:Hp},Inv X (pins++pinsAt fp s5.heap) σ7 H7 s7->N σ7 H7->∃m,m<n/\∃i σ' H',Inv X pins σ' H' s7/\tn i s7.heap/\(∀b∈fp,H' b=none)/\W i m σ' H':=λ{σ7 H7} I7 n7=>by
   obtain⟨m',hm,w7⟩:=hN σ7 H7 n7;refine⟨m',hm,i+1,σ7,H7,I7.unpinned,T.keep _ _ _ st5 λb hb o e=>(I7.pin (b,o) (xP _ (xP _ (bG hb e)))).1,λb hb=>?_,w7⟩;obtain⟨o,e,d⟩:=T.obj _ _ st5 b hb;exact(I7.pin (b,o) (xP _ (xP _ (bG hb e)))).2.1
  cases f with
  |next=>obtain⟨σ7,H7,I7,n7⟩:=q7;exact again I7 n7
  |cont=>obtain⟨σ7,H7,I7,n7⟩:=q7;exact again I7 n7
  |brk=>obtain⟨σ7,H7,I7,q7⟩:=q7;exact⟨σ7,H7,I7.unpinned,q7⟩
  |ret v=>obtain⟨x7,σ7,H7,I7,r7,q7⟩:=q7;exact⟨x7,σ7,H7,I7.unpinned,r7,q7⟩
end
abbrev R2:=V->V->Hp->VK->Prop
def OpR(X:Cx)(f:Value->Value->Sem Value)(r:R2):Prop:=
 ∀(pins:List (Addr×Obj))(s:Shared)(σ:St)(H:Hp)(x y:V)(v u:Value)(Q:VK),Inv X pins σ H s->RelV x v->RelV y u->r x y H Q->
  wpAny (model X.prog X.w) X.A (f v u) (EP X pins σ Q) X.xe s
def UnR(X:Cx)(f:Value->Sem Value)(r:V->Hp->VK->Prop):Prop:=
 ∀(pins:List (Addr×Obj))(s:Shared)(σ:St)(H:Hp)(x:V)(v:Value)(Q:VK),Inv X pins σ H s->RelV x v->r x H Q->
  wpAny (model X.prog X.w) X.A (f v) (EP X pins σ Q) X.xe s
def CallR(X:Cx)(f:Value)(r:List V->Hp->VK->Prop):Prop:=
 ∀(pins:List (Addr×Obj))(s:Shared)(σ:St)(H:Hp)(xs:List V)(us:List Value)(Q:VK),Inv X pins σ H s->Vals xs us->r xs H Q->
  wpAny (model X.prog X.w) X.A (call f us) (EP X pins σ Q) X.xe s
def TruR(X:Cx)(r:V->Hp->(Bool->Hp->Prop)->Prop):Prop:=
 ∀(pins:List (Addr×Obj))(s:Shared)(σ:St)(H:Hp)(x:V)(v:Value)(Q:Bool->Hp->Prop),Inv X pins σ H s->RelV x v->r x H Q->
  wpAny (model X.prog X.w) X.A (truthy v) (TP X pins σ Q) X.xe s
def tOp(r:R2)(ta tb:TE):TE:=λσ H Q=>ta σ H λx H1=>tb σ H1 λy H2=>r x y H2 Q
def tUn(r:V->Hp->VK->Prop)(ta:TE):TE:=λσ H Q=>ta σ H λx H1=>r x H1 Q
def rI(C:Int->Int->Prop)(g:Int->Int->V):R2:=λx y H Q=>∃i j,x=.int i/\y=.int j/\C i j/\Q (g i j) H
def rI0(g:Int->Int->V):R2:=λx y H Q=>∃i j,x=.int i/\y=.int j/\Q (g i j) H
def rU(g:Int->V):V->Hp->VK->Prop:=λx H Q=>∃i,x=.int i/\Q (g i) H
section
variable{X:Cx}{a b c:Expr}{ta tb tc:TE}{pos:Pos}
theorem binT(ha:PE X a ta)(hb:PE X b tb){R:V->V->Hp->Prop}(I:Inv X pins σ H s)
  (h:ta σ H λx H1=>tb σ H1 λy H2=>R x y H2) {f:Value->Value->Sem Value}
  (hf:∀v u s2 x y H2,Inv X pins σ H2 s2->RelV x v->RelV y u->R x y H2->wpAny (model X.prog X.w) X.A (f v u) Q X.xe s2):
  wpAny (model X.prog X.w) X.A (eval a X.env) (λv s₁=>wpAny (model X.prog X.w) X.A (eval b X.env) (λu s₂=>wpAny (model X.prog X.w) X.A (f v u) Q X.xe s₂) X.xe s₁) X.xe s:=by
 refine thn (ha pins s σ H _ I h) λv s1 ⟨x,H1,I1,r1,q1⟩=>?_;refine thn (hb pins s1 σ H1 _ I1 q1) λu s2 ⟨y,H2,I2,r2,q2⟩=>?_;exact hf v u s2 x y H2 I2 r1 r2 q2
theorem pe_op(ho:OpR X (binaryOp op) r)(ha:PE X a ta)(hb:PE X b tb):PE X (.BinOp a op b pos) (tOp r ta tb):=by
 intro pins s σ H Q I h;exact wpAny_BinOp (binT ha hb I h λv u s2 x y H2 I2 rx ry q=>ho pins s2 σ H2 x y v u Q I2 rx ry q)
theorem pe_un(ho:UnR X (unaryOp op) r)(ha:PE X a ta):PE X (.UnaryOp op a pos) (tUn r ta):=by
 intro pins s σ H Q I h;exact UnaryOp_ (thn (ha pins s σ H _ I h) λv s1 ⟨x,H1,I1,r1,q1⟩=>ho pins s1 σ H1 x v Q I1 r1 q1)
theorem opI{f:Value->Value->Sem Value}{C:Int->Int->Prop}{g:Int->Int->Int}
  (rule:∀(i j:Int)(t u:Tok)(s:Shared)(Q:Value->Shared->Prop)(E:Value->Shared->Prop),C i j->Q (.int (g i j) s.toks) {s with toks:=s.toks+1}->wpAny (model X.prog X.w) X.A (f (.int i t) (.int j u)) Q E s):
  OpR X f (rI C λi j=>.int (g i j)):=by
 intro pins s σ H x y v u Q I rx ry h;obtain⟨i,j,rfl,rfl,hc,q⟩:=h;obtain⟨t,rfl⟩:=rx;obtain⟨t',rfl⟩:=ry;exact rule i j t t' s _ _ hc ⟨.int (g i j),H,I.tok _,⟨_,rfl⟩,q⟩
theorem opI0{f:Value->Value->Sem Value}{g:Int->Int->Int}
  (rule:∀(i j:Int)(t u:Tok)(s:Shared)(Q:Value->Shared->Prop)(E:Value->Shared->Prop),Q (.int (g i j) s.toks) {s with toks:=s.toks+1}->wpAny (model X.prog X.w) X.A (f (.int i t) (.int j u)) Q E s):
  OpR X f (rI0 λi j=>.int (g i j)):=by
 intro pins s σ H x y v u Q I rx ry h;obtain⟨i,j,rfl,rfl,q⟩:=h;obtain⟨t,rfl⟩:=rx;obtain⟨t',rfl⟩:=ry;exact rule i j t t' s _ _ ⟨.int (g i j),H,I.tok _,⟨_,rfl⟩,q⟩
theorem opB0{g:Int->Int->Bool}
  (rule:∀(i j:Int)(t u:Tok)(s:Shared)(Q:Value->Shared->Prop)(E:Value->Shared->Prop),Q (.bool (g i j)) s->wpAny (model X.prog X.w) X.A (f (.int i t) (.int j u)) Q E s):
  OpR X f (rI0 λi j=>.bl (g i j)):=by
 intro pins s σ H x y v u Q I rx ry h;obtain⟨i,j,rfl,rfl,q⟩:=h;obtain⟨t,rfl⟩:=rx;obtain⟨t',rfl⟩:=ry;exact rule i j t t' s _ _ ⟨.bl (g i j),H,I,rfl,q⟩
def CDiv(i j:Int):Prop:=0<j/\j<1073741824
def CMul(i j:Int):Prop:=(-(2^64)<i/\i<2^64)\/(-(2^64)<j/\j<2^64)
theorem CMul.ok(h:CMul i j):IntMulOk i j:=by
 rcases h with⟨h1,h2⟩|⟨h1,h2⟩
 ·exact .of_left (intBits_le_64 h1 h2)
 ·exact .of_right (intBits_le_64 h1 h2)
theorem op_add:OpR X (binaryOp .Add) (rI0 λi j=>.int (i+j)):=opI0 λ_ _ _ _ _ _ _ q=>add_int q
theorem op_sub:OpR X (binaryOp .Sub) (rI0 λi j=>.int (i-j)):=opI0 λ_ _ _ _ _ _ _ q=>sub_int q
theorem op_mul:OpR X (binaryOp .Mult) (rI CMul λi j=>.int (i*j)):=opI λ_ _ _ _ _ _ _ hc q=>mul_int q hc.ok
theorem op_fdiv:OpR X (binaryOp .FloorDiv) (rI CDiv λi j=>.int (i/j)):=opI λi j _ _ _ _ _ hc q=>by
 have h1:(0:Int)<j:=hc.1;have h2:j<1073741824:=hc.2;exact floordiv_int (by omega) (by rw[Int.fdiv_eq_ediv_of_nonneg i (by omega)];exact q) (.inl (PyProof.noPylong_small (by omega)))
theorem op_mod:OpR X (binaryOp .Mod) (rI (λ_ j=>0<j) λi j=>.int (i%j)):=opI λi j _ _ _ _ _ hc q=>by
 have h1:(0:Int)<j:=hc;exact mod_int' (by omega) (by rw[Int.fmod_eq_emod_of_nonneg i (by omega)];exact q)
theorem unI{f:Value->Sem Value}{g:Int->Int}
  (rule:∀(i:Int)(t:Tok)(s:Shared)(Q:Value->Shared->Prop)(E:Value->Shared->Prop),Q (.int (g i) s.toks) {s with toks:=s.toks+1}->wpAny (model X.prog X.w) X.A (f (.int i t)) Q E s):
  UnR X f (rU λi=>.int (g i)):=by
 intro pins s σ H x v Q I rx h;obtain⟨i,rfl,q⟩:=h;obtain⟨t,rfl⟩:=rx;exact rule i t s _ _ ⟨.int (g i),H,I.tok _,⟨_,rfl⟩,q⟩
theorem un_neg:UnR X (unaryOp .USub) (rU λi=>.int (-i)):=unI λ_ _ _ _ _ q=>neg_int q
end
def scal:V->V->Bool
 |.non,.non=>true|.non,.int _=>true|.int _,.non=>true|.non,.bl _=>true|.bl _,.non=>true|.non,.str _=>true|.str _,.non=>true
 |.int _,.int _=>true|.bl _,.bl _=>true|.str _,.str _=>true|.byt _,.byt _=>true
 |.int _,.str _=>true|.str _,.int _=>true|.bl _,.str _=>true|.str _,.bl _=>true
 |_,_=>false
def rEq:R2:=λx y H Q=>scal x y=true/\Q (.bl (decide (x=y))) H
def rNe:R2:=λx y H Q=>scal x y=true/\Q (.bl (!decide (x=y))) H
theorem gZ:decide (V.int i=V.int j)=(i==j):=by
 rw[zH];simp
theorem k6:decide (V.bl i=V.bl j)=(i==j):=by
 rw[zH];simp
theorem g5:decide (V.str i=V.str j)=(i==j):=by
 rw[zH];simp
theorem pS:decide (V.byt i=V.byt j)=(i.toList==j.toList):=by
 rw[zH];cases i;cases j;simp
section
variable{X:Cx}{a b c:Expr}{ta tb tc:TE}{pos:Pos}
theorem aD(I:Inv X pins σ H s)(q:Q (.bl k) H)(e:k=k'):EP X pins σ Q (.bool k') s:=by
 subst e;exact⟨.bl k,H,I,rfl,q⟩
theorem tV:OpR X (compareOp .Eq) rEq:=by
 intro pins s σ H x y v u Q I rx ry h;obtain⟨hs,q⟩:=h
 cases x with
 |non=>
  cases rx
  cases y with
  |non=>cases ry;exact PySem.EqNone.eq_none_none (aD I q (by simp))
  |bl j=>cases ry;exact PySem.EqNone.eq_none_bool (aD I q (by simp))
  |int j=>obtain⟨t',rfl⟩:=ry;exact PySem.EqNone.eq_none_int (aD I q (by simp))
  |str j=>obtain⟨t',rfl⟩:=ry;exact PySem.EqNone.eq_none_str (aD I q (by simp))
  |_=>exact absurd (show false=true from hs) xF
 |bl i=>
  cases rx
  cases y with
  |non=>cases ry;exact PySem.EqNone.eq_bool_none (aD I q (by simp))
  |bl j=>cases ry;exact eq_bool (aD I q k6)
  |str j=>obtain⟨t',rfl⟩:=ry;exact PySem.EqMixed.eq_bool_str (aD I q (by simp))
  |_=>exact absurd (show false=true from hs) xF
 |int i=>
  obtain⟨t,rfl⟩:=rx
  cases y with
  |non=>cases ry;exact PySem.EqNone.eq_int_none (aD I q (by simp))
  |int j=>obtain⟨t',rfl⟩:=ry;exact eq_int (aD I q gZ)
  |str j=>obtain⟨t',rfl⟩:=ry;exact PySem.EqMixed.eq_int_str (aD I q (by simp))
  |_=>exact absurd (show false=true from hs) xF
 |str i=>
  obtain⟨t,rfl⟩:=rx
  cases y with
  |non=>cases ry;exact PySem.EqNone.eq_str_none (aD I q (by simp))
  |bl j=>cases ry;exact PySem.EqMixed.eq_str_bool (aD I q (by simp))
  |int j=>obtain⟨t',rfl⟩:=ry;exact PySem.EqMixed.eq_str_int (aD I q (by simp))
  |str j=>obtain⟨t',rfl⟩:=ry;exact eq_str (aD I q g5)
  |_=>exact absurd (show false=true from hs) xF
 |byt i=>
  obtain⟨t,rfl⟩:=rx
  cases y with
  |byt j=>obtain⟨t',rfl⟩:=ry;exact PySem.W.eq_bytes (aD I q pS)
  |_=>exact absurd (show false=true from hs) xF
 |_=>cases y<;>exact absurd (show false=true from hs) xF
theorem tW:OpR X (compareOp .NotEq) rNe:=by
 intro pins s σ H x y v u Q I rx ry h;obtain⟨hs,q⟩:=h
 cases x with
 |non=>
  cases rx
  cases y with
  |non=>cases ry;exact PySem.EqNone.ne_none_none (aD I q (by simp))
  |bl j=>cases ry;exact PySem.EqNone.ne_none_bool (aD I q (by simp))
  |int j=>obtain⟨t',rfl⟩:=ry;exact PySem.EqNone.ne_none_int (aD I q (by simp))
  |str j=>obtain⟨t',rfl⟩:=ry;exact PySem.EqNone.ne_none_str (aD I q (by simp))
  |_=>exact absurd (show false=true from hs) xF
 |bl i=>
  cases rx
  cases y with
  |non=>cases ry;exact PySem.EqNone.ne_bool_none (aD I q (by simp))
  |bl j=>cases ry;exact ne_bool (aD I q (congrArg not k6))
  |str j=>obtain⟨t',rfl⟩:=ry;exact PySem.EqMixed.ne_bool_str (aD I q (by simp))
  |_=>exact absurd (show false=true from hs) xF
 |int i=>
  obtain⟨t,rfl⟩:=rx
  cases y with
  |non=>cases ry;exact PySem.EqNone.ne_int_none (aD I q (by simp))
  |int j=>obtain⟨t',rfl⟩:=ry;exact ne_int (aD I q (congrArg not gZ))
  |str j=>obtain⟨t',rfl⟩:=ry;exact PySem.EqMixed.ne_int_str (aD I q (by simp))
  |_=>exact absurd (show false=true from hs) xF
 |str i=>
  obtain⟨t,rfl⟩:=rx
  cases y with
  |non=>cases ry;exact PySem.EqNone.ne_str_none (aD I q (by simp))
  |bl j=>cases ry;exact PySem.EqMixed.ne_str_bool (aD I q (by simp))
  |int j=>obtain⟨t',rfl⟩:=ry;exact PySem.EqMixed.ne_str_int (aD I q (by simp))
  |str j=>obtain⟨t',rfl⟩:=ry;exact ne_str (aD I q (congrArg not g5))
  |_=>exact absurd (show false=true from hs) xF
 |byt i=>
  obtain⟨t,rfl⟩:=rx
  cases y with
  |byt j=>obtain⟨t',rfl⟩:=ry;exact PySem.W.ne_bytes (aD I q (congrArg not pS))
  |_=>exact absurd (show false=true from hs) xF
 |_=>cases y<;>exact absurd (show false=true from hs) xF
theorem op_lt:OpR X (compareOp .Lt) (rI0 λi j=>.bl (decide (i<j))):=opB0 λ_ _ _ _ _ _ _ q=>lt_int q
theorem op_gt:OpR X (compareOp .Gt) (rI0 λi j=>.bl (decide (j<i))):=opB0 λ_ _ _ _ _ _ _ q=>gt_int q
theorem op_ge:OpR X (compareOp .GtE) (rI0 λi j=>.bl (decide (j<=i))):=opB0 λ_ _ _ _ _ _ _ q=>ge_int q
theorem OpR.or(h:OpR X f r)(h':OpR X f r'):OpR X f (λx y H Q=>r x y H Q\/r' x y H Q):=by
 intro pins s σ H x y v u Q I rx ry q;rcases q with q|q
 ·exact h pins s σ H x y v u Q I rx ry q
 ·exact h' pins s σ H x y v u Q I rx ry q
def TruV(K:PySem.W.Frag)(x:V)(H:Hp)(k:Bool):Prop:=
 match x with
 |.non=>k=false
 |.bl b=>k=b
 |.int i=>k=(i !=0)
 |.str y=>y.length<=sizeLine/\k=((y.length:Int) !=0)
 |.byt y=>y.size<=sizeLine/\k=((y.size:Int) !=0)
 |.ref p=>(∃xs,SqL K H p xs/\k=!xs.isEmpty)\/(∃xs,SqT K H p xs/\k=!xs.isEmpty)\/∃kvs,H p=some (.dK kvs)/\k=!kvs.isEmpty
 |_=>False
theorem oB{κ:Type}{kvs:List (κ×V)}{vs:List (κ×Value)}(r:KV kvs vs):(!vs.isEmpty)=!kvs.isEmpty:=by
 cases r<;>rfl
theorem iE(r:Vals xs its):(!its.toArray.isEmpty)=!xs.isEmpty:=by
 cases r<;>simp
theorem line63:(sizeLine:Nat)<2^63:=by rw[sizeLine_eq];decide
theorem tru_ok:TruR X (λx H Q=>∃k,TruV X.K x H k/\Q k H):=by
 intro pins s σ H x v Q I rx h;obtain⟨k,e,q⟩:=h;have hl:=line63;have hs:sizeLine=16777216:=sizeLine_eq
 cases x with
 |non=>
  cases rx;have e':k=false:=e;subst e';exact truthy_none ⟨H,I,q⟩
 |bl b=>
  cases rx;have e':k=b:=e;subst e';exact wpAny_truthy_bool ⟨H,I,q⟩
 |int i=>
  obtain⟨t,rfl⟩:=rx;have e':k=(i !=0):=e;subst e';exact PySem.P.truthy_int ⟨H,I,q⟩
 |str y=>
  obtain⟨t,rfl⟩:=rx;obtain⟨hy,e'⟩:y.length<=sizeLine/\k=((y.length:Int) !=0):=e;subst e';exact PySem.P.truthy_str (by omega) ⟨H,I.tok _,q⟩
 |byt y=>
  obtain⟨t,rfl⟩:=rx;obtain⟨hy,e'⟩:y.size<=sizeLine/\k=((y.size:Int) !=0):=e;subst e';exact PySem.W.truthy_bytes (by omega) ⟨H,I.tok _,q⟩
 |ref p=>
  cases rx;have e':(∃xs,SqL X.K H p xs/\k=!xs.isEmpty)\/(∃xs,SqT X.K H p xs/\k=!xs.isEmpty)\/∃kvs,H p=some (.dK kvs)/\k=!kvs.isEmpty:=e;rcases e' with⟨xs,hx,e'⟩|⟨xs,hx,e'⟩|⟨kvs,hx,e'⟩
  ·subst e'
   obtain⟨its,r,pl,hz⟩:=I.list hx;have hlen:=r.length;exact wpAny_truthy_list pl.isList (by simp only[xO];omega) ⟨H,I.tok _,by rw[iE r];exact q⟩
  ·subst e'
   obtain⟨its,r,pl,hz⟩:=I.tuple hx;have hlen:=r.length;exact truthy_tuple pl (by simp only[xO];omega) ⟨H,I.tok _,by rw[iE r];exact q⟩
  ·subst e'
   obtain⟨hz,hS,vs,r,m⟩:kvs.length<=sizeLine/\(p==sysModules)=false/\∃vs,KV kvs vs/\s.heap.DictOf (mixKind X.prog X.w) p vs:=I.hok p _ hx;have hlen:kvs.length=vs.length:=Paired.length r;exact wpAny_truthy_dict hS m (by omega) ⟨H,I.tok _,by rw[oB r];exact q⟩
 |_=>exact(show False from e).elim
theorem tY(ha:PE X a ta)(he:∀whole,isTrue a X.env whole=(do let v←whole;standAt a.pos;holding [v] (truthy v))):
  PT X a (λσ H Q=>ta σ H λx H'=>∃k,TruV X.K x H' k/\Q k H'):=by
 intro pins s σ H Q I h;exact isTrue_plain (thn (ha pins s σ H _ I h) λv s1 ⟨x,H1,I1,r1,q1⟩=>tru_ok pins s1 σ H1 x v Q I1 r1 q1) (he _)
theorem vals1(r:Vals [x] us):∃u,us=[u]/\RelV x u:=by
 cases r with
 |cons r1 r2=>cases r2;exact⟨_,rfl,r1⟩
theorem vals2(r:Vals [x,y] us):∃u w',us=[u,w']/\RelV x u/\RelV y w':=by
 cases r with
 |cons r1 r2=>
  cases r2 with
  |cons r3 r4=>cases r4;exact⟨_,_,rfl,r1,r3⟩
theorem rJ(hc:X.calm=true):CallR X (.builtin "max") (λxs H Q=>∃i j,xs=[.int i,.int j]/\Q (.int (if j>i then j else i)) H):=by
 intro pins s σ H xs us Q I r h;obtain⟨i,j,rfl,q⟩:=h;obtain⟨u,w',rfl,⟨t,rfl⟩,⟨t',rfl⟩⟩:=vals2 r;refine max_two_ints (I.ok.hd hc) λh' tk k=>⟨_,H,I.kept k,?_,q⟩
 by_cases hj:j>i
 ·rw[xE hj,xE hj];exact⟨_,rfl⟩
 ·rw[xC hj,xC hj];exact⟨_,rfl⟩
theorem rK:CallR X (.type "int") (λxs H Q=>(∃i,xs=[.int i]/\Q (.int i) H)\/∃k,xs=[.bl k]/\Q (.int (if k then 1 else 0)) H):=by
 intro pins s σ H xs us Q I r h;rcases h with⟨i,rfl,q⟩|⟨k,rfl,q⟩
 ·obtain⟨u,rfl,t,rfl⟩:=vals1 r
  exact call_int_int ⟨.int i,H,I,⟨_,rfl⟩,q⟩
 ·obtain⟨u,rfl,r1⟩:=vals1 r
  cases r1;exact call_int_bool ⟨.int (if k then 1 else 0),H,I.tok _,⟨_,rfl⟩,q⟩
end
theorem RelO.some_of(r:RelO (some v) o):∃u,o=some u/\RelV v u:=by
 cases o with
 |none=>exact(show False from r).elim
 |some u=>exact⟨u,rfl,r⟩
structure Room(k:Nat)(A:Around):Prop where
 hd:A.handled=none
 dp:A.depth+3*k+5<recursionLimit
 un:A.units+16*k+200<cLine
theorem Room.mono(r:Room k A)(h:j<=k):Room j A:=⟨r.hd,by have:=r.dp;omega,by have:=r.un;omega⟩
theorem Room.deeper(r:Room (k+1) A)(env:Env):Room k (A.deeper env):=
 ⟨r.hd,by have:=r.dp;show A.depth+1+3*k+5<_;omega,by have:=r.un;show A.units+3+16*k+200<_;omega⟩
theorem Room.depth(r:Room k A):A.depth<recursionLimit:=by have:=r.dp;omega
theorem Room.units(r:Room k A):A.units+64<cLine:=by have:=r.un;omega
def tNil:TA:=λ_ H Q=>Q [] H
def tCons(ta:TE)(tr:TA):TA:=λσ H Q=>ta σ H λx H1=>tr σ H1 λxs H2=>Q (x::xs) H2
section
variable{X:Cx}{e:Expr}{es:List Expr}{te:TE}{t:TA}{pos:Pos}
theorem pa_nil:PA X [] tNil:=λ_ _ _ _ H Q I h=>Calls.spliced_nil ⟨[],H,I,.nil,h⟩
theorem pa_cons(ha:PE X e te)(hr:PA X es t)(hs:starEach (e::es) X.env=(false,eval e X.env)::starEach es X.env:=by rfl):PA X (e::es) (tCons te t):=by
 intro pos pins s σ H Q I h;rw[hs];show wpAny _ _ (spliced ((false,eval e X.env)::backTo pos (starEach es X.env))) _ _ s;refine Calls.spliced_cons (thn (ha pins s σ H _ I h) λu s1 ⟨x,H1,I1,r1,q1⟩=>?_);exact thn (hr pos pins s1 σ H1 _ I1 q1) λus s2 ⟨xs,H2,I2,r2,q2⟩=>⟨x::xs,H2,I2,.cons r1 r2,q2⟩
def tTup(t:TA):TE:=λσ H Q=>t σ H λxs H1=>xs.length<=sizeLine/\∀p,H1 p=none->Q (.ref p) (upd H1 p (.tup xs))
def tLst(t:TA):TE:=λσ H Q=>t σ H λxs H1=>xs.length<=sizeLine/\∀p,H1 p=none->Q (.ref p) (upd H1 p (.lst xs))
theorem pe_tup{x1}(h:PA X es t):PE X (.Tuple es x1 pos) (tTup t):=by
 intro pins s σ H Q I hq;refine wpAny_Tuple_spliced (thn (h pos pins s σ H _ I hq) λus s1 ⟨xs,H1,I1,r,z,q⟩=>⟨by rw[←r.length];exact z,?_⟩);have hf:H1 s1.heap.objs.size=none:=I1.hok.fresh (xN _);refine⟨.ref s1.heap.objs.size,upd H1 s1.heap.objs.size (.tup xs),I1.laid (t':=s1.toks) (λb u e=>xH _ e) (xN _) ?_,rfl,q _ hf⟩;exact⟨z,us,r,⟨_,yU _ rfl,rfl,_,rfl⟩⟩
theorem pe_lst(h:PA X es t):PE X (.List es pos) (tLst t):=by
 intro pins s σ H Q I hq;refine wpAny_List_spliced (thn (h pos pins s σ H _ I hq) λus s1 ⟨xs,H1,I1,r,z,q⟩=>⟨by rw[←r.length];exact z,?_⟩);have hf:H1 s1.heap.objs.size=none:=I1.hok.fresh (xN _);refine⟨.ref s1.heap.objs.size,upd H1 s1.heap.objs.size (.lst xs),I1.laid (t':=s1.toks) (λb u e=>xH _ e) (xN _) ?_,rfl,q _ hf⟩;exact⟨z,us,0,r,yU _ rfl⟩
end
abbrev Sp:=List V->Hp->VK->XK->Prop
abbrev CXT:=List Env->Hp->Shared->XK->Value->Shared->Prop
structure Env0(P:Program)(w:World)(K:PySem.W.Frag)(mg:Str->Option Value)(base:Heap)(A:Around)(outer:List Env)(s:Shared)(H:Hp):Prop where
 frames:A.frames=some outer
 mod:Mod K mg base
 bs:∀b o,base.get? b=some o->s.heap.get? b=some o/\H b=none
 bsz:base.objs.size<=s.heap.objs.size
 funs:s.heap.FunFrames base outer
 frf:∀b∈frs outer,H b=none
 hok:HOk P w H s.heap
 bare:AllBare s.gens
def CE(outer:List Env)(P:Program)(w:World)(H:Hp)(s:Shared)(Q:VK)(u:Value)(s':Shared):Prop:=
 ∃v H',s'.os=s.os/\AllBare s'.gens/\Un (frs outer) [] H H' s.heap s'.heap/\HOk P w H' s'.heap/\RelV v u/\Q v H'
def CR(CX:CXT)(outer:List Env)(P:Program)(w:World)(H:Hp)(s:Shared)(Q:VK)(E:XK)(r:Result)(s':Shared):Prop:=
 match r with
 |.ok (.ret u)=>CE outer P w H s Q u s'
 |.ok _=>False
 |.error e=>CX outer H s E e s'
structure FnOk(P:Program)(w:World)(K:PySem.W.Frag)(mg:Str->Option Value)(base:Heap)(CX:CXT)(k:Nat)(f:Addr)(fd:FuncData)(ps:List Str)(sp:Sp):Prop where
 len:∀vs H Q E,sp vs H Q E->vs.length=ps.length
 run:∀(A:Around)(outer:List Env)(s:Shared)(H:Hp)(args:Args)(us:List Value)(vs:List V)(Q:VK)(E:XK),Room k A->Env0 P w K mg base A outer s H->BindsTo s fd args (ps.zip us)->Vals vs us->sp vs H Q E->
  codeAny (model P w) A (.call (.ref f) args) (CR CX outer P w H s Q E) s
section
variable{X:Cx}{pins:List (Addr×Obj)}{σ:St}{H:Hp}{s s':Shared}
theorem Inv.env0(I:Inv X pins σ H s):Env0 X.prog X.w X.K X.mg X.base X.A X.stack s H:=
 ⟨I.ok.frames,I.ok.mod,I.bs,xU I.ok.bsz I.sz,I.stack,I.stkFree,I.hok,I.bare⟩
theorem Inv.after(I:Inv X pins σ H s)(h:CE X.stack X.prog X.w H s Q u s'):EP X pins σ Q u s':=by
 obtain⟨v,H',os,bare,un,hok,r,q⟩:=h;obtain⟨hh,g,d,t,os'⟩:=s';obtain rfl:os'=s.os:=os;exact⟨v,H',I.call (h':=hh) (g':=g) (d':=d) (t':=t) (ch:=[]) un hok bare (λb z=>absurd z (by simp)),r,q⟩
end
def Binds(K:PySem.W.Frag)(fd:FuncData)(ps:List Str)(ds:List Value):Prop:=
 ∀(s:Shared)(us:List Value),K.In s.heap->(us++ds).length=ps.length->BindsTo s fd ⟨us,[]⟩ (ps.zip (us++ds))
theorem Binds.all{K:PySem.W.Frag}(h:∀us:List Value,us.length=ps.length->bindArgs fd ⟨us,[]⟩=pure (ps.zip us)):Binds K fd ps []:=λs us _ hl=>by
 rw[yD] at hl⊢;exact .of_eq (h us hl)
structure FnScope(N P:List Str)(sc:Scope):Prop where
 kind:sc.kind=.function
 co:sc.isCoroutine=false
 gen:sc.isGenerator=false
 nd:N.Nodup
 pre:N.take P.length=P
 par:∀x∈P,sc.names.lookup x=some .local\/sc.names.lookup x=some .cell
 nofree:∀y∈sc.names,y.2≠.free
theorem jT{kindOf:Str->Option NameKind}:∀{binds:List (Str×Value)}{m:Str->Option Value},(∀v,(x,v)∉binds)->bindL kindOf binds m x=m x
 |[],_,_=>rfl
 |(n,v)::r,m,h=>by
  unfold bindL;rw[jT λw hw=>h w (xK _ hw)];split
  ·have:x≠n:=by rintro rfl;exact h v xT
   simp[this]
  ·rfl
theorem jU{kindOf:Str->Option NameKind}:∀{binds:List (Str×Value)}{m:Str->Option Value},(∀v,(x,v)∉binds)->bindC kindOf binds m x=m x
 |[],_,_=>rfl
 |(n,v)::r,m,h=>by
  unfold bindC;rw[jU λw hw=>h w (xK _ hw)];split
  ·rfl
  ·have:x≠n:=by rintro rfl;exact h v xT
   simp[this]
theorem jV{kindOf:Str->Option NameKind}:∀{P:List Str}{vs:List Value}{i:Nat}{m:Str->Option Value},P.Nodup->P[i]?=some x->vs[i]?=some v->kindOf x=some .local->
  bindL kindOf (P.zip vs) m x=some v
 |[],_,_,_,_,h,_,_=>by simp at h
 |_::_,[],_,_,_,_,h,_=>by simp at h
 |p::P,w::vs,0,m,nd,h1,h2,hk=>by
  simp at h1 h2;subst h1;subst h2;show bindL kindOf ((p,w)::P.zip vs) m p=_;unfold bindL;rw[jT λv hv=>(List.nodup_cons.mp nd).1 (List.of_mem_zip hv).1,xE hk];simp
 |p::P,w::vs,i+1,m,nd,h1,h2,hk=>by
  show bindL kindOf ((p,w)::P.zip vs) m x=_;unfold bindL;exact jV (i:=i) (List.nodup_cons.mp nd).2 (by simpa using h1) (by simpa using h2) hk
theorem jW{kindOf:Str->Option NameKind}:∀{P:List Str}{vs:List Value}{i:Nat}{m:Str->Option Value},P.Nodup->P[i]?=some x->vs[i]?=some v->kindOf x≠some .local->
  bindC kindOf (P.zip vs) m x=some v
 |[],_,_,_,_,h,_,_=>by simp at h
 |_::_,[],_,_,_,_,h,_=>by simp at h
 |p::P,w::vs,0,m,nd,h1,h2,hk=>by
  simp at h1 h2;subst h1;subst h2;show bindC kindOf ((p,w)::P.zip vs) m p=_;unfold bindC;rw[jU λv hv=>(List.nodup_cons.mp nd).1 (List.of_mem_zip hv).1,xC hk];simp
 |p::P,w::vs,i+1,m,nd,h1,h2,hk=>by
  show bindC kindOf ((p,w)::P.zip vs) m x=_;unfold bindC;exact jW (i:=i) (List.nodup_cons.mp nd).2 (by simpa using h1) (by simpa using h2) hk
def start(N:List Str)(vs:List V):St:=vs.map some++List.replicate (N.length-vs.length) none
def cxOf(CX:CXT)(P:Program)(w:World)(K:PySem.W.Frag)(mg:Str->Option Value)(base:Heap)(N:List Str)(qual:Str)(scope:Scope)(f:Addr)(cd:Value)(A:Around)(outer:List Env)(s:Shared)(H:Hp)(E:XK):Cx where
 prog:=P
 w:=w
 K:=K
 mg:=mg
 base:=base
 A:=A.deeper (envOfC qual scope s.heap.objs.size f cd)
 N:=N
 s₀:=s
 H₀:=H
 env:=envOfC qual scope s.heap.objs.size f cd
 outer:=outer
 stack:=envOfC qual scope s.heap.objs.size f cd::outer
 ex:=[]
 calm:=true
 fn:=λ_=>true
 pn:=[]
 xe:=λe s'=>wpAny (model P w) (A.deeper (envOfC qual scope s.heap.objs.size f cd)) (leaving (envOfC qual scope s.heap.objs.size f cd) e) (λ_ s''=>CX outer H s E e s'') (λe' s''=>CX outer H s E e' s'') s'
theorem l9{sc:Scope}(h:sc.names.lookup x=some .cell):∃c,(cellsFrom n sc.names []).lookup x=some c:=by
 have q:=PySem.W.cellsFrom_some sc.names n [] (.inl h);exact Option.isSome_iff_exists.mp q
theorem rM{K:PySem.W.Frag}
  (S:FnScope N ps scope) (hd:A.handled=none) (e0:Env0 P w K mg base A outer s H) (hl:vs.length=ps.length) (r:Vals vs us)
  (x:InCallC s s.heap.objs.size (bindL (envOfC qual scope s.heap.objs.size f cd).kindOf (ps.zip us) λ_=>none) (cellsFrom (s.heap.objs.size+1) scope.names []) (bindC (envOfC qual scope s.heap.objs.size f cd).kindOf (ps.zip us) λ_=>none) s1):
  Inv (cxOf CX P w K mg base N qual scope f cd A outer s H E) [] (start N vs) H s1:=by
 have hpl:ps.length<=N.length:=by have:=congrArg List.length S.pre;rw[yS] at this;omega
 obtain⟨h1,tk,rfl,hk⟩:=x.done;have noA:∀b:Addr,b∉(cxOf CX P w K mg base N qual scope f cd A outer s H E).ex:=λb z=>absurd (show b∈([]:List Addr) from z) (by simp);refine⟨⟨e0.mod,S.kind,rfl,rfl,xN _,λy z c h1 h2=>?_,λy hy=>?_,λy c _ h=>?_,λ_=>hd,Around.frames_deeper e0.frames,.inr ⟨rfl,rfl⟩,λb z=>absurd z (noA b),e0.bs,e0.bsz,λb _ _=>noA b,λb z=>absurd z (noA b),e0.funs,e0.frf⟩,
  rfl,e0.bare,Un.kept hk,⟨_,x.toInCall.ns,λi y v h1 h2 h3=>?_⟩,λy c h=>⟨_,x.cell y c h⟩,e0.hok.fresh (xN _),λy c h=>?_,λp hp=>absurd (show p∈([]:List (Addr×Obj)) from hp) (by simp),e0.hok.kept hk,?_⟩
 ·exact name_of_addr x.apart (zK h1) (zK h2)
 ·have hy:scope.names.lookup y=some .cell\/scope.names.lookup y=some .free:=hy
  rcases hy with hy|hy
  ·exact l9 hy
  ·exact absurd rfl (S.nofree _ (zK hy))
 ·exact Nat.le_of_lt (x.above y c (zK h))
 ·have hi:i<vs.length:=by
   unfold start at h2;by_cases hi:i<vs.length
   ·exact hi
   ·rw[zD (by simpa using hi)] at h2
    rw[zE] at h2;split at h2<;>cases h2
  have ha:vs[i]?=some v:=by
   unfold start at h2;rw[zG (by simpa using hi),zN] at h2
   cases e:vs[i]? with
   |none=>rw[e] at h2;cases h2
   |some a=>rw[e] at h2;cases h2;rfl
  obtain⟨u,hu,rv⟩:=r.get ha;have hp:ps[i]?=some y:=by
   rw[←S.pre,List.getElem?_take_of_lt (by omega)];exact h1
  have ndP:ps.Nodup:=by rw[←S.pre];exact S.nd.sublist (List.take_sublist _ _)
  refine⟨u,rv,?_⟩;rcases S.par y (List.mem_of_getElem? hp) with k|k
  ·exact .inl ⟨k,jV ndP hp hu k⟩
  ·obtain⟨c,e⟩:=l9 (n:=s.heap.objs.size+1) k
   refine .inr ⟨.inl k,c,e,?_⟩;have q:=x.cell y c e;rw[jW ndP hp hu (by show scope.names.lookup y≠_;rw[k];decide)] at q;exact q
 ·exact e0.hok.fresh (Nat.le_of_lt (x.above y c (zK h)))
 ·unfold start
  show _=N.length;rw[xL,xB,zL];omega
theorem fn_of{K:PySem.W.Frag}{dV kV doc pm cdv ct oc:Value}
  (lk:K.lookup f=some ⟨oc,od,.func (PySem.W.fnOf name qual params body scope dV kV doc pm an cdv ct),osl⟩) (hcd:PySem.W.codeIn K cdv qual=true) (S:FnScope N ps scope)
  (len:∀vs H Q E,sp vs H Q E->vs.length=ps.length)
  (hbody:∀(A:Around)(outer:List Env)(s:Shared)(H:Hp)(vs:List V)(Q:VK)(E:XK),Room k (A.deeper (envOfC qual scope s.heap.objs.size f cdv))->sp vs H Q E->
   ∃t,PSs (cxOf CX P w K mg base N qual scope f cdv A outer s H E) body t/\t {nx:=λ_ H'=>Q .non H',rt:=Q} (start N vs) H):
  FnOk P w K mg base CX (k+1) f (PySem.W.fnOf name qual params body scope dV kV doc pm an cdv ct) ps sp:=by
 refine⟨len,λA outer s H args us vs Q E hr e0 hb r hsp=>?_⟩;have hl:=len _ _ _ _ hsp;have KX:K.In s.heap:=e0.mod.kin.keeps λb o e=>(e0.bs b o e).1;have lim:s.heap.NoLimit:=e0.mod.nolimit.keeps λb o e=>(e0.bs b o e).1;have hkind:∀y∈ps.zip us,scope.names.lookup y.1=some .local\/(scope.names.lookup y.1=some .cell/\((cellsFrom (s.heap.objs.size+1) scope.names []).lookup y.1).isSome=true):=λ⟨n,v⟩ hy=>by
  rcases S.par n (List.of_mem_zip hy).1 with q|q
  ·exact .inl q
  ·exact .inr ⟨q,PySem.W.cellsFrom_some _ _ _ (.inl q)⟩
 refine codeAny_call_function hr.depth (KX _ _ lk) rfl S.co S.gen rfl (PySem.W.codeRec_of KX hcd) (hb _ _ _ _ ?_);refine wpAny_newFunctionEnv_cells S.kind hkind λenv he s1 x=>?_;subst he;refine⟨lim.keeps x.toInCall.keep,codeAny_func ?_⟩;obtain⟨t,ht,hq⟩:=hbody A outer s H vs Q E (hr.deeper _) hsp;have I:Inv (cxOf CX P w K mg base N qual scope f cdv A outer s H E) [] (start N vs) H s1:=rM S hr.hd e0 hl r x;refine yG (ht [] s1 (start N vs) H _ I hq) (λfl s' hs=>?_) λe s' hs=>hs;have fin:∀{σ':St}{H':Hp}{v:V}{u:Value},Inv (cxOf CX P w K mg base N qual scope f cdv A outer s H E) [] σ' H' s'->RelV v u->Q v H'->CE outer P w H s Q u s':=
  λ{σ' H' v u} J rv q=>⟨v,H',J.os,J.bare,J.base,J.hok,rv,q⟩
 cases fl with
 |ret u=>
  obtain⟨v,σ',H',J,rv,q⟩:=hs;exact fin J rv q
 |next=>
  obtain⟨σ',H',J,q⟩:=hs;exact fin (v:=V.non) (u:=Value.none) J rfl q
 |brk=>
  obtain⟨_,_,_,q⟩:=hs;exact False.elim q
 |cont=>
  obtain⟨_,_,_,q⟩:=hs;exact False.elim q
section
variable{X:Cx}{x:Str}{p pos:Pos}{e:Expr}{es:List Expr}{t:TA}{id T:String}{r:List V->Hp->VK->Prop}
def tCB(r:List V->Hp->VK->Prop)(t:TA):TE:=λσ H Q=>t σ H λvs H1=>r vs H1 Q
theorem mB(hc:CallR X (.builtin id) r)(hg:Gl X x)(hm:X.mg x=none)(hv:bootBuiltins x=some (.builtin id))(ha:PA X (e::es) t)(hn:x≠"__name__":=by decide)(hdb:(x==("__debug__":Str))=false:=by decide)
  (he:starEach (e::es) X.env=(false,eval e X.env)::starEach es X.env:=by rfl) (hpl:(backTo pos (starEach es X.env)).any (·.1)=false:=by rfl):PE X (.Call (.Name x p) (e::es) [] pos) (tCB r t):=by
 intro pins s σ H Q I h;refine wpAny_Call_Name_kw (fG I hg hm hv ?_ hn hdb);exact PyProof.Rows.callWith_builtin1 (thn (ha pos pins s σ H _ I h) λus s1 ⟨vs,H1,I1,r1,q1⟩=>hc pins s1 σ H1 vs us Q I1 r1 q1) he hpl
theorem rN(hc:CallR X (.type T) r)(hg:Gl X x)(hm:X.mg x=none)(hv:bootBuiltins x=some (.type T))(ha:PA X (e::es) t)(hn:x≠"__name__":=by decide)(hdb:(x==("__debug__":Str))=false:=by decide)
  (he:starEach (e::es) X.env=(false,eval e X.env)::starEach es X.env:=by rfl) (hpl:(backTo pos (starEach es X.env)).any (·.1)=false:=by rfl):PE X (.Call (.Name x p) (e::es) [] pos) (tCB r t):=by
 intro pins s σ H Q I h;refine wpAny_Call_Name_kw (fG I hg hm hv ?_ hn hdb);exact PyProof.Rows.callWith_type1 (thn (ha pos pins s σ H _ I h) λus s1 ⟨vs,H1,I1,r1,q1⟩=>hc pins s1 σ H1 vs us Q I1 r1 q1) he hpl
end
section
variable{κ:Type}[DecidableEq κ]
def valV(kvs:List (κ×V))(k:κ):Option V:=(kvs.find? λkv=>decide (kv.1=k)).map (·.2)
def putK(kvs:List (κ×V))(k:κ)(v:V):List (κ×V):=
 if(kvs.any λkv=>decide (kv.1=k))=true then kvs.map (λkv=>if kv.1=k then(kv.1,v) else kv) else kvs++[(k,v)]
theorem eM{k:κ}(e:p.1=k):valV (p::r) k=some p.2:=by simp[valV,List.find?_cons,e]
theorem eO{k:κ}(e:¬p.1=k):valV (p::r) k=valV r k:=by simp[valV,List.find?_cons,e]
theorem mC(k:κ):∀kvs:List (κ×V),(kvs.any λkv=>decide (kv.1=k))=(valV kvs k).isSome
 |[]=>rfl
 |p::r=>by
  rw[List.any_cons];by_cases e:p.1=k
  ·simp only[eM e,yJ e,Bool.true_or,Option.isSome_some]
  ·rw[eO e,x8 e,Bool.false_or];exact mC k r
theorem gG(kvs:List (κ×V))(k:κ)(v:V):(putK kvs k v).length<=kvs.length+1:=by
 unfold putK;split
 ·rw[xB];omega
 ·rw[xL,w5,xJ];omega
theorem RelO.isSome_eq(r:RelO o u):o.isSome=u.isSome:=by
 cases o with
 |none=>cases u with
  |none=>rfl
  |some _=>exact(show False from r).elim
 |some _=>cases u with
  |none=>exact(show False from r).elim
  |some _=>rfl
theorem KV.val(r:KV kvs vs)(k:κ):RelO (valV kvs k) (valueAt vs k):=by
 unfold KV at r
 induction r with
 |nil=>exact True.intro
 | @cons p q ps qs h t ih=>
  obtain⟨h1,h2⟩:=h;by_cases e:p.1=k
  ·have e':q.1=k:=h1.symm.trans e
   have b:valueAt (q::qs) k=some q.2:=by simp[valueAt,List.find?_cons,e']
   rw[eM e,b];exact h2
  ·have e':¬q.1=k:=λz=>e (h1.trans z)
   have b:valueAt (q::qs) k=valueAt qs k:=by simp[valueAt,List.find?_cons,e']
   rw[eO e,b];exact ih
theorem KV.any(r:KV kvs vs)(k:κ):(kvs.any λkv=>decide (kv.1=k))=vs.any λkv=>decide (kv.1=k):=by
 unfold KV at r
 induction r with
 |nil=>rfl
 |cons h t ih=>rw[List.any_cons,List.any_cons,ih,h.1]
theorem KV.repl(r:KV kvs vs)(k:κ)(ry:RelV y u):
  KV (kvs.map λkv=>if kv.1=k then(kv.1,y) else kv) (vs.map λkv=>if kv.1=k then(kv.1,u) else kv):=by
 unfold KV at r⊢
 induction r with
 |nil=>exact .nil
 | @cons p q ps qs h t ih=>
  rw[xM,xM];refine .cons ?_ ih;obtain⟨h1,h2⟩:=h;by_cases e:p.1=k
  ·rw[xE e,xE (h1.symm.trans e)];exact⟨h1,ry⟩
  ·rw[xC e,xC (λz=>e (h1.trans z))];exact⟨h1,h2⟩
theorem KV.put(r:KV kvs vs)(k:κ)(ry:RelV y u):KV (putK kvs k y) (stored vs k u):=by
 unfold putK stored;rw[r.any k];by_cases e:(vs.any λkv=>decide (kv.1=k))=true
 ·rw[xE e,xE e];exact r.repl k ry
 ·rw[xC e,xC e];exact Paired.snoc r ⟨rfl,ry⟩
theorem KV.length{vs:List (κ×Value)}(r:KV kvs vs):kvs.length=vs.length:=Paired.length r
end
theorem mD(r:RelV (kV k) u):(mixKind P w).is k u=true:=by
 cases k with
 |inl i=>obtain⟨t,e⟩:=(show∃t,u=Value.int i t from r);subst e;exact lX P w i t
 |inr x=>obtain⟨t,e⟩:=(show∃t,u=Value.str x t from r);subst e;exact lY P w x t
theorem jX:∀{ks:List Key}{us:List Value},Vals (ks.map kV) us->ItemsAre (mixKind P w) ks us
 |[],_,r=>by rw[yX] at r;cases r;exact .nil
 |k::ks,_,r=>by
  rw[xM] at r
  cases r with
  |cons h t=>exact .cons (mD h) (jX t)
abbrev KT(H:Hp):List (List Key×V)->List (List Key×Addr×Value)->Prop:=Paired λp q=>p.1=q.1/\H q.2.1=some (.tup (p.1.map kV))/\RelV p.2 q.2.2
theorem KT.val(r:KT H kvs xs)(k:List Key):RelO (valV kvs k) ((atKey xs k).map (·.2)):=by
 induction r with
 |nil=>exact True.intro
 | @cons p q ps qs h t ih=>
  obtain⟨h1,_,h2⟩:=h;by_cases e:p.1=k
  ·have e':q.1=k:=h1.symm.trans e
   have b:atKey (q::qs) k=some q.2:=by simp[atKey,List.find?_cons,e']
   rw[eM e,b];exact h2
  ·have e':¬q.1=k:=λz=>e (h1.trans z)
   have b:atKey (q::qs) k=atKey qs k:=by simp[atKey,List.find?_cons,e']
   rw[eO e,b];exact ih
theorem KT.repl(r:KT H kvs xs)(k:List Key)(ry:RelV y u):
  KT H (kvs.map λkv=>if kv.1=k then(kv.1,y) else kv) (xs.map (putAt k u)):=by
 induction r with
 |nil=>exact .nil
 | @cons p q ps qs h t ih=>
  rw[xM,xM];refine .cons ?_ ih;obtain⟨h1,h2,h3⟩:=h;unfold putAt;by_cases e:p.1=k
  ·rw[xE e,xE (h1.symm.trans e)];exact⟨h1,h2,ry⟩
  ·rw[xC e,xC (λz=>e (h1.trans z))];exact⟨h1,h2,h3⟩
theorem KT.put(r:KT H kvs xs)(k:List Key)(hb:H b=some (.tup (k.map kV)))(ry:RelV y u):
  KT H (putK kvs k y) (storedH xs k b u):=by
 have e:(kvs.any λkv=>decide (kv.1=k))=(atKey xs k).isSome:=by
  rw[mC,(r.val k).isSome_eq,Option.isSome_map]
 unfold putK storedH;rw[e];by_cases q:(atKey xs k).isSome=true
 ·rw[xE q,xE q];exact r.repl k ry
 ·rw[xC q,xC q];exact Paired.snoc r ⟨rfl,hb,ry⟩
theorem KT.keeps(r:KT H kvs xs)(ht:∀b ys,H b=some (.tup ys)->H' b=some (.tup ys)):KT H' kvs xs:=
 Paired.mapP r λ_ _ z=>⟨z.1,ht _ _ z.2.1,z.2.2⟩
section
variable{P:Program}{w:World}{H:Hp}{h:Heap}{a:Addr}
theorem rd_of(ok:HOk P w H h)(e:Rd H a u):ObjOk P w H h a u:=e.ok ok
theorem jY(ok:HOk P w H h)(e:Rd H a (.dK kvs)):kvs.length<=sizeLine/\(a==sysModules)=false/\∃vs,KV kvs vs/\h.DictOf (mixKind P w) a vs:=
 show ObjOk P w H h a (.dK kvs) from rd_of ok e
theorem dk_of(ok:HOk P w H h)(e:H a=some (.dK kvs)):kvs.length<=sizeLine/\(a==sysModules)=false/\∃vs,KV kvs vs/\h.DictOf (mixKind P w) a vs:=jY ok (.inl e)
theorem iF(ok:HOk P w H h)(e:H a=some (.tup (ks.map kV))):(tupleKind (mixKind P w)).is h ks a:=by
 obtain⟨_,its,r,o,h1,h2,n,h3⟩:=(show ObjOk P w H h a (.tup (ks.map kV)) from ok a _ e)
 exact⟨o,its.toArray,n,h1,h2,h3,by simpa using jX r⟩
theorem mE(ok:HOk P w H h)(e:Rd H a (.dT kvs)):kvs.length<=sizeLine/\(a==sysModules)=false/\
  ∃xs,KT H kvs xs/\h.DictOfH (tupleKind (mixKind P w)) a xs:=by
 obtain⟨z,y,xs,r,o,es,ep,h1,h2,h3,h4,h5⟩:=(show ObjOk P w H h a (.dT kvs) from rd_of ok e)
 refine⟨z,y,xs,r,o,es,ep,h1,h2,h3,h4,λx hx=>?_,h5⟩;have all:∀{l:List (List Key×V)}{m:List (List Key×Addr×Value)},KT H l m->∀x∈m,(tupleKind (mixKind P w)).is h x.1 x.2.1:=by
  intro l m q
  induction q with
  |nil=>intro x hx;exact nomatch hx
  | @cons p q ps qs hq t ih=>
   intro x hx;rcases List.mem_cons.mp hx with e|hx
   ·subst e
    exact iF ok (by rw[←hq.1];exact hq.2.1)
   ·exact ih x hx
 exact all r x hx
theorem dt_of(ok:HOk P w H h)(e:H a=some (.dT kvs)):kvs.length<=sizeLine/\(a==sysModules)=false/\
  ∃xs,KT H kvs xs/\h.DictOfH (tupleKind (mixKind P w)) a xs:=mE ok (.inl e)
end
def DGet(H:Hp)(a:Addr)(y:V)(r:Option V):Prop:=
 (∃kvs k,Rd H a (.dK kvs)/\y=kV k/\r=valV kvs k)\/∃kvs k b,Rd H a (.dT kvs)/\y=.ref b/\H b=some (.tup (k.map kV))/\r=valV kvs k
def DPut(H:Hp)(a:Addr)(y v:V)(H':Hp):Prop:=
 (∃kvs k,H a=some (.dK kvs)/\y=kV k/\kvs.length<sizeLine/\H'=upd H a (.dK (putK kvs k v)))\/
 ∃kvs k b,H a=some (.dT kvs)/\y=.ref b/\H b=some (.tup (k.map kV))/\kvs.length<sizeLine/\H'=upd H a (.dT (putK kvs k v))
theorem DGet.k{H:Hp}{a:Addr}{kvs:List (Key×V)}{k:Key}(e:H a=some (.dK kvs)):DGet H a (kV k) (valV kvs k):=.inl ⟨kvs,k,.inl e,rfl,rfl⟩
theorem DPut.k{H:Hp}{a:Addr}{kvs:List (Key×V)}{k:Key}{v:V}(e:H a=some (.dK kvs))(hl:kvs.length<sizeLine):DPut H a (kV k) v (upd H a (.dK (putK kvs k v))):=.inl ⟨kvs,k,e,rfl,hl,rfl⟩
section
variable{X:Cx}{pins:List (Addr×Obj)}{σ:St}{H:Hp}{s:Shared}{a:Addr}{y v:V}{u r:Value}{o:Option V}{A:Around}{E:Value->Shared->Prop}
theorem Inv.big(I:Inv X pins σ H s):sysModules<s.heap.objs.size:=by
 have h:mainGlobals<s.heap.objs.size:=(I.mod.glob.keeps I.bk).lt;exact zZ (by decide) h
theorem rO(hu:A.units+1<cLine)(I:Inv X pins σ H s)(g:DGet H a y (some v))(ry:RelV y u)(h:∀w' s',Inv X pins σ H s'->RelV v w'->Q w' s'):
  wpAny (model X.prog X.w) A (getItem (.ref a) u) Q E s:=by
 rcases g with⟨kvs,k,e,ey,l⟩|⟨kvs,k,b,e,ey,eb,l⟩
 ·subst ey
  obtain⟨z,hd,vs,rel,dd⟩:=jY I.hok e;obtain⟨w',hw,rw'⟩:=RelO.some_of (v:=v) (o:=valueAt vs k) (by rw[l];exact rel.val k);exact wpAny_getItem_of (mD ry) dd.mapOf hw (h w' _ (I.tok _) rw')
 ·subst ey
  cases (show u=Value.ref b from ry);obtain⟨z,hd,xs,rel,dd⟩:=mE I.hok e;obtain⟨w',hw,rw'⟩:=RelO.some_of (v:=v) (o:=(atKey xs k).map (·.2)) (by rw[l];exact rel.val k);obtain⟨p,hp,hp2⟩:=Option.map_eq_some_iff.mp hw;refine wpAny_getItem_heap (tupleKind_room_in1 hu) (iF I.hok eb) dd hp ?_;rw[hp2];exact h w' _ (I.tok _) rw'
theorem d_in(hu:A.units+1<cLine)(I:Inv X pins σ H s)(g:DGet H a y o)(ry:RelV y u)(h:∀s',Inv X pins σ H s'->Q (.bool o.isSome) s'):
  wpAny (model X.prog X.w) A (compareOp .In u (.ref a)) Q E s:=by
 rcases g with⟨kvs,k,e,ey,l⟩|⟨kvs,k,b,e,ey,eb,l⟩
 ·subst ey
  obtain⟨z,hd,vs,rel,dd⟩:=jY I.hok e;refine wpAny_in_of (mD ry) hd dd.mapOf ?_;rw[←(rel.val k).isSome_eq,←l];exact h _ (I.tok _)
 ·subst ey
  cases (show u=Value.ref b from ry);obtain⟨z,hd,xs,rel,dd⟩:=mE I.hok e;refine wpAny_in_heap (tupleKind_room_in1 hu) (iF I.hok eb) hd dd ?_;have q:=(rel.val k).isSome_eq;rw[Option.isSome_map] at q;rw[←q,←l];exact h _ (I.tok _)
theorem d_notIn(hu:A.units+1<cLine)(I:Inv X pins σ H s)(g:DGet H a y o)(ry:RelV y u)(h:∀s',Inv X pins σ H s'->Q (.bool (!o.isSome)) s'):
  wpAny (model X.prog X.w) A (compareOp .NotIn u (.ref a)) Q E s:=by
 rcases g with⟨kvs,k,e,ey,l⟩|⟨kvs,k,b,e,ey,eb,l⟩
 ·subst ey
  obtain⟨z,hd,vs,rel,dd⟩:=jY I.hok e;refine wpAny_notIn_of (mD ry) hd dd.mapOf ?_;rw[←(rel.val k).isSome_eq,←l];exact h _ (I.tok _)
 ·subst ey
  cases (show u=Value.ref b from ry);obtain⟨z,hd,xs,rel,dd⟩:=mE I.hok e;refine wpAny_notIn_heap (tupleKind_room_in1 hu) (iF I.hok eb) hd dd ?_;have q:=(rel.val k).isSome_eq;rw[Option.isSome_map] at q;rw[←q,←l];exact h _ (I.tok _)
theorem pT{h':Heap}{t':Nat}{ob:HO}(I:Inv X pins σ H s)(mu:Mut (H a))(hs:Heap.SameBut a s.heap h')(he:∃q,h'.get? a=some q)(new:ObjOk X.prog X.w (upd H a ob) h' a ob):
  Inv X pins σ (upd H a ob) {s with heap:=h',toks:=t'}:=
 I.write (x:=a) (e:=a) mu (.inl rfl) (λb q hb z=>(hs.2 b hb).trans z) he new
theorem dk_new(z:kvs.length<=sizeLine)(hd:(a==sysModules)=false)(rel:KV kvs vs)(dd:h'.DictOf (mixKind P w) a vs):
  ObjOk P w H' h' a (.dK kvs):=⟨z,hd,vs,rel,dd⟩
theorem rP(hu:A.units+1<cLine)(I:Inv X pins σ H s)(g:DPut H a y v H')(ry:RelV y u)(rv:RelV v r)(h:∀s',Inv X pins σ H' s'->Q () s'):
  wpAny (model X.prog X.w) A (setItem (.ref a) u r) Q E s:=by
 rcases g with⟨kvs,k,e,ey,l,eH⟩|⟨kvs,k,b,e,ey,eb,l,eH⟩
 ·subst ey eH
  obtain⟨z,hd,vs,rel,dd⟩:=dk_of I.hok e;have hz:vs.length<=sizeLine:=by rw[←rel.length];exact z
  have hl:(putK kvs k v).length<=sizeLine:=by have:=gG kvs k v;omega
  refine wpAny_setItem_pairs (hsz:=hz) (mD ry) dd λh' dd' hs=>h _ ?_;have he:∃q,h'.get? a=some q:=let⟨q,_,_,hq,_⟩:=dd';⟨q,hq⟩;exact pT I (by rw[e];exact True.intro) hs he (dk_new hl hd (rel.put k rv) dd')
 ·subst ey eH
  cases (show u=Value.ref b from ry);obtain⟨z,hd,xs,rel,dd⟩:=dt_of I.hok e;have hz:xs.length<=sizeLine:=by rw[←Paired.length rel];exact z
  have hl:(putK kvs k v).length<=sizeLine:=by have:=gG kvs k v;omega
  refine wpAny_setItem_heap (hsz:=hz) (tupleKind_room_in1 hu) (iF I.hok eb) dd λh' dd' hs=>h _ ?_;obtain⟨q,es,ep,hq,h2,h3,h4,_,h5⟩:=dd';refine pT I (by rw[e];exact True.intro) hs ⟨q,hq⟩ ⟨hl,hd,_,(rel.put k eb rv).keeps λc ys ec=>?_,q,es,ep,hq,h2,h3,h4,h5⟩;rw[aB (ne_of ec e (λz=>nomatch z))];exact ec
end
section
variable{X:Cx}{pins:List (Addr×Obj)}{σ:St}{H:Hp}{s:Shared}{a:Addr}{kvs:List (Key×V)}{k:Key}{u:Value}{A:Around}{E:Value->Shared->Prop}
theorem d_len(I:Inv X pins σ H s)(e:Rd H a (.dK kvs))(h:∀t s',Inv X pins σ H s'->Q (.int kvs.length t) s'):wpAny (model X.prog X.w) A (call (.builtin "len") [.ref a]) Q E s:=by
 obtain⟨z,hd,vs,rel,dd⟩:=jY I.hok e;refine call_len_dict hd dd (by rw[←rel.length];rw[sizeLine_eq] at z;omega) ?_;rw[←rel.length];exact h _ _ (I.tok _)
end
def NoSl(i:Expr):Prop:=∀ov iv,subscripted i false ov iv=operate [ov,iv] (getItem ov iv)
theorem subD_of{T id:String}
  (hl:typeLookup (.type T) "__getitem__"=pure (some (.builtin id))) (hs:NoSl slice)
  (h:wpAny (model prog w) A (eval value env) (λo s₁=>wpAny (model prog w) A (eval slice env) (λi s₂=>s₂.TypeIs o T/\wpAny (model prog w) A (getItem o i) Q E s₂) E s₁) E s):
  wpAny (model prog w) A (eval (.Subscript value slice pos) env) Q E s:=by
 refine Subscript_ (yG h (λo s₁ h₁=>yG h₁ (λi s₂ h₂=>?_) λ_ _ x=>x) λ_ _ x=>x);obtain⟨hT,h₂⟩:=h₂;unfold subscriptTail;refine xA ?_;rw[getitemInPython_of_ne hT.not_modules];refine xA (wpAny_specialOf hT hl ?_);have fin:wpAny (model prog w) A (subscripted slice false o i) (λr s₃=>wpAny (model prog w) A (letTemporaryGo value o r>>=λ_=>pure r) Q E s₃) E s₂:=by
  rw[hs o i];exact wpAny_operating (yG h₂ (λr s₃ h₃=>xA (wpAny_letTemporaryGo (xX h₃))) λ_ _ x=>x)
 first
  |exact xX (xA fin)
  |exact xA (xX (xA fin))
  |exact xA fin
theorem mF(I:Inv X pins σ H s)(g:DGet H a y o):s.TypeIs (.ref a) "dict":=by
 rcases g with⟨kvs,k,e,_,_⟩|⟨kvs,k,b,e,_,_,_⟩
 ·obtain⟨_,_,vs,_,dd⟩:=jY I.hok e
  exact dd.typeIs
 ·obtain⟨_,_,xs,_,dd⟩:=mE I.hok e
  exact dd.typeIs
def tDGet(td ty:TE):TE:=λσ H Q=>td σ H λx H1=>ty σ H1 λy H2=>∃a v,x=.ref a/\DGet H2 a y (some v)/\Q v H2
def tDIn(ty td:TE):TE:=λσ H Q=>ty σ H λy H1=>td σ H1 λx H2=>∃a o,x=.ref a/\DGet H2 a y o/\Q (.bl o.isSome) H2
def tDNotIn(ty td:TE):TE:=λσ H Q=>ty σ H λy H1=>td σ H1 λx H2=>∃a o,x=.ref a/\DGet H2 a y o/\Q (.bl (!o.isSome)) H2
def sDPut(td ty tv:TE):TS:=λD σ H=>tv σ H λv H1=>td σ H1 λx H2=>ty σ H2 λy H3=>∃a H4,x=.ref a/\DPut H3 a y v H4/\D.nx σ H4
section
variable{X:Cx}{o i e value:Expr}{pos pos' tpos:Pos}{td ty tv:TE}
theorem pe_dget(hu:X.A.units+1<cLine)(ho:PE X o td)(hi:PE X i ty)(hs:NoSl i):PE X (.Subscript o i pos) (tDGet td ty):=by
 intro pins s σ H Q I h;refine subD_of PySem.F.slot_dict_getitem.lookup hs (thn (ho pins s σ H _ I h) λu s1 ⟨x,H1,I1,rx,q1⟩=>thn (hi pins s1 σ H1 _ I1 q1) λiv s2 ⟨y,H2,I2,ry,a,v,ex,g,q2⟩=>?_);subst ex;obtain rfl:u=Value.ref a:=rx;exact⟨mF I2 g,rO hu I2 g ry λw' s3 I3 rw'=>⟨v,H2,I3,rw',q2⟩⟩
theorem pc_din(hu:X.A.units+1<cLine)(hi:PE X i ty)(ho:PE X o td):PC X .In i o (tDIn ty td):=by
 intro pins s σ H Q I h;refine thn (hi pins s σ H _ I h) λiv s1 ⟨y,H1,I1,ry,q1⟩=>thn (ho pins s1 σ H1 _ I1 q1) λu s2 ⟨x,H2,I2,rx,a,ov,ex,g,q2⟩=>?_;subst ex;obtain rfl:u=Value.ref a:=rx;exact d_in hu I2 g ry λs3 I3=>⟨.bl ov.isSome,H2,I3,rfl,q2⟩
theorem rQ(hu:X.A.units+1<cLine)(hi:PE X i ty)(ho:PE X o td):PC X .NotIn i o (tDNotIn ty td):=by
 intro pins s σ H Q I h;refine thn (hi pins s σ H _ I h) λiv s1 ⟨y,H1,I1,ry,q1⟩=>thn (ho pins s1 σ H1 _ I1 q1) λu s2 ⟨x,H2,I2,rx,a,ov,ex,g,q2⟩=>?_;subst ex;obtain rfl:u=Value.ref a:=rx;exact d_notIn hu I2 g ry λs3 I3=>⟨.bl (!ov.isSome),H2,I3,rfl,q2⟩
theorem ps_dput(hu:X.A.units+1<cLine)(ho:PE X o td)(hi:PE X i ty)(hv:PE X value tv)(hs:swapsWith value (some (.Subscript o i pos')) pos.line X.env=pure false):
  PS X (.Assign [.Subscript o i pos'] value pos) (sDPut td ty tv):=by
 intro pins s σ H D I h;refine wpAny_Assign_Subscript (thn (hv pins s σ H _ I h) λr s1 ⟨v,H1,I1,rv,q1⟩=>thn (ho pins s1 σ H1 _ I1 q1) λu s2 ⟨x,H2,I2,rx,q2⟩=>thn (hi pins s2 σ H2 _ I2 q2) λiv s3 ⟨y,H3,I3,ry,a,H4,ex,g,q3⟩=>?_) hs;subst ex;obtain rfl:u=Value.ref a:=rx;exact rP hu I3 g ry rv λs4 I4=>⟨σ,H4,I4,q3⟩
end
theorem tZ(h:Heap)(hb:sysModules<h.objs.size):ObjOk P w H (h.push {cls:=.type "dict",data:=.dict #[]}) h.objs.size (.dK []):=
 ⟨Nat.zero_le _,beq_eq_false_iff_ne.mpr (yI (yQ hb)),[],.nil,Heap.DictOf.new h⟩
def tDNewK:TE:=λ_ H Q=>∀p,H p=none->Q (.ref p) (upd H p (.dK []))
section
variable{X:Cx}{pos:Pos}
theorem t5:PE X (.Dict [] [] pos) tDNewK:=λpins s σ H Q I h=>
 wpAny_Dict_empty ⟨.ref s.heap.objs.size,_,I.laid (a:=s.heap.objs.size) (o:=.dK []) (t':=s.toks) (λ_ _ q=>xH _ q) (xN _) (tZ s.heap I.big),rfl,h _ (I.hok.fresh (xN _))⟩
end
end L2
namespace HT
open PySem PyProof.Rows
section
variable{prog:Program}{w:World}{A:Around}{E:Value->Shared->Prop}{s:Shared}
theorem cat_tup(ht:IsTup s.heap t vs.toArray)(hb:IsTup s.heap b ws.toArray)(hv:vs≠[])
  (h1:ws=[]->Q (.ref t) s) (h2:ws≠[]->Q (.ref s.heap.objs.size) {s with heap:=s.heap.push {cls:=.type "tuple",data:=.seq (vs++ws).toArray}})
  (hsz:vs.length+ws.length<=sizeLine):wpAny (model prog w) A (binaryOp .Add (.ref t) (.ref b)) Q E s:=by
 obtain⟨⟨cls,dd,data,sl⟩,ho,hc,n,hd⟩:=id ht;obtain⟨⟨cls2,dd2,data2,sl2⟩,ho2,hc2,n2,hd2⟩:=id hb;simp only at hc hd hc2 hd2;subst hc hd hc2 hd2;have e:vs.toArray++ws.toArray=(vs++ws).toArray:=by simp
 by_cases hw:ws=[]
 ·exact concat_meets ⟨_,ho,rfl⟩ ⟨_,ho2,rfl⟩ noFill_tuple_add seq_tuple_add PySem.F.slot_tuple_add PySem.F.entry_tuple_add (PySem.F.args_tuple_add_2 _ _)
   (tuple_addW1 t b vs.toArray ws.toArray n n2 dd dd2 sl sl2 (by simpa using hv) (by simp[hw])) ⟨ho,ho2,h1 hw⟩
 ·refine concat_meets ⟨_,ho,rfl⟩ ⟨_,ho2,rfl⟩ noFill_tuple_add seq_tuple_add PySem.F.slot_tuple_add PySem.F.entry_tuple_add (PySem.F.args_tuple_add_2 _ _)
   (tuple_addW2 t b vs.toArray ws.toArray n n2 dd dd2 sl sl2 (by simpa using hv) (by simpa using hw) (by rw[xO,xO];exact hsz)) ⟨ho,ho2,?_⟩
  rw[e];exact h2 hw
def sIx(n d:Nat):Option Int->Nat
 |none=>d
 |some v=>if v<0 then(v+(n:Int)).toNat else min v.toNat n
theorem sIx_le(n d:Nat)(hd:d<=n)(o:Option Int):sIx n d o<=n:=by
 cases o with
 |none=>exact hd
 |some v=>
  show(if v<0 then(v+(n:Int)).toNat else min v.toNat n)<=n;by_cases hv:v<0
  ·rw[xE hv];omega
  ·rw[xC hv];exact Nat.min_le_right _ _
theorem pU(v:Int)(n d:Nat):(if v<0 then max (v+(n:Int)) 0 else min v (n:Int))=((sIx n d (some v):Nat):Int):=by
 show(if v<0 then max (v+(n:Int)) 0 else min v (n:Int))=(((if v<0 then(v+(n:Int)).toNat else min v.toNat n):Nat):Int)
 by_cases hv:v<0
 ·simp only[xE hv];omega
 ·simp only[xC hv];omega
theorem oD(lo hi:Option Int)(n:Nat):Builtin.Slice.sliceAdjust lo hi 1 (n:Int)=(((sIx n 0 lo:Nat):Int),((sIx n n hi:Nat):Int)):=by
 have h1:¬((1:Int)<0):=by omega
 unfold Builtin.Slice.sliceAdjust;simp only[h1,w6];refine Prod.ext ?_ ?_
 ·cases lo with
  |none=>rfl
  |some v=>exact pU v n 0
 ·cases hi with
  |none=>rfl
  |some v=>exact pU v n n
theorem oE(i j:Nat):Builtin.Slice.slicePlaces (i:Int) (j:Int) 1=j-i:=by
 unfold Builtin.Slice.slicePlaces;have h1:(1:Int)>0:=by omega
 simp only[h1,xD,Int.ediv_one];split<;>omega
theorem iG(p:IsPart v o)(h:Q o s):wpAny (model prog w) A (Builtin.Slice.slicePartIndex v) Q E s:=by
 cases p with
 |none=>exact slicePart_none h
 |int i t=>exact slicePart_int h
theorem sliceApplied_gen{lo hi:Option Int}{Q:Int×Int×Nat->Shared->Prop}(hs:s.heap.IsSliceOf sl vl vu .none)(pl:IsPart vl lo)(pu:IsPart vu hi)
  (h:Q (((sIx n 0 lo:Nat):Int),1,sIx n n hi-sIx n 0 lo) s):wpAny (model prog w) A (Builtin.Slice.sliceApplied (.ref sl) (pure (n:Int))) Q E s:=by
 obtain⟨os,hos,hcs,hds⟩:=id hs;unfold Builtin.Slice.sliceApplied Builtin.Slice.sliceFields;refine xA (xA (yO hos hds (x:=vl) rfl (xA (yO hos hds (x:=vu) rfl (xA (yO hos hds (x:=.none) rfl (xX ?_)))))));refine xA (slicePart_none ?_);show wpAny _ _ (if((1:Int)==0)=true then _ else _) _ _ s;rw[xC (by decide)];refine xA (iG pl (xA (iG pu (xA (xX ?_)))));show wpAny _ _ (match Builtin.Slice.sliceAdjust lo hi 1 (n:Int) with|(lo,hi)=>pure (lo,(1:Int),Builtin.Slice.slicePlaces lo hi 1)) _ _ s;rw[oD lo hi n];show wpAny _ _ (pure (((sIx n 0 lo:Nat):Int),(1:Int),Builtin.Slice.slicePlaces ((sIx n 0 lo:Nat):Int) ((sIx n n hi:Nat):Int) 1)) _ _ s;rw[oE];exact xX h
theorem t6(xs:Array Value)(i k:Nat):((List.range k).filterMap λ(m:Nat)=>xs[((i:Int)+(m:Int)*1).toNat]?).toArray=((xs.toList.drop i).take k).toArray:=by
 have e:(λ(m:Nat)=>xs[((i:Int)+(m:Int)*1).toNat]?)=λm=>xs[i+m]?:=by
  funext m;have:((i:Int)+(m:Int)*1).toNat=i+m:=by omega
  rw[this]
 rw[e];have:=pick_run xs i k;rw[List.filterMap_map] at this;have e2:((λx=>xs[x]?)∘λx=>i+x)=λm=>xs[i+m]?:=rfl;rw[e2] at this;rw[this]
theorem getItem_tuple_cut{lo hi:Option Int}(ht:IsTup s.heap t items)(hs:s.heap.IsSliceOf sl vl vu .none)(pl:IsPart vl lo)(pu:IsPart vu hi)
  (hw:¬(sIx items.size 0 lo=0/\sIx items.size items.size hi=items.size))
  (h:Q (.ref s.heap.objs.size) {s with heap:=s.heap.push {cls:=.type "tuple",data:=.seq ((items.toList.drop (sIx items.size 0 lo)).take (sIx items.size items.size hi-sIx items.size 0 lo)).toArray}})
  (hsz:items.size<=sizeLine):wpAny (model prog w) A (getItem (.ref t) (.ref sl)) Q E s:=by
 have htake:sizeOk (.seq ((items.toList.drop (sIx items.size 0 lo)).take (sIx items.size items.size hi-sIx items.size 0 lo)).toArray):=by
  show((items.toList.drop (sIx items.size 0 lo)).take (sIx items.size items.size hi-sIx items.size 0 lo)).toArray.size<=sizeLine;rw[xO,yS,List.length_drop,Array.length_toList];omega
 have hj:sIx items.size items.size hi<=items.size:=sIx_le _ _ (xN _) hi;obtain⟨os,hos,hcs,hds⟩:=id hs;have hTs:s.TypeIs (.ref sl) "slice":=⟨os,hos,hcs⟩
 unfold getItem
 try with_reducible refine wpAny_holding ?_
 first|refine xA (xX ?_)|skip
 refine xA (wpAny_sequenceKey ht.typeIs (by decide) ?_);refine xA (wpAny_callSpecial?_slot (name:=Str.ofString "__getitem__") ht.typeIs PyProof.Rows.slot_tuple_getitem
  (wpAny_call_entry PyProof.Rows.slot_tuple_getitem ht.typeIs entry_tuple_getitem ?_ (args_tuple_getitem _ _)))
 show wpAny _ _ (Builtin.Tuple.tupleItemsOf (.ref t)>>=_) _ _ s;refine xA (tupleItemsOf_ ht ?_);refine xA (wpAny_typeOf hTs ?_);rw[xE (by decide)];refine xA (sliceApplied_gen hs pl pu ?_);have hno:¬((((sIx items.size 0 lo:Nat):Int)==0&&(1:Int)==1&&(sIx items.size items.size hi-sIx items.size 0 lo)==items.size)=true):=by
  intro q;rw[xG,xG] at q;have q1:((sIx items.size 0 lo:Nat):Int)=0:=eq_of_beq q.1.1;have q2:sIx items.size items.size hi-sIx items.size 0 lo=items.size:=eq_of_beq q.2;exact hw ⟨by omega,by omega⟩
 show wpAny _ _ (if(((sIx items.size 0 lo:Nat):Int)==0&&(1:Int)==1&&(sIx items.size items.size hi-sIx items.size 0 lo)==items.size)=true then _ else _) _ _ s;rw[xC hno,t6]
 first
  |exact xA (m:=Builtin.Tuple.tupleExact _) (zO (xX ⟨_,rfl,xX h⟩) htake)
  |exact xA (m:=Builtin.Tuple.tupleExact _) (zO (xA (xX (xX ⟨_,rfl,xX h⟩))) htake)
  |exact xA (xA (m:=Builtin.Tuple.tupleExact _) (zO (xX (xX ⟨_,rfl,xX h⟩)) htake))
  |exact xA (xA (m:=Builtin.Tuple.tupleExact _) (zO (xX ⟨_,rfl,xX h⟩) htake))
end
end HT
namespace L2
open PySem PySem.Spec PyProof.Rows
abbrev TO:=St->Hp->(Option Int->Hp->Prop)->Prop
def PO(X:Cx)(e:Option Expr)(t:TO):Prop:=
 ∀(pins:List (Addr×Obj))(s:Shared)(σ:St)(H:Hp)(Q:Option Int->Hp->Prop),Inv X pins σ H s->t σ H Q->
  wpAny (model X.prog X.w) X.A (evalPart e X.env) (λu s'=>∃o H',Inv X pins σ H' s'/\IsPart u o/\Q o H') X.xe s
def tNoPart:TO:=λ_ H Q=>Q none H
def tPart(t:TE):TO:=λσ H Q=>t σ H λx H1=>∃i,x=.int i/\Q (some i) H1
section
variable{X:Cx}{e:Expr}{te:TE}{lo hi:Option Expr}{tl th:TO}{pos p2:Pos}
theorem po_none:PO X none tNoPart:=by
 intro pins s σ H Q I h;rw[evalPart_none];exact xX ⟨none,H,I,.none,h⟩
theorem po_some(h:PE X e te):PO X (some e) (tPart te):=by
 intro pins s σ H Q I hw;rw[evalPart_some];refine thn (h pins s σ H _ I hw) λu s1 ⟨x,H1,I1,r1,q1⟩=>?_;obtain⟨i,rfl,q⟩:=q1;obtain⟨t,rfl⟩:=r1;exact⟨some i,H1,I1,.int i t,q⟩
def SlR(X:Cx)(r:V->Option Int->Option Int->Hp->VK->Prop):Prop:=
 ∀(pins:List (Addr×Obj))(s:Shared)(σ:St)(H:Hp)(x:V)(v vl vu:Value)(lo hi:Option Int)(sl:Addr)(Q:VK),Inv X pins σ H s->RelV x v->s.heap.IsSliceOf sl vl vu .none->IsPart vl lo->IsPart vu hi->r x lo hi H Q->
  ∃T id,typeLookup (.type T) "__getitem__"=pure (some (.builtin id))/\s.TypeIs v T/\wpAny (model X.prog X.w) X.A (getItem v (.ref sl)) (EP X pins σ Q) X.xe s
theorem SlR.or(h:SlR X r)(h':SlR X r'):SlR X (λx lo hi H Q=>r x lo hi H Q\/r' x lo hi H Q):=by
 intro pins s σ H x v vl vu lo hi sl Q I rx hs pl pu q;rcases q with q|q
 ·exact h pins s σ H x v vl vu lo hi sl Q I rx hs pl pu q
 ·exact h' pins s σ H x v vl vu lo hi sl Q I rx hs pl pu q
def tSl(r:V->Option Int->Option Int->Hp->VK->Prop)(te:TE)(tl th:TO):TE:=λσ H Q=>te σ H λx H1=>tl σ H1 λl H2=>th σ H2 λu H3=>r x l u H3 Q
theorem t7(hr:SlR X r)(he:PE X e te)(hl:PO X lo tl)(hu:PO X hi th):PE X (.Subscript e (.Slice lo hi none p2) pos) (tSl r te tl th):=by
 intro pins s σ H Q I h;refine Subscript_ (thn (he pins s σ H _ I h) λv s1 ⟨x,H1,I1,r1,q1⟩=>?_);refine wpAny_Slice (thn (hl pins s1 σ H1 _ I1 q1) λvl s2 ⟨l,H2,I2,pl,q2⟩=>thn (hu pins s2 σ H2 _ I2 q2) λvu s3 ⟨u,H3,I3,pu,q3⟩=>?_);rw[evalPart_none];refine xX ?_;have I4:Inv X pins σ H3 {s3 with heap:=s3.heap.push {cls:=.type "slice",data:=.fields #[vl,vu,.none]}}:=I3.kept (t':=s3.toks) λb ob q=>xH _ q;obtain⟨T,id,hT,ht,hg⟩:=hr pins {s3 with heap:=s3.heap.push {cls:=.type "slice",data:=.fields #[vl,vu,.none]}} σ H3 x v vl vu l u s3.heap.objs.size Q I4 r1 (Heap.IsSliceOf.new ..) pl pu q3;show wpAny (model X.prog X.w) X.A (subscriptTail e (.Slice lo hi none p2) v (.ref s3.heap.objs.size)) (EP X pins σ Q) X.xe {s3 with heap:=s3.heap.push {cls:=.type "slice",data:=.fields #[vl,vu,.none]}};exact tail_any (ops:=[.ref s3.heap.objs.size,v]) ht hT hg (by with_unfolding_all rfl)
def cutV(xs:List V)(lo hi:Option Int):List V:=(xs.drop (HT.sIx xs.length 0 lo)).take (HT.sIx xs.length xs.length hi-HT.sIx xs.length 0 lo)
theorem gH(xs:List V)(lo hi:Option Int):(cutV xs lo hi).length<=xs.length:=by
 unfold cutV;rw[yS,List.length_drop];omega
def rSlT(K:PySem.W.Frag):V->Option Int->Option Int->Hp->VK->Prop:=λx lo hi H Q=>∃a xs,x=.ref a/\SqT K H a xs/\
 ¬(HT.sIx xs.length 0 lo=0/\HT.sIx xs.length xs.length hi=xs.length)/\∀p,H p=none->Q (.ref p) (upd H p (.tup (cutV xs lo hi)))
theorem sl_tup:SlR X (rSlT X.K):=by
 intro pins s σ H x v vl vu lo hi sl Q I rx hs pl pu h;obtain⟨a,xs,rfl,hx,hw,q⟩:=h;cases rx;obtain⟨its,r,ht,hz⟩:=I.tuple hx;have hlen:its.toArray.size=xs.length:=by rw[xO];exact r.length.symm
 refine⟨"tuple",_,PyProof.Rows.slot_tuple_getitem.lookup,ht.typeIs,?_⟩;refine HT.getItem_tuple_cut ht hs pl pu (by rw[hlen];exact hw) ?_ (by rw[hlen];exact hz);rw[hlen];refine⟨.ref s.heap.objs.size,_,I.laid (t':=s.toks) (o:=.tup (cutV xs lo hi)) (λb ob q=>xH _ q) (xN _) ?_,rfl,q _ (I.hok.fresh (xN _))⟩;exact⟨xU (gH xs lo hi) hz,_,(r.drop (HT.sIx xs.length 0 lo)).take (HT.sIx xs.length xs.length hi-HT.sIx xs.length 0 lo),IsTup.new _ _⟩
def rCatT(K:PySem.W.Frag):R2:=λx y H Q=>∃a b xs ys,x=.ref a/\y=.ref b/\SqT K H a xs/\SqT K H b ys/\xs≠[]/\xs.length+ys.length<=sizeLine/\
 (ys=[]->Q (.ref a) H)/\(ys≠[]->∀p,H p=none->Q (.ref p) (upd H p (.tup (xs++ys))))
theorem Vals.nil_iff(r:Vals xs us):us=[]↔xs=[]:=by
 cases r with
 |nil=>simp
 |cons _ _=>simp
theorem op_catT:OpR X (binaryOp .Add) (rCatT X.K):=by
 intro pins s σ H x y v u Q I rx ry h;obtain⟨a,b,xs,ys,rfl,rfl,ha,hb,hx,hz,q1,q2⟩:=h;cases rx;cases ry;obtain⟨its,r1,p1,_⟩:=I.tuple ha;obtain⟨its2,r2,p2,_⟩:=I.tuple hb;refine HT.cat_tup p1 p2 (λz=>hx (r1.nil_iff.mp z)) (λz=>⟨.ref a,H,I,rfl,q1 (r2.nil_iff.mp z)⟩) (λz=>?_) (by rw[←r1.length,←r2.length];exact hz);refine⟨.ref s.heap.objs.size,_,I.laid (t':=s.toks) (o:=.tup (xs++ys)) (λb ob q=>xH _ q) (xN _) ?_,rfl,q2 (λw=>z (r2.nil_iff.mpr w)) _ (I.hok.fresh (xN _))⟩;exact⟨by rw[xL];exact hz,_,r1.append r2,IsTup.new _ _⟩
end
def ixN(n:Nat)(i:Int):Option Nat:=if 0<=i then(if i<n then some i.toNat else none) else if-(n:Int)<=i then some (i+n).toNat else none
def atI{α:Type}(xs:List α)(i:Int):Option α:=(ixN xs.length i).bind λj=>xs[j]?
theorem pV(h:ixN n i=some j):seqIndex? i n=some j/\j<n/\-(n:Int)<=i/\i<n:=by
 unfold ixN at h;by_cases h0:0<=i
 ·rw[xE h0] at h
  by_cases h1:i<n
  ·rw[xE h1] at h
   have e:i.toNat=j:=yN h;exact⟨by rw[seqIndex_of h0 h1,e],by omega,by omega,h1⟩
  ·rw[xC h1] at h;cases h
 ·rw[xC h0] at h
  by_cases h1: -(n:Int)<=i
  ·rw[xE h1] at h
   have e:(i+n).toNat=j:=yN h;exact⟨by rw[seqIndex_neg (by omega) h1,e],by omega,h1,by omega⟩
  ·rw[xC h1] at h;cases h
theorem pW{α:Type}{xs:List α}{i:Int}{v:α}(h:atI xs i=some v):∃j,seqIndex? i xs.length=some j/\xs[j]?=some v/\j<xs.length/\-(xs.length:Int)<=i/\i<xs.length:=by
 unfold atI at h
 cases e:ixN xs.length i with
 |none=>rw[e] at h;cases h
 |some j=>
  rw[e] at h;obtain⟨h1,h2,h3,h4⟩:=pV e;exact⟨j,h1,h,h2,h3,h4⟩
def PlainIx(b:Expr):Prop:=∀o i,subscripted b false o i=operate [o,i] (getItem o i)
def IxR(X:Cx)(r:R2):Prop:=
 ∀(value slice:Expr)(pins:List (Addr×Obj))(s:Shared)(σ:St)(H:Hp)(x y:V)(v u:Value)(Q:VK),Inv X pins σ H s->RelV x v->RelV y u->r x y H Q->
  subscripted slice false v u=operate [v,u] (getItem v u)->wpAny (model X.prog X.w) X.A (subscriptTail value slice v u) (EP X pins σ Q) X.xe s
def MtR(X:Cx)(id:String)(r:V->List V->Hp->VK->Prop):Prop:=
 ∀(pins:List (Addr×Obj))(s:Shared)(σ:St)(H:Hp)(x:V)(xs:List V)(v:Value)(us:List Value)(Q:VK),Inv X pins σ H s->RelV x v->Vals xs us->r x xs H Q->
  wpAny (model X.prog X.w) X.A (call (.builtin id) (v::us)) (EP X pins σ Q) X.xe s
section
variable{X:Cx}{a b:Expr}{ta tb:TE}{pos:Pos}
theorem IxR.or(h:IxR X r)(h':IxR X r'):IxR X (λx y H Q=>r x y H Q\/r' x y H Q):=by
 intro value slice pins s σ H x y v u Q I rx ry q hs;rcases q with q|q
 ·exact h value slice pins s σ H x y v u Q I rx ry q hs
 ·exact h' value slice pins s σ H x y v u Q I rx ry q hs
theorem pe_ix(hr:IxR X r)(ha:PE X a ta)(hb:PE X b tb)(hs:PlainIx b):PE X (.Subscript a b pos) (tOp r ta tb):=by
 intro pins s σ H Q I h;exact Subscript_ (binT ha hb I h λv u s2 x y H2 I2 rx ry q=>hr a b pins s2 σ H2 x y v u Q I2 rx ry q (hs _ _))
def rIxL(K:PySem.W.Frag):R2:=λx y H Q=>∃p xs i v,x=.ref p/\y=.int i/\SqL K H p xs/\atI xs i=some v/\Q v H
def rIxT(K:PySem.W.Frag):R2:=λx y H Q=>∃p xs i v,x=.ref p/\y=.int i/\SqT K H p xs/\atI xs i=some v/\Q v H
theorem ix_list:IxR X (rIxL X.K):=by
 intro value slice pins s σ H x y v u Q I rx ry h hs;obtain⟨p,xs,i,z,rfl,rfl,hq,he,q⟩:=h;cases rx;obtain⟨t,rfl⟩:=ry;obtain⟨its,r,pl,hz⟩:=I.list hq;obtain⟨j,h1,h2,h3,h4,h5⟩:=pW he;obtain⟨w,ew,rw'⟩:=r.get h2;have hl:=r.length;have hn:=line63;have fin:EP X pins σ Q w s:=⟨z,H,I,rw',q⟩
 by_cases h0:0<=i
 ·have hj:i.toNat=j:=by
   rw[seqIndex_of h0 h5] at h1;exact yN h1
  exact item_listR pl.isList h0 (by omega) (by rw[hj];simpa using ew) fin hs
 ·have hj:(i+(its.toArray.size:Int)).toNat=j:=by
   rw[seqIndex_neg (by omega) h4] at h1;rw[xO,←hl];exact yN h1
  exact subscriptTail_builtinR (x:=w) pl.isList.typeIs slot_list_getitem.lookup
   (wpAny_getItem_list_neg (Q:=λr s'=>r=w/\EP X pins σ Q r s') pl.isList (by omega) (by rw[xO]<;>omega) (by omega) (by rw[hj];simpa using ew) ⟨rfl,fin⟩) hs
theorem ix_tup:IxR X (rIxT X.K):=by
 intro value slice pins s σ H x y v u Q I rx ry h hs;obtain⟨p,xs,i,z,rfl,rfl,hq,he,q⟩:=h;cases rx;obtain⟨t,rfl⟩:=ry;obtain⟨its,r,pl,hz⟩:=I.tuple hq;obtain⟨j,h1,h2,h3,h4,h5⟩:=pW he;obtain⟨w,ew,rw'⟩:=r.get h2;have hl:=r.length;have hn:=line63;have fin:EP X pins σ Q w s:=⟨z,H,I,rw',q⟩
 exact subscriptTail_builtinR (x:=w) pl.typeIs slot_tuple_getitem.lookup
  (getItem_tuple (j:=j) (Q:=λr s'=>r=w/\EP X pins σ Q r s') pl (by omega) (by omega) (by rw[xO,←hl];exact h1) (by simpa using ew) ⟨rfl,fin⟩) hs
theorem oF(its:List Value)(n j:Nat)(u:Value):Obj.mapSeq (·.setIfInBounds j u) {cls:=.type "list",data:=.seq its.toArray n}={cls:=.type "list",data:=.seq (its.set j u).toArray n}:=by
 simp[Obj.mapSeq]
theorem Inv.lst(I:Inv X pins σ H s)(h:H p=some (.lst xs)):
  ∃(its:List Value)(n:Nat),Vals xs its/\s.heap.get? p=some {cls:=.type "list",data:=.seq its.toArray n}/\xs.length<=sizeLine:=by
 obtain⟨z,its,n,r,e⟩:=I.hok p _ h;exact⟨its,n,r,e,z⟩
theorem Inv.lstUpd{pins:List (Addr×Obj)}{σ:St}{H:Hp}{s:Shared}{p:Addr}{xs ys:List V}{its its':List Value}{n n':Nat}{f:Obj->Obj}(I:Inv X pins σ H s)(h:H p=some (.lst xs))
  (ho:s.heap.get? p=some {cls:=.type "list",data:=.seq its.toArray n}) (hf:f {cls:=.type "list",data:=.seq its.toArray n}={cls:=.type "list",data:=.seq its'.toArray n'}) (r:Vals ys its') (hz:ys.length<=sizeLine) (t:Nat):
  Inv X pins σ (upd H p (.lst ys)) {s with heap:=s.heap.update p f,toks:=t}:=by
 have e:(s.heap.update p f).get? p=some {cls:=.type "list",data:=.seq its'.toArray n'}:=by
  rw[yH f ho (by rw[hf]<;>rfl),hf]
 refine I.write (x:=p) (e:=p) (by rw[h];trivial) (.inl rfl) (λb u hb q=>(x6 _ _ (yI hb)).trans q) ⟨_,e⟩ ?_;exact⟨hz,its',n',r,e⟩
def rSetL:V->V->V->Hp->(Hp->Prop)->Prop:=λo i v H Q=>∃p xs k j,o=.ref p/\i=.int k/\H p=some (.lst xs)/\ixN xs.length k=some j/\Q (upd H p (.lst (xs.set j v)))
theorem t8:PSet X rSetL:=by
 intro pins s σ H o i v ov iv u Q I ro ri rv h;obtain⟨p,xs,k,j,rfl,rfl,hp,hj,q⟩:=h;cases ro;obtain⟨t,rfl⟩:=ri;obtain⟨its,n,r,ho,hz⟩:=I.lst hp;obtain⟨h1,h2,h3,h4⟩:=pV hj;have hl:=r.length;have hn:=line63;have I':Inv X pins σ (upd H p (.lst (xs.set j v))) {s with heap:=s.heap.update p (Obj.mapSeq (·.setIfInBounds j u))}:=
  I.lstUpd hp ho (oF its n j u) (r.set rv j) (by rw[yV];exact hz) s.toks
 by_cases h0:0<=k
 ·have hk:k.toNat=j:=by
   rw[seqIndex_of h0 h4] at h1;exact yN h1
  exact PySem.W.ki_setAt ho h0 (by omega) (by rw[xO,←hl];exact h4) (by rw[hk];exact⟨_,I',q⟩)
 ·have hk:(k+(its.toArray.size:Int)).toNat=j:=by
   rw[seqIndex_neg (by omega) h3] at h1;rw[xO,←hl];exact yN h1
  exact PySem.W.ki_setBack ho (by omega) (by rw[xO,←hl];exact h3) (by omega) (by rw[hk];exact⟨_,I',q⟩)
theorem k7(lo hi:Option Int)(n:Nat):(sliceBounds lo hi none n).1=((HT.sIx n 0 lo:Nat):Int)/\(sliceBounds lo hi none n).2.1=((HT.sIx n n hi:Nat):Int)/\(sliceBounds lo hi none n).2.2=1:=by
 refine⟨?_,?_,rfl⟩
 ·cases lo with
  |none=>simp[sliceBounds,HT.sIx]
  |some i=>
   simp only[sliceBounds,HT.sIx,Option.getD_none,show(1:Int)>0 by decide,xD];by_cases h:i<0
   ·simp only[h,xD]<;>omega
   ·simp only[h,w6]<;>omega
 ·cases hi with
  |none=>simp[sliceBounds,HT.sIx]
  |some i=>
   simp only[sliceBounds,HT.sIx,Option.getD_none,show(1:Int)>0 by decide,xD];by_cases h:i<0
   ·simp only[h,xD]<;>omega
   ·simp only[h,w6]<;>omega
theorem jO(its:List Value)(lo hi:Option Int):slicePick its.toArray lo hi none=((its.drop (HT.sIx its.length 0 lo)).take (HT.sIx its.length its.length hi-HT.sIx its.length 0 lo)).toArray:=by
 obtain⟨h1,h2,h3⟩:=k7 lo hi its.toArray.size;unfold slicePick;rw[h1,h2,h3];simp only[sliceRange_one,pick_run,xO]<;>rfl
def rSlL(K:PySem.W.Frag):V->Option Int->Option Int->Hp->VK->Prop:=λx lo hi H Q=>∃a xs,x=.ref a/\SqL K H a xs/\∀p,H p=none->Q (.ref p) (upd H p (.lst (cutV xs lo hi)))
theorem sl_list:SlR X (rSlL X.K):=by
 intro pins s σ H x v vl vu lo hi sl Q I rx hs pl pu h;obtain⟨a,xs,rfl,hx,q⟩:=h;cases rx;obtain⟨its,r,ht,hz⟩:=I.list hx;have hlen:=r.length;refine⟨"list",_,slot_list_getitem.lookup,ht.isList.typeIs,?_⟩;refine wpAny_getItem_list_slice ht.isList hs pl pu .none (by simp) ?_ (by rw[xO]<;>omega);rw[jO,←hlen];refine⟨.ref s.heap.objs.size,_,I.laid (t':=s.toks) (o:=.lst (cutV xs lo hi)) (λb ob q=>xH _ q) (xN _) ?_,rfl,q _ (I.hok.fresh (xN _))⟩;exact⟨xU (gH xs lo hi) hz,_,0,(r.drop (HT.sIx xs.length 0 lo)).take (HT.sIx xs.length xs.length hi-HT.sIx xs.length 0 lo),yU _ rfl⟩
def flatV:V->Bool
 |.non=>true
 |.bl _=>true
 |.int _=>true
 |.str _=>true
 |_=>false
def eqV:V->V->Bool
 |.non,.non=>true
 |.bl a,.bl b=>a==b
 |.bl a,.int b=>(if a then 1 else 0)==b
 |.int a,.bl b=>a==(if b then 1 else 0)
 |.int a,.int b=>a==b
 |.str a,.str b=>a==b
 |_,_=>false
theorem aV(ry:RelV y u)(rx:RelV x v)(fy:flatV y=true)(fx:flatV x=true):SeqAt.EqAt A s u v (eqV y x):=by
 cases y with
 |non=>
  cases ry
  cases x with
  |non=>cases rx;exact SeqAt.EqAt.same _
  |bl b=>cases rx;exact SeqAt.EqAt.none_bool b
  |int b=>obtain⟨t,rfl⟩:=rx;exact SeqAt.EqAt.none_int b t
  |str b=>obtain⟨t,rfl⟩:=rx;exact SeqAt.EqAt.none_str b t
  |_=>exact absurd (show false=true from fx) xF
 |bl a=>
  cases ry
  cases x with
  |non=>cases rx;exact SeqAt.EqAt.bool_none a
  |bl b=>cases rx;exact SeqAt.EqAt.bool_bool a b
  |int b=>obtain⟨t,rfl⟩:=rx;exact SeqAt.EqAt.bool_int a b t
  |str b=>obtain⟨t,rfl⟩:=rx;exact SeqAt.EqAt.bool_str a b t
  |_=>exact absurd (show false=true from fx) xF
 |int a=>
  obtain⟨t',rfl⟩:=ry
  cases x with
  |non=>cases rx;exact SeqAt.EqAt.int_none a t'
  |bl b=>cases rx;exact SeqAt.EqAt.int_bool a t' b
  |int b=>obtain⟨t,rfl⟩:=rx;exact SeqAt.EqAt.int_int a t' b t
  |str b=>obtain⟨t,rfl⟩:=rx;exact SeqAt.EqAt.int_str a t' b t
  |_=>exact absurd (show false=true from fx) xF
 |str a=>
  obtain⟨t',rfl⟩:=ry
  cases x with
  |non=>cases rx;exact SeqAt.EqAt.str_none a t'
  |bl b=>cases rx;exact SeqAt.EqAt.str_bool a t' b
  |int b=>obtain⟨t,rfl⟩:=rx;exact SeqAt.EqAt.str_int a t' b t
  |str b=>obtain⟨t,rfl⟩:=rx;exact SeqAt.EqAt.str_str a t' b t
  |_=>exact absurd (show false=true from fx) xF
 |_=>exact absurd (show false=true from fy) xF
def eqU(x:V)(u:Value):Bool:=match u with
 |.none=>eqV .non x
 |.bool b=>eqV (.bl b) x
 |.int i _=>eqV (.int i) x
 |.str z _=>eqV (.str z) x
 |_=>false
theorem k8(r:RelV y u)(f:flatV y=true):eqU x u=eqV y x:=by
 cases y with
 |non=>cases r;rfl
 |bl b=>cases r;rfl
 |int i=>obtain⟨t,rfl⟩:=r;rfl
 |str z=>obtain⟨t,rfl⟩:=r;rfl
 |_=>exact absurd (show false=true from f) xF
theorem k9:∀{xs:List V}{us:List Value},Vals xs us->xs.all flatV=true->us.any (eqU x)=xs.any λy=>eqV y x
 |_,_,.nil,_=>rfl
 |y::xs,u::us,.cons r t,f=>by
  rw[zT,xG] at f;rw[List.any_cons,List.any_cons,k8 r f.1,k9 t f.2]
theorem dD(rx:RelV x v)(fx:flatV x=true):∀{xs:List V}{us:List Value},Vals xs us->xs.all flatV=true->∀u∈us,SeqAt.EqAt A s u v (eqU x u)
 |_,_,.nil,_=>λu hu=>by cases hu
 |y::xs,u::us,.cons r t,f=>λu' hu=>by
  rw[zT,xG] at f;rcases List.mem_cons.mp hu with rfl|hu
  ·rw[k8 r f.1];exact aV r rx f.1 fx
  ·exact dD rx fx t f.2 u' hu
def inV(x:V)(xs:List V):Bool:=xs.any λy=>eqV y x
def rIn(K:PySem.W.Frag)(neg:Bool):R2:=λx y H Q=>∃p xs,y=.ref p/\(SqL K H p xs\/SqT K H p xs)/\flatV x=true/\xs.all flatV=true/\Q (.bl (if neg then !inV x xs else inV x xs)) H
theorem lA:OpR X (compareOp .NotIn) (rIn X.K true):=by
 intro pins s σ H x y v u Q I rx ry h;obtain⟨p,xs,rfl,hq,fx,fs,q⟩:=h;cases ry;rcases hq with hq|hq
 ·obtain⟨its,r,pl,hz⟩:=I.list hq
  refine SeqAt.notIn_listAt (eqU x) pl.isList (λw hw=>dD rx fx r fs w (by simpa using hw)) ⟨.bl _,H,I,rfl,?_⟩;rw[show its.toArray.any (eqU x)=its.any (eqU x) by simp,k9 r fs];exact q
 ·obtain⟨its,r,pl,hz⟩:=I.tuple hq
  refine SeqAt.notIn_tupleAt (eqU x) pl (λw hw=>dD rx fx r fs w (by simpa using hw)) ⟨.bl _,H,I,rfl,?_⟩;rw[show its.toArray.any (eqU x)=its.any (eqU x) by simp,k9 r fs];exact q
theorem lB:CallR X (.builtin "len") (λxs H Q=>∃p ys,xs=[.ref p]/\(SqL X.K H p ys\/SqT X.K H p ys)/\Q (.int ys.length) H):=by
 intro pins s σ H xs us Q I r h;obtain⟨p,ys,rfl,hq,q⟩:=h;obtain⟨u,rfl,rx⟩:=vals1 r;cases rx;have hn:=line63;rcases hq with hq|hq
 ·obtain⟨its,r',pl,hz⟩:=I.list hq
  have hlen:=r'.length;exact Calls.call_len_list pl.isList (by simp only[xO]<;>omega) ⟨.int ys.length,H,I.tok _,⟨s.toks+1,by rw[xO,hlen]⟩,q⟩
 ·obtain⟨its,r',pl,hz⟩:=I.tuple hq
  have hlen:=r'.length;exact len_tuple pl (by simp only[xO]<;>omega) ⟨.int ys.length,H,I.tok _,⟨s.toks+1,by rw[xO,hlen]⟩,q⟩
theorem lC:CallR X (.type "list") (λxs H Q=>∃p ys,xs=[.ref p]/\(SqL X.K H p ys\/SqT X.K H p ys)/\∀l,H l=none->Q (.ref l) (upd H l (.lst ys))):=by
 intro pins s σ H xs us Q I r h;obtain⟨p,ys,rfl,hq,q⟩:=h;obtain⟨u,rfl,rx⟩:=vals1 r;cases rx;have fin:∀(its:List Value),Vals ys its->ys.length<=sizeLine->∀(h':Heap)(c':Nat),(∀b o',s.heap.get? b=some o'->h'.get? b=some o')->
   h'.get? s.heap.objs.size=some {cls:=.type "list",dict:=none,data:=.seq its.toArray c',slots:= #[]}->EP X pins σ Q (.ref s.heap.objs.size) {s with heap:=h'}:=λits r' hz h' c' kp e=>
  ⟨.ref s.heap.objs.size,_,I.laid (t':=s.toks) kp (xN _) (show ObjOk X.prog X.w _ h' _ (.lst ys) from⟨hz,its,c',r',e⟩),rfl,q _ (I.hok.fresh (xN _))⟩
 rcases hq with hq|hq
 ·obtain⟨its,r',pl,hz⟩:=I.list hq
  have hlen:=r'.length;obtain⟨o,ho,hc,n,hd⟩:=pl.isList;exact call_list_seq p (.inl rfl) ho hc hd (λh' c' kp e=>fin its r' hz h' c' kp e) (by simp only[xO]<;>omega)
 ·obtain⟨its,r',pl,hz⟩:=I.tuple hq
  have hlen:=r'.length;obtain⟨o,ho,hc,n,hd⟩:=pl;exact call_list_seq p (.inr rfl) ho hc hd (λh' c' kp e=>fin its r' hz h' c' kp e) (by simp only[xO]<;>omega)
theorem jP:CallR X (.type "tuple") (λxs H Q=>∃p ys,xs=[.ref p]/\((SqL X.K H p ys/\∀l,H l=none->Q (.ref l) (upd H l (.tup ys)))\/(SqT X.K H p ys/\Q (.ref p) H))):=by
 intro pins s σ H xs us Q I r h;obtain⟨p,ys,rfl,h⟩:=h;obtain⟨u,rfl,rx⟩:=vals1 r;cases rx;rcases h with⟨hq,q⟩|⟨hq,q⟩
 ·obtain⟨its,r',pl,hz⟩:=I.list hq
  have hlen:=r'.length;refine call_tuple_list pl.isList (λh' kp=>?_) (by simp only[xO]<;>omega);have I1:Inv X pins σ H {s with heap:=h'}:=I.kept (t':=s.toks) kp;have I2:Inv X pins σ (upd H h'.objs.size (.tup ys)) {s with heap:=h'.push {cls:=.type "tuple",data:=.seq its.toArray}}:=
   I1.laid (t':=s.toks) (λb o e=>xH _ e) (xN _) (show ObjOk X.prog X.w _ _ _ (.tup ys) from⟨hz,its,r',IsTup.new _ _⟩)
  exact⟨.ref h'.objs.size,_,I2,rfl,q _ (I1.hok.fresh (xN _))⟩
 ·obtain⟨its,r',pl,hz⟩:=I.tuple hq
  exact call_tuple_same pl ⟨.ref p,H,I,rfl,q⟩
def tyV(K:PySem.W.Frag)(T:String)(x:V)(H:Hp):Prop:=match x with
 |.str _=>T="str"
 |.int _=>T="int"
 | .ref p=>(T="list"/\∃xs,SqL K H p xs)\/(T="tuple"/\∃o,K.lookup p=some o/\o.cls=.type "tuple"/\o.dict=none)\/
   (T="dict"/\((∃kvs,H p=some (.dK kvs))\/∃kvs,H p=some (.dT kvs)))\/(T="set"/\∃S n,H p=some (.set S n))
 |_=>False
theorem tyV_is(I:Inv X pins σ H s)(r:RelV x v)(ty:tyV X.K T x H):
  s.TypeIs v T/\∀a,v=.ref a->∃ob,s.heap.get? a=some ob/\ob.dict=none:=by
 cases x with
 |str z=>
  obtain⟨t,rfl⟩:=r;cases (show T="str" from ty);exact⟨typeIs_str s z t,λ_ e=>nomatch e⟩
 |int i=>
  obtain⟨t,rfl⟩:=r;cases (show T="int" from ty);exact⟨typeIs_int s i t,λ_ e=>nomatch e⟩
 |ref p=>
  cases r;rcases ty with⟨rfl,xs,hq⟩|⟨rfl,o,hk,hc,hd⟩|⟨rfl,hk⟩|⟨rfl,S,n,hk⟩
  ·obtain⟨its,_,pl,_⟩:=I.list hq
   refine⟨pl.isList.typeIs,λa e=>?_⟩;cases e;obtain⟨o,n,e,c,hd,_⟩:=pl;exact⟨o,e,hd⟩
  ·refine⟨⟨o,I.kIn p o hk,hc⟩,λa e=>?_⟩
   cases e;exact⟨o,I.kIn _ o hk,hd⟩
  ·have z:∃o,s.heap.get? p=some o/\o.ExactDict:=by
    rcases hk with⟨kvs,hk⟩|⟨kvs,hk⟩
    ·obtain⟨_,_,_,_,o,_,_,e,ex,_⟩:=I.hok p _ hk
     exact⟨o,e,ex⟩
    ·obtain⟨_,_,_,_,o,_,_,e,ex,_⟩:=I.hok p _ hk
     exact⟨o,e,ex⟩
   obtain⟨o,e,ex⟩:=z;refine⟨⟨o,e,ex.1⟩,λa e2=>?_⟩;cases e2;exact⟨o,e,ex.2.1⟩
  ·obtain⟨o,_,_,_,e,ex,_⟩:=I.hok p _ hk
   refine⟨⟨o,e,ex.1⟩,λa e2=>?_⟩;cases e2;exact⟨o,e,ex.2.1⟩
 |_=>exact False.elim ty
def tBM(K:PySem.W.Frag)(T:String)(r:V->List V->Hp->VK->Prop)(to:TE)(t:TA):TE:=λσ H Q=>to σ H λx H1=>tyV K T x H1/\t σ H1 λxs H2=>r x xs H2 Q
variable{o e:Expr}{es:List Expr}{to:TE}{t:TA}{name:Str}{apos cpos:Pos}{T id:String}{r:V->List V->Hp->VK->Prop}
theorem pe_bm(pa:PlainAttrs T)(slot:Slot T name id)(hty:typeOf (.builtin id)=pure (.type "method_descriptor"))(hm:MtR X id r)(ho:PE X o to)(ha:PA X (e::es) t)
  (hbase:attributeBase o name X.env (eval o X.env)=eval o X.env:=by rfl)
  (hfew:((backTo cpos (starEach (e::es) X.env)).all (λx=>!x.1)&&(backToKw cpos (keywordEach [] X.env)).all (λx=>x.1.isSome)
   &&decide ((e::es).length+([]:List Keyword).length+(if([]:List Keyword).isEmpty then 0 else 1)<30))=true:=by rfl)
  (hline:(apos.endLine==cpos.line)=true:=by rfl) (hs:starEach (e::es) X.env=(false,eval e X.env)::starEach es X.env:=by rfl) (hplain:(backTo cpos (starEach es X.env)).any (·.1)=false:=by rfl):
  PE X (.Call (.Attribute o name apos) (e::es) [] cpos) (tBM X.K T r to t):=by
 intro pins s σ H Q I h;refine wpAny_Call_method_late hbase hfew hline rfl (thn (ho pins s σ H _ I h) λv s1 ⟨x,H1,I1,r1,ty,q1⟩=>?_);obtain⟨h1,h2⟩:=tyV_is I1 r1 ty;refine⟨T,id,pa,slot,hty,h1,h2,?_⟩;have hA:=ha cpos pins s1 σ H1 _ I1 q1;rw[hs] at hA⊢;refine Calls.callWith_builtin (by show(false||(backTo cpos (starEach es X.env)).any (·.1))=false;rw[hplain]<;>rfl) (Calls.evalArgs_plain ?_);exact thn hA λus s2 ⟨vs,H2,I2,r2,q2⟩=>hm pins s2 σ H2 x vs v us Q I2 r1 r2 q2
/-xs.append(e),list.index on a module's tuple .. are MtR facts of 06m-/
end
def MtM(X:Cx)(id:String)(r:V->List V->Hp->VK->Prop):Prop:=
 ∀(pins:List (Addr×Obj))(s:Shared)(σ:St)(H:Hp)(x:V)(xs:List V)(v:Value)(us:List Value)(Q:VK),Inv X pins σ H s->RelV x v->Vals xs us->r x xs H Q->
  wpAny (model X.prog X.w) X.A (call (.builtin id) (v::us)) (EP X pins σ Q) X.xe s
theorem Vals.one:∀{x:V}{us:List Value},Vals [x] us->∃u,us=[u]/\RelV x u
 |_,_,.cons r .nil=>⟨_,rfl,r⟩
theorem Vals.rep(h:Vals xs us):∀k:Nat,Vals (List.replicate k xs).flatten (List.replicate k us).flatten
 |0=>.nil
 |k+1=>by
  rw[List.replicate_succ,List.replicate_succ,xZ,xZ];exact Vals.append h (Vals.rep h k)
theorem jZ(its:List Value):∀(k:Nat)(acc:List Value),
  List.foldl (λx1 x2=>x1++x2) acc.toArray (List.replicate k its.toArray)=(acc++(List.replicate k its).flatten).toArray
 |0,acc=>by simp
 |k+1,acc=>by
  have e:acc.toArray++its.toArray=(acc++its).toArray:=by simp
  have e2:(acc++its)++(List.replicate k its).flatten=acc++(List.replicate (k+1) its).flatten:=by
   rw[List.replicate_succ,xZ,List.append_assoc]
  rw[←e2,←jZ its k (acc++its),←e,List.replicate_succ,List.foldl_cons]
section
variable{X:Cx}{pins:List (Addr×Obj)}{σ:St}{H:Hp}{s:Shared}{l b:Addr}{xs ys zs:List V}
theorem Inv.lset{its its':List Value}{n:Nat}{f:Array Value->Array Value}{t':Nat}(I:Inv X pins σ H s)(hH:H l=some (.lst xs))
  (e:s.heap.get? l=some {cls:=.type "list",data:=.seq its.toArray n}) (hf:f its.toArray=its'.toArray) (hv:Vals ys its') (hz:ys.length<=sizeLine):
  Inv X pins σ (upd H l (.lst ys)) {s with heap:=s.heap.update l (Obj.mapSeq f),toks:=t'}:=by
 have q:=PySem.IsL.update e f;rw[hf] at q;refine I.write (x:=l) (e:=l) (by rw[hH];exact trivial) (.inl rfl) (λb' u hb hu=>(x6 s.heap (Obj.mapSeq f) (yI hb)).trans hu) ⟨_,q⟩ ?_;exact⟨hz,its',_,hv,q⟩
theorem Inv.lnew{its:List Value}{t':Nat}(I:Inv X pins σ H s)(hv:Vals ys its)(hz:ys.length<=sizeLine):
  Inv X pins σ (upd H s.heap.objs.size (.lst ys)) {s with heap:=s.heap.push {cls:=.type "list",data:=.seq its.toArray},toks:=t'}:=
 I.laid (λ_ _ q=>xH _ q) (xN _) ⟨hz,its,0,hv,yU _ rfl⟩
theorem Inv.fresh(I:Inv X pins σ H s):H s.heap.objs.size=none:=I.hok.fresh (xN _)
theorem Inv.lstM(I:Inv X pins σ H s)(hH:H l=some (.lst xs)):xs.length<=sizeLine/\∃(its:List Value)(n:Nat),Vals xs its/\xs.length=its.length/\s.heap.get? l=some {cls:=.type "list",data:=.seq its.toArray n}:=by
 obtain⟨z,its,n,r,e⟩:=I.hok l _ hH;exact⟨z,its,n,r,r.length,e⟩
theorem notLongL(h:n<=sizeLine):Builtin.List.listTooLong n=false:=by
 unfold Builtin.List.listTooLong;exact x8 (by omega)
end
section
variable{X:Cx}
def rAppend:V->List V->Hp->VK->Prop:=λx vs H Q=>∃l xs y,x=.ref l/\vs=[y]/\H l=some (.lst xs)/\xs.length<sizeLine/\Q .non (upd H l (.lst (xs++[y])))
theorem fH:MtM X "list.append" rAppend:=by
 intro pins s σ H x vs v us Q I rx rv h;obtain⟨l,xs,y,rfl,rfl,hH,hz,q⟩:=h;cases rx;obtain⟨u,rfl,ru⟩:=rv.one;obtain⟨z,its,n,r,hl,e⟩:=I.lstM hH;refine call_meets F.slot_list_append ⟨_,e,rfl⟩ F.entry_list_append (F.args_list_append_2 _ _) (PySem.list_append l its.toArray n u (by rw[xO];omega)) ⟨e,?_⟩;refine⟨.non,_,I.lset (its':=its++[u]) hH e (by simp) (r.append (.cons ru .nil)) ?_,rfl,q⟩;rw[xL,List.length_singleton];omega
def rCat:R2:=λx y H Q=>∃l b xs zs,x=.ref l/\y=.ref b/\H l=some (.lst xs)/\H b=some (.lst zs)/\xs.length+zs.length<=sizeLine/\∀p,H p=none->Q (.ref p) (upd H p (.lst (xs++zs)))
theorem op_cat:OpR X (binaryOp .Add) rCat:=by
 intro pins s σ H x y v u Q I rx ry h;obtain⟨l,b,xs,zs,rfl,rfl,hH,hB,hz,q⟩:=h;cases rx;cases ry;obtain⟨z,its,n,r,hl,e⟩:=I.lstM hH;obtain⟨z2,its2,n2,r2,hl2,e2⟩:=I.lstM hB;refine PySem.P.add_list e e2 ?_ (by rw[xO,xO];omega);have ea:its.toArray++its2.toArray=(its++its2).toArray:=by simp
 rw[ea];exact⟨.ref _,_,I.lnew (t':=s.toks) (r.append r2) (by rw[xL];omega),rfl,q _ I.fresh⟩
def rRep:R2:=λx y H Q=>∃l k xs,x=.ref l/\y=.int k/\H l=some (.lst xs)/\-(2^63)<=k/\k<2^63/\xs.length*k.toNat<=sizeLine/\
 ∀p,H p=none->Q (.ref p) (upd H p (.lst (List.replicate k.toNat xs).flatten))
theorem len_rep{α:Type}(xs:List α)(k:Nat):(List.replicate k xs).flatten.length=k*xs.length:=by
 induction k with
 |zero=>simp
 |succ k ih=>rw[List.replicate_succ,xZ,xL,ih,Nat.succ_mul,Nat.add_comm]
theorem op_rep:OpR X (binaryOp .Mult) rRep:=by
 intro pins s σ H x y v u Q I rx ry h;obtain⟨l,k,xs,rfl,rfl,hH,h1,h2,hz,q⟩:=h;cases rx;obtain⟨t,rfl⟩:=ry;obtain⟨z,its,n,r,hl,e⟩:=I.lstM hH;have hlen:its.toArray.size*k.toNat<=sizeLine:=by rw[xO,←hl];exact hz
 have hcap:¬its.toArray.size*k.toNat>(2^63-1)/8:=by
  have:(sizeLine:Nat)<=(2^63-1)/8:=by decide
  omega
 have hfit:¬(!Builtin.List.listFitsIndex k)=true:=by
  rw[fitsIndex_both h1 h2];exact xF
 have hlong:¬Builtin.List.listTooLong (its.toArray.size*k.toNat)=true:=by
  rw[notLongL hlen];exact xF
 have hnew:List.foldl (λx1 x2=>x1++x2) #[] (List.replicate (if its.toArray.isEmpty=true then 0 else k.toNat) its.toArray)=(List.replicate k.toNat its).flatten.toArray:=by
  have f0:∀m:Nat,List.foldl (λx1 x2=>x1++x2) #[] (List.replicate m its.toArray)=(List.replicate m its).flatten.toArray:=λm=>by
   have:=jZ its m [];rw[List.nil_append] at this;exact this
  rw[f0]
  cases its with
  |nil=>simp
  |cons a r'=>rw[xC (by simp)]
 refine wpAny_binaryOp_repeat_ref (T:="list") (U:="int") (by decide) ⟨_,e,rfl⟩ (λs'=>typeIs_int s' k t) noFill_list_mul F.fills_int_mul F.slot_int_rmul repeat_list F.slot_int_index.lookup
  (call_meets F.slot_int_rmul (typeIs_int s k t) F.entry_int_rmul (F.args_int_rmul_2 _ _) (int___rmul___int_list k t l its.toArray n)
   ⟨e,rfl,⟨_,e,rfl⟩,call_meets F.slot_list_mul ⟨_,e,rfl⟩ F.entry_list_mul (F.args_list_mul_2 _ _) (AutoListH.list___mul___list_int_3 l its.toArray n k t hfit hcap hlong) ⟨e,?_⟩⟩)
 rw[hnew];exact⟨.ref _,_,I.lnew (t':=s.toks) (r.rep k.toNat) (by rw[len_rep,Nat.mul_comm];exact hz),rfl,q _ I.fresh⟩
end
end L2
namespace Att
open PySem PySem.W PySem.Calls PyProof.Rows
theorem gU:∀(ns:List Int)(vs:List Value),WellAll P h vs (ns.map WData.int)->IntsAre vs ns:=by
 intro ns
 induction ns with
 |nil=>
  intro vs w;rw[yX] at w;cases w;exact .nil
 |cons n ns ih=>
  intro vs w;rw[xM] at w
  cases w with
  |cons a b=>
   cases a;exact .cons _ _ (ih _ b)
theorem rR{l:OpenLaw}(hn:l.most=some n)
  (hpre:l.row.toRowW.claim.pre args=true) (hwl:WellAll P h vals args):
  ∃a vs ns,vals=[Value.ref a]/\args=[WData.list (ns.map WData.int)]/\h.get? a=some {cls:=.type "list",data:=.seq vs.toArray}/\IntsAre vs ns/\ns.length<=n:=by
 have hsh:WShape.hasAll [] args [.list .int]=true:=(pre_splitW hpre).1;have hc:l.pre.holds [] {args:=args}=true:=(pre_splitW hpre).2;obtain⟨d,r,rfl,h1,h2⟩:=hasAllW_cons hsh;obtain rfl:=hasAllW_nil h2;obtain⟨xs,rfl,h3⟩:=hasW_list h1;obtain⟨ns,rfl⟩:=items_int h3;have hlen:ns.length<=n:=by
  unfold OpenLaw.pre at hc;have h4:(WTm.not (.lt (.lit (.int (n:Int))) (.len (.arg 0)))).holds [] {args:=[.list (ns.map .int)]}=true:=by
   have h4:=(holds_andW hc).1;rw[hn] at h4;exact h4
  have h5:=condW_of h4 (w_not (w_lt w_lit (w_len_list (w_arg rfl))));rw[xB] at h5;refine Nat.le_of_not_lt λq=>?_;have q':(n:Int)<((ns.length:Nat):Int):=by omega
  first
   |(rw[yJ q'] at h5;exact absurd h5 (by decide))
   |(simp at h5;omega)
 cases hwl with
 |cons w1 w2=>
  cases w2
  cases w1 with
  |list ho hall=>exact⟨_,_,ns,rfl,rfl,ho,gU ns _ hall,hlen⟩
theorem rS(l:OpenLaw)(args:List WData):l.row.toRowW.claim.post args (.bool true) args=true:=
 postW_of (r:=l.row.toRowW) (X:=(true==true))
  (show WShape.has [] (.bool true) .bool=true by first|rfl|decide|simp[WShape.has,WShape.arms,WShape.armsAll])
  (show(WTm.eq .res (.lit (.bool true))).value [] {args:=args,res:=some (.bool true),after:=args}=some (.bool (true==true)) from w_eq_bool (w_res rfl) w_lit) rfl
theorem attach_call{l:OpenLaw}
  (hn:l.most=some n) (hdf:d.params.defaults=[])
  (call:∀(w:World)(s₀ s₁:Shared)(mg mb:Str->Option Value)(fa:Addr)(o:Obj)(pm cd doc:Value)(a:Addr)(vs:List Value)(ns:List Int),
   Ground q loose [] XP w s₀ mg mb s₁.heap->YP w s₁.heap->
   s₁.heap.get? fa=some o->o.data=.func (docDef d.name d.params d.body d.scope pm cd doc)->s₁.heap.CodeRec cd d.name->mg d.name=some (.ref fa)->
   s₁.heap.get? a=some {cls:=.type "list",data:=.seq vs.toArray}->IntsAre vs ns->ns.length<=n->s₁.gens= #[]->
   codeAny (model l.prog w) callerA (.call (.ref fa) ⟨[.ref a],[]⟩) (λr s'=>r=.ok (.ret (.bool true))/\OldK s₁.heap s'.heap/\s'.os=s₁.os/\AllBare s'.gens) s₁):
  WalkO q loose XP YP l.row.toRowW d [] (λf vs=>PySem.call f vs):=by
 intro w s₀ s₁ mg mb G Y fa o pm cd doc dV kV ho hd hcd hD hmg hg args vals as hpre hlay hrd hwl hlo;obtain rfl:dV=.none:=Dflts.none hD hdf;obtain rfl:kV=.none:=Dflts.noKw hD;obtain⟨a,vs,ns,rfl,rfl,hobj,hints,hlen⟩:=rR hn hpre hwl;refine enter_call (codeAny_mono (call w s₀ s₁ mg mb fa o pm cd doc a vs ns G Y ho (fd_plain hd) hcd hmg hobj hints hlen hg) λr s' hq=>?_);obtain⟨rfl,h2,h3,h4⟩:=hq;exact⟨.inl ⟨.bool true,.bool true,[],rfl,λ_=>rfl,.bool true,rS l _,λ_=>⟨List.Pairwise.nil,λ_ hm=>(nomatch hm)⟩⟩,h2,h3,h4⟩
end Att
namespace L2
open PySem PySem.Spec PyProof.Rows
theorem j0:∀{vs:List Value}{ns:List Int},IntsAre vs ns->Vals (ns.map V.int) vs
 |_,_,.nil=>.nil
 |_,_,.cons n t h=>.cons ⟨t,rfl⟩ (j0 h)
def Only(H:Hp):Prop:=∀b,H b=none\/∃o xs,H b=some (.frz o (.lst xs))
end L2
/-THE LAST THEOREM (shape;LID,My.*are yours):
  My.Adr:a structure of the addresses that your layer names (classes,functions);My.Txt K t:a structure (Prop) of the equations over K;
  My.txt_mk:{K} {implicit addresses ..} (e1:nsIn K mainGlobals "law"=some (some (.ref f))) (e2:K.lookup f=some ⟨oc,od,.func (fnOf "law" "law" params body scope dV kV doc pm an cdv ct),sl⟩) (e3:codeIn K cdv "law"=true) .. :∃t,My.Txt K t
(the tactic k_is has no namespace:write k_is)-/
namespace L2
open PySem PySem.Spec PyProof.Rows
structure Fun(K:PySem.W.Frag)(x qual:Str)(st:Stmt)(f:Addr)(fd:FuncData):Prop where
 ex:∃(oc:Value)(od:Option Addr)(kV doc pm:Value)(an:Option Addr)(cdv ct:Value)(osl:Array (Option Value)),
  fd=PySem.W.fnOf x qual (defArgs st) (defBody st) (defScope st) .none kV doc pm an cdv ct/\K.lookup f=some ⟨oc,od,.func fd,osl⟩/\PySem.W.codeIn K cdv qual=true
 kp:PySem.W.keepIn K (.ref f)=true
section
variable{P:Program}{w:World}{K:PySem.W.Frag}{mg:Str->Option Value}{base:Heap}
theorem Fun.binds{x qual:Str}{st:Stmt}{f:Addr}{fd:FuncData}{ps:List Str}(F:Fun K x qual st f fd)
  (h:∀(kV doc pm:Value)(an:Option Addr)(cdv ct:Value)(us:List Value),us.length=ps.length->bindArgs (PySem.W.fnOf x qual (defArgs st) (defBody st) (defScope st) .none kV doc pm an cdv ct) ⟨us,[]⟩=pure (ps.zip us)):Binds K fd ps []:=by
 obtain⟨oc,od,kV,doc,pm,an,cdv,ct,osl,rfl,lk,hcd⟩:=F.ex;exact .all (h kV doc pm an cdv ct)
theorem fun_mk{st:Stmt}{kV doc pm cdv ct:Value}(l:K.lookup f=some ⟨oc,od,.func (PySem.W.fnOf x qual (defArgs st) (defBody st) (defScope st) .none kV doc pm an cdv ct),osl⟩)
  (c:PySem.W.codeIn K cdv qual=true) (k:PySem.W.keepIn K (.ref f)=true):Fun K x qual st f (PySem.W.fnOf x qual (defArgs st) (defBody st) (defScope st) .none kV doc pm an cdv ct):=⟨⟨oc,od,kV,doc,pm,an,cdv,ct,osl,rfl,l,c⟩,k⟩
end
def Same(H H':Hp):Prop:=∀b o,H b=some o->H' b=some o
theorem Same.refl(H:Hp):Same H H:=λ_ _ h=>h
theorem Same.trans(a:Same H H1)(b:Same H1 H2):Same H H2:=λc o h=>b c o (a c o h)
theorem Same.free(e:Same H H')(h:H' l=Option.none):H l=Option.none:=by
 cases q:H l with
 |none=>rfl
 |some o=>
  rw[e l o q] at h;cases h
theorem t9{α:Type}(xs:List α)(i:Nat):∀k,((List.range k).map λm=>i+m).filterMap (λm=>xs[m]?)=(xs.drop i).take k
 |0=>by simp
 |k+1=>by
  rw[zU,yB,List.filterMap_append,t9 xs i k,List.take_add_one,List.getElem?_drop]
  congr 1
theorem mG(v:Int)(n d:Nat):max 0 (min (if v<0 then v+(n:Int) else v) (n:Int))=((HT.sIx n d (some v):Nat):Int):=by
 show _=(((if v<0 then(v+(n:Int)).toNat else min v.toNat n):Nat):Int)
 by_cases hv:v<0
 ·simp only[xE hv];omega
 ·simp only[xC hv];omega
theorem txt_ix(lo hi:Option Int)(n:Nat):Builtin.Str.strSliceIndices lo hi 1 n=(List.range (HT.sIx n n hi-HT.sIx n 0 lo)).map λm=>HT.sIx n 0 lo+m:=by
 have e:Builtin.Str.strSliceIndices lo hi 1 n=sliceRange ((HT.sIx n 0 lo:Nat):Int) ((HT.sIx n n hi:Nat):Int) 1:=by
  unfold Builtin.Str.strSliceIndices;have h1:(1:Int)>0:=by omega
  simp only[h1,xD]
  congr 1
  ·cases lo with
   |none=>rfl
   |some v=>exact mG v n 0
  ·cases hi with
   |none=>rfl
   |some v=>exact mG v n n
 rw[e];generalize HT.sIx n 0 lo=i;generalize HT.sIx n n hi=j;unfold sliceRange;have h1:(1:Int)>0:=by omega
 simp only[h1,xD,Int.ediv_one];have e2:(if(i:Int)<(j:Int) then(j:Int)-i+1-1 else 0).toNat=j-i:=by split<;>omega
 rw[e2];refine List.map_congr_left λm _=>?_;omega
theorem rT(x:Str)(lo hi:Option Int):Txt.slice x lo hi=⟨((x.cps.toList.drop (HT.sIx x.length 0 lo)).take (HT.sIx x.length x.length hi-HT.sIx x.length 0 lo)).toArray⟩:=by
 unfold Txt.slice;rw[txt_ix];have hn:x.length=x.cps.toList.length:=by show x.cps.size=_;simp
 split
 ·next h=>
  have h2:HT.sIx x.length x.length hi-HT.sIx x.length 0 lo=x.length:=by simpa using h
  have hj:HT.sIx x.length x.length hi<=x.length:=HT.sIx_le _ _ (xN _) hi;rw[h2];by_cases h0:x.length=0
  ·have:x.cps.toList=[]:=List.eq_nil_of_length_eq_zero (by omega)
   rw[this];have:x.cps= #[]:=by rw[←Array.toList_inj];exact this
   cases x;simp at this;subst this;simp
  ·have:HT.sIx x.length 0 lo=0:=by omega
   rw[this,zP,hn,y7]
 ·congr 2
  have:=t9 x.cps.toList (HT.sIx x.length 0 lo) (HT.sIx x.length x.length hi-HT.sIx x.length 0 lo);rw[←this]
  congr 1
  funext m;simp
variable{X:Cx}
def rSlS:V->Option Int->Option Int->Hp->VK->Prop:=λx lo hi H Q=>∃z,x=.str z/\z.length<=sizeLine/\Q (.str (Txt.slice z lo hi)) H
theorem sl_str:SlR X rSlS:=by
 intro pins s σ H x v vl vu lo hi sl Q I rx hs pl pu h;obtain⟨z,rfl,hz,q⟩:=h;obtain⟨t,rfl⟩:=rx;obtain⟨l,rfl,rfl⟩:∃l:Option (Int×Tok),vl=partValue l/\l.map (·.1)=lo:=by
  cases pl with
  |none=>exact⟨none,rfl,rfl⟩
  |int i t=>exact⟨some (i,t),rfl,rfl⟩
 obtain⟨u,rfl,rfl⟩:∃l:Option (Int×Tok),vu=partValue l/\l.map (·.1)=hi:=by
  cases pu with
  |none=>exact⟨none,rfl,rfl⟩
  |int i t=>exact⟨some (i,t),rfl,rfl⟩
 refine⟨"str",_,F.slot_str_getitem.lookup,typeIs_str _ _ _,wpAny_getItem_str_slice (l:=l) (u:=u) (st:=none) hs rfl (post_val_or_str ⟨xU (Txt.slice_le z _ _) hz,λt' k=>?_⟩)⟩;exact⟨.str (Txt.slice z _ _),H,I.tok _,⟨t',rfl⟩,q⟩
end L2
namespace L2
open PySem PySem.Spec PyProof.Rows
theorem eQ(I:Nat->Shared->Prop)
  (turn:∀n s,I n s->wpAny (model prog w) A (pyNext it) (λr s₁=>match r with
   |none=>R (.ok .next) s₁
   | some v=>wpAny (model prog w) A (letOwnedTupleGo target it v) (λ_ s₀=>wpAny (model prog w) A (assign target env v) (λ_ s₂=>
     wpAny (model prog w) A (forIn ifs true λc r=>if r=true then do let ok←isTrue c env (eval c env);pure (ForInStep.yield ok) else pure (ForInStep.yield r)) (λok s₃=>
      if ok=true then wpAny (model prog w) A (eval elt env) (λx s₄=>
       wpAny (model prog w) A (call (.builtin "list.append") [acc,x]) (λ_ s₅=>∃m,m<n/\I m s₅) (notedBy (model prog w) A env λe s'=>R (.error e) s') s₄) (notedBy (model prog w) A env λe s'=>R (.error e) s') s₃
      else∃m,m<n/\I m s₃) (notedBy (model prog w) A env λe s'=>R (.error e) s') s₂) (notedBy (model prog w) A env λe s'=>R (.error e) s') s₀) (notedBy (model prog w) A env λe s'=>R (.error e) s') s₁) (notedBy (model prog w) A env λe s'=>R (.error e) s') s)
  (n:Nat) (h:I n s):
  codeAny (model prog w) A (.compLoop (.ListComp elt [⟨target,iter,ifs,0⟩] scope pos) 0 it acc env) R s:=by
 refine codeAny_loop rfl I (λn s hI=>?_) n h;show wpAny _ A ((compTurn (.ListComp elt [⟨target,iter,ifs,0⟩] scope pos) 0 it acc env).onRaise (λx=>do noteFrame x env;theTreesLotGoes x)) _ _ s;refine wpAny_noted ?_;rw[compTurn_list];refine xA (wpAny_standAt (xA (yG (turn n s hI) (λr s₁ h₁=>?_) λ_ _ h'=>h')))
 cases r with
 |none=>exact xX h₁
 |some v=>
  refine xA (yG h₁ (λ_ s₀ h₀=>?_) λ_ _ h'=>h');refine xA (yG h₀ (λ_ s₂ h₂=>xA (yG h₂ (λok s₃ h₃=>?_) λ_ _ h'=>h')) λ_ _ h'=>h')
  cases ok with
  |false=>exact xX ⟨rfl,h₃⟩
  |true=>
   exact xA (xA (yG h₃ (λx s₄ h₄=>xA (yG h₄ (λ_ s₅ h₅=>xX (xX ⟨rfl,h₅⟩)) λ_ _ h'=>h')) λ_ _ h'=>h'))
def capS(σ:St)(caps:List Nat)(ntg:Nat):St:=List.replicate ntg none++caps.map λj=>(σ[j]?).getD none
def cxComp(X:Cx)(N':List Str)(scope:Scope)(cl:List (Str×Addr))(C:Addr)(s:Shared)(H:Hp)(fp:List Addr)(E:Value->Shared->Prop):Cx where
 prog:=X.prog
 w:=X.w
 K:=X.K
 mg:=X.mg
 base:=X.base
 A:=X.A
 N:=N'
 s₀:=s
 H₀:=H
 env:=compEnvC scope cl C X.env
 outer:=X.stack
 stack:=X.stack
 ex:=fp
 fn:=λ_=>false
 calm:=X.calm
 pn:=[]
 xe:=E
structure CompSc(X:Cx)(N':List Str)(caps:List Nat)(ntg:Nat)(scope:Scope):Prop where
 kind:scope.kind=.function
 ncell:∀y∈scope.names,y.2≠.cell
 loc:∀y∈scope.names,y.2=.local->scope.names.lookup y.1=some .local
 fre:∀y∈scope.names,y.2=.free->X.env.kindOf y.1=some .cell\/X.env.kindOf y.1=some .free
 len:N'.length=ntg+caps.length
 cap:∀(i j:Nat)(x:Str),caps[i]?=some j->N'[ntg+i]?=some x->X.N[j]?=some x/\scope.names.lookup x=some .free
theorem bV{env:Env}:∀{names:List (Str×NameKind)}{x:Str}{k:NameKind},
  (names.map λ(n,k)=>if(k==NameKind.free&&env.scope.kind== .function&&env.kindOf n==some .cell) then(n,NameKind.cell) else(n,k)).lookup x=some k->
  ∃k',names.lookup x=some k'/\(k=k'\/(k'=.free/\k=.cell))
 |[],_,_,h=>by simp at h
 |(n,k0)::r,x,k,h=>by
  have ih:= @bV env r x k;have h':List.lookup x ((if(k0==NameKind.free&&env.scope.kind== .function&&env.kindOf n==some .cell)=true then(n,NameKind.cell) else(n,k0))::(r.map λ(n,k)=>if(k==NameKind.free&&env.scope.kind== .function&&env.kindOf n==some .cell) then(n,NameKind.cell) else(n,k)))=some k:=h
  cases hx:x==n with
  |true=>
   refine⟨k0,by simp only[yM,hx],?_⟩;by_cases hc:(k0==NameKind.free&&env.scope.kind== .function&&env.kindOf n==some .cell)=true
   ·rw[xE hc] at h'
    simp only[yM,hx] at h';cases h';refine .inr ⟨?_,rfl⟩;simp only[xG,zB] at hc;exact hc.1.1
   ·rw[xC hc] at h'
    simp only[yM,hx] at h';cases h';exact .inl rfl
  |false=>
   have e:List.lookup x (r.map λ(n,k)=>if(k==NameKind.free&&env.scope.kind== .function&&env.kindOf n==some .cell) then(n,NameKind.cell) else(n,k))=some k:=by
    by_cases hc:(k0==NameKind.free&&env.scope.kind== .function&&env.kindOf n==some .cell)=true
    ·rw[xE hc] at h';simpa only[yM,hx] using h'
    ·rw[xC hc] at h';simpa only[yM,hx] using h'
   obtain⟨k',e1,e2⟩:=ih e;exact⟨k',by simp only[yM,hx];exact e1,e2⟩
theorem bO{env:Env}:∀{names:List (Str×NameKind)}{x:Str},names.lookup x=some .free->
  (names.map λ(n,k)=>if(k==NameKind.free&&env.scope.kind== .function&&env.kindOf n==some .cell) then(n,NameKind.cell) else(n,k)).lookup x=some .cell\/
  (names.map λ(n,k)=>if(k==NameKind.free&&env.scope.kind== .function&&env.kindOf n==some .cell) then(n,NameKind.cell) else(n,k)).lookup x=some .free
 |[],_,h=>by simp at h
 |(n,k0)::r,x,h=>by
  have ih:= @bO env r x;show List.lookup x ((if(k0==NameKind.free&&env.scope.kind== .function&&env.kindOf n==some .cell)=true then(n,NameKind.cell) else(n,k0))::_)=_\/List.lookup x ((if(k0==NameKind.free&&env.scope.kind== .function&&env.kindOf n==some .cell)=true then(n,NameKind.cell) else(n,k0))::_)=_
  cases hx:x==n with
  |true=>
   simp only[yM,hx] at h;cases h;by_cases hc:(NameKind.free==NameKind.free&&env.scope.kind== .function&&env.kindOf n==some .cell)=true
   ·rw[xE hc];exact .inl (by simp only[yM,hx])
   ·rw[xC hc];exact .inr (by simp only[yM,hx])
  |false=>
   simp only[yM,hx] at h;by_cases hc:(k0==NameKind.free&&env.scope.kind== .function&&env.kindOf n==some .cell)=true
   ·rw[xE hc];simp only[yM,hx];exact ih h
   ·rw[xC hc];simp only[yM,hx];exact ih h
theorem dY:∀(names:List (Str×NameKind))(cs:List (Str×Addr)),(∀y∈names,y.2=.free->∃c,env.cells.lookup y.1=some c)->
  ∃ cl,(forIn names cs λ(x:Str×NameKind)(r:List (Str×Addr))=>(do
    if(x.2==NameKind.free)=true then(do let a←cellOf env x.1;pure (ForInStep.yield ((x.1,a)::r))) else pure (ForInStep.yield r):Sem (ForInStep (List (Str×Addr)))))=pure cl/\
   (∀x c,cl.lookup x=some c->cs.lookup x=some c\/env.cells.lookup x=some c)/\(∀x,(x,NameKind.free)∈names->∃c,cl.lookup x=some c)/\(∀x c,cs.lookup x=some c->∃c',cl.lookup x=some c')
 |[],cs,_=>⟨cs,rfl,λx c h=>.inl h,λx h=>by simp at h,λx c h=>⟨c,h⟩⟩
 |(n,k)::r,cs,h=>by
  rw[List.forIn_cons];by_cases hk:k=.free
  ·subst hk
   obtain⟨a,ha⟩:=h (n,.free) xT rfl;obtain⟨cl,e,p1,p2,p3⟩:=dY r ((n,a)::cs) λy hy=>h y (xK _ hy);refine⟨cl,?_,λx c hc=>?_,λx hx=>?_,λx c hc=>?_⟩
   ·have e1:cellOf env n=pure a:=by unfold cellOf;rw[ha]
    simp only[zV,xD,e1,pure_bind];exact e
   ·rcases p1 x c hc with q|q
    ·by_cases hx:x==n
     ·simp only[yM,hx] at q
      cases q;have:x=n:=by simpa using hx
      subst this;exact .inr ha
     ·simp only[yM,hx] at q
      exact .inl q
    ·exact .inr q
   ·rcases List.mem_cons.mp hx with q|q
    ·cases q
     exact p3 n a (by simp[yM])
    ·exact p2 x q
   ·by_cases hx:x==n
    ·exact p3 x a (by simp only[yM,hx])
    ·exact p3 x c (by simp only[yM,hx];exact hc)
  ·obtain⟨cl,e,p1,p2,p3⟩:=dY r cs λy hy=>h y (xK _ hy)
   refine⟨cl,?_,p1,λx hx=>?_,p3⟩
   ·have hb:(k==NameKind.free)=false:=by simpa using hk
    simp only[hb,gV,w6,pure_bind];exact e
   ·rcases List.mem_cons.mp hx with q|q
    ·cases q;exact absurd rfl hk
    ·exact p2 x q
theorem dZ(ok:X.Ok)(Sc:CompSc X N' caps ntg scope):
  ∃cl,closureFor scope X.env=pure cl/\(∀x c,cl.lookup x=some c->X.env.cells.lookup x=some c)/\∀x,(x,NameKind.free)∈scope.names->∃c,cl.lookup x=some c:=by
 obtain⟨cl,e,p1,p2,_⟩:=dY (env:=X.env) scope.names [] λy hy hf=>ok.has y.1 (Sc.fre y hy hf);refine⟨cl,?_,λx c hc=>(p1 x c hc).resolve_left (by simp),p2⟩;exact Eq.trans (congrArg (· >>=λcs=>pure cs) e) rfl
def PTs(X:Cx)(ifs:List Expr)(t:TT):Prop:=
 ∀(pins:List (Addr×Obj))(s:Shared)(σ:St)(H:Hp)(Q:Bool->Hp->Prop),Inv X pins σ H s->t σ H Q->
  wpAny (model X.prog X.w) X.A (forIn ifs true λc r=>if r=true then do let ok←isTrue c X.env (eval c X.env);pure (ForInStep.yield ok) else pure (ForInStep.yield r)) (TP X pins σ Q) X.xe s
theorem pX:PTs X [] (λσ H Q=>Q true H):=λ_ _ _ H _ I h=>wpAny_tests_nil ⟨H,I,h⟩
theorem pts_one(h:PT X c t):PTs X [c] t:=λpins s σ H Q I q=>wpAny_tests_one (h pins s σ H Q I q)
def tCompL(J:It)(g:TG)(tc:TT)(te:TE)(Q:Hp->Prop)(σ0:St)(p:Addr)(H0:Hp):Prop:=
 ∃W:Nat->Nat->St->Hp->Prop,(∃m,W 0 m σ0 H0)/\∀i m σ H,W i m σ H->
  (J.stop i H/\Q H)\/(J.go i H/\∀x H',J.yld i H x H'->g x σ H' λσ2 H2=>tc σ2 H2 λb H3=>
   if b=true then te σ2 H3 λv H4=>∃ys m',H4 p=some (.lst ys)/\ys.length<sizeLine/\m'<m/\W (i+1) m' σ2 (upd H4 p (.lst (ys++[v])))
   else∃m',m'<m/\W (i+1) m' σ2 H3)
def tComp(wi:TI)(g:TG)(tc:TT)(te:TE)(caps:List Nat)(ntg:Nat):TE:=λσ H Q=>
 wi σ H λJ H1=>∀p,H1 p=none->tCompL J g tc te (λH'=>Q (.ref p) H') (capS σ caps ntg) p (upd H1 p (.lst []))
section
variable{X:Cx}{N':List Str}{caps:List Nat}{ntg:Nat}{scope:Scope}{pins:List (Addr×Obj)}{σ:St}{H2:Hp}{s2:Shared}
theorem uA(h:(capS σ caps ntg)[i]?=some (some v)):∃k j,i=ntg+k/\caps[k]?=some j/\σ[j]?=some (some v):=by
 unfold capS at h;by_cases hi:i<ntg
 ·rw[zG (by simpa using hi),zE,xE hi] at h
  cases h
 ·rw[zD (by simpa using hi),zL,zN] at h
  cases e:caps[i-ntg]? with
  |none=>rw[e] at h;cases h
  |some j=>
   rw[e] at h;refine⟨i-ntg,j,by omega,e,?_⟩;have h':(σ[j]?).getD none=some v:=by simpa using h
   cases q:σ[j]? with
   |none=>rw[q] at h';cases h'
   |some o=>rw[q] at h';simp at h';rw[h']
theorem iH{it:Addr}{fp:List Addr}{cl:List (Str×Addr)}{p:Addr}{s3:Shared}{h1:Heap}{tk:Nat}{tn:Nat->Heap->Prop}{tg:Expr}{J:It}{E:Value->Shared->Prop}
  (I2:Inv X pins σ H2 s2) (Sc:CompSc X N' caps ntg scope)
  (hin:∀x c,cl.lookup x=some c->X.env.cells.lookup x=some c) (hall:∀x,(x,NameKind.free)∈scope.names->∃c,cl.lookup x=some c)
  (T:Turn X.prog X.w X.K tg J fp it tn) (t2:tn 0 s2.heap) (f2:∀b∈fp,FpOk X pins H2 b)
  (hp:p=s2.heap.objs.size) (hs3:s3={s2 with heap:=s2.heap.push {cls:=.type "list",dict:=none,data:=.seq ([]:List Value).toArray}})
  (k1:∀b o,s3.heap.get? b=some o->h1.get? b=some o) {m:Str->Option Value} (hns:h1.Ns s3.heap.objs.size m):
  Inv (cxComp X N' scope cl s3.heap.objs.size s3 (upd H2 p (.lst [])) fp E) [] (capS σ caps ntg) (upd H2 p (.lst [])) {s3 with heap:=h1,toks:=tk}:=by
 have I3:Inv X pins σ (upd H2 p (.lst [])) s3:=by
  subst hp hs3;exact I2.lnew (ys:=[]) (its:=[]) (t':=s2.toks) .nil (Nat.zero_le _)
 have sz:s3.heap.objs.size=s2.heap.objs.size+1:=by subst hs3;exact Heap.size_push ..
 have fresh3:upd H2 p (.lst []) s3.heap.objs.size=none:=I3.hok.fresh (xN _);have inC:∀b o,s3.heap.get? b=some o->b≠s3.heap.objs.size:=λb o e=>yQ (xI e);have k0:∀b o,s2.heap.get? b=some o->s3.heap.get? b=some o:=λb o e=>by subst hs3;exact xH _ e
 have fpo:∀b∈fp,∃o,s2.heap.get? b=some o/\∀v,o.data≠.cell v:=T.obj _ _ t2;have fpp:∀b∈fp,b≠p:=λb hb=>by
  obtain⟨o,e,_⟩:=fpo b hb;subst hp;exact yQ (xI e)
 refine⟨⟨I3.ok.mod,Sc.kind,I3.ok.glob,I3.ok.blt,xN _,λx y c e1 e2=>I3.ok.inj x y c (hin _ _ e1) (hin _ _ e2),λx hx=>?_,λx c e _=>absurd e xF,I3.ok.hd,I3.ok.frames,.inl rfl,λb hb=>⟨?_,λx c e=>?_⟩,
  I3.bs,xU I3.ok.bsz I3.sz,λb o e hb=>?_,λb hb hf=>?_,I3.stack,I3.stkFree⟩,rfl,I3.bare,Un.kept k1,⟨m,hns,λi x v e1 e2 e3=>?_⟩,λx c e=>?_,fresh3,λx c e=>?_,λq hq=>absurd (show q∈([]:List (Addr×Obj)) from hq) (by simp),I3.hok.kept k1,?_⟩
 ·--every name of the block that is a cell or free has its cell
  have hx':(relabel scope X.env).names.lookup x=some .cell\/(relabel scope X.env).names.lookup x=some .free:=hx;have key:scope.names.lookup x=some .free:=by
   rcases hx' with q|q
   ·obtain⟨k',e1,e2⟩:=bV (env:=X.env) (names:=scope.names) q
    rcases e2 with e2|⟨e2,_⟩
    ·subst e2
     exact absurd rfl (Sc.ncell _ (zK e1))
    ·rw[e2] at e1;exact e1
   ·obtain⟨k',e1,e2⟩:=bV (env:=X.env) (names:=scope.names) q
    rcases e2 with e2|⟨e2,e3⟩
    ·subst e2;exact e1
    ·cases e3
  exact hall x (zK key)
 ·obtain⟨o,e,_⟩:=fpo b hb
  exact inC b o (k0 b o e)
 ·exact(f2 b hb).2.2.2.2.1 x c (hin x c e)
 ·obtain⟨_,_,_,h4,_⟩:=f2 b hb
  rcases h4 with h4|h4
  ·exact I2.ok.noex b o e h4
  ·exact absurd (yA (xI e) (xU I2.ok.bsz h4)) (yW _)
 ·obtain⟨_,h2,h3,_⟩:=f2 b hb
  rcases List.mem_cons.mp (I3.stkSub b hf) with z|z
  ·exact h2 z
  ·exact h3 z
 ·obtain⟨k,j,rfl,ej,ev⟩:=uA e2
  obtain⟨n1,n2⟩:=Sc.cap k j x ej e1;have hfr:X.env.kindOf x=some .cell\/X.env.kindOf x=some .free:=Sc.fre _ (zK n2) rfl;obtain⟨m0,hn0,hl0⟩:=I3.loc;obtain⟨u,ru,lk⟩:=hl0 j x v n1 ev (.inr hfr);refine⟨u,ru,.inr ⟨bO n2,?_⟩⟩;obtain⟨c,ec⟩:=hall x (zK n2);refine⟨c,ec,?_⟩;rcases lk with⟨kl,_⟩|⟨_,c',ec',q⟩
  ·rcases hfr with z|z<;>(rw[kl] at z;cases z)
  ·have:c'=c:=yN (ec'.symm.trans (hin x c ec))
   subst this;obtain⟨o,ho,hd⟩:=q;exact⟨o,k1 _ o ho,hd⟩
 ·obtain⟨v,o,ho,hd⟩:=I3.cell x c (hin x c e)
  exact⟨v,o,k1 _ o ho,hd⟩
 ·exact I3.freeC x c (hin x c e)
 ·unfold capS
  show _=N'.length;rw[xL,zL,xB,Sc.len]
theorem pY{Q:Addr->Hp->Prop}{RR:Value->Addr->Result->Shared->Prop}
  (hc:X.calm=true) (I2:Inv X pins σ H2 s2) (Sc:CompSc X N' caps ntg scope)
  (hin:∀x c,cl.lookup x=some c->X.env.cells.lookup x=some c) (hall:∀x,(x,NameKind.free)∈scope.names->∃c,cl.lookup x=some c)
  (T:Turn X.prog X.w X.K tg J fp it tn) (t2:tn 0 s2.heap) (f2:∀b∈fp,FpOk X pins H2 b)
  (hg:∀C s H,PG (cxComp X N' scope cl C s H fp λ_ _=>False) tg g) (ht:∀C s H,PTs (cxComp X N' scope cl C s H fp λ_ _=>False) ifs tc) (he:∀C s H,PE (cxComp X N' scope cl C s H fp λ_ _=>False) elt te)
  (q:∀p,H2 p=none->tCompL J g tc te (Q p) (capS σ caps ntg) p (upd H2 p (.lst [])))
  (hR:∀p C s' H' m,Inv X pins σ H' s'->H2 p=none->s'.heap.Ns C m->H' C=none->s2.heap.objs.size<C->Q p H'->RR (.ref p) C (.ok .next) s'):
  wpAny (model X.prog X.w) X.A (newList []) (λacc s₃=>wpAny (model X.prog X.w) X.A (newFunctionEnv scope X.env.globals cl [] X.env.qual none .none (some X.env)) (λcenv s₄=>
   codeAny (model X.prog X.w) X.A (.compStart (.ListComp elt [⟨tg,iter,ifs,0⟩] scope pos) 0 (.ref it) acc {cenv with scope:=relabel scope X.env}) (RR acc cenv.locals) s₄) X.xe s₃) X.xe s2:=by
 refine zO (wpAny_newFunctionEnv Sc.ncell (by intro y hy;simp at hy) (λh₁ hns₁ hsb₁=>?_) Sc.kind);dsimp only at hns₁ hsb₁⊢;generalize hs3:({s2 with heap:=s2.heap.push {cls:=.type "list",dict:=none,data:=.seq ([]:List Value).toArray}}:Shared)=s3;have e3:s2.heap.push {cls:=.type "list",dict:=none,data:=.seq ([]:List Value).toArray}=s3.heap:=by rw[←hs3]
 rw[e3] at hns₁ hsb₁⊢;have k1:∀b o,s3.heap.get? b=some o->h₁.get? b=some o:=λb o e=>hsb₁.extBut b o (yQ (xI e)) (xH _ e);have k0:∀b o,s2.heap.get? b=some o->s3.heap.get? b=some o:=λb o e=>by rw[←e3];exact xH _ e
 have sz:s3.heap.objs.size=s2.heap.objs.size+1:=by rw[←e3];exact Heap.size_push ..
 have os3:s3.os=s2.os:=by rw[←hs3]
 have hp0:H2 s2.heap.objs.size=none:=I2.hok.fresh (xN _);have IC:=iH (E:=λ_ _=>False) (tk:=s2.toks+([]:List (Str×Value)).length) (h1:=h₁) I2 Sc hin hall T t2 f2 rfl hs3.symm k1 hns₁;have est:({s2 with heap:=h₁,toks:=s2.toks+([]:List (Str×Value)).length}:Shared)={s3 with heap:=h₁,toks:=s2.toks+([]:List (Str×Value)).length}:=by rw[←hs3]
 rw[est];have T1:tn 0 h₁:=T.keep _ _ _ t2 λb _ o e=>k1 b o (k0 b o e);obtain⟨W,⟨m0,w0⟩,turn⟩:=q _ hp0;have I3:Inv X pins σ (upd H2 s2.heap.objs.size (.lst [])) s3:=by
  rw[←hs3];exact I2.lnew (ys:=[]) (its:=[]) (t':=s2.toks) .nil (Nat.zero_le _)
 have fp3:∀b∈fp,upd H2 s2.heap.objs.size (.lst []) b=none:=λb hb=>by
  obtain⟨o,e,_⟩:=T.obj _ _ t2 b hb;rw[aB (yQ (xI e))];exact(f2 b hb).1
 have fpC:∀b∈fp,b≠s3.heap.objs.size:=λb hb=>by
  obtain⟨o,e,_⟩:=T.obj _ _ t2 b hb;exact yQ (xI (k0 b o e))
 have stat:∀{H':Hp},(∀b∈fp,H' b=none)->∀b∈fp,FpOk (cxComp X N' scope cl s3.heap.objs.size s3 (upd H2 s2.heap.objs.size (.lst [])) fp λ_ _=>False) [] H' b:=λhn b hb=>
  ⟨hn b hb,fpC b hb,λz=>by
   rcases List.mem_cons.mp (I3.stkSub b z) with y|y
   ·exact(f2 b hb).2.1 y
   ·exact(f2 b hb).2.2.1 y,.inl hb,λx c e=>(f2 b hb).2.2.2.2.1 x c (hin x c e),λp hp=>absurd (show p∈([]:List (Addr×Obj)) from hp) (by simp)⟩
 have loop:codeAny (model X.prog X.w) X.A (.compLoop (.ListComp elt [⟨tg,iter,ifs,0⟩] scope pos) 0 (.ref it) (.ref s2.heap.objs.size) (compEnvC scope cl s3.heap.objs.size X.env)) (RR (.ref s2.heap.objs.size) s3.heap.objs.size)
   {s3 with heap:=h₁,toks:=s2.toks+([]:List (Str×Value)).length}:=by
  refine eQ (λn s'=>∃i σ' H',Inv (cxComp X N' scope cl s3.heap.objs.size s3 (upd H2 s2.heap.objs.size (.lst [])) fp λ_ _=>False) [] σ' H' s'/\tn i s'.heap/\(∀b∈fp,H' b=none)/\W i n σ' H') ?_ m0 ⟨0,_,_,IC,T1,fp3,w0⟩;rintro n s4 ⟨i,σ4,H4,I4,st4,fr4,w4⟩;rcases turn i n σ4 H4 w4 with⟨stop,qn⟩|⟨go,step⟩
  ·refine yG (T.done (cxComp X N' scope cl s3.heap.objs.size s3 (upd H2 s2.heap.objs.size (.lst [])) fp λ_ _=>False) rfl rfl rfl hc i [] s4 σ4 H4 (λ_ _=>False) I4 (stat fr4) st4 stop) (λr s5 qQ=>?_) λ_ _ z=>False.elim z
   obtain⟨hr,I5⟩:=qQ;subst hr;obtain⟨mm,hm,_⟩:=I5.loc;have u1:Un (frs X.stack) fp H2 (upd H2 s2.heap.objs.size (.lst [])) s2.heap s3.heap:=by
    rw[←e3];exact Un.laid (λb u e=>xH _ e) (xN _) hp0
   have u2:Un (frs X.stack) fp H2 H4 s2.heap s5.heap:=u1.trans I5.base;have I6:Inv X pins σ H4 s5:=I2.call' (ch:=fp) (I5.os.trans os3) u2 I5.hok I5.bare λb hb=>⟨(f2 b hb).2.2.2.1,(f2 b hb).2.1,(f2 b hb).2.2.2.2.1,(f2 b hb).2.2.2.2.2⟩
   exact hR _ _ s5 H4 mm I6 hp0 hm I5.free (by rw[sz];exact Nat.lt_succ_self _) qn
  ·refine yG (T.item (cxComp X N' scope cl s3.heap.objs.size s3 (upd H2 s2.heap.objs.size (.lst [])) fp λ_ _=>False) rfl rfl rfl hc i [] s4 σ4 H4 (λ_ _=>False) I4 (stat fr4) st4 go) (λr s5 qQ=>?_) λ_ _ z=>False.elim z
   obtain⟨u,hr,h5⟩:=qQ;subst hr;refine yG h5 (λ_ s6 qQ=>?_) λ_ _ z=>False.elim z;obtain⟨x,H6,I6,r6,y6,st6,fr6⟩:=qQ;have I6':=I6.pinned (stat fr6) (T.obj _ _ st6);have keepIt:∀{σ7:St}{H7:Hp}{s7:Shared},Inv (cxComp X N' scope cl s3.heap.objs.size s3 (upd H2 s2.heap.objs.size (.lst [])) fp λ_ _=>False) ([]++pinsAt fp s6.heap) σ7 H7 s7->tn (i+1) s7.heap/\∀b∈fp,H7 b=none:=λ{σ7 H7 s7} I7=>
    ⟨T.keep _ _ _ st6 λb hb o e=>(I7.pin (b,o) (xP _ (xP _ (bG hb e)))).1,λb hb=>by
     obtain⟨o,e,d⟩:=T.obj _ _ st6 b hb;exact(I7.pin (b,o) (xP _ (xP _ (bG hb e)))).2.1⟩
   refine yG (hg _ _ _ _ s6 σ4 H6 x u _ I6' r6 (step x H6 y6)) (λ_ s7 qQ=>?_) λ_ _ z=>False.elim z;obtain⟨σ7,H7,I7,q7⟩:=qQ;refine yG (ht _ _ _ _ s7 σ7 H7 _ I7 q7) (λb s8 qQ=>?_) λ_ _ z=>False.elim z;obtain⟨H8,I8,q8⟩:=qQ
   cases b with
   |true=>
    rw[xE rfl] at q8⊢;refine yG (he _ _ _ _ s8 σ7 H8 _ I8 q8) (λv s9 qQ=>?_) λ_ _ z=>False.elim z;obtain⟨y,H9,I9,r9,ys,m',hl,hz,hm,w9⟩:=qQ;refine yG (fH (X:=(cxComp X N' scope cl s3.heap.objs.size s3 (upd H2 s2.heap.objs.size (.lst [])) fp λ_ _=>False)) _ s9 σ7 H9 (.ref s2.heap.objs.size) [y] (.ref s2.heap.objs.size) [v] (λ_ H=>W (i+1) m' σ7 H) I9 rfl (.cons r9 .nil) ⟨_,ys,y,rfl,rfl,hl,hz,w9⟩) (λ_ s10 qQ=>?_) λ_ _ z=>False.elim z;obtain⟨_,H10,I10,_,w10⟩:=qQ;exact⟨m',hm,i+1,σ7,H10,I10.unpinned,(keepIt I10).1,(keepIt I10).2,w10⟩
   |false=>
    rw[xC xF] at q8⊢;obtain⟨m',hm,w8⟩:=q8;exact⟨m',hm,i+1,σ7,H8,I8.unpinned,(keepIt I8).1,(keepIt I8).2,w8⟩
 exact codeAny_compStart_list loop (T.self _ _ _ _ _ T1 loop)
theorem pe_comp(hc:X.calm=true)(hi:PI X tg iter wi)(Sc:CompSc X N' caps ntg scope)
  (hg:∀cl C s H fp,PG (cxComp X N' scope cl C s H fp λ_ _=>False) tg g) (ht:∀cl C s H fp,PTs (cxComp X N' scope cl C s H fp λ_ _=>False) ifs tc) (he:∀cl C s H fp,PE (cxComp X N' scope cl C s H fp λ_ _=>False) elt te)
  (hs:∀x,foldedSetIterable iter X.env x=pure x):PE X (.ListComp elt [⟨tg,iter,ifs,0⟩] scope pos) (tComp wi g tc te caps ntg):=by
 intro pins s σ H Q I h;rw[eval_ListComp];obtain⟨cl,hcl,hin,hall⟩:=dZ I.ok Sc;refine wpAny_comprehension_free (use:=none) rfl hs hcl Sc.kind Sc.loc (thn (hi pins s σ H _ I h) λv s1 h1=>thn h1 λitv s2 h2=>?_);obtain⟨it,fp,tn,J,H2,rfl,I2,T,t2,f2,q2⟩:=h2;refine pY (RR:=λacc C=>compPost (model X.prog X.w) X.A X.xe none (EP X pins σ Q) acc C) (Q:=λp H'=>Q (.ref p) H') hc I2 Sc hin hall T t2 f2 (λC s H=>hg cl C s H fp) (λC s H=>ht cl C s H fp) (λC s H=>he cl C s H fp) q2 ?_;intro p C s' H' m I' hp hm hC hlt hq;refine⟨m,hm,λh' sb=>⟨.ref p,H',?_,rfl,hq⟩⟩;refine I'.turned (t':=s'.toks) (it:=C) (λb o hb e=>sb.extBut b o hb e) hC (zM (zZ I2.lt hlt)) (.inr (Nat.le_of_lt (yK I2.sz hlt))) (λx c e z=>?_) λq hq z=>?_
 ·obtain⟨v,w⟩:=I2.cell x c e
  exact absurd (zZ w.lt (by rw[z];exact hlt)) (yW _)
 ·exact absurd (zZ (xI (I2.pin q hq).1) (by rw[z];exact hlt)) (yW _)
theorem mH(hN:X.N.Nodup)(hy:X.N[i]?=some y)(hx:Loc X.env.scope y)
  (hf:X.fn y=true\/X.env.scope.names.lookup y=some .local)
  (hsw:swapsWith (.ListComp elt [⟨tg,iter,ifs,0⟩] scope pos) (some (.Name y py)) spos.line X.env=pure true)
  (hc:X.calm=true) (hi:PI X tg iter wi) (Sc:CompSc X N' caps ntg scope)
  (hg:∀cl C s H fp,PG (cxComp X N' scope cl C s H fp λ_ _=>False) tg g) (ht:∀cl C s H fp,PTs (cxComp X N' scope cl C s H fp λ_ _=>False) ifs tc) (he:∀cl C s H fp,PE (cxComp X N' scope cl C s H fp λ_ _=>False) elt te)
  (hs:∀x,foldedSetIterable iter X.env x=pure x):PS X (.Assign [.Name y py] (.ListComp elt [⟨tg,iter,ifs,0⟩] scope pos) spos) (tAsg (tComp wi g tc te caps ntg) (gName i)):=by
 intro pins s σ H D I h;rw[exec_Assign_Name_used _ _ _ _ hsw];refine xA (wpAny_standAt (xA ?_));show wpAny _ X.A (do let _←comprehension (.ListComp elt [⟨tg,iter,ifs,0⟩] scope pos) scope X.env _ (newList []) false (eval iter X.env) (some (assign (.Name y py) X.env))) _ _ s;obtain⟨cl,hcl,hin,hall⟩:=dZ I.ok Sc;refine xA (yG (wpAny_comprehension_free (use:=some (assign (.Name y py) X.env)) (Q:=λ_ s'=>SP X pins D .next s') rfl hs hcl Sc.kind Sc.loc
  (thn (hi pins s σ H _ I h) λv s1 h1=>thn h1 λitv s2 h2=>?_)) (λ_ s' hq=>xX (xX hq)) λ_ _ e=>e)
 obtain⟨it,fp,tn,J,H2,rfl,I2,T,t2,f2,q2⟩:=h2;refine pY (RR:=λacc C=>compPost (model X.prog X.w) X.A X.xe (some (assign (.Name y py) X.env)) (λ_ s'=>SP X pins D .next s') acc C) (Q:=λp H'=>D.nx (σ.set i (some (.ref p))) H') hc I2 Sc hin hall T t2 f2
  (λC s H=>hg cl C s H fp) (λC s H=>ht cl C s H fp) (λC s H=>he cl C s H fp) q2 ?_
 intro p C s' H' m I' hp hm hC hlt hq;have hLC:C≠X.env.locals:=zM (zZ I2.lt hlt);have hCc:∀x c,X.env.cells.lookup x=some c->c≠C:=λx c e z=>by
  obtain⟨v,w⟩:=I2.cell x c e;exact absurd (zZ w.lt (by rw[z];exact hlt)) (yW _)
 have hCp:∀q∈X.pn++pins,q.1≠C:=λq hq z=>absurd (zZ (xI (I2.pin q hq).1) (by rw[z];exact hlt)) (yW _);have hCs:X.s₀.heap.objs.size<=C:=Nat.le_of_lt (yK I2.sz hlt);obtain⟨oC,es,ep,ho,hd,r⟩:=id hm;have I'':Inv X (pins++[(C,oC)]) σ H' s':=I'.pins_of λq hq=>by
  rcases List.mem_append.mp hq with z|z
  ·exact I'.pin q (xP _ z)
  ·have:q=(C,oC):=by simpa using z
   subst this;exact⟨ho,hC,hLC,I2.nofs (Nat.le_of_lt hlt),λv z=>by rw[hd] at z;cases z⟩
 show wpAny _ X.A (assign (.Name y py) X.env (.ref p)) _ _ s';refine thn (eK hN hy hx hf (pins++[(C,oC)]) s' σ H' (.ref p) (.ref p) _ I'' rfl hq) λ_ s8 qQ=>?_;obtain⟨σ8,H8,I8,q8⟩:=qQ;have hC8:=(I8.pin (C,oC) (xP _ (xP _ (by simp))))
 refine⟨m,⟨oC,es,ep,hC8.1,hd,r⟩,λh' sb=>⟨σ8,H8,?_,q8⟩⟩;exact(I8.unpinned).turned (t':=s8.toks) (it:=C) (λb o hb e=>sb.extBut b o hb e) hC8.2.1 hLC (.inr hCs) hCc hCp
end
end L2
namespace PySem
open Sem (wp)
open AutoSeq1 (wpAny_loadPart')
theorem dW(l:Addr)(items:Array Value)(n:Nat)(dct:Option Addr)(sl:Array (Option Value)):
  Meets (Builtin.«enumerate.__new__» ⟨[.type "enumerate",.ref l],[]⟩) (λ_ R s=>s.heap.get? l=some {cls:=.type "tuple",dict:=dct,data:=.seq items n,slots:=sl}/\
   R (.ok (.ret (.ref (s.heap.push {cls:=.type "tuple_iterator",data:=.fields #[.ref l,.int 0 0]}).objs.size)))
    {s with heap:=(s.heap.push {cls:=.type "tuple_iterator",data:=.fields #[.ref l,.int 0 0]}).push {cls:=.type "enumerate",data:=.fields #[.none,.bool false,.ref s.heap.objs.size,rawInt 0,.none,.none]}}):=
 .of_wp λprog w A R s h=>by
  obtain⟨hp,g,d,tk,os⟩:=s;obtain⟨hl,h⟩:=h;have hsub:=sub_enumerate;have hT:Heap.IsTuple (Shared.heap ⟨hp,g,d,tk,os⟩) l items:=⟨_,hl,rfl,n,rfl⟩
  wp_walk using wpAny_loadPart' hl
  refine wpAny_stack_any λst=>xX ?_;split
  ·rename_i c _ _ _ _ _
   cases (c==Value.type "enumerate")
   ·wp_walk using wpAny_loadPart' hl,wpAny_pyIter_tuple hT
    exact⟨_,rfl,h⟩
   ·wp_walk using wpAny_loadPart' hl,wpAny_pyIter_tuple hT
    exact⟨_,rfl,h⟩
  ·wp_walk using wpAny_loadPart' hl,wpAny_pyIter_tuple hT
   exact⟨_,rfl,h⟩
section
variable{prog:Program}{w:World}{A:Around}{E:Value->Shared->Prop}{s:Shared}
theorem d6(hL:s.heap.IsTuple l items)
  (h:∀h',IsEnum h' (s.heap.objs.size+1) s.heap.objs.size 0 .none->h'.IsTupleIter s.heap.objs.size l 0->h'.objs.size=s.heap.objs.size+2->
   (∀b o,s.heap.get? b=some o->h'.get? b=some o)->Q (.ref (s.heap.objs.size+1)) {s with heap:=h'}):
  wpAny (model prog w) A (call (.type "enumerate") [.ref l]) Q E s:=by
 obtain⟨⟨c,dct,dt,sl⟩,hl,hc,n,hd⟩:=hL;replace hc:c=.type "tuple":=hc;replace hd:dt=.seq items n:=hd;subst hc hd;refine callType_new F.called_enumerate (by decide) (F.typeCall_enumerate_1 _) (F.newCall_enumerate_1 _) (λobj=>F.args_object_init_2 obj _) F.entry_enumerate_new
  (dW l items n dct sl) ⟨hl,?_⟩
 have hz:(s.heap.push {cls:=.type "tuple_iterator",data:=.fields #[.ref l,.int 0 0]}).objs.size=s.heap.objs.size+1:=Heap.size_push ..;show _/\_;rw[hz];have he:IsEnum ((s.heap.push {cls:=.type "tuple_iterator",data:=.fields #[.ref l,.int 0 0]}).push
   {cls:=.type "enumerate",data:=.fields #[.none,.bool false,.ref s.heap.objs.size,rawInt 0,.none,.none]}) (s.heap.objs.size+1) s.heap.objs.size 0 .none:=by
  have:=yU (s.heap.push {cls:=.type "tuple_iterator",data:=.fields #[.ref l,.int 0 0]})
   (o:={cls:=.type "enumerate",data:=.fields #[.none,.bool false,.ref s.heap.objs.size,rawInt 0,.none,.none]}) rfl
  rw[hz] at this;exact this
 refine⟨⟨_,he,rfl⟩,h _ he ⟨_,xH _ (yU _ rfl),rfl,rfl⟩ (by rw[Heap.size_push,hz]) λb o x=>xH _ (xH _ x)⟩
theorem gW{items}(hit:s.heap.IsTupleIter it t i)
  (ht:s.heap.IsTuple t items) (hx:items[i]?=some x)
  (hQ:∀h',h'.IsTupleIter it t (i+1)->Heap.SameBut it s.heap h'->Q x {s with heap:=h'}):
  wpAny (model prog w) A (Builtin.SmallTypes.nextOf (.ref it)) Q E s:=by
 obtain⟨o,ho,hc,hd⟩:=id hit;obtain⟨ol,hol,_,nl,hdl⟩:=ht;unfold Builtin.SmallTypes.nextOf;refine xA (wpAny_callSpecial?_slot (name:=Str.ofString "__next__") hit.typeIs F.slot_tuple_iterator_next
  (wpAny_call_entry F.slot_tuple_iterator_next hit.typeIs F.entry_tuple_iterator_next ?_ (F.args_tuple_iterator_next_1 _)))
 show wpAny _ _ (field (.ref it) 0>>=_) _ _ s;refine xA (yO ho hd (x:=.ref t) rfl ?_);show wpAny _ _ (if(Value.ref t==Value.none)=true then _ else _) _ _ s;rw[xC (show¬((Value.ref t==Value.none)=true) from xF)];show wpAny _ _ (field (.ref it) 1>>=_) _ _ s;refine xA (yO ho hd (x:=.int i 0) rfl ?_);show wpAny _ _ (seqItems? (.ref t)>>=_) _ _ s;refine xA (wpAny_seqItems hol hdl ?_);simp only[yE,hx];refine xA (wpAny_setField ho hd (by simp) (xX ⟨x,rfl,xX (hQ _ ?_ (Heap.SameBut.update ..))⟩));exact⟨_,yH _ ho (yR (yT hd _)),(Obj.cls_mapFields ..).trans hc,by
  rw[yT hd];simp[rawInt]⟩
theorem iI{it t:Addr}{i:Nat}{items}{Q:Value->Shared->Prop}(hh:A.handled=none)
  (hit:s.heap.IsTupleIter it t i) (ht:s.heap.IsTuple t items) (hx:items[i]?=none)
  (hE:∀h' e,Heap.ExtBut it s.heap h'->(∃o,h'.get? e=some o/\o.cls=.type "StopIteration")->E (.ref e) {s with heap:=h'}):
  wpAny (model prog w) A (Builtin.SmallTypes.nextOf (.ref it)) Q E s:=by
 obtain⟨o,ho,hc,hd⟩:=id hit;obtain⟨ol,hol,_,nl,hdl⟩:=ht;unfold Builtin.SmallTypes.nextOf;refine xA (wpAny_callSpecial?_slot (name:=Str.ofString "__next__") hit.typeIs F.slot_tuple_iterator_next
  (wpAny_call_entry F.slot_tuple_iterator_next hit.typeIs F.entry_tuple_iterator_next ?_ (F.args_tuple_iterator_next_1 _)))
 show wpAny _ _ (field (.ref it) 0>>=_) _ _ s;refine xA (yO ho hd (x:=.ref t) rfl ?_);show wpAny _ _ (if(Value.ref t==Value.none)=true then _ else _) _ _ s;rw[xC (show¬((Value.ref t==Value.none)=true) from xF)];show wpAny _ _ (field (.ref it) 1>>=_) _ _ s;refine xA (yO ho hd (x:=.int i 0) rfl ?_);show wpAny _ _ (seqItems? (.ref t)>>=_) _ _ s;refine xA (wpAny_seqItems hol hdl ?_);simp only[yE,hx];refine xA (wpAny_rule (xA (wpAny_setField ho hd (by simp) ?_)));show wpAny _ _ (newExc (.type "StopIteration") []>>=_) _ _ _;refine xA ?_;simp only[newExc,newTuple];refine xA (zO ?_ (by size_fits));refine xA (m:=firstArgMember _ _) (wpAny_of_eq (a:=Value.none) (by first|rfl|(simp only[firstArgMember];rfl)) ?_);refine zO ?_ (by size_fits);simp only[raiseNew];refine xA (wpAny_handled ?_)
 first|rw[show A.in1.handled=none from hh]|rw[hh]
 refine xA (xX (wpAny_throw ?_));exact hE _ _ (((Heap.SameBut.update ..).extBut.push _).push _) ⟨_,yU _ rfl,rfl⟩
theorem jQ{i:Nat}{Q:Value->Shared->Prop}
  (he:IsEnum s.heap e it i old) (hit:s.heap.IsTupleIter it l i) (hl:s.heap.IsTuple l items) (hx:items[i]?=some x) (hne:e≠it)
  (hQ:∀h',IsEnumOut h' e it ((i:Int)+1) x s.heap.objs.size->h'.IsTupleIter it l (i+1)->
   h'.get? s.heap.objs.size=some {cls:=.type "tuple",data:=.seq #[.int i s.toks,x]}->h'.objs.size=s.heap.objs.size+1->
   (∀b o,b≠e->b≠it->s.heap.get? b=some o->h'.get? b=some o)->Q (.ref s.heap.objs.size) {s with heap:=h',toks:=s.toks+1}):
  wpAny (model prog w) A (Builtin.«enumerate.__next__» ⟨[.ref e],[]⟩) (λfin s'=>∃v,fin=.done (.ret v)/\Q v s') E s:=by
 obtain⟨hp,g,d,tk,os⟩:=s;show wpAny _ _ (field (.ref e) 2>>=_) _ _ _;refine xA (yO he rfl (x:=.ref it) rfl ?_);refine xA (gW hit hl hx λh₁ hit₁ hs₁=>?_);replace hs₁:Heap.SameBut it hp h₁:=hs₁;have he₁:IsEnum h₁ e it i old:=(hs₁.2 e hne).trans he;show wpAny _ _ (field (.ref e) 3>>=_) _ _ ⟨h₁,g,d,tk,os⟩;refine xA (yO he₁ rfl (x:=rawInt i) rfl ?_);show wpAny _ _ (field (.ref e) 4>>=_) _ _ ⟨h₁,g,d,tk,os⟩;refine xA (yO he₁ rfl (x:=.none) rfl ?_);show wpAny _ _ (mkInt i>>=_) _ _ ⟨h₁,g,d,tk,os⟩;refine xA (wpAny_mkInt ?_);show wpAny _ _ (setField (.ref e) 3 (rawInt ((i:Int)+1))>>=_) _ _ ⟨h₁,g,d,tk+1,os⟩;refine xA (wpAny_setField_rec he₁ (by simp) λh₂ he₂ hs₂=>?_);replace hs₂:Heap.SameBut e h₁ h₂:=hs₂;replace he₂:IsEnum h₂ e it ((i:Int)+1) old:=he₂;show wpAny _ _ (setField (.ref e) 4 .none>>=_) _ _ ⟨h₂,g,d,tk+1,os⟩;refine xA (wpAny_setField_rec he₂ (by simp) λh₃ he₃ hs₃=>?_);replace hs₃:Heap.SameBut e h₂ h₃:=hs₃;replace he₃:IsEnum h₃ e it ((i:Int)+1) old:=he₃;show wpAny _ _ (newTuple [.int i tk,x]>>=_) _ _ ⟨h₃,g,d,tk+1,os⟩;refine xA (wpAny_newTuple ?_);have he₄:IsEnum (h₃.push {cls:=.type "tuple",data:=.seq #[.int i tk,x]}) e it ((i:Int)+1) old:=xH _ he₃;generalize hh₄:h₃.push {cls:=.type "tuple",data:=.seq #[.int i tk,x]}=h₄ at he₄;have hsz:h₃.objs.size=hp.objs.size:=by rw[hs₃.1,hs₂.1,hs₁.1]
 have hel:e<hp.objs.size:=xI he;have ht₄:h₄.get? hp.objs.size=some {cls:=.type "tuple",data:=.seq #[.int i tk,x]}:=by rw[←hh₄,←hsz];exact yU _ rfl
 have hz₄:h₄.objs.size=hp.objs.size+1:=by rw[←hh₄,Heap.size_push,hsz]
 have hk₄:∀b o,b≠e->b≠it->hp.get? b=some o->h₄.get? b=some o:=λb o hbe hbi hb=>by
  rw[←hh₄];exact xH _ (hs₃.extBut b o hbe (hs₂.extBut b o hbe (hs₁.extBut b o hbi hb)))
 have hit₄:h₄.IsTupleIter it l (i+1):=by
  rw[←hh₄];obtain⟨o,ho,r⟩:=(hit₁.extBut hs₂.extBut (yI hne)).extBut hs₃.extBut (yI hne);exact⟨o,xH _ ho,r⟩
 show wpAny _ _ (Builtin.SmallTypes.ownedTupleIsFree (.ref e)>>=_) _ _ ⟨h₄,g,d,tk+1,os⟩;rw[hsz];clear hh₄ he₃ hs₃ he₂ hs₂ he₁ hs₁ hit₁ hsz h₃ h₂ h₁;refine xA ?_
 ·unfold Builtin.SmallTypes.ownedTupleIsFree
  refine xA (yO he₄ rfl (x:=.none) rfl (xX ?_));simp only[xD];refine xA (wpAny_rule ?_);refine xA (yO he₄ rfl (x:=old) rfl ?_);refine xA (wpAny_setField_rec he₄ (by simp) λh₅ he₅ hs₅=>?_);replace hs₅:Heap.SameBut e h₄ h₅:=hs₅;replace he₅:IsEnum h₅ e it ((i:Int)+1) x:=he₅;show wpAny _ _ (Builtin.SmallTypes.ownedTupleHandOut (.ref e) (.ref hp.objs.size)>>=_) _ _ ⟨h₅,g,d,tk+1,os⟩;refine xA ?_
  ·unfold Builtin.SmallTypes.ownedTupleHandOut
   refine xA (wpAny_setField_rec he₅ (by simp) λh₆ he₆ hs₆=>?_);replace hs₆:Heap.SameBut e h₅ h₆:=hs₆;replace he₆:IsEnumOut h₆ e it ((i:Int)+1) x hp.objs.size:=he₆;refine wpAny_setField_rec he₆ (by simp) λh₇ he₇ hs₇=>?_;replace hs₇:Heap.SameBut e h₆ h₇:=hs₇;replace he₇:IsEnumOut h₇ e it ((i:Int)+1) x hp.objs.size:=he₇;refine xA (wpAny_letGo (xX ⟨_,rfl,hQ h₇ he₇ ?_ ?_ ?_ ?_⟩))
   ·exact((hit₄.extBut hs₅.extBut (yI hne)).extBut hs₆.extBut (yI hne)).extBut hs₇.extBut (yI hne)
   ·exact hs₇.extBut _ _ (zM hel) (hs₆.extBut _ _ (zM hel) (hs₅.extBut _ _ (zM hel) ht₄))
   ·rw[hs₇.1,hs₆.1,hs₅.1,hz₄]
   ·exact λb o hbe hbi hb=>hs₇.extBut b o hbe (hs₆.extBut b o hbe (hs₅.extBut b o hbe (hk₄ b o hbe hbi hb)))
theorem gX{e it l:Addr}{i:Nat}{items:Array Value}{x old:Value}{Q:Option Value->Shared->Prop}
  (he:IsEnum s.heap e it i old) (hit:s.heap.IsTupleIter it l i) (hl:s.heap.IsTuple l items) (hx:items[i]?=some x) (hne:e≠it)
  (hQ:∀h',IsEnumOut h' e it ((i:Int)+1) x s.heap.objs.size->h'.IsTupleIter it l (i+1)->
   h'.get? s.heap.objs.size=some {cls:=.type "tuple",data:=.seq #[.int i s.toks,x]}->h'.objs.size=s.heap.objs.size+1->
   (∀b o,b≠e->b≠it->s.heap.get? b=some o->h'.get? b=some o)->Q (some (.ref s.heap.objs.size)) {s with heap:=h',toks:=s.toks+1}):
  wpAny (model prog w) A (pyNext (.ref e)) Q E s:=by
 have hT:s.TypeIs (.ref e) "enumerate":=⟨_,he,rfl⟩
 unfold pyNext;exact xA (wpAny_attempt (wpAny_callSpecial?_slot (name:=Str.ofString "__next__") hT F.slot_enumerate_next
  (wpAny_call_entry F.slot_enumerate_next hT F.entry_enumerate_next
   (jQ he hit hl hx hne λh' a b c d k=>xX (hQ h' a b c d k)) (F.args_enumerate_next_1 _))))
theorem dX{i:Nat}(hh:A.handled=none)
  (he:IsEnum s.heap e it i old) (hit:s.heap.IsTupleIter it l i) (hl:s.heap.IsTuple l items) (hx:items[i]?=none)
  (hQ:∀h',Heap.ExtBut it s.heap h'->Q none {s with heap:=h'}):wpAny (model prog w) A (pyNext (.ref e)) Q E s:=by
 have hT:s.TypeIs (.ref e) "enumerate":=⟨_,he,rfl⟩
 unfold pyNext;refine xA (wpAny_attempt (wpAny_callSpecial?_slot (name:=Str.ofString "__next__") hT F.slot_enumerate_next
  (wpAny_call_entry F.slot_enumerate_next hT F.entry_enumerate_next ?_ (F.args_enumerate_next_1 _))))
 show wpAny _ _ (field (.ref e) 2>>=_) _ _ _;refine xA (yO he rfl (x:=.ref it) rfl ?_);refine xA (iI hh hit hl hx λh' x he' hx'=>?_);obtain⟨o,ho,hc⟩:=hx';refine xA (wpAny_isInstance (T:="StopIteration") (b:=true) ⟨o,ho,hc⟩ isSubtype_stop ?_);exact xX (hQ _ he')
end
end PySem
namespace L2
open PySem PySem.Spec PyProof.Rows
def Ite(K:PySem.W.Frag)(a:Addr):It:=
 ⟨λi H=>∃xs x,SqT K H a xs/\xs[i]?=some x,λi H v H'=>∃t x,H t=none/\v=.ref t/\H'=upd H t (.tup [.int i,x])/\∀xs,SqT K H a xs->xs[i]?=some x,λi H=>∃xs,SqT K H a xs/\xs.length<=i⟩
theorem rV{P:Program}{w:World}{K:PySem.W.Frag}{elts:List Expr}{k:Nat}{pos:Pos}(a e it:Addr)(hne:e≠it):
  Turn P w K (.Tuple elts k pos) (Ite K a) [e,it] e (λi h=>(∃old,IsEnum h e it (i:Int) old)/\h.IsTupleIter it a i) where
 mem:=by simp
 obj:=λi h st b hb=>by
  obtain⟨⟨old,he⟩,o,ho,c,d⟩:=st;rcases List.mem_cons.mp hb with z|z
  ·subst z
   exact⟨_,he,λv z=>by cases (show Data.fields _=Data.cell v from z)⟩
  ·have z:b=it:=by simpa using z
   subst z;exact⟨o,ho,λv z=>by rw[d] at z;cases z⟩
 keep:=λi h h' st kp=>by
  obtain⟨⟨old,he⟩,o,ho,c,d⟩:=st;exact⟨⟨old,kp e (by simp) _ he⟩,o,kp it (by simp) o ho,c,d⟩
 item:=by
  intro X hP hw hK hc i pins s σ H E I hf st hg;subst hP hw hK;obtain⟨⟨old,he⟩,hit⟩:=st;obtain⟨xs,x,hq,hx⟩:=hg;obtain⟨its,rv,p,hz⟩:=I.tuple hq;obtain⟨u,hu,ru⟩:=rv.get hx;obtain⟨e0,e1,e2,e3,e4,e5⟩:=hf e (by simp);obtain⟨i0,i1,i2,i3,i4,i5⟩:=hf it (by simp);refine gX he hit (show s.heap.IsTuple a its.toArray from p) (x:=u) (by simpa using hu) hne λh' heo hit' hnew hsz kk=>?_;refine⟨_,rfl,?_⟩;refine wpAny_letOwnedTupleGo_enum (s:={s with heap:=h',toks:=s.toks+1}) heo λh2 he2 sb=>?_;have hnew2:h2.get? s.heap.objs.size=some {cls:=.type "tuple",data:=.seq #[.int i s.toks,u]}:=sb.extBut _ _ (zM (xI he)) hnew;have hfr:H s.heap.objs.size=none:=I.hok.fresh (xN _);have kk2:∀b o,b≠e->b≠it->s.heap.get? b=some o->h2.get? b=some o:=λb o h1 h2 h3=>sb.extBut b o h1 (kk b o h1 h2 h3);have hit2:h2.IsTupleIter it a (i+1):=hit'.extBut sb.extBut (yI hne);have ch:∀b∈[e,it],(b∈X.ex\/X.s₀.heap.objs.size<=b)/\b≠X.env.locals/\(∀x c,X.env.cells.lookup x=some c->c≠b)/\∀p∈X.pn++pins,p.1≠b:=λb hb=>⟨(hf b hb).2.2.2.1,(hf b hb).2.1,(hf b hb).2.2.2.2.1,(hf b hb).2.2.2.2.2⟩
  have nb:∀b o,b∉[e,it]->s.heap.get? b=some o->h2.get? b=some o:=λb o hb q=>kk2 b o (λz=>hb (by simp[z])) (λz=>hb (by simp[z])) q;have ne_t:∀b u,H b=some u->b≠s.heap.objs.size:=λb u z=>by intro y;rw[y,hfr] at z;cases z
  have u1:Un (frs X.stack) [e,it] H (upd H s.heap.objs.size (.tup [.int i,x])) s.heap h2:=by
   refine⟨λb o q n _ hb=>nb b o hb q,λb o q n _ hb=>⟨o.slots,nb b o hb q⟩,λb o q n hb=>?_,λb o q hb=>⟨o,nb b o hb q⟩,λb ys q=>?_,λb o u q=>?_,λb ps q=>⟨#[],?_⟩⟩
   ·rw[aB (yQ (xI q))];exact n
   ·rw[aB (ne_t b _ q)];exact q
   ·rw[aB (ne_t b _ q)];exact q
   ·rw[aB (ne_t b _ q),q];simp
  have nfp:∀b u,H b=some u->b∉[e,it]:=λb u q hb=>by
   rcases List.mem_cons.mp hb with z|z
   ·rw[z,e0] at q;cases q
   ·have z:b=it:=by simpa using z
    rw[z,i0] at q;cases q
  have hok:HOk X.prog X.w (upd H s.heap.objs.size (.tup [.int i,x])) h2:=by
   intro b u q;by_cases hb:b=s.heap.objs.size
   ·subst hb
    rw[aE] at q;cases q;exact⟨by show 2<=sizeLine;decide,[.int i s.toks,u],.cons ⟨_,rfl⟩ (.cons ru .nil),_,hnew2,rfl,_,rfl⟩
   ·rw[aB hb] at q
    refine(I.hok b u q).stay (λc v hc r=>nb c v ?_ r) (λc r=>by rw[aB (ne_t c _ r)];exact r) λc ys r=>by rw[aB (ne_t c _ r)];exact r
    rcases hc with z|z
    ·rw[z];exact nfp b u q
    ·exact nfp c _ z
  have I2:Inv X pins σ (upd H s.heap.objs.size (.tup [.int i,x])) {s with heap:=h2,toks:=s.toks+1}:=I.call (g':=s.gens) (d':=s.drawn) (t':=s.toks+1) (ch:=[e,it]) u1 hok I.bare ch;refine⟨.ref s.heap.objs.size,_,I2,rfl,⟨_,x,hfr,rfl,rfl,λys hy=>by rw[I.tuple_inj hy hq];exact hx⟩,⟨⟨u,?_⟩,hit2⟩,λb hb=>?_⟩
  ·have:=he2
   rw[show((i:Int)+1)=((i+1:Nat):Int) by omega] at this;exact this
  ·have hlt:b<s.heap.objs.size:=by
    rcases List.mem_cons.mp hb with z|z
    ·rw[z];exact xI he
    ·have z:b=it:=by simpa using z
     rw[z];obtain⟨o,ho,_⟩:=hit;exact xI ho
   rw[aB (yQ hlt)];exact(hf b hb).1
 done:=by
  intro X hP hw hK hc i pins s σ H E I hf st hg;subst hP hw hK;obtain⟨⟨old,he⟩,hit⟩:=st;obtain⟨xs,hq,hx⟩:=hg;obtain⟨its,rv,p,hz⟩:=I.tuple hq;obtain⟨i0,i1,i2,i3,i4,i5⟩:=hf it (by simp);have hl:=rv.length;exact dX (I.ok.hd hc) he hit (show s.heap.IsTuple a its.toArray from p) (by simp;omega) λh' eb=>⟨rfl,I.turned (t':=s.toks) (λb o hb e=>eb b o hb e) i0 i1 i3 i4 i5⟩
 self:=λ_ _ _ _ _ st h=>by
  obtain⟨⟨old,he⟩,_⟩:=st;exact wpAny_pyIter_enum he h
theorem rW:bootBuiltins "enumerate"=some (.type "enumerate"):=by first|exact PySem.boot_enumerate|rfl|decide+kernel
def iEnum(K:PySem.W.Frag)(ta:TA):TI:=λσ H R=>ta σ H λvs H1=>∃a,vs=[.ref a]/\(∃xs,SqT K H1 a xs)/\R (Ite K a) H1
theorem pi_enum(hg:Gl X "enumerate")(hm:X.mg "enumerate"=none)(ha:PA X [l] ta)(hs:starEach [l] X.env=[(false,eval l X.env)]):
  PI X (.Tuple elts k tpos) (.Call (.Name "enumerate" p) [l] [] pos) (iEnum X.K ta):=by
 intro pins s σ H R I h;refine Call_ (fG I hg hm rW (PyProof.Rows.callWith_type1 (thn (ha pos pins s σ H _ I h) λus s1 qQ=>?_) hs rfl));obtain⟨vs,H1,I1,r1,q1⟩:=qQ;obtain⟨a,e,⟨xs,hq⟩,q⟩:=q1;subst e
 cases r1 with
 |cons r rr=>
  cases rr;cases r;obtain⟨its,rv,pt,hz⟩:=I1.tuple hq;refine d6 (show s1.heap.IsTuple a its.toArray from pt) λh' he hit hsz kk=>?_;refine wpAny_pyIter_enum (s:={s1 with heap:=h'}) he ?_;have I2:Inv X pins σ H1 {s1 with heap:=h'}:=I1.kept (t':=s1.toks) kk;refine⟨s1.heap.objs.size+1,[s1.heap.objs.size+1,s1.heap.objs.size],_,_,H1,rfl,I2,rV a _ _ (zM (Nat.lt_succ_self _)),⟨⟨_,he⟩,hit⟩,λb hb=>?_,q⟩;have hle:s1.heap.objs.size<=b:=by
   rcases List.mem_cons.mp hb with z|z
   ·rw[z];exact Nat.le_succ _
   ·have z:b=s1.heap.objs.size:=by simpa using z
    rw[z];exact xN _
  exact I1.fpOk hle (I1.hok.fresh hle)
theorem uB{ws:List Value}(ht:IsTup s.heap t ([]:List Value).toArray)(hb:IsTup s.heap b ws.toArray)
  (h:Q (.ref b) s):wpAny (model prog w) A (binaryOp .Add (.ref t) (.ref b)) Q E s:=by
 obtain⟨⟨cls,dd,data,sl⟩,ho,hc,n,hd⟩:=id ht;obtain⟨⟨cls2,dd2,data2,sl2⟩,ho2,hc2,n2,hd2⟩:=id hb;simp only at hc hd hc2 hd2;subst hc hd hc2 hd2;exact concat_meets ⟨_,ho,rfl⟩ ⟨_,ho2,rfl⟩ noFill_tuple_add seq_tuple_add PySem.F.slot_tuple_add PySem.F.entry_tuple_add (PySem.F.args_tuple_add_2 _ _)
   (tuple_addW0 t b ([]:List Value).toArray ws.toArray n n2 dd dd2 sl sl2 (by simp)) ⟨ho,ho2,h⟩
def rCatTW(K:PySem.W.Frag):R2:=λx y H Q=>∃a b xs ys,x=.ref a/\y=.ref b/\SqT K H a xs/\SqT K H b ys/\xs.length+ys.length<=sizeLine/\
 (xs=[]->Q (.ref b) H)/\(xs≠[]->ys=[]->Q (.ref a) H)/\(xs≠[]->ys≠[]->∀p,H p=none->Q (.ref p) (upd H p (.tup (xs++ys))))
theorem uC:OpR X (binaryOp .Add) (rCatTW X.K):=by
 intro pins s σ H x y v u Q I rx ry h;obtain⟨a,b,xs,ys,rfl,rfl,ha,hb,hz,q0,q1,q2⟩:=h;by_cases hx:xs=[]
 ·cases rx
  cases ry;obtain⟨its,r1,p1,_⟩:=I.tuple ha;obtain⟨its2,r2,p2,_⟩:=I.tuple hb;have e:its=[]:=r1.nil_iff.mpr hx;subst e;exact uB p1 p2 ⟨.ref b,H,I,rfl,q0 hx⟩
 ·exact op_catT pins s σ H (.ref a) (.ref b) v u Q I rx ry ⟨a,b,xs,ys,rfl,rfl,ha,hb,hx,hz,q1 hx,q2 hx⟩
theorem eR{lo hi:Option Int}
  (ht:IsTup s.heap t items) (hs:s.heap.IsSliceOf sl vl vu .none) (pl:IsPart vl lo) (pu:IsPart vu hi)
  (hw:HT.sIx items.size 0 lo=0/\HT.sIx items.size items.size hi=items.size) (h:Q (.ref t) s):wpAny (model prog w) A (getItem (.ref t) (.ref sl)) Q E s:=by
 obtain⟨os,hos,hcs,hds⟩:=id hs;have hTs:s.TypeIs (.ref sl) "slice":=⟨os,hos,hcs⟩
 unfold getItem
 try with_reducible refine wpAny_holding ?_
 first|refine xA (xX ?_)|skip
 refine xA (wpAny_sequenceKey ht.typeIs (by decide) ?_);refine xA (wpAny_callSpecial?_slot (name:=Str.ofString "__getitem__") ht.typeIs PyProof.Rows.slot_tuple_getitem
  (wpAny_call_entry PyProof.Rows.slot_tuple_getitem ht.typeIs PyProof.Rows.entry_tuple_getitem ?_ (PyProof.Rows.args_tuple_getitem _ _)))
 show wpAny _ _ (Builtin.Tuple.tupleItemsOf (.ref t)>>=_) _ _ s;refine xA (PyProof.Rows.tupleItemsOf_ ht ?_);refine xA (wpAny_typeOf hTs ?_);rw[xE (by decide)];refine xA (HT.sliceApplied_gen hs pl pu ?_);have hyes:(((HT.sIx items.size 0 lo:Nat):Int)==0&&(1:Int)==1&&(HT.sIx items.size items.size hi-HT.sIx items.size 0 lo)==items.size)=true:=by
  rw[hw.1,hw.2];simp
 show wpAny _ _ (if(((HT.sIx items.size 0 lo:Nat):Int)==0&&(1:Int)==1&&(HT.sIx items.size items.size hi-HT.sIx items.size 0 lo)==items.size)=true then _ else _) _ _ s;rw[xE hyes];obtain⟨o,ho,hc,n,hd⟩:=ht;have hT:s.TypeIs (.ref t) "tuple":=⟨o,ho,hc⟩
 unfold Builtin.Tuple.tupleIsExact;refine xA (xA (wpAny_typeOf hT (xX ?_)));rw[xE (by simp)];exact xA (wpAny_rule (xX ⟨_,rfl,xX h⟩))
def rSlTW(K:PySem.W.Frag):V->Option Int->Option Int->Hp->VK->Prop:=λx lo hi H Q=>∃a xs,x=.ref a/\SqT K H a xs/\
 (HT.sIx xs.length 0 lo=0/\HT.sIx xs.length xs.length hi=xs.length)/\Q (.ref a) H
theorem sl_tupW:SlR X (rSlTW X.K):=by
 intro pins s σ H x v vl vu lo hi sl Q I rx hs pl pu h;obtain⟨a,xs,rfl,hx,hw,q⟩:=h;cases rx;obtain⟨its,r,ht,hz⟩:=I.tuple hx;have hlen:its.toArray.size=xs.length:=by rw[xO];exact r.length.symm
 refine⟨"tuple",_,PyProof.Rows.slot_tuple_getitem.lookup,ht.typeIs,?_⟩;exact eR ht hs pl pu (by rw[hlen];exact hw) ⟨.ref a,H,I,rfl,q⟩
theorem Vals.getElem(r:Vals xs us)(h:i<us.length):∃x,xs[i]?=some x/\RelV x us[i]:=by
 have h':i<xs.length:=by rw[r.length];exact h
 obtain⟨u,hu,ru⟩:=r.get (i:=i) (x:=xs[i]) (by simp[h']);have:us[i]=u:=by simpa[h] using hu
 exact⟨xs[i],by simp[h'],by rw[this];exact ru⟩
theorem j4:∀{xs:List V}{us:List Value},Vals xs us->xs.all flatV=true->us.countP (eqU x)=xs.countP λy=>eqV y x
 |_,_,.nil,_=>rfl
 |y::xs,u::us,.cons r t,f=>by
  rw[zT,xG] at f;rw[List.countP_cons,List.countP_cons,k8 r f.1,j4 t f.2]
def rIndex:V->List V->Hp->VK->Prop:=λx vs H Q=>∃(l:Addr)(xs:List V)(y:V)(j:Nat)(z:V),x=.ref l/\vs=[y]/\H l=some (.lst xs)/\flatV y=true/\xs.all flatV=true/\xs[j]?=some z/\eqV z y=true/\(∀(k:Nat) z',k<j->xs[k]?=some z'->eqV z' y=false)/\Q (.int j) H
theorem uD:MtR X "list.index" rIndex:=by
 intro pins s σ H x vs v us Q I rx rv h;obtain⟨l,xs,y,j,z,rfl,rfl,hH,fy,fs,hj,ez,hno,q⟩:=h;cases rx;obtain⟨u,rfl,ru⟩:=rv.one;obtain⟨zz,its,n,r,hl,e⟩:=I.lstM hH;have hjl:j<its.length:=by
  rw[←hl];by_cases hc:j<xs.length
  ·exact hc
  ·rw[zC (by omega)] at hj;cases hj
 have hn:=line63;have at':∀k (hk:k<its.toArray.size),∃w,xs[k]?=some w/\eqU y its.toArray[k]=eqV w y:=λk hk=>by
  have hk':k<its.length:=by simpa using hk
  obtain⟨w,hw,rw'⟩:=r.getElem hk';refine⟨w,hw,?_⟩;have hm:w∈xs:=List.mem_of_getElem? hw;have:=k8 (x:=y) rw' (List.all_eq_true.mp fs w hm);simpa using this
 refine call_meets F.slot_list_index ⟨_,e,rfl⟩ F.entry_list_index (F.args_list_index_2 _ _) (SeqAt.list_indexAt l its.toArray n none #[] u (eqU y) j (by simpa using hjl) (by omega) ?_ ?_) ⟨e,?_,?_⟩
 ·obtain⟨w,hw,ew⟩:=at' j (by simpa using hjl)
  rw[hj] at hw;cases hw;rw[ew];exact ez
 ·intro k hk hkj
  obtain⟨w,hw,ew⟩:=at' k hk;rw[ew];exact hno k w hkj hw
 ·intro w hw
  exact dD ru fy r fs w (by simpa using hw)
 ·exact⟨.int j,H,I.tok _,⟨_,rfl⟩,q⟩
def rCount:V->List V->Hp->VK->Prop:=λx vs H Q=>∃l xs y,x=.ref l/\vs=[y]/\H l=some (.lst xs)/\flatV y=true/\xs.all flatV=true/\Q (.int (xs.countP λz=>eqV z y:Nat)) H
theorem uE:MtR X "list.count" rCount:=by
 intro pins s σ H x vs v us Q I rx rv h;obtain⟨l,xs,y,rfl,rfl,hH,fy,fs,q⟩:=h;cases rx;obtain⟨u,rfl,ru⟩:=rv.one;obtain⟨zz,its,n,r,hl,e⟩:=I.lstM hH;refine call_meets F.slot_list_count ⟨_,e,rfl⟩ F.entry_list_count (F.args_list_count_2 _ _) (SeqAt.list_countAt l its.toArray n none #[] u (eqU y)) ⟨e,?_,?_⟩
 ·intro w hw
  exact dD ru fy r fs w (by simpa using hw)
 ·refine⟨.int (xs.countP λz=>eqV z y:Nat),H,I.tok _,⟨s.toks,?_⟩,q⟩
  rw[←j4 r fs]
def Fly(Nw:Addr->Prop)(h:Heap)(H:Hp)(e:Addr)(cls:Value):Prop:=
 Nw e/\H e=none/\∃oe vs,h.get? e=some oe/\(oe.cls=cls/\oe.dict=none)/\oe.data=.fields vs/\
  (vs[1]?=some .none\/∃T oT ts,vs[1]?=some (.ref T)/\Nw T/\H T=none/\T≠e/\h.get? T=some oT/\oT.data=.fields ts/\ts[3]?=some .none)
theorem Fly.mono(F:Fly N h H e cls)(s:∀b,N b->N' b):Fly N' h H e cls:=by
 obtain⟨n,he,oe,vs,h1,h2,h3,h4⟩:=F;refine⟨s _ n,he,oe,vs,h1,h2,h3,h4.imp id ?_⟩;rintro⟨T,oT,ts,a,b,r⟩;exact⟨T,oT,ts,a,s _ b,r⟩
theorem mI(f:Array Value->Array Value)(o:Obj):(Obj.mapFields f o).dict=o.dict:=by obtain⟨c,d,dt,sl⟩:=o;cases dt<;>rfl
section
variable{M:Model}{A:Around}{E:Value->Shared->Prop}{s:Shared}
theorem fI{bs:Heap}{env:Env}{outer:List Env}{L e:Addr}{oe:Obj}{vs:Array Value}{head:Value}{hn:Bool}{Q:Unit->Shared->Prop}(hfr:A.frames=some (env::outer))(hl:s.heap.FunFrames bs (env::outer))(hf:env.frame=some L)
  (he:s.heap.get? e=some oe) (hd:oe.data=.fields vs) (hsz:1<vs.size)
  (k:∀h' T oe' vs' oT ts,s.heap.get? T=none->(∀b o,s.heap.get? b=some o->b∉frs (env::outer)->b≠e->h'.get? b=some o)->(∀b o,s.heap.get? b=some o->b∈frs (env::outer)->∃sl,h'.get? b=some {o with slots:=sl})->
   h'.get? e=some oe'->(oe'.cls=oe.cls/\oe'.dict=oe.dict)->oe'.data=.fields vs'->vs'[1]?=some (.ref T)->T≠e->h'.get? T=some oT->oT.data=.fields ts->ts[3]?=some .none->Q () {s with heap:=h'}):
  wpAny M A (do let a←frameOf env;let pl←entryPlaceOf L hn;let b←EntryCells.newEntry head a .none (rawInt L) .none pl;setField (.ref e) 1 b) (λ_ s'=>wpAny M A (setFlight (.ref e) none) Q E s') E s:=by
 have ne:e∉frs (env::outer):=λhm=>by
  obtain⟨_,o,ho,nf⟩:=hl.mem hm;rw[he] at ho;cases ho;exact nf vs hd
 refine xA (wpAny_frameOf_fun hfr hl hf λh1 s1=>?_);refine xA (wpAny_entryPlaceOf λpl hpl=>?_);unfold EntryCells.newEntry newFields;refine xA (zO ?_ (hpl.sizeOk5 _ _ _ _ _));have e1:h1.get? e=some oe:=(s1.2.1 e ne).trans he;generalize hts:([head,.ref L,.none,rawInt L,.none]++(if pl.isEmpty then List.replicate 6 Value.none else pl)).toArray=ts;have tsz:3<ts.size:=by rw[←hts];simp only[xO,xL,w5,xJ];omega
 have fresh:s.heap.get? h1.objs.size=none:=by
  cases q:s.heap.get? h1.objs.size with
  |none=>rfl
  |some o=>have:=xI q;rw[s1.1] at this;exact absurd this (yW _)
 have e2:=xH (h:=h1) {cls:=.type "traceback",dict:=none,data:=.fields ts} e1;refine wpAny_setField e2 hd hsz ?_;have nT:h1.objs.size≠e:=zM (xI e1);have d3:=yT hd (·.setIfInBounds 1 (Value.ref h1.objs.size));have e3:=yH (Obj.mapFields (·.setIfInBounds 1 (Value.ref h1.objs.size))) e2 (yR d3);have t3:=(x6 (h1.push {cls:=.type "traceback",dict:=none,data:=.fields ts}) (Obj.mapFields (·.setIfInBounds 1 (Value.ref h1.objs.size))) (yI nT)).trans (yU h1 rfl);unfold setFlight;refine xA (yO e3 d3 (x:=.ref h1.objs.size) (by simp[hsz]) ?_);rw[xE (show(Value.ref h1.objs.size !=Value.none)=true from by simp)];refine wpAny_setField t3 rfl tsz (k _ h1.objs.size _ _ _ _ fresh (λb o hb nb nbe=>?_) (λb o hb mb=>?_) ?_ ⟨Obj.cls_mapFields _ _,mI _ _⟩ d3 (by simp[hsz]) nT (yH _ t3 (yR (yT rfl _))) (yT rfl _) (by simp[tsz]))
 ·have hb1:h1.get? b=some o:=(s1.2.1 b nb).trans hb
  rw[x6 _ _ (zM (xI hb1)),x6 _ _ (yI nbe)];exact xH _ hb1
 ·obtain⟨sl,hb1⟩:=s1.2.2 b o hb
  refine⟨sl,?_⟩;rw[x6 _ _ (zM (xI hb1)),x6 _ _ (λz=>ne (by rw[z];exact mb))];exact xH _ hb1
 ·rw[x6 _ _ nT];exact e3
structure Noted(fs ch:List Addr)(h h':Heap):Prop where
 keep:∀b o,h.get? b=some o->b∉fs->b∉ch->h'.get? b=some o
 slot:∀b o,h.get? b=some o->b∈fs->∃sl,h'.get? b=some {o with slots:=sl}
 there:∀b o,h.get? b=some o->∃o',h'.get? b=some o'
def Recs(Nw:Addr->Prop)(h:Heap)(H:Hp)(ch:List Addr):Prop:=∀b∈ch,Nw b/\H b=none/\∃o ws,h.get? b=some o/\o.data=.fields ws
theorem mJ(hfr:A.frames=some (env::outer))(hl:s.heap.FunFrames bs (env::outer))(hf:env.frame=some L)
  (F:Fly Nw s.heap H e cls) (hN:∀b,s.heap.get? b=none->Nw b) (hH:∀b,s.heap.get? b=none->H b=none)
  (k:∀h' ch,Recs Nw s.heap H ch->Fly Nw h' H e cls->Noted (frs (env::outer)) ch s.heap h'->Q () {s with heap:=h'}):
  wpAny M A (noteFrame (.ref e) env) (λ_ s'=>wpAny M A (setFlight (.ref e) none) Q E s') E s:=by
 obtain⟨n,he0,oe,vs,he,⟨hc,hdn⟩,hd,tr⟩:=F;subst hc;unfold noteFrame;simp only[hf];rcases tr with h1|⟨T,oT,ts,h1,nT,hT0,hTe,hT,hdT,h3⟩
 ·refine xA (yO he hd h1 ?_)
  rw[xC (by decide)];refine fI hfr hl hf he hd (Array.getElem?_eq_some_iff.mp h1).1 λh' T oe' vs' oT ts nT kp sl a1 a2 a3 a4 a5 a6 a7 a8=>?_;refine k h' [e] (λb hb=>by rw[List.mem_singleton.mp hb];exact⟨n,he0,oe,vs,he,hd⟩) ⟨n,he0,oe',vs',a1,⟨a2.1,a2.2.trans hdn⟩,a3,.inr ⟨T,oT,ts,a4,hN T nT,hH T nT,a5,a6,a7,a8⟩⟩ ⟨λb o hb nb c=>kp b o hb nb λz=>c (by simp[z]),sl,λb o hb=>?_⟩;by_cases hm:b∈frs (env::outer)
  ·obtain⟨_,q⟩:=sl b o hb hm;exact⟨_,q⟩
  ·by_cases hbe:b=e
   ·exact⟨oe',by rw[hbe];exact a1⟩
   ·exact⟨o,kp b o hb hm hbe⟩
 ·refine xA (yO he hd h1 ?_)
  rw[xE (show(Value.ref T !=Value.none)=true from by simp)];refine xA (yO hT hdT h3 ?_);rw[xC (show¬((Value.none==rawInt L)=true) from by simp[rawInt])];refine xA (wpAny_setField hT hdT (Array.getElem?_eq_some_iff.mp h3).1 ?_);have other:∀b,b≠T->(s.heap.update T (Obj.mapFields (·.setIfInBounds 3 Value.none))).get? b=s.heap.get? b:=λb hb=>x6 _ _ (yI hb);have nrec:∀b o,s.heap.get? b=some o->(∀ws,o.data≠.fields ws)->b≠T:=λb o hb nf q=>by
   rw[q,hT] at hb;cases hb;exact nf ts hdT
  have back:∀b,(s.heap.update T (Obj.mapFields (·.setIfInBounds 3 Value.none))).get? b=none->s.heap.get? b=none:=λb hb=>by
   by_cases q:b=T
   ·subst q
    rw[yH _ hT (yR (yT hdT _))] at hb;cases hb
   ·rw[other b q] at hb;exact hb
  refine fI hfr (hl.of_keeps λb o hb nf=>⟨o,(other b (nrec b o hb nf)).trans hb,rfl⟩) hf ((other e (yI hTe)).trans he) hd (Array.getElem?_eq_some_iff.mp h1).1 λh' T' oe' vs' oT' ts' nT' kp sl a1 a2 a3 a4 a5 a6 a7 a8=>?_;have nTf:T∉frs (env::outer):=λhm=>by
   obtain⟨_,o,ho,nf⟩:=hl.mem hm;rw[hT] at ho;cases ho;exact nf ts hdT
  refine k h' [e,T] (λb hb=>?_) ⟨n,he0,oe',vs',a1,⟨a2.1,a2.2.trans hdn⟩,a3,.inr ⟨T',oT',ts',a4,hN T' (back _ nT'),hH T' (back _ nT'),a5,a6,a7,a8⟩⟩ ⟨λb o hb nb c=>?_,λb o hb mb=>?_,λb o hb=>?_⟩
  ·rcases List.mem_cons.mp hb with z|z
   ·rw[z];exact⟨n,he0,oe,vs,he,hd⟩
   ·rw[List.mem_singleton.mp z];exact⟨nT,hT0,oT,ts,hT,hdT⟩
  ·exact kp b o ((other b λz=>c (by simp[z])).trans hb) nb λz=>c (by simp[z])
  ·exact sl b o ((other b (by rintro rfl;exact nTf mb)).trans hb) mb
  ·by_cases hbT:b=T
   ·subst hbT
    have q:=yH (Obj.mapFields (·.setIfInBounds 3 Value.none)) hT (yR (yT hdT _));exact⟨_,kp b _ q nTf hTe⟩
   ·by_cases hm:b∈frs (env::outer)
    ·obtain⟨_,q⟩:=sl b o ((other b hbT).trans hb) hm;exact⟨_,q⟩
    ·by_cases hbe:b=e
     ·exact⟨oe',by rw[hbe];exact a1⟩
     ·exact⟨o,kp b o ((other b hbT).trans hb) hm hbe⟩
theorem uF(F:Fly Nw s.heap H e cls)
  (k:∀h' ch,Recs Nw s.heap H ch->Fly Nw h' H e cls->Noted [] ch s.heap h'->Q () {s with heap:=h'}):wpAny M A (setFlight (.ref e) none) Q E s:=by
 obtain⟨n,he0,oe,vs,he,hc,hd,tr⟩:=F;unfold setFlight;rcases tr with h1|⟨T,oT,ts,h1,nT,hT0,hTe,hT,hdT,h3⟩
 ·refine xA (yO he hd h1 ?_)
  rw[xC (by decide)];exact xX (k s.heap [] (λb hb=>nomatch hb) ⟨n,he0,oe,vs,he,hc,hd,.inl h1⟩ ⟨λb o hb _ _=>hb,λb o hb z=>(nomatch z),λb o hb=>⟨o,hb⟩⟩)
 ·refine xA (yO he hd h1 ?_)
  rw[xE (show(Value.ref T !=Value.none)=true from by simp)];have sz:=(Array.getElem?_eq_some_iff.mp h3).1;have d3:=yT hdT (·.setIfInBounds 3 Value.none);have self:=yH (Obj.mapFields (·.setIfInBounds 3 Value.none)) hT (yR d3);have other:∀b,b≠T->(s.heap.update T (Obj.mapFields (·.setIfInBounds 3 Value.none))).get? b=s.heap.get? b:=λb hb=>x6 _ _ (yI hb);refine wpAny_setField hT hdT sz (k _ [T] (λb hb=>by rw[List.mem_singleton.mp hb];exact⟨nT,hT0,oT,ts,hT,hdT⟩) ⟨n,he0,oe,vs,(other e (yI hTe)).trans he,hc,hd,.inr ⟨T,_,_,h1,nT,hT0,hTe,self,d3,by simp[sz]⟩⟩ ⟨λb o hb _ c=>(other b λz=>c (by simp[z])).trans hb,λb o hb z=>(nomatch z),λb o hb=>?_⟩);by_cases hbT:b=T
  ·subst hbT;exact⟨_,self⟩
  ·exact⟨o,(other b hbT).trans hb⟩
end
def CXE(P:Program)(w:World):CXT:=λouter H s E e s'=>∃a C H',e=.ref a/\s'.os=s.os/\AllBare s'.gens/\Un (frs outer) [] H H' s.heap s'.heap/\HOk P w H' s'.heap/\
 Fly (λb=>s.heap.get? b=none) s'.heap H' a (.ref C)/\E (.ref C) none H'
theorem HOk.noted(x:HOk P w H h)(n:Noted fs ch h h')(ff:∀b∈fs,H b=none)(fc:∀b∈ch,H b=none):HOk P w H h':=λa o e=>by
 refine(x a o e).stay (λb u hb q=>?_) (λ_ q=>q) λ_ _ q=>q;have tb:H b≠none:=by
  rcases hb with rfl|hb
  ·rw[e];exact Option.some_ne_none _
  ·rw[hb];exact Option.some_ne_none _
 exact n.keep b u q (λz=>tb (ff b z)) λz=>tb (fc b z)
theorem HOk.obj(x:HOk P w H h)(q:H b=some o):∃o',h.get? b=some o':=by
 have z:=x b o q
 cases o with
 |lst xs=>obtain⟨_,_,_,_,e⟩:=z;exact⟨_,e⟩
 |tup xs=>obtain⟨_,_,_,_,e,_⟩:=z;exact⟨_,e⟩
 |dK kvs=>obtain⟨_,_,_,_,o,_,_,e,_⟩:=z;exact⟨_,e⟩
 |dT kvs=>obtain⟨_,_,_,_,o,_,_,e,_⟩:=z;exact⟨_,e⟩
 |set S n=>obtain⟨o,_,_,_,e,_⟩:=z;exact⟨_,e⟩
 |ins C dx fs=>obtain⟨_,_,_,e,_⟩:=z;exact⟨_,e⟩
 |own y=>obtain⟨_,e⟩:=z;exact⟨_,e⟩
 |xd fs=>obtain⟨_,⟨_,_,_,e,_⟩,_⟩:=z;exact⟨_,e⟩
 |rng lo hi=>obtain⟨_,_,_,e⟩:=z;exact⟨_,e⟩
 |frz ob u=>obtain⟨e,_⟩:=z;exact⟨_,e⟩
 |tbl ps=>exact⟨_,z⟩
 |met f y=>exact⟨_,z⟩
 |ext φ=>obtain⟨_,⟨_,e⟩,_⟩:=z;exact⟨_,e⟩
theorem HOk.new(x:HOk P w H h)(hb:h.get? b=none):H b=none:=by
 cases q:H b with
 |none=>rfl
 |some o=>
  obtain⟨o',z⟩:=x.obj q;rw[z] at hb;cases hb
def NewIn(X:Cx):Addr->Prop:=λb=>X.s₀.heap.get? b=none/\∀p∈X.pn,p.1≠b
def ToX(X:Cx)(cl:Nat->Addr)(XE:Nat->St->Hp->Prop):Prop:=
 ∀(pins:List (Addr×Obj))(σ:St)(H:Hp)(s:Shared)(a:Addr)(c:Nat),Inv X pins σ H s->Fly (NewIn X) s.heap H a (.ref (cl c))->XE c σ H->X.xe (.ref a) s
section
variable{P:Program}{w:World}{K:PySem.W.Frag}{mg:Str->Option Value}{base:Heap}{N:List Str}{qual:Str}{scope:Scope}{f:Addr}{cd:Value}{A:Around}{outer:List Env}{s:Shared}{H:Hp}{E:XK}{cl:Nat->Addr}
theorem pZ:ToX (cxOf (CXE P w) P w K mg base N qual scope f cd A outer s H E) cl (λc _ H'=>E (.ref (cl c)) none H'):=by
 intro pins σ H1 s1 a c I F hE;show wpAny _ _ (leaving _ _) _ _ s1;unfold leaving;have F':Fly (λb=>s.heap.get? b=none) s1.heap H1 a (.ref (cl c)):=F.mono λb z=>z.1;have back:∀b,s1.heap.get? b=none->s.heap.get? b=none:=λb hb=>by
  cases q:s.heap.get? b with
  |none=>rfl
  |some o=>
   obtain⟨o',z⟩:=I.base.there b o q (λz=>nomatch z);rw[z] at hb;cases hb
 refine xA (mJ (outer:=outer) I.ok.frames I.stack rfl F' back (λb hb=>I.hok.new hb) λh' ch rc F2 n=>?_);have nloc:∀b o,s.heap.get? b=some o->b∉frs outer->b∉frs ((cxOf (CXE P w) P w K mg base N qual scope f cd A outer s H E).env::outer):=λb o hb nb hm=>by
  have hm':b∈s.heap.objs.size::frs outer:=hm;rcases List.mem_cons.mp hm' with z|z
  ·subst z;exact absurd (xI hb) (yW _)
  ·exact nb z
 have sub:∀b,b∈frs outer->b∈frs ((cxOf (CXE P w) P w K mg base N qual scope f cd A outer s H E).env::outer):=λb hb=>show b∈s.heap.objs.size::frs outer from xK _ hb;have B:Un (frs outer) [] H H1 s.heap s1.heap:=I.base;refine⟨a,cl c,H1,rfl,I.os,I.bare,⟨λb o q n1 nb nx=>?_,λb o q n1 mb nx=>?_,B.free,λb o q nx=>?_,B.tups,B.frzs,B.tbls⟩,I.hok.noted n (λb hb=>I.stkFree b hb) λb hb=>(rc b hb).2.1,F2,hE⟩
 ·exact n.keep b o (B.keep b o q n1 nb nx) (nloc b o q nb) λz=>by have y:s.heap.get? b=none:=(rc b z).1;rw[q] at y;cases y
 ·obtain⟨sl,z⟩:=B.slot b o q n1 mb nx
  obtain⟨sl',z'⟩:=n.slot b _ z (sub b mb);exact⟨sl',z'⟩
 ·obtain⟨o',z⟩:=B.there b o q nx
  exact n.there b o' z
end
section
variable{X:Cx}{cl:Nat->Addr}{XE:Nat->St->Hp->Prop}{pins:List (Addr×Obj)}{σ:St}{H:Hp}{s:Shared}
theorem Inv.newIn(I:Inv X pins σ H s)(hx:X.ex=[])(hb:s.heap.get? b=none):NewIn X b:=by
 refine⟨?_,λp hp z=>?_⟩
 ·cases q:X.s₀.heap.get? b with
  |none=>rfl
  |some o=>
   obtain⟨o',z⟩:=I.base.there b o q (by rw[hx];exact λz=>nomatch z);rw[z] at hb;cases hb
 ·have:=(I.pin p (List.mem_append_left _ hp)).1
  rw[z,hb] at this;cases this
theorem pass_of(hx:X.ex=[])(t:ToX X cl XE)(σ:St)(pins:List (Addr×Obj))(H:Hp)(s:Shared)(e:Value)(s':Shared)(I:Inv X pins σ H s)
  (z:CXE X.prog X.w X.stack H s (λk _ H'=>∃c,k=.ref (cl c)/\XE c σ H') e s'):X.xe e s':=by
 obtain⟨a,C,H',rfl,os,bare,un,hok,F,c,ec,xe⟩:=z;have ec':C=cl c:=by simpa using ec
 subst ec';exact t pins σ H' s' a c (I.call' os un hok bare λb z=>nomatch z) (F.mono λb hb=>I.newIn hx hb) xe
def tRaise(XE:Nat->St->Hp->Prop)(c:Nat):TS:=λ_ σ H=>XE c σ H
theorem uG(hc:X.calm=true)(hx:X.ex=[])(t:ToX X cl XE)(hg:Gl X x)(hdb:(x==("__debug__":Str))=false)
  (O:OwnCls x (cl c) bm newId X.mg X.base) (Fn:ExcBaseFacts Bn newId inN bmN) (hBn:bm.contains (.type Bn)=true) (FB:ExcBaseFacts B nid initId bm):
  PS X (.Raise (some (.Call (.Name x np) [.Constant (.str tx) j p] [] cpos)) none pos) (tRaise XE c):=by
 intro pins s σ H D I h;obtain⟨tl,N,nm,q,bs,hdct,sn,sub,ab,col,dd,k0,k1,k2,k3,k5,mN,hC,hN,hni,T⟩:=O.obj;refine wpAny_Raise_call_subU (C:=cl c) (nm:=nm) (q:=q) (N:=N) (bs:=bs) (bm:=tl) (hdct:=hdct) (sn:=sn) (sub:=sub) (ab:=ab) (col:=col) (dd:=dd) (k0:=k0) (k1:=k1) (k2:=k2) (k3:=k3) (k5:=k5) Fn hBn FB (mN:=mN) (T.hasType FB.hasBase) (I.ok.hd hc) rfl hni (gY I hg O.bound ⟨rfl,?_⟩ hdb);refine Calls.evalArgs_plain (yG ((pa_cons pe_str pa_nil:PA X [.Constant (.str tx) j p] _) cpos pins s σ H (λvs H1=>H1=H/\vs.length=1) I ⟨rfl,rfl⟩) (λus s2 h2=>?_) λ_ _ z=>z);obtain⟨vs,H1,I2,r,rfl,hv⟩:=h2;have hl:us.length=1:=by rw[←r.length];exact hv
 refine⟨rfl,by show us.length<=_;rw[hl];decide,I2.bk _ _ hC,hN.keeps I2.bk,T.keeps I2.bk,λh' e m=>?_⟩;obtain⟨tt,ht,_,_⟩:=m.there;have I3:Inv X pins σ H1 {s2 with heap:=h'}:=I2.kept (t':=s2.toks) m.keeps;exact t pins σ H1 _ e c I3 ⟨I2.newIn hx m.new,I2.hok.new m.new,_,_,ht,⟨rfl,rfl⟩,rfl,.inl rfl⟩ h
theorem Inv.noted(I:Inv X pins σ H s)(hfs:∀b∈fs,b∈frs X.stack)(n:Noted fs ch s.heap h')(rc:Recs (λb=>X.s₀.heap.get? b=none/\∀p∈X.pn++pins,p.1≠b) s.heap H ch):Inv X pins σ H {s with heap:=h'}:=by
 have nrec:∀b o,s.heap.get? b=some o->(∀ws,o.data≠.fields ws)->b∉ch:=λb o hb nf z=>by
  obtain⟨_,_,o',ws,e,d⟩:=rc b z;rw[hb] at e;cases e;exact nf ws d
 have any:∀b o,s.heap.get? b=some o->b∉ch->∃sl,h'.get? b=some {o with slots:=sl}:=λb o hb nc=>by
  by_cases hm:b∈fs
  ·exact n.slot b o hb hm
  ·exact⟨o.slots,n.keep b o hb hm nc⟩
 have old:∀b o,X.s₀.heap.get? b=some o->b∉ch:=λb o hb z=>by
  have:=(rc b z).1.1;rw[hb] at this;cases this
 have nfs:∀b,b≠X.env.locals->b∉X.fs->b∉fs:=λb h1 h2 z=>(List.mem_cons.mp (I.stkSub b (hfs b z))).elim h1 h2;have neL:∀b o,X.s₀.heap.get? b=some o->b≠X.env.locals:=λb o e=>yQ (yA (xI e) I.ok.above);have cellK:∀x c,X.env.cells.lookup x=some c->∀v,s.heap.IsCell c v->h'.IsCell c v:=λx c e v ⟨o,ho,hd⟩=>by
  obtain⟨sl,q⟩:=any c o ho (nrec c o ho λws z=>by rw[hd] at z;cases z);exact⟨_,q,hd⟩
 obtain⟨m,⟨oL,es,ep,hoL,hdL,rL⟩,hl⟩:=id I.loc;obtain⟨slL,qL⟩:=any _ oL hoL (nrec _ oL hoL λws z=>by rw[hdL] at z;cases z);refine⟨I.ok,I.os,I.bare,⟨λb o e nn hb hx=>?_,λb o e nn hb hx=>?_,I.base.free,λb o e hx=>?_,I.base.tups,I.base.frzs,I.base.tbls⟩,⟨m,⟨_,es,ep,qL,hdL,rL⟩,λi x v e1 e2 e3=>?_⟩,λx c e=>?_,I.free,I.freeC,λp hp=>?_,I.hok.noted n (λb hb=>I.stkFree b (hfs b hb)) λb hb=>(rc b hb).2.1,I.len⟩
 ·exact n.keep b o (I.base.keep b o e nn hb hx) (nfs b (neL b o e) hb) (old b o e)
 ·obtain⟨sl,q⟩:=I.base.slot b o e nn hb hx
  obtain⟨sl',q'⟩:=any b _ q (old b o e);exact⟨sl',q'⟩
 ·obtain⟨o',q⟩:=I.base.there b o e hx
  exact n.there b o' q
 ·obtain⟨u,r,l⟩:=hl i x v e1 e2 e3
  refine⟨u,r,?_⟩;rcases l with l|⟨k,c,e,z⟩
  ·exact .inl l
  ·exact .inr ⟨k,c,e,cellK x c e _ z⟩
 ·obtain⟨v,z⟩:=I.cell x c e
  exact⟨v,cellK x c e v z⟩
 ·obtain⟨e,nn,ne,nf,d⟩:=I.pin p hp
  exact⟨n.keep p.1 p.2 e (nfs _ ne nf) λz=>(rc p.1 z).1.2 p hp rfl,nn,ne,nf,d⟩
end
def tryCx(X:Cx)(cl:Nat->Addr)(pins:List (Addr×Obj))(XH:Nat->St->Hp->Prop):Cx:={X with
 pn:=X.pn++pins
 xe:=λv s'=>∃a c σ H,v=.ref a/\Inv X pins σ H s'/\Fly (λb=>X.s₀.heap.get? b=none/\∀p∈X.pn++pins,p.1≠b) s'.heap H a (.ref (cl c))/\XH c σ H}
def hdCx(X:Cx)(a:Addr):Cx:={X with A:=X.A.mark (some (.ref a)),calm:=false,xe:=λ_ _=>False}
section
variable{X:Cx}{cl:Nat->Addr}{XH:Nat->St->Hp->Prop}{pins pins':List (Addr×Obj)}{σ:St}{H:Hp}{s:Shared}{a:Addr}
theorem Cx.Ok.same{Y:Cx}(ok:X.Ok)(h:Y={X with pn:=Y.pn,xe:=Y.xe}):Y.Ok:=by
 rw[h];exact⟨ok.mod,ok.kind,ok.glob,ok.blt,ok.above,ok.inj,ok.has,ok.cab,ok.hd,ok.frames,ok.stk,ok.exf,ok.bs,ok.bsz,ok.noex,ok.exfs,ok.funs,ok.frf⟩
theorem Inv.inTry(I:Inv X pins σ H s):Inv (tryCx X cl pins XH) [] σ H s:=
 ⟨I.ok.same rfl,I.os,I.bare,I.base,I.loc,I.cell,I.free,I.freeC,λp hp=>I.pin p (by rw[yD] at hp;exact hp),I.hok,I.len⟩
theorem Inv.ofTry(I:Inv (tryCx X cl pins XH) pins' σ H s):Inv X pins σ H s:=
 ⟨I.ok.same (X:=tryCx X cl pins XH) (Y:=X) rfl,I.os,I.bare,I.base,I.loc,I.cell,I.free,I.freeC,λp hp=>I.pin p (List.mem_append_left _ hp),I.hok,I.len⟩
theorem p0:ToX (tryCx X cl pins XH) cl XH:=λpins' σ H s a c I F h=>⟨a,c,σ,H,rfl,I.ofTry,F,h⟩
theorem Inv.inHd(I:Inv X pins σ H s):Inv (hdCx X a) pins σ H s:=
 ⟨⟨I.ok.mod,I.ok.kind,I.ok.glob,I.ok.blt,I.ok.above,I.ok.inj,I.ok.has,I.ok.cab,λz=>Bool.noConfusion z,I.ok.frames,I.ok.stk,I.ok.exf,I.ok.bs,I.ok.bsz,I.ok.noex,I.ok.exfs,I.ok.funs,I.ok.frf⟩,
  I.os,I.bare,I.base,I.loc,I.cell,I.free,I.freeC,I.pin,I.hok,I.len⟩
theorem Inv.ofHd(ok:X.Ok)(I:Inv (hdCx X a) pins σ H s):Inv X pins σ H s:=⟨ok,I.os,I.bare,I.base,I.loc,I.cell,I.free,I.freeC,I.pin,I.hok,I.len⟩
theorem SP.ofTry(h:SP (tryCx X cl pins XH) pins' D f s):SP X pins D f s:=by
 cases f with
 |next=>obtain⟨σ',H',I,q⟩:=h;exact⟨σ',H',I.ofTry,q⟩
 |brk=>obtain⟨σ',H',I,q⟩:=h;exact⟨σ',H',I.ofTry,q⟩
 |cont=>obtain⟨σ',H',I,q⟩:=h;exact⟨σ',H',I.ofTry,q⟩
 |ret u=>obtain⟨v,σ',H',I,r,q⟩:=h;exact⟨v,σ',H',I.ofTry,r,q⟩
def hdR(X:Cx)(cl:Nat->Addr)(CE:Addr)(th:TS)(D:Ends):Nat->St->Hp->Prop:=λc σ H=>PySem.W.exmOne X.K (.ref (cl c)) (.ref CE)=some true/\th D σ H
theorem caught{CE:Addr}(hx:X.ex=[])(hst:X.stack=X.env::X.outer)(hfm:X.env.frame=some X.env.locals)(hg:Gl X cn)(hm:X.mg cn=some (.ref CE))(hdb:(cn==("__debug__":Str))=false)
  (I:Inv X pins σ H s) (F:Fly (λb=>X.s₀.heap.get? b=none/\∀p∈X.pn++pins,p.1≠b) s.heap H a (.ref (cl c))) (hk:PySem.W.exmOne X.K (.ref (cl c)) (.ref CE)=some true)
  (k:∀s2,Inv X pins σ H s2->Fly (λb=>X.s₀.heap.get? b=none/\∀p∈X.pn++pins,p.1≠b) s2.heap H a (.ref (cl c))->
   codeAny (model X.prog X.w) (X.A.mark (some (.ref a))) (.handlers (.ref a) [.ExceptHandler none nm (b0::suite) hpos] X.env) (λr s₂=>match r with
     |.ok f=>(match nm with
      |none=>Q f s₂
      |some n=>wpAny (model X.prog X.w) X.A (do bindName X.env n .none;unbindBehindTheSuite X.env n hpos) (λ_ s₃=>Q f s₃) X.xe s₂)
     |.error x=>cameBackBy (model X.prog X.w) X.A X.env X.xe x s₂) s2):
  wpAny (model X.prog X.w) X.A (noteFrame (.ref a) X.env) (λ_ s₂=>wpAny (model X.prog X.w) X.A (setFlight (.ref a) none) (λ_ s₃=>wpAny (model X.prog X.w) X.A (handleBy (.ref a) X.env [.ExceptHandler (some (.Name cn np)) nm (b0::suite) hpos]) Q X.xe s₃) X.xe s₂) X.xe s:=by
 have fresh:∀b,s.heap.get? b=none->X.s₀.heap.get? b=none/\∀p∈X.pn++pins,p.1≠b:=λb hb=>⟨(I.newIn hx hb).1,λp hp z=>by
  have:=(I.pin p hp).1;rw[z,hb] at this;cases this⟩
 have hl:=I.stack;rw[hst] at hl;refine mJ (outer:=X.outer) (by rw[I.ok.frames,hst]) hl hfm F fresh (λb hb=>I.hok.new hb) λh' ch rc F2 n=>?_;have I2:Inv X pins σ H {s with heap:=h'}:=I.noted (λb hb=>by rw[hst];exact hb) n rc;refine wpAny_handleBy_cons (codeAny_handlers_test (gY (X:={X with A:=X.A.mark (some (.ref a)),calm:=false}) (σ:=σ) (H:=H) (pins:=pins) ?_ hg hm ?_ hdb)) (by intro q;cases q)
 ·exact⟨⟨I2.ok.mod,I2.ok.kind,I2.ok.glob,I2.ok.blt,I2.ok.above,I2.ok.inj,I2.ok.has,I2.ok.cab,λz=>Bool.noConfusion z,I2.ok.frames,I2.ok.stk,I2.ok.exf,I2.ok.bs,I2.ok.bsz,I2.ok.noex,I2.ok.exfs,I2.ok.funs,I2.ok.frf⟩,
   I2.os,I2.bare,I2.base,I2.loc,I2.cell,I2.free,I2.freeC,I2.pin,I2.hok,I2.len⟩
 ·obtain⟨_,_,oe,vs,he,⟨hc,_⟩,_⟩:=id F2
  have LT:PySem.W.Looks (model X.prog X.w) h' (typeOf (.ref a)) (.ref (cl c)):=by
   have q:PySem.W.Looks (model X.prog X.w) h' (typeOf (.ref a)) oe.cls:=(PySem.W.Looks.ld he).andThen .now;rw[hc] at q;exact q
  exact(PySem.W.exm_one I2.kIn LT hk).here (k _ I2 F2)
theorem ps_try{CE:Addr}(hx:X.ex=[])(hst:X.stack=X.env::X.outer)(hfm:X.env.frame=some X.env.locals)(hg:Gl X cn)(hm:X.mg cn=some (.ref CE))(hdb:(cn==("__debug__":Str))=false)
  (hh:∀a,PSs (hdCx X a) (b0::suite) th):PS X (.Try body [.ExceptHandler (some (.Name cn np)) none (b0::suite) hpos] [] [] pos) (λD σ H=>∀pins,∃tb,PSs (tryCx X cl pins (hdR X cl CE th D)) body tb/\tb D σ H):=by
 intro pins s σ H D I h;obtain⟨tb,hb,q⟩:=h pins;refine wpAny_Try_except (yG (hb [] s σ H D I.inTry q) (λf s1 hf=>?_) λv s1 hf=>?_)
 ·have hf':=SP.ofTry hf
  cases f with
  |next=>exact wpAny_execs_nil hf'
  |brk=>exact hf'
  |cont=>exact hf'
  |ret u=>exact hf'
 ·obtain⟨a,c,σ1,H1,rfl,I1,F1,hk,q1⟩:=hf
  refine caught hx hst hfm hg hm hdb I1 F1 hk λs2 I2 F2=>codeAny_handlers_suite (uF F2 λh' ch rc F3 n=>?_);have I3:Inv X pins σ1 H1 {s2 with heap:=h'}:=I2.noted (fs:=[]) (λb hb=>absurd hb (by simp)) n rc;refine yG (hh a pins _ σ1 H1 D I3.inHd q1) (λf s4 hf=>?_) λ_ _ z=>z.elim
  cases f with
  |next=>obtain⟨σ',H',I',z⟩:=hf;exact⟨σ',H',I'.ofHd I3.ok,z⟩
  |brk=>obtain⟨σ',H',I',z⟩:=hf;exact⟨σ',H',I'.ofHd I3.ok,z⟩
  |cont=>obtain⟨σ',H',I',z⟩:=hf;exact⟨σ',H',I'.ofHd I3.ok,z⟩
  |ret u=>obtain⟨v,σ',H',I',r,z⟩:=hf;exact⟨v,σ',H',I'.ofHd I3.ok,r,z⟩
end
end L2
namespace L2
open PySem PySem.Spec PyProof.Rows PySem.W
structure ExcCls(K:Frag)(C:Addr):Prop where
 ga:findIn K (.ref C) "__getattribute__"=some (some (.builtin "BaseException.__getattribute__"))
 gt:findIn K (.ref C) "__getattr__"=some none
 cl:findIn K (.ref C) "__class__"=some (some (.builtin "object.__class__"))
 gs:specialIn K (.builtin "object.__class__") "__get__"=some (some (.builtin "getset_descriptor.__get__"))
 tk:takesIn K (.builtin "object.__class__")=some true
 ob:mroIn K C (.type "object")=some true
 be:mroIn K C (.type "BaseException")=some true
 is:∃cd,clsIn K C=some cd
end L2
namespace PySem
end PySem
namespace L2
open PySem PyProof.Rows
variable{X:Cx}
end L2
namespace L2
open PySem PyProof.Rows
variable{X:Cx}
end L2
namespace L2
open PySem PySem.Spec PyProof.Rows
def Itz(K:PySem.W.Frag)(a b:Addr):It:=
 ⟨λi H=>∃xs ys x y,SqL K H a xs/\SqL K H b ys/\xs[i]?=some x/\ys[i]?=some y,
  λi H v H'=>∃t x y,H t=none/\v=.ref t/\H'=upd H t (.tup [x,y])/\(∀xs,SqL K H a xs->xs[i]?=some x)/\∀ys,SqL K H b ys->ys[i]?=some y,
  λi H=>∃xs ys,SqL K H a xs/\SqL K H b ys/\(xs.length<=i\/ys.length<=i)⟩
theorem uH{P:Program}{w:World}{K:PySem.W.Frag}{elts:List Expr}{k:Nat}{pos:Pos}{a b z TI TO i1 i2:Addr}(ap:ZipApart z TI TO i1 i2 a b):
  Turn P w K (.Tuple elts k pos) (Itz K a b) [z,TI,TO,i1,i2] z (λi h=>IsZip h z TI TO .none/\IsPair h TI (.ref i1) (.ref i2)/\(∃p q,IsPair h TO p q)/\h.IsListIter i1 a i/\h.IsListIter i2 b i) where
 mem:=by simp
 obj:=λi h st c hc=>by
  obtain⟨hz,hI,⟨p,q,hO⟩,⟨o1,e1,c1,d1⟩,o2,e2,c2,d2⟩:=st;simp only[yC,yF,or_false] at hc;rcases hc with rfl|rfl|rfl|rfl|rfl
  ·exact⟨_,hz,λv y=>by cases (show Data.fields _=Data.cell v from y)⟩
  ·exact⟨_,hI,λv y=>by cases (show Data.seq _ _=Data.cell v from y)⟩
  ·exact⟨_,hO,λv y=>by cases (show Data.seq _ _=Data.cell v from y)⟩
  ·exact⟨o1,e1,λv y=>by rw[d1] at y;cases y⟩
  ·exact⟨o2,e2,λv y=>by rw[d2] at y;cases y⟩
 keep:=λi h h' st kp=>by
  obtain⟨hz,hI,⟨p,q,hO⟩,⟨o1,e1,c1,d1⟩,o2,e2,c2,d2⟩:=st;exact⟨kp z (by simp) _ hz,kp TI (by simp) _ hI,⟨p,q,kp TO (by simp) _ hO⟩,⟨o1,kp i1 (by simp) o1 e1,c1,d1⟩,o2,kp i2 (by simp) o2 e2,c2,d2⟩
 item:=by
  intro X hP hw hK hc i pins s σ H E I hf st hg;subst hP hw hK;obtain⟨hz,hI,⟨p,q,hO⟩,hi1,hi2⟩:=st;obtain⟨xs,ys,x,y,hqx,hqy,hx,hy⟩:=hg;obtain⟨its,rv,pa,_⟩:=I.list hqx;obtain⟨jts,rw',pb,_⟩:=I.list hqy;obtain⟨u,hu,ru⟩:=rv.get hx;obtain⟨v,hv,rv2⟩:=rw'.get hy;refine wpAny_pyNext_zip_item ap hz hI hO hi1 hi2 pa.isList pb.isList (x:=u) (y:=v) (by simpa using hu) (by simpa using hv) λh' hz' hO' hi1' hi2' hnew hsz kk=>?_;refine⟨_,rfl,?_⟩;refine wpAny_letOwnedTupleGo_zip (s:={s with heap:=h'}) hz' λh2 hz2 sb=>?_;have hnew2:h2.get? s.heap.objs.size=some {cls:=.type "tuple",data:=.seq #[u,v]}:=sb.extBut _ _ (zM (xI hz)) hnew;have hfr:H s.heap.objs.size=none:=I.hok.fresh (xN _);have nb:∀c o,c∉[z,TI,TO,i1,i2]->s.heap.get? c=some o->h2.get? c=some o:=λc o hcm e=>by
   simp only[yC,yF,or_false,not_or] at hcm;exact sb.extBut c o hcm.1 (kk c o hcm.1 hcm.2.2.1 hcm.2.2.2.1 hcm.2.2.2.2 e)
  have ch:∀c∈[z,TI,TO,i1,i2],(c∈X.ex\/X.s₀.heap.objs.size<=c)/\c≠X.env.locals/\(∀x d,X.env.cells.lookup x=some d->d≠c)/\∀p∈X.pn++pins,p.1≠c:=λc hcm=>⟨(hf c hcm).2.2.2.1,(hf c hcm).2.1,(hf c hcm).2.2.2.2.1,(hf c hcm).2.2.2.2.2⟩
  have ne_t:∀c u,H c=some u->c≠s.heap.objs.size:=λc u e y=>by rw[y,hfr] at e;cases e
  have u1:Un (frs X.stack) [z,TI,TO,i1,i2] H (upd H s.heap.objs.size (.tup [x,y])) s.heap h2:=by
   refine⟨λc o e n _ hb=>nb c o hb e,λc o e n _ hb=>⟨o.slots,nb c o hb e⟩,λc o e n hb=>?_,λc o e hb=>⟨o,nb c o hb e⟩,λc ys e=>?_,λc o u e=>?_,λc ps e=>⟨#[],?_⟩⟩
   ·rw[aB (yQ (xI e))];exact n
   ·rw[aB (ne_t c _ e)];exact e
   ·rw[aB (ne_t c _ e)];exact e
   ·rw[aB (ne_t c _ e),e];simp
  have nfp:∀c u,H c=some u->c∉[z,TI,TO,i1,i2]:=λc u e hb=>by
   have:=(hf c hb).1;rw[e] at this;cases this
  have hok:HOk X.prog X.w (upd H s.heap.objs.size (.tup [x,y])) h2:=by
   intro c o e;by_cases hb:c=s.heap.objs.size
   ·subst hb
    rw[aE] at e;cases e;exact⟨by show 2<=sizeLine;decide,[u,v],.cons ru (.cons rv2 .nil),_,hnew2,rfl,_,rfl⟩
   ·rw[aB hb] at e
    refine(I.hok c o e).stay (λd w hd r=>nb d w ?_ r) (λd r=>by rw[aB (ne_t d _ r)];exact r) λd ys r=>by rw[aB (ne_t d _ r)];exact r
    rcases hd with y|y
    ·rw[y];exact nfp c o e
    ·exact nfp d _ y
  have I2:Inv X pins σ (upd H s.heap.objs.size (.tup [x,y])) {s with heap:=h2}:=I.call (g':=s.gens) (d':=s.drawn) (t':=s.toks) (ch:=[z,TI,TO,i1,i2]) u1 hok I.bare ch;refine⟨.ref s.heap.objs.size,_,I2,rfl,⟨_,x,y,hfr,rfl,rfl,λzs h=>by rw[I.list_inj h hqx];exact hx,λzs h=>by rw[I.list_inj h hqy];exact hy⟩,⟨hz2,?_,⟨u,v,sb.extBut _ _ ap.TOz hO'⟩,hi1'.extBut sb.extBut ap.i1z,hi2'.extBut sb.extBut ap.i2z⟩,λc hb=>?_⟩
  ·exact sb.extBut _ _ ap.TIz (kk _ _ ap.TIz ap.TITO ap.TIi1 ap.TIi2 hI)
  ·have hlt:c<s.heap.objs.size:=by
    simp only[yC,yF,or_false] at hb;obtain⟨o1,e1,_⟩:=hi1;obtain⟨o2,e2,_⟩:=hi2;rcases hb with rfl|rfl|rfl|rfl|rfl
    ·exact xI hz
    ·exact xI hI
    ·exact xI hO
    ·exact xI e1
    ·exact xI e2
   rw[aB (yQ hlt)];exact(hf c hb).1
 done:=by
  intro X hP hw hK hc i pins s σ H E I hf st hg;subst hP hw hK;obtain⟨hz,hI,⟨p,q,hO⟩,hi1,hi2⟩:=st;obtain⟨xs,ys,hqx,hqy,hx⟩:=hg;obtain⟨its,rv,pa,_⟩:=I.list hqx;obtain⟨jts,rw',pb,_⟩:=I.list hqy;have l1:=rv.length;have l2:=rw'.length;refine wpAny_pyNext_zip_end (I.ok.hd hc) ap hz hI hO hi1 hi2 pa.isList pb.isList (by
   rcases hx with h|h
   ·exact .inl (by simp;omega)
   ·exact .inr (by simp;omega)) λh' kk=>⟨rfl,?_⟩
  have nb:∀c o,c∉[z,TI,TO,i1,i2]->s.heap.get? c=some o->h'.get? c=some o:=λc o hcm e=>by
   simp only[yC,yF,or_false,not_or] at hcm;exact kk c o hcm.1 hcm.2.2.1 hcm.2.2.2.1 hcm.2.2.2.2 e
  have ch:∀c∈[z,TI,TO,i1,i2],(c∈X.ex\/X.s₀.heap.objs.size<=c)/\c≠X.env.locals/\(∀x d,X.env.cells.lookup x=some d->d≠c)/\∀p∈X.pn++pins,p.1≠c:=λc hcm=>⟨(hf c hcm).2.2.2.1,(hf c hcm).2.1,(hf c hcm).2.2.2.2.1,(hf c hcm).2.2.2.2.2⟩
  have nfp:∀c u,H c=some u->c∉[z,TI,TO,i1,i2]:=λc u e hb=>by
   have:=(hf c hb).1;rw[e] at this;cases this
  have u1:Un (frs X.stack) [z,TI,TO,i1,i2] H H s.heap h':=
   ⟨λc o e n _ hb=>nb c o hb e,λc o e n _ hb=>⟨o.slots,nb c o hb e⟩,λc o e n hb=>n,λc o e hb=>⟨o,nb c o hb e⟩,λc ys e=>e,λc o u e=>e,λc ps e=>⟨#[],by rw[e];simp⟩⟩
  have hok:HOk X.prog X.w H h':=λc o e=>(I.hok c o e).stay (λd w hd r=>nb d w (by
   rcases hd with y|y
   ·rw[y];exact nfp c o e
   ·exact nfp d _ y) r) (λd r=>r) λd ys r=>r
  exact I.call (g':=s.gens) (d':=s.drawn) (t':=s.toks) (ch:=[z,TI,TO,i1,i2]) u1 hok I.bare ch
 self:=λ_ _ _ _ _ st h=>wpAny_pyIter_zip st.1 h
theorem rX:bootBuiltins "zip"=some (.type "zip"):=by first|exact PySem.boot_zip|rfl|decide+kernel
def iZip(K:PySem.W.Frag)(ta:TA):TI:=λσ H R=>ta σ H λvs H1=>∃a b,vs=[.ref a,.ref b]/\(∃xs,SqL K H1 a xs)/\(∃ys,SqL K H1 b ys)/\R (Itz K a b) H1
theorem pi_zip(hg:Gl X "zip")(hm:X.mg "zip"=none)(ha:PA X [l,r] ta)(hs:starEach [l,r] X.env=[(false,eval l X.env),(false,eval r X.env)])(hs2:starEach [r] X.env=[(false,eval r X.env)]):
  PI X (.Tuple elts k tpos) (.Call (.Name "zip" p) [l,r] [] pos) (iZip X.K ta):=by
 intro pins s σ H R I h;refine Call_ (fG I hg hm rX (PyProof.Rows.callWith_type1 (thn (ha pos pins s σ H _ I h) λus s1 ⟨vs,H1,I1,r1,q1⟩=>?_) (by rw[hs,hs2]) (by rw[hs2];rfl)));obtain⟨a,b,e,⟨xs,hqx⟩,⟨ys,hqy⟩,q⟩:=q1;subst e;obtain⟨u,v,rfl,ru,rv⟩:=vals2 r1;cases ru;cases rv;obtain⟨its,rvx,pa,_⟩:=I1.list hqx;obtain⟨jts,rvy,pb,_⟩:=I1.list hqy;obtain⟨oa,ea,_⟩:=id pa.isList;obtain⟨ob,eb,_⟩:=id pb.isList;have la: @LT.lt Nat _ a s1.heap.objs.size:=xI ea;have lb: @LT.lt Nat _ b s1.heap.objs.size:=xI eb;refine call_zip_2 pa.isList pb.isList λh' hz hI hO hi1 hi2 hsz kk=>?_;refine wpAny_pyIter_zip (s:={s1 with heap:=h'}) hz ?_;have I2:Inv X pins σ H1 {s1 with heap:=h'}:=I1.kept (t':=s1.toks) kk;refine⟨s1.heap.objs.size+4,[s1.heap.objs.size+4,s1.heap.objs.size+2,s1.heap.objs.size+3,s1.heap.objs.size,s1.heap.objs.size+1],_,_,H1,rfl,I2,uH ⟨?_,?_,?_,?_,?_,?_,?_,?_,?_,?_,?_,?_,?_,?_,?_,?_,?_,?_⟩,⟨hz,hI,⟨_,_,hO⟩,hi1,hi2⟩,λc hc=>?_,q⟩
 rotate_right
 ·have hle:s1.heap.objs.size<=c:=by
   simp only[yC,yF,or_false] at hc;rcases hc with rfl|rfl|rfl|rfl|rfl<;>omega
  exact I1.fpOk hle (I1.hok.fresh hle)
 all_goals(intro y;have y: @Eq Nat _ _:=y;omega)
variable{X:Cx}
end L2
namespace L2
open PySem PySem.Spec PyProof.Rows
def FlyG(Nw:Addr->Prop)(h:Heap)(H:Hp)(e:Addr)(cls:Value):Prop:=
 Nw e/\H e=none/\∃oe vs,h.get? e=some oe/\(oe.cls=cls/\oe.dict=none)/\oe.data=.fields vs/\∃T oT ts v,vs[1]?=some (.ref T)/\Nw T/\H T=none/\T≠e/\h.get? T=some oT/\oT.data=.fields ts/\ts[3]?=some v
section
variable{M:Model}{A:Around}{E:Value->Shared->Prop}{s:Shared}
theorem mK{bs:Heap}{env:Env}{outer:List Env}{L e:Addr}{oe:Obj}{vs:Array Value}{head:Value}{hn:Bool}{Q:Unit->Shared->Prop}(hfr:A.frames=some (env::outer))(hl:s.heap.FunFrames bs (env::outer))(hf:env.frame=some L)
  (he:s.heap.get? e=some oe) (hd:oe.data=.fields vs) (hsz:1<vs.size)
  (k:∀h' T oe' vs' oT ts v,s.heap.get? T=none->(∀b o,s.heap.get? b=some o->b∉frs (env::outer)->b≠e->h'.get? b=some o)->(∀b o,s.heap.get? b=some o->b∈frs (env::outer)->∃sl,h'.get? b=some {o with slots:=sl})->
   h'.get? e=some oe'->(oe'.cls=oe.cls/\oe'.dict=oe.dict)->oe'.data=.fields vs'->vs'[1]?=some (.ref T)->T≠e->h'.get? T=some oT->oT.data=.fields ts->ts[3]?=some v->Q () {s with heap:=h'}):
  wpAny M A (do let a←frameOf env;let pl←entryPlaceOf L hn;let b←EntryCells.newEntry head a .none (rawInt L) .none pl;setField (.ref e) 1 b) Q E s:=by
 have ne:e∉frs (env::outer):=λhm=>by
  obtain⟨_,o,ho,nf⟩:=hl.mem hm;rw[he] at ho;cases ho;exact nf vs hd
 refine xA (wpAny_frameOf_fun hfr hl hf λh1 s1=>?_);refine xA (wpAny_entryPlaceOf λpl hpl=>?_);unfold EntryCells.newEntry newFields;refine xA (zO ?_ (hpl.sizeOk5 _ _ _ _ _));have e1:h1.get? e=some oe:=(s1.2.1 e ne).trans he;generalize hts:([head,.ref L,.none,rawInt L,.none]++(if pl.isEmpty then List.replicate 6 Value.none else pl)).toArray=ts;have t3:ts[3]?=some (rawInt L):=by rw[←hts];simp
 have fresh:s.heap.get? h1.objs.size=none:=by
  cases q:s.heap.get? h1.objs.size with
  |none=>rfl
  |some o=>have:=xI q;rw[s1.1] at this;exact absurd this (yW _)
 have e2:=xH (h:=h1) {cls:=.type "traceback",dict:=none,data:=.fields ts} e1;have nT:h1.objs.size≠e:=zM (xI e1);have d3:=yT hd (·.setIfInBounds 1 (Value.ref h1.objs.size));have e3:=yH (Obj.mapFields (·.setIfInBounds 1 (Value.ref h1.objs.size))) e2 (yR d3);have q3:=(x6 (h1.push {cls:=.type "traceback",dict:=none,data:=.fields ts}) (Obj.mapFields (·.setIfInBounds 1 (Value.ref h1.objs.size))) (yI nT)).trans (yU h1 rfl);refine wpAny_setField e2 hd hsz (k _ h1.objs.size _ _ _ _ _ fresh (λb o hb nb nbe=>?_) (λb o hb mb=>?_) e3 ⟨Obj.cls_mapFields _ _,mI _ _⟩ d3 (by simp[hsz]) nT q3 rfl t3)
 ·have hb1:h1.get? b=some o:=(s1.2.1 b nb).trans hb
  rw[x6 _ _ (yI nbe)];exact xH _ hb1
 ·obtain⟨sl,hb1⟩:=s1.2.2 b o hb
  refine⟨sl,?_⟩;rw[x6 _ _ (λz=>ne (by rw[z];exact mb))];exact xH _ hb1
theorem fly_mid(hfr:A.frames=some (env::outer))(hl:s.heap.FunFrames bs (env::outer))(hf:env.frame=some L)
  (F:Fly Nw s.heap H e cls) (hN:∀b,s.heap.get? b=none->Nw b) (hH:∀b,s.heap.get? b=none->H b=none)
  (k:∀h' ch,Recs Nw s.heap H ch->FlyG Nw h' H e cls->Noted (frs (env::outer)) ch s.heap h'->Q () {s with heap:=h'}):
  wpAny M A (noteFrame (.ref e) env) Q E s:=by
 obtain⟨n,he0,oe,vs,he,⟨hc,hdn⟩,hd,tr⟩:=F;subst hc;unfold noteFrame;simp only[hf];rcases tr with h1|⟨T,oT,ts,h1,nT,hT0,hTe,hT,hdT,h3⟩
 ·refine xA (yO he hd h1 ?_)
  rw[xC (by decide)];refine mK hfr hl hf he hd (Array.getElem?_eq_some_iff.mp h1).1 λh' T oe' vs' oT ts v nT kp sl a1 a2 a3 a4 a5 a6 a7 a8=>?_;refine k h' [e] (λb hb=>by rw[List.mem_singleton.mp hb];exact⟨n,he0,oe,vs,he,hd⟩) ⟨n,he0,oe',vs',a1,⟨a2.1,a2.2.trans hdn⟩,a3,T,oT,ts,v,a4,hN T nT,hH T nT,a5,a6,a7,a8⟩ ⟨λb o hb nb c=>kp b o hb nb λz=>c (by simp[z]),sl,λb o hb=>?_⟩;by_cases hm:b∈frs (env::outer)
  ·obtain⟨_,q⟩:=sl b o hb hm;exact⟨_,q⟩
  ·by_cases hbe:b=e
   ·exact⟨oe',by rw[hbe];exact a1⟩
   ·exact⟨o,kp b o hb hm hbe⟩
 ·refine xA (yO he hd h1 ?_)
  rw[xE (show(Value.ref T !=Value.none)=true from by simp)];refine xA (yO hT hdT h3 ?_);rw[xC (show¬((Value.none==rawInt L)=true) from by simp[rawInt])];refine xA (wpAny_setField hT hdT (Array.getElem?_eq_some_iff.mp h3).1 ?_);have other:∀b,b≠T->(s.heap.update T (Obj.mapFields (·.setIfInBounds 3 Value.none))).get? b=s.heap.get? b:=λb hb=>x6 _ _ (yI hb);have nrec:∀b o,s.heap.get? b=some o->(∀ws,o.data≠.fields ws)->b≠T:=λb o hb nf q=>by
   rw[q,hT] at hb;cases hb;exact nf ts hdT
  have back:∀b,(s.heap.update T (Obj.mapFields (·.setIfInBounds 3 Value.none))).get? b=none->s.heap.get? b=none:=λb hb=>by
   by_cases q:b=T
   ·subst q
    rw[yH _ hT (yR (yT hdT _))] at hb;cases hb
   ·rw[other b q] at hb;exact hb
  refine mK hfr (hl.of_keeps λb o hb nf=>⟨o,(other b (nrec b o hb nf)).trans hb,rfl⟩) hf ((other e (yI hTe)).trans he) hd (Array.getElem?_eq_some_iff.mp h1).1 λh' T' oe' vs' oT' ts' v' nT' kp sl a1 a2 a3 a4 a5 a6 a7 a8=>?_;have nTf:T∉frs (env::outer):=λhm=>by
   obtain⟨_,o,ho,nf⟩:=hl.mem hm;rw[hT] at ho;cases ho;exact nf ts hdT
  refine k h' [e,T] (λb hb=>?_) ⟨n,he0,oe',vs',a1,⟨a2.1,a2.2.trans hdn⟩,a3,T',oT',ts',v',a4,hN T' (back _ nT'),hH T' (back _ nT'),a5,a6,a7,a8⟩ ⟨λb o hb nb c=>?_,λb o hb mb=>?_,λb o hb=>?_⟩
  ·rcases List.mem_cons.mp hb with z|z
   ·rw[z];exact⟨n,he0,oe,vs,he,hd⟩
   ·rw[List.mem_singleton.mp z];exact⟨nT,hT0,oT,ts,hT,hdT⟩
  ·exact kp b o ((other b λz=>c (by simp[z])).trans hb) nb λz=>c (by simp[z])
  ·exact sl b o ((other b (by rintro rfl;exact nTf mb)).trans hb) mb
  ·by_cases hbT:b=T
   ·subst hbT
    have q:=yH (Obj.mapFields (·.setIfInBounds 3 Value.none)) hT (yR (yT hdT _));exact⟨_,kp b _ q nTf hTe⟩
   ·by_cases hm:b∈frs (env::outer)
    ·obtain⟨_,q⟩:=sl b o ((other b hbT).trans hb) hm;exact⟨_,q⟩
    ·by_cases hbe:b=e
     ·exact⟨oe',by rw[hbe];exact a1⟩
     ·exact⟨o,kp b o ((other b hbT).trans hb) hm hbe⟩
theorem p7(F:FlyG Nw s.heap H e cls)
  (k:∀h' ch,Recs Nw s.heap H ch->FlyG Nw h' H e cls->(fr=none->Fly Nw h' H e cls)->Noted [] ch s.heap h'->Q () {s with heap:=h'}):wpAny M A (setFlight (.ref e) fr) Q E s:=by
 obtain⟨n,he0,oe,vs,he,hc,hd,T,oT,ts,v,h1,nT,hT0,hTe,hT,hdT,h3⟩:=F;unfold setFlight;refine xA (yO he hd h1 ?_);rw[xE (show(Value.ref T !=Value.none)=true from by simp)];have sz:=(Array.getElem?_eq_some_iff.mp h3).1;generalize hv:(fr.elim Value.none λf=>rawInt f)=x;have d3:=yT hdT (·.setIfInBounds 3 x);have self:=yH (Obj.mapFields (·.setIfInBounds 3 x)) hT (yR d3);have other:∀b,b≠T->(s.heap.update T (Obj.mapFields (·.setIfInBounds 3 x))).get? b=s.heap.get? b:=λb hb=>x6 _ _ (yI hb);refine wpAny_setField hT hdT sz (k _ [T] (λb hb=>by rw[List.mem_singleton.mp hb];exact⟨nT,hT0,oT,ts,hT,hdT⟩) ⟨n,he0,oe,vs,(other e (yI hTe)).trans he,hc,hd,T,_,_,x,h1,nT,hT0,hTe,self,d3,by simp[sz]⟩ (λz=>?_) ⟨λb o hb _ c=>(other b λz=>c (by simp[z])).trans hb,λb o hb z=>(nomatch z),λb o hb=>?_⟩)
 ·subst z
  have:x=Value.none:=hv.symm;subst this;exact⟨n,he0,oe,vs,(other e (yI hTe)).trans he,hc,hd,.inr ⟨T,_,_,h1,nT,hT0,hTe,self,d3,by simp[sz]⟩⟩
 ·by_cases hbT:b=T
  ·subst hbT;exact⟨_,self⟩
  ·exact⟨o,(other b hbT).trans hb⟩
theorem rY(hfr:A.frames=some (env::outer))(hl:s.heap.FunFrames bs (env::outer))(hf:env.frame=some L)
  (F:FlyG Nw s.heap H e cls) (hN:∀b,s.heap.get? b=none->Nw b) (hH:∀b,s.heap.get? b=none->H b=none)
  (k:∀h' ch,Recs Nw s.heap H ch->Fly Nw h' H e cls->Noted (frs (env::outer)) ch s.heap h'->Q () {s with heap:=h'}):
  wpAny M A (noteFrame (.ref e) env) (λ_ s'=>wpAny M A (setFlight (.ref e) none) Q E s') E s:=by
 obtain⟨n,he0,oe,vs,he,⟨hc,hdn⟩,hd,T,oT,ts,v,h1,nT,hT0,hTe,hT,hdT,h3⟩:=id F;subst hc;unfold noteFrame;simp only[hf];have nTf:T∉frs (env::outer):=λhm=>by
  obtain⟨_,o,ho,nf⟩:=hl.mem hm;rw[hT] at ho;cases ho;exact nf ts hdT
 refine xA (yO he hd h1 ?_);rw[xE (show(Value.ref T !=Value.none)=true from by simp)];refine xA (yO hT hdT h3 ?_);by_cases hv:(v==rawInt L)=true
 ·rw[xE hv]
  refine xX (p7 F λh' ch rc _ F2 nt=>k h' ch rc (F2 rfl) ⟨λb o hb _ c=>nt.keep b o hb (λz=>nomatch z) c,λb o hb mb=>?_,nt.there⟩);refine⟨o.slots,nt.keep b o hb (λz=>nomatch z) λz=>?_⟩;obtain⟨_,_,o',ws,e',d'⟩:=rc b z;obtain⟨_,o2,ho,nf⟩:=hl.mem mb;rw[e'] at ho;cases ho;exact nf ws d'
 ·rw[xC hv]
  refine xA (wpAny_setField hT hdT (Array.getElem?_eq_some_iff.mp h3).1 ?_);have other:∀b,b≠T->(s.heap.update T (Obj.mapFields (·.setIfInBounds 3 Value.none))).get? b=s.heap.get? b:=λb hb=>x6 _ _ (yI hb);have nrec:∀b o,s.heap.get? b=some o->(∀ws,o.data≠.fields ws)->b≠T:=λb o hb nf q=>by
   rw[q,hT] at hb;cases hb;exact nf ts hdT
  have back:∀b,(s.heap.update T (Obj.mapFields (·.setIfInBounds 3 Value.none))).get? b=none->s.heap.get? b=none:=λb hb=>by
   by_cases q:b=T
   ·subst q
    rw[yH _ hT (yR (yT hdT _))] at hb;cases hb
   ·rw[other b q] at hb;exact hb
  refine fI hfr (hl.of_keeps λb o hb nf=>⟨o,(other b (nrec b o hb nf)).trans hb,rfl⟩) hf ((other e (yI hTe)).trans he) hd (Array.getElem?_eq_some_iff.mp h1).1 λh' T' oe' vs' oT' ts' nT' kp sl a1 a2 a3 a4 a5 a6 a7 a8=>?_;refine k h' [e,T] (λb hb=>?_) ⟨n,he0,oe',vs',a1,⟨a2.1,a2.2.trans hdn⟩,a3,.inr ⟨T',oT',ts',a4,hN T' (back _ nT'),hH T' (back _ nT'),a5,a6,a7,a8⟩⟩ ⟨λb o hb nb c=>?_,λb o hb mb=>?_,λb o hb=>?_⟩
  ·rcases List.mem_cons.mp hb with z|z
   ·rw[z];exact⟨n,he0,oe,vs,he,hd⟩
   ·rw[List.mem_singleton.mp z];exact⟨nT,hT0,oT,ts,hT,hdT⟩
  ·exact kp b o ((other b λz=>c (by simp[z])).trans hb) nb λz=>c (by simp[z])
  ·exact sl b o ((other b (by rintro rfl;exact nTf mb)).trans hb) mb
  ·by_cases hbT:b=T
   ·subst hbT
    have q:=yH (Obj.mapFields (·.setIfInBounds 3 Value.none)) hT (yR (yT hdT _));exact⟨_,kp b _ q nTf hTe⟩
   ·by_cases hm:b∈frs (env::outer)
    ·obtain⟨_,q⟩:=sl b o ((other b hbT).trans hb) hm;exact⟨_,q⟩
    ·by_cases hbe:b=e
     ·exact⟨oe',by rw[hbe];exact a1⟩
     ·exact⟨o,kp b o ((other b hbT).trans hb) hm hbe⟩
end
theorem FlyG.mono(F:FlyG N h H e cls)(s:∀b,N b->N' b):FlyG N' h H e cls:=by
 obtain⟨n,he,oe,vs,h1,h2,h3,T,oT,ts,v,a,b,r⟩:=F;exact⟨s _ n,he,oe,vs,h1,h2,h3,T,oT,ts,v,a,s _ b,r⟩
def ToG(X:Cx)(cl:Nat->Addr)(XE:Nat->St->Hp->Prop):Prop:=
 ∀(pins:List (Addr×Obj))(σ:St)(H:Hp)(s:Shared)(a:Addr)(c:Nat),Inv X pins σ H s->FlyG (NewIn X) s.heap H a (.ref (cl c))->XE c σ H->X.xe (.ref a) s
section
variable{P:Program}{w:World}{K:PySem.W.Frag}{mg:Str->Option Value}{base:Heap}{N:List Str}{qual:Str}{scope:Scope}{f:Addr}{cd:Value}{A:Around}{outer:List Env}{s:Shared}{H:Hp}{E:XK}{cl:Nat->Addr}
theorem tog_def:ToG (cxOf (CXE P w) P w K mg base N qual scope f cd A outer s H E) cl (λc _ H'=>E (.ref (cl c)) none H'):=by
 intro pins σ H1 s1 a c I F hE;show wpAny _ _ (leaving _ _) _ _ s1;unfold leaving;have F':FlyG (λb=>s.heap.get? b=none) s1.heap H1 a (.ref (cl c)):=F.mono λb z=>z.1;have back:∀b,s1.heap.get? b=none->s.heap.get? b=none:=λb hb=>by
  cases q:s.heap.get? b with
  |none=>rfl
  |some o=>
   obtain⟨o',z⟩:=I.base.there b o q (λz=>nomatch z);rw[z] at hb;cases hb
 refine xA (rY (outer:=outer) I.ok.frames I.stack rfl F' back (λb hb=>I.hok.new hb) λh' ch rc F2 n=>?_);have nloc:∀b o,s.heap.get? b=some o->b∉frs outer->b∉frs ((cxOf (CXE P w) P w K mg base N qual scope f cd A outer s H E).env::outer):=λb o hb nb hm=>by
  have hm':b∈s.heap.objs.size::frs outer:=hm;rcases List.mem_cons.mp hm' with z|z
  ·subst z;exact absurd (xI hb) (yW _)
  ·exact nb z
 have sub:∀b,b∈frs outer->b∈frs ((cxOf (CXE P w) P w K mg base N qual scope f cd A outer s H E).env::outer):=λb hb=>show b∈s.heap.objs.size::frs outer from xK _ hb;have B:Un (frs outer) [] H H1 s.heap s1.heap:=I.base;refine⟨a,cl c,H1,rfl,I.os,I.bare,⟨λb o q n1 nb nx=>?_,λb o q n1 mb nx=>?_,B.free,λb o q nx=>?_,B.tups,B.frzs,B.tbls⟩,I.hok.noted n (λb hb=>I.stkFree b hb) λb hb=>(rc b hb).2.1,F2,hE⟩
 ·exact n.keep b o (B.keep b o q n1 nb nx) (nloc b o q nb) λz=>by have y:s.heap.get? b=none:=(rc b z).1;rw[q] at y;cases y
 ·obtain⟨sl,z⟩:=B.slot b o q n1 mb nx
  obtain⟨sl',z'⟩:=n.slot b _ z (sub b mb);exact⟨sl',z'⟩
 ·obtain⟨o',z⟩:=B.there b o q nx
  exact n.there b o' z
end
def PassC(X:Cx)(cl:Nat->Addr)(XO:Nat->Hp->Prop):Prop:=∀(pins:List (Addr×Obj))(σ:St)(H:Hp)(s:Shared)(e:Value)(s':Shared),Inv X pins σ H s->CXE X.prog X.w X.stack H s (λk _ H'=>∃c,k=.ref (cl c)/\XO c H') e s'->X.xe e s'
section
variable{X:Cx}{N':List Str}{caps:List Nat}{ntg:Nat}{scope:Scope}{pins:List (Addr×Obj)}{σ:St}{clx:Nat->Addr}{XE:Nat->St->Hp->Prop}
theorem uI
  (hst:X.stack=X.env::X.outer) (hf:X.env.frame=some L) (tX:ToG X clx XE)
  (I:Inv X pins σ H' s') (hm:s'.heap.Ns C m) (hC:H' C=none) (hCL:C≠X.env.locals) (hCs:X.s₀.heap.objs.size<=C) (hCc:∀x c,X.env.cells.lookup x=some c->c≠C) (hCp:∀q∈X.pn++pins,q.1≠C)
  (hN:∀b,s'.heap.get? b=none->X.s₀.heap.get? b=none/\∀q∈X.pn++pins,q.1≠b)
  (F:Fly (λb=>X.s₀.heap.get? b=none/\∀q∈X.pn++pins,q.1≠b) s'.heap H' a (.ref (clx c))) (xe:XE c σ H'):
  notedBy (model X.prog X.w) X.A (compEnvC scope cls C X.env) (λe s''=>compPost (model X.prog X.w) X.A X.xe use Q acc C (.error e) s'') (.ref a) s':=by
 show wpAny _ X.A (noteFrame (.ref a) X.env) _ _ s';have hfr:X.A.frames=some (X.env::X.outer):=by rw[←hst];exact I.ok.frames
 have hl:=I.stack;rw[hst] at hl;refine fly_mid hfr hl hf F hN (λb hb=>I.hok.new hb) λh1 ch rc F1 n=>?_;have I1:Inv X pins σ H' {s' with heap:=h1}:=I.noted (fs:=frs (X.env::X.outer)) (λb hb=>by rw[hst];exact hb) n rc;obtain⟨oC,es,ep,ho,hd,r⟩:=id hm;have nCch:C∉ch:=λz=>by
  obtain⟨_,_,o',ws,e',d'⟩:=rc C z;rw[ho] at e';cases e';rw[hd] at d';cases d'
 obtain⟨oC',ho',hd'⟩:∃o',h1.get? C=some o'/\o'.data=oC.data:=by
  by_cases hmem:C∈frs (X.env::X.outer)
  ·obtain⟨sl,z⟩:=n.slot C oC ho hmem;exact⟨_,z,rfl⟩
  ·exact⟨oC,n.keep C oC ho hmem nCch,rfl⟩
 refine⟨m,⟨oC',es,ep,ho',hd'.trans hd,r⟩,λh2 sb cenv hc=>?_⟩;have I2:Inv X pins σ H' {s' with heap:=h2}:=Inv.turned (s:={s' with heap:=h1}) (t':=s'.toks) (it:=C) I1 (λb o hb e=>sb.extBut b o hb e) hC hCL (.inr hCs) hCc hCp;obtain⟨f1,f2,oe,vs,f3,f4,f5,T,oT,ts,v,f6,f7,f8,f9,f10,f11,f12⟩:=F1;have nf:∀b o ws,h1.get? b=some o->o.data=.fields ws->b≠C:=λb o ws e d z=>by
  subst z;rw[ho'] at e;cases e;rw[hd',hd] at d;cases d
 have f3':h2.get? a=some oe:=(sb.2 a (nf a oe vs f3 f5)).trans f3;have F2:FlyG (λb=>X.s₀.heap.get? b=none/\∀q∈X.pn++pins,q.1≠b) h2 H' a (.ref (clx c)):=⟨f1,f2,oe,vs,f3',f4,f5,T,oT,ts,v,f6,f7,f8,f9,(sb.2 T (nf T oT ts f10 f11)).trans f10,f11,f12⟩
 unfold PySem.passOn;refine xA (yO (s:={s' with heap:=h2}) f3' f5 f6 ?_);rw[xC (show¬((Value.ref T==Value.none)=true) from by simp)];refine xA (p7 (s:={s' with heap:=h2}) F2 λh3 ch3 rc3 F3 _ n3=>wpAny_throw ?_);have I3:=I2.noted (fs:=[]) (λb hb=>nomatch hb) n3 rc3;exact tX pins σ H' _ a c I3 (F3.mono λb z=>⟨z.1,λq hq=>z.2 q (List.mem_append_left _ hq)⟩) xe
theorem uJ{Q:Addr->Hp->Prop}{RR:Value->Addr->Result->Shared->Prop}
  (hc:X.calm=true) (I2:Inv X pins σ H2 s2) (Sc:CompSc X N' caps ntg scope)
  (hin:∀x c,cl.lookup x=some c->X.env.cells.lookup x=some c) (hall:∀x,(x,NameKind.free)∈scope.names->∃c,cl.lookup x=some c)
  (T:Turn X.prog X.w X.K tg J fp it tn) (t2:tn 0 s2.heap) (f2:∀b∈fp,FpOk X pins H2 b)
  (hx:X.ex=[]) (hg:∀C s H E,PG (cxComp X N' scope cl C s H fp E) tg g) (ht:∀C s H E,PTs (cxComp X N' scope cl C s H fp E) [] tc) (he:∀C s H E,PassC (cxComp X N' scope cl C s H fp E) clx XO->PE (cxComp X N' scope cl C s H fp E) elt te)
  (q:∀p,H2 p=none->tCompL J g tc te (Q p) (capS σ caps ntg) p (upd H2 p (.lst [])))
  (hR:∀p C s' H' m,Inv X pins σ H' s'->H2 p=none->s'.heap.Ns C m->H' C=none->s2.heap.objs.size<C->Q p H'->RR (.ref p) C (.ok .next) s')
  (hX:∀p C s' H' m a c,Inv X pins σ H' s'->s'.heap.Ns C m->H' C=none->s2.heap.objs.size<C->(∀b,s'.heap.get? b=none->X.s₀.heap.get? b=none/\∀q∈X.pn++pins,q.1≠b)->Fly (λb=>X.s₀.heap.get? b=none/\∀q∈X.pn++pins,q.1≠b) s'.heap H' a (.ref (clx c))->XO c H'->notedBy (model X.prog X.w) X.A (compEnvC scope cl C X.env) (λe s''=>RR (.ref p) C (.error e) s'') (.ref a) s'):
  wpAny (model X.prog X.w) X.A (newList []) (λacc s₃=>wpAny (model X.prog X.w) X.A (newFunctionEnv scope X.env.globals cl [] X.env.qual none .none (some X.env)) (λcenv s₄=>
   codeAny (model X.prog X.w) X.A (.compStart (.ListComp elt [⟨tg,iter,[],0⟩] scope pos) 0 (.ref it) acc {cenv with scope:=relabel scope X.env}) (RR acc cenv.locals) s₄) X.xe s₃) X.xe s2:=by
 refine zO (wpAny_newFunctionEnv Sc.ncell (by intro y hy;simp at hy) (λh₁ hns₁ hsb₁=>?_) Sc.kind);dsimp only at hns₁ hsb₁⊢;generalize hs3:({s2 with heap:=s2.heap.push {cls:=.type "list",dict:=none,data:=.seq ([]:List Value).toArray}}:Shared)=s3;have e3:s2.heap.push {cls:=.type "list",dict:=none,data:=.seq ([]:List Value).toArray}=s3.heap:=by rw[←hs3]
 rw[e3] at hns₁ hsb₁⊢;have k1:∀b o,s3.heap.get? b=some o->h₁.get? b=some o:=λb o e=>hsb₁.extBut b o (yQ (xI e)) (xH _ e);have k0:∀b o,s2.heap.get? b=some o->s3.heap.get? b=some o:=λb o e=>by rw[←e3];exact xH _ e
 have sz:s3.heap.objs.size=s2.heap.objs.size+1:=by rw[←e3];exact Heap.size_push ..
 have os3:s3.os=s2.os:=by rw[←hs3]
 have hp0:H2 s2.heap.objs.size=none:=I2.hok.fresh (xN _)
 let EE:Value->Shared->Prop:=notedBy (model X.prog X.w) X.A (compEnvC scope cl s3.heap.objs.size X.env) (λe s'=>RR (.ref s2.heap.objs.size) s3.heap.objs.size (.error e) s')
 have IC:=iH (E:=EE) (tk:=s2.toks+([]:List (Str×Value)).length) (h1:=h₁) I2 Sc hin hall T t2 f2 rfl hs3.symm k1 hns₁;have est:({s2 with heap:=h₁,toks:=s2.toks+([]:List (Str×Value)).length}:Shared)={s3 with heap:=h₁,toks:=s2.toks+([]:List (Str×Value)).length}:=by rw[←hs3]
 rw[est];have T1:tn 0 h₁:=T.keep _ _ _ t2 λb _ o e=>k1 b o (k0 b o e);obtain⟨W,⟨m0,w0⟩,turn⟩:=q _ hp0;have I3:Inv X pins σ (upd H2 s2.heap.objs.size (.lst [])) s3:=by
  rw[←hs3];exact I2.lnew (ys:=[]) (its:=[]) (t':=s2.toks) .nil (Nat.zero_le _)
 have fp3:∀b∈fp,upd H2 s2.heap.objs.size (.lst []) b=none:=λb hb=>by
  obtain⟨o,e,_⟩:=T.obj _ _ t2 b hb;rw[aB (yQ (xI e))];exact(f2 b hb).1
 have fpC:∀b∈fp,b≠s3.heap.objs.size:=λb hb=>by
  obtain⟨o,e,_⟩:=T.obj _ _ t2 b hb;exact yQ (xI (k0 b o e))
 have stat:∀{H':Hp},(∀b∈fp,H' b=none)->∀b∈fp,FpOk (cxComp X N' scope cl s3.heap.objs.size s3 (upd H2 s2.heap.objs.size (.lst [])) fp EE) [] H' b:=λhn b hb=>
  ⟨hn b hb,fpC b hb,λz=>by
   rcases List.mem_cons.mp (I3.stkSub b z) with y|y
   ·exact(f2 b hb).2.1 y
   ·exact(f2 b hb).2.2.1 y,.inl hb,λx c e=>(f2 b hb).2.2.2.2.1 x c (hin x c e),λp hp=>absurd (show p∈([]:List (Addr×Obj)) from hp) (by simp)⟩
 have u1:Un (frs X.stack) fp H2 (upd H2 s2.heap.objs.size (.lst [])) s2.heap s3.heap:=by
  rw[←e3];exact Un.laid (λb u e=>xH _ e) (xN _) hp0
 have nofp:∀b o,X.s₀.heap.get? b=some o->b∉fp:=λb o e hb=>by
  rcases(f2 b hb).2.2.2.1 with z|z
  ·rw[hx] at z;exact nomatch z
  ·exact absurd (xI e) (Nat.not_lt.mpr z)
 have pass:PassC (cxComp X N' scope cl s3.heap.objs.size s3 (upd H2 s2.heap.objs.size (.lst [])) fp EE) clx XO:=by
  rintro pinsC σC HC sC e sD IC' ⟨a,Cc,HD,rfl,os,bare,un,hok,F,c,ec,xo⟩;have ec':Cc=clx c:=by simpa using ec
  subst ec';have I5:=IC'.call' os un hok bare λb z=>nomatch z;obtain⟨mm,hm,_⟩:=I5.loc;have u2:Un (frs X.stack) fp H2 HD s2.heap sD.heap:=u1.trans I5.base;have I6:Inv X pins σ HD sD:=I2.call' (ch:=fp) (I5.os.trans os3) u2 I5.hok I5.bare λb hb=>⟨(f2 b hb).2.2.2.1,(f2 b hb).2.1,(f2 b hb).2.2.2.2.1,(f2 b hb).2.2.2.2.2⟩
  have nw:∀(hh:Heap),(∀b o,s3.heap.get? b=some o->b∉fp->∃o',hh.get? b=some o')->∀b,hh.get? b=none->X.s₀.heap.get? b=none/\∀q∈X.pn++pins,q.1≠b:=λhh th b hb=>by
   refine⟨?_,λq hq z=>?_⟩
   ·cases qo:X.s₀.heap.get? b with
    |none=>rfl
    |some o=>
     obtain⟨o1,z1⟩:=I2.base.there b o qo (by rw[hx];exact λz=>nomatch z);obtain⟨o2,z2⟩:=th b o1 (k0 b o1 z1) (nofp b o qo);rw[z2] at hb;cases hb
   ·have p1:=(I2.pin q hq).1
    obtain⟨o2,z2⟩:=th q.1 q.2 (k0 _ _ p1) λhb'=>(f2 q.1 hb').2.2.2.2.2 q hq rfl;rw[z,hb] at z2;cases z2
  have thC:∀b o,s3.heap.get? b=some o->b∉fp->∃o',sC.heap.get? b=some o':=λb o e nb=>IC'.base.there b o e nb;have thD:∀b o,s3.heap.get? b=some o->b∉fp->∃o',sD.heap.get? b=some o':=λb o e nb=>I5.base.there b o e nb;exact hX _ _ sD HD mm a c I6 hm I5.free (by rw[sz];exact Nat.lt_succ_self _) (nw _ thD) (F.mono (nw _ thC)) xo
 have loop:codeAny (model X.prog X.w) X.A (.compLoop (.ListComp elt [⟨tg,iter,[],0⟩] scope pos) 0 (.ref it) (.ref s2.heap.objs.size) (compEnvC scope cl s3.heap.objs.size X.env)) (RR (.ref s2.heap.objs.size) s3.heap.objs.size)
   {s3 with heap:=h₁,toks:=s2.toks+([]:List (Str×Value)).length}:=by
  refine eQ (λn s'=>∃i σ' H',Inv (cxComp X N' scope cl s3.heap.objs.size s3 (upd H2 s2.heap.objs.size (.lst [])) fp EE) [] σ' H' s'/\tn i s'.heap/\(∀b∈fp,H' b=none)/\W i n σ' H') ?_ m0 ⟨0,_,_,IC,T1,fp3,w0⟩;rintro n s4 ⟨i,σ4,H4,I4,st4,fr4,w4⟩;rcases turn i n σ4 H4 w4 with⟨stop,qn⟩|⟨go,step⟩
  ·refine yG (T.done (cxComp X N' scope cl s3.heap.objs.size s3 (upd H2 s2.heap.objs.size (.lst [])) fp EE) rfl rfl rfl hc i [] s4 σ4 H4 EE I4 (stat fr4) st4 stop) (λr s5 qQ=>?_) λ_ _ z=>z
   obtain⟨hr,I5⟩:=qQ;subst hr;obtain⟨mm,hm,_⟩:=I5.loc;have u2:Un (frs X.stack) fp H2 H4 s2.heap s5.heap:=u1.trans I5.base;have I6:Inv X pins σ H4 s5:=I2.call' (ch:=fp) (I5.os.trans os3) u2 I5.hok I5.bare λb hb=>⟨(f2 b hb).2.2.2.1,(f2 b hb).2.1,(f2 b hb).2.2.2.2.1,(f2 b hb).2.2.2.2.2⟩
   exact hR _ _ s5 H4 mm I6 hp0 hm I5.free (by rw[sz];exact Nat.lt_succ_self _) qn
  ·refine yG (T.item (cxComp X N' scope cl s3.heap.objs.size s3 (upd H2 s2.heap.objs.size (.lst [])) fp EE) rfl rfl rfl hc i [] s4 σ4 H4 EE I4 (stat fr4) st4 go) (λr s5 qQ=>?_) λ_ _ z=>z
   obtain⟨u,hr,h5⟩:=qQ;subst hr;refine yG h5 (λ_ s6 qQ=>?_) λ_ _ z=>z;obtain⟨x,H6,I6,r6,y6,st6,fr6⟩:=qQ;have I6':=I6.pinned (stat fr6) (T.obj _ _ st6);have keepIt:∀{σ7:St}{H7:Hp}{s7:Shared},Inv (cxComp X N' scope cl s3.heap.objs.size s3 (upd H2 s2.heap.objs.size (.lst [])) fp EE) ([]++pinsAt fp s6.heap) σ7 H7 s7->tn (i+1) s7.heap/\∀b∈fp,H7 b=none:=λ{σ7 H7 s7} I7=>
    ⟨T.keep _ _ _ st6 λb hb o e=>(I7.pin (b,o) (xP _ (xP _ (bG hb e)))).1,λb hb=>by
     obtain⟨o,e,d⟩:=T.obj _ _ st6 b hb;exact(I7.pin (b,o) (xP _ (xP _ (bG hb e)))).2.1⟩
   refine yG (hg _ _ _ EE _ s6 σ4 H6 x u _ I6' r6 (step x H6 y6)) (λ_ s7 qQ=>?_) λ_ _ z=>z;obtain⟨σ7,H7,I7,q7⟩:=qQ;refine yG (ht _ _ _ EE _ s7 σ7 H7 _ I7 q7) (λb s8 qQ=>?_) λ_ _ z=>z;obtain⟨H8,I8,q8⟩:=qQ
   cases b with
   |true=>
    rw[xE rfl] at q8⊢;refine yG (he _ _ _ EE pass _ s8 σ7 H8 _ I8 q8) (λv s9 qQ=>?_) λ_ _ z=>z;obtain⟨y,H9,I9,r9,ys,m',hl,hz,hm,w9⟩:=qQ;refine yG (fH (X:=(cxComp X N' scope cl s3.heap.objs.size s3 (upd H2 s2.heap.objs.size (.lst [])) fp EE)) _ s9 σ7 H9 (.ref s2.heap.objs.size) [y] (.ref s2.heap.objs.size) [v] (λ_ H=>W (i+1) m' σ7 H) I9 rfl (.cons r9 .nil) ⟨_,ys,y,rfl,rfl,hl,hz,w9⟩) (λ_ s10 qQ=>?_) λ_ _ z=>z;obtain⟨_,H10,I10,_,w10⟩:=qQ;exact⟨m',hm,i+1,σ7,H10,I10.unpinned,(keepIt I10).1,(keepIt I10).2,w10⟩
   |false=>
    rw[xC xF] at q8⊢;obtain⟨m',hm,w8⟩:=q8;exact⟨m',hm,i+1,σ7,H8,I8.unpinned,(keepIt I8).1,(keepIt I8).2,w8⟩
 exact codeAny_compStart_list loop (T.self _ _ _ _ _ T1 loop)
theorem lD(hN:X.N.Nodup)(hy:X.N[i]?=some y)(hxy:Loc X.env.scope y)
  (hf:X.fn y=true\/X.env.scope.names.lookup y=some .local)
  (hsw:swapsWith (.ListComp elt [⟨tg,iter,[],0⟩] scope pos) (some (.Name y py)) spos.line X.env=pure true)
  (hc:X.calm=true) (hi:PI X tg iter wi) (Sc:CompSc X N' caps ntg scope)
  (hx:X.ex=[]) (hst:X.stack=X.env::X.outer) (hfm:X.env.frame=some L) (tX:ToG X clx XE)
  (hg:∀cl C s H fp E,PG (cxComp X N' scope cl C s H fp E) tg g) (ht:∀cl C s H fp E,PTs (cxComp X N' scope cl C s H fp E) [] tc) (he:∀σ cl C s H fp E,PassC (cxComp X N' scope cl C s H fp E) clx (λc H'=>XE c σ H')->PE (cxComp X N' scope cl C s H fp E) elt te)
  (hs:∀x,foldedSetIterable iter X.env x=pure x):PS X (.Assign [.Name y py] (.ListComp elt [⟨tg,iter,[],0⟩] scope pos) spos) (tAsg (tComp wi g tc te caps ntg) (gName i)):=by
 intro pins s σ H D I h;rw[exec_Assign_Name_used _ _ _ _ hsw];refine xA (wpAny_standAt (xA ?_));show wpAny _ X.A (do let _←comprehension (.ListComp elt [⟨tg,iter,[],0⟩] scope pos) scope X.env _ (newList []) false (eval iter X.env) (some (assign (.Name y py) X.env))) _ _ s;obtain⟨cl,hcl,hin,hall⟩:=dZ I.ok Sc;refine xA (yG (wpAny_comprehension_free (use:=some (assign (.Name y py) X.env)) (Q:=λ_ s'=>SP X pins D .next s') rfl hs hcl Sc.kind Sc.loc
  (thn (hi pins s σ H _ I h) λv s1 h1=>thn h1 λitv s2 h2=>?_)) (λ_ s' hq=>xX (xX hq)) λ_ _ e=>e)
 obtain⟨it,fp,tn,J,H2,rfl,I2,T,t2,f2,q2⟩:=h2;refine uJ (clx:=clx) (XO:=λc H'=>XE c σ H') (RR:=λacc C=>compPost (model X.prog X.w) X.A X.xe (some (assign (.Name y py) X.env)) (λ_ s'=>SP X pins D .next s') acc C) (Q:=λp H'=>D.nx (σ.set i (some (.ref p))) H') hc I2 Sc hin hall T t2 f2 hx (λC s H E=>hg cl C s H fp E) (λC s H E=>ht cl C s H fp E) (λC s H E z=>he σ cl C s H fp E z) q2 ?_ ?_
 ·intro p C s' H' m I' hp hm hC hlt hq
  have hLC:C≠X.env.locals:=zM (zZ I2.lt hlt);have hCc:∀x c,X.env.cells.lookup x=some c->c≠C:=λx c e z=>by
   obtain⟨v,w⟩:=I2.cell x c e;exact absurd (zZ w.lt (by rw[z];exact hlt)) (yW _)
  have hCp:∀q∈X.pn++pins,q.1≠C:=λq hq z=>absurd (zZ (xI (I2.pin q hq).1) (by rw[z];exact hlt)) (yW _);have hCs:X.s₀.heap.objs.size<=C:=Nat.le_of_lt (yK I2.sz hlt);obtain⟨oC,es,ep,ho,hd,r⟩:=id hm;have I'':Inv X (pins++[(C,oC)]) σ H' s':=I'.pins_of λq hq=>by
   rcases List.mem_append.mp hq with z|z
   ·exact I'.pin q (xP _ z)
   ·have:q=(C,oC):=by simpa using z
    subst this;exact⟨ho,hC,hLC,I2.nofs (Nat.le_of_lt hlt),λv z=>by rw[hd] at z;cases z⟩
  show wpAny _ X.A (assign (.Name y py) X.env (.ref p)) _ _ s';refine thn (eK hN hy hxy hf (pins++[(C,oC)]) s' σ H' (.ref p) (.ref p) _ I'' rfl hq) λ_ s8 qQ=>?_;obtain⟨σ8,H8,I8,q8⟩:=qQ;have hC8:=(I8.pin (C,oC) (xP _ (xP _ (by simp))))
  refine⟨m,⟨oC,es,ep,hC8.1,hd,r⟩,λh' sb=>⟨σ8,H8,?_,q8⟩⟩;exact(I8.unpinned).turned (t':=s8.toks) (it:=C) (λb o hb e=>sb.extBut b o hb e) hC8.2.1 hLC (.inr hCs) hCc hCp
 ·intro p C s' H' m a c I' hm hC hlt hN F xo
  exact uI (cls:=cl) hst hfm tX I' hm hC (zM (zZ I2.lt hlt)) (Nat.le_of_lt (yK I2.sz hlt)) (λx c e z=>by
   obtain⟨v,w⟩:=I2.cell x c e;exact absurd (zZ w.lt (by rw[z];exact hlt)) (yW _)) (λq hq z=>absurd (zZ (xI (I2.pin q hq).1) (by rw[z];exact hlt)) (yW _)) hN F xo
end
end L2
namespace Py
def sb(a b x:Int):Int:=if x=b then a else x
def sb2(a b:Int)(p:Int×Int):Int×Int:=(sb a b p.1,sb a b p.2)
def rgs:Nat->List (Int×Int)->Nat
 |n+1,(a,b)::r=>(if a=b then 1 else 0)+rgs n (r.map (sb2 a b))
 |_,_=>0
def rings(l:List (Int×Int)):Nat:=rgs l.length l
def ins(x:Int):List Int->List Int
 |[]=>[x]
 |y::r=>if x<y then x::y::r else y::ins x r
abbrev Sx:=List (List Int)×Int
abbrev Sk:=Sx×Int
noncomputable instance dSk:DecidableEq Sk:=λa b=>Classical.propDecidable (a=b)
inductive D where
 |non|bl (b:Bool)|int (i:Int)|str (x:List Nat)
 |tup (xs:List D)|lst (xs:List D)|dic (ks:List Int) (vs:List D)|exn (c:Nat)|scr (ns:List Int)
inductive R(α:Type) where
 |ok (a:α)|exc (c:Nat)|bad
noncomputable def R.bind{α β:Type}(r:R α)(f:α->R β):R β:=match r with
 |.ok a=>f a|.exc c=>.exc c|.bad=>.bad
@[simp] theorem R.bind_ok {α β : Type} (a : α) (f : α -> R β) : (R.ok a).bind f = f a := rfl
@[simp] theorem R.bind_exc {α β : Type} (c : Nat) (f : α -> R β) : (R.exc c : R α).bind f = .exc c := rfl
noncomputable def R.quiet{α:Type}:R α->R α
 |.exc _=>.bad
 |r=>r
@[simp] theorem R.quiet_ok {α : Type} (a : α) : (R.ok a).quiet = .ok a := rfl
@[simp] theorem R.bind_bad {α β : Type} (f : α -> R β) : (R.bad : R α).bind f = .bad := rfl
noncomputable abbrev LIM:Nat:=100000
mutual
noncomputable def eqD:D->D->Bool
 |.non,.non=>true
 |.bl a,.bl b=>a==b
 |.int a,.int b=>a==b
 |.bl a,.int b=>(if a then 1 else 0)==b
 |.int a,.bl b=>a==(if b then 1 else 0)
 |.str a,.str b=>a==b
 |.tup a,.tup b=>eqDs a b
 |.lst a,.lst b=>eqDs a b
 |_,_=>false
noncomputable def eqDs:List D->List D->Bool
 |[],[]=>true
 |a::as,b::bs=>eqD a b&&eqDs as bs
 |_,_=>false
end
mutual
noncomputable def pln(n:Nat):D->Bool
 |.tup a=>decide (0<n)&&plns (n-1) a
 |.lst a=>decide (0<n)&&plns (n-1) a
 |.dic _ _=>false
 |.exn _=>false
 |.scr _=>false
 |_=>true
noncomputable def plns(n:Nat):List D->Bool
 |[]=>true
 |a::as=>pln n a&&plns n as
end
noncomputable def flat:D->Bool
 |.non=>true|.bl _=>true|.int _=>true|.str _=>true
 |_=>false
noncomputable def ixD(n:Nat)(i:Int):Option Nat:=if 0<=i then(if i<n then some i.toNat else none) else if-(n:Int)<=i then some (i+n).toNat else none
noncomputable def atD{α:Type}(xs:List α)(i:Int):Option α:=(ixD xs.length i).bind λj=>xs[j]?
noncomputable def sIx(n d:Nat):Option Int->Nat
 |none=>d
 |some i=>if i<0 then(i+(n:Int)).toNat else min i.toNat n
noncomputable def cut{α:Type}(xs:List α)(lo hi:Option Int):List α:=(xs.drop (sIx xs.length 0 lo)).take (sIx xs.length xs.length hi-sIx xs.length 0 lo)
inductive Op1 where
 |not|neg|len|list|tuple|isNone|isNotNone|isInt|isBool|isTup|all|toInt
inductive Op2 where
 |add|sub|mul|mod|fdiv|eq|ne|lt|le|gt|ge|isIn|notIn|at|index|count|max|rep
noncomputable def truth:D->R Bool
 |.non=>.ok false
 |.bl b=>.ok b
 |.int i=>.ok (decide (i≠0))
 |.str _=>.bad
 |.tup xs=>.ok (!xs.isEmpty)
 |.lst xs=>.ok (!xs.isEmpty)
 |.dic _ _=>.bad
 |.exn _=>.bad
 |.scr _=>.bad
noncomputable def ofO:Option D->R D
 |some d=>.ok d
 |none=>.bad
noncomputable def lookD:List Int->List D->Int->Option D
 |k::ks,v::vs,i=>if k=i then some v else lookD ks vs i
 |_,_,_=>none
noncomputable def isBl:D->Bool
 |.bl _=>true
 |_=>false
noncomputable def allB:List D->Option Bool
 |[]=>some true
 |.bl b::r=>if b then allB r else some false
 |_=>none
noncomputable def op1:Op1->D->R D
 |.not,d=>(truth d).bind λb=>.ok (.bl (!b))
 |.neg,.int i=>.ok (.int (-i))
 |.len,.lst xs=>.ok (.int xs.length)
 |.len,.tup xs=>.ok (.int xs.length)
 |.len,.scr xs=>.ok (.int xs.length)
 |.list,.lst xs=>.ok (.lst xs)
 |.list,.tup xs=>.ok (.lst xs)
 |.tuple,.lst xs=>.ok (.tup xs)
 |.tuple,.tup xs=>.ok (.tup xs)
 |.isNone,.non=>.ok (.bl true)
 |.isNone,d=>if pln 1000 d then .ok (.bl false) else .bad
 |.isNotNone,.non=>.ok (.bl false)
 |.isNotNone,d=>if pln 1000 d then .ok (.bl true) else .bad
 |.isInt,.int _=>.ok (.bl true)
 |.isInt,.bl _=>.ok (.bl true)
 |.isInt,d=>if pln 1000 d then .ok (.bl false) else .bad
 |.isBool,.bl _=>.ok (.bl true)
 |.isBool,d=>if pln 1000 d then .ok (.bl false) else .bad
 |.isTup,d=>if pln 1000 d then .ok (.bl (match d with|.tup _=>true|_=>false)) else .bad
 |.all,.lst xs=>if xs.all isBl=true then ofO ((allB xs).map .bl) else .bad
 |.toInt,.bl b=>.ok (.int (if b then 1 else 0))
 |.toInt,.int i=>.ok (.int i)
 |_,_=>.bad
noncomputable def inD(x:D)(xs:List D):Bool:=xs.any λy=>eqD y x
noncomputable def idxD(x:D):List D->Option Nat
 |[]=>none
 |y::r=>if eqD y x then some 0 else(idxD x r).map (· +1)
noncomputable def isin(x:D):D->R Bool
 |.lst xs=>if flat x&&xs.all flat then .ok (inD x xs) else .bad
 |.tup xs=>if flat x&&xs.all flat then .ok (inD x xs) else .bad
 |_=>.bad
noncomputable def kin:D->D->Bool
 |.tup _,.tup _=>true
 |.lst _,.lst _=>true
 |.int _,.int _=>true
 |.bl _,.bl _=>true
 |.str _,.str _=>true
 |_,_=>false
noncomputable def op2:Op2->D->D->R D
 |.add,.int i,.int j=>.ok (.int (i+j))
 |.add,.lst a,.lst b=>if a.length+b.length<=LIM then .ok (.lst (a++b)) else .bad
 |.add,.tup a,.tup b=>if a.length+b.length<=LIM then .ok (.tup (a++b)) else .bad
 |.sub,.int i,.int j=>.ok (.int (i-j))
 |.mul,.int i,.int j=>if(-(2^64)<i/\i<2^64)\/(-(2^64)<j/\j<2^64) then .ok (.int (i*j)) else .bad
 |.mod,.int i,.int j=>if 0<j then .ok (.int (i%j)) else .bad
 |.fdiv,.int i,.int j=>if 0<j/\j<1073741824 then .ok (.int (i/j)) else .bad
 |.eq,a,b=>if pln 9 a&&pln 9 b&&kin a b then .ok (.bl (eqD a b)) else .bad
 |.ne,a,b=>if pln 9 a&&pln 9 b&&kin a b then .ok (.bl (!eqD a b)) else .bad
 |.lt,.int i,.int j=>.ok (.bl (decide (i<j)))
 |.le,.int i,.int j=>.ok (.bl (decide (i<=j)))
 |.gt,.int i,.int j=>.ok (.bl (decide (j<i)))
 |.ge,.int i,.int j=>.ok (.bl (decide (j<=i)))
 |.isIn,x,y=>(isin x y).bind λb=>.ok (.bl b)
 |.notIn,x,y=>(isin x y).bind λb=>.ok (.bl (!b))
 |.at,.lst xs,.int i=>ofO (atD xs i)
 |.at,.tup xs,.int i=>ofO (atD xs i)
 |.at,.scr xs,.int i=>ofO ((atD xs i).map .int)
 |.index,.lst xs,x=>if flat x&&xs.all flat then ofO ((idxD x xs).map λn=>.int n) else .bad
 |.count,.lst xs,x=>if flat x&&xs.all flat then .ok (.int (xs.countP λy=>eqD y x)) else .bad
 |.max,.int i,.int j=>.ok (.int (if j>i then j else i))
 |.rep,.lst xs,.int j=>if 0<=j/\j<=1000/\xs.length=1 then .ok (.lst ((List.replicate j.toNat xs).flatten)) else .bad
 |_,_,_=>.bad
noncomputable def slc(x:D)(l h:Option Int):R D:=match x with
 |.lst xs=>.ok (.lst (cut xs l h))
 |.tup xs=>.ok (.tup (cut xs l h))
 |.str x=>if x.length<=LIM then .ok (.str (cut x l h)) else .bad
 |_=>.bad
noncomputable def asI:D->R (Option Int)
 |.int i=>.ok (some i)
 |_=>.bad
inductive IterK where
 |seq|rng|enum|zip
mutual
inductive Ex where
 |var (i:Nat)
 |cst (d:D)
 |glob (g:Nat)
 |op1 (o:Op1) (a:Ex)
 |op2 (o:Op2) (a b:Ex)
 |not (a:Ex)
 |and (a b:Ex)
 |or (a b:Ex)
 |ite (c:Tx) (a b:Ex)
 |tup (es:List Ex)
 |lst (es:List Ex)
 |slc (a:Ex) (lo hi:Option Ex)
 |call (f:Nat) (es:List Ex)
 |mapx (it:Ex) (caps:List Nat) (f:Nat) (es:List Ex)
 |comp (k:IterK) (its:List Ex) (caps:List Nat) (ntg:Nat) (cond:Option Tx) (elt:Ex)
 |get (a b c:Ex)
 |dget (a b:Ex)
 |din (neg:Bool) (x a:Ex)
 |dlen (a:Ex)
inductive Tx where
 |leaf (e:Ex)
 |not (a:Tx)
 |and (a b:Tx)
 |or (a b:Tx)
end
noncomputable abbrev Slot:=Option (Bool×D)
noncomputable abbrev Sto:=List Slot
noncomputable def rdV(δ:Sto)(i:Nat):R D:=match δ[i]? with
 |some (some (false,d))=>.ok d
 |_=>.bad
noncomputable def rdR(δ:Sto)(i:Nat):R D:=match δ[i]? with
 |some (some (_,d))=>.ok d
 |_=>.bad
noncomputable def rangeD(lo:Int)(n:Nat):List D:=(List.range n).map λ(k:Nat)=>D.int (lo+k)
noncomputable def enumD(n:Nat):List D->List D
 |[]=>[]
 |x::r=>.tup [.int n,x]::enumD (n+1) r
noncomputable def zipD:List D->List D->List D
 |x::xs,y::ys=>.tup [x,y]::zipD xs ys
 |_,_=>[]
noncomputable def items0:IterK->List D->R (List D)
 |.seq,[.lst xs]=>.ok xs
 |.seq,[.tup xs]=>.ok xs
 |.rng,[.int n]=>if-LIM<=n/\n<=LIM then .ok (rangeD 0 n.toNat) else .bad
 |.enum,[.tup xs]=>.ok (enumD 0 xs)
 |.zip,[.lst xs,.lst ys]=>.ok (zipD xs ys)
 |_,_=>.bad
noncomputable def itemsD(k:IterK)(ss:List D):R (List D):=(items0 k ss).bind λxs=>if xs.length<=LIM then .ok xs else .bad
noncomputable def spread:Nat->D->Option (List D)
 |1,d=>some [d]
 |n+2,.tup xs=>if xs.length=n+2 then some xs else none
 |_,_=>none
noncomputable def capOf(δ:Sto)(caps:List Nat):Sto:=caps.map λi=>(δ[i]?).getD none
noncomputable def compM(f:D->R (Option D)):List D->R (List D)
 |[]=>.ok []
 |x::r=>(f x).bind λo=>(compM f r).bind λys=>.ok (match o with|some y=>y::ys|none=>ys)
noncomputable def asB:D->R Bool
 |.bl b=>.ok b
 |_=>.bad
section
variable(Φ:Nat->List D->R D)(G:List D)
mutual
noncomputable def ev(m:Bool):Ex->Sto->R D
 |.var i,δ=>if m then rdR δ i else rdV δ i
 |.cst d,_=>.ok d
 |.glob g,_=>ofO G[g]?
 |.op1 o a,δ=>(ev true a δ).bind λx=>op1 o x
 |.op2 o a b,δ=>(ev true a δ).bind λx=>(ev true b δ).bind λy=>op2 o x y
 |.not a,δ=>(ev true a δ).bind λx=>(asB x).bind λt=>.ok (.bl (!t))
 |.and a b,δ=>(ev true a δ).bind λx=>(asB x).bind λt=>if t then ev false b δ else .ok (.bl false)
 |.or a b,δ=>(ev true a δ).bind λx=>(asB x).bind λt=>if t then .ok (.bl true) else ev false b δ
 |.ite c a b,δ=>(evT c δ).bind λt=>if t then ev false a δ else ev false b δ
 |.tup es,δ=>(evs false es δ).bind λxs=>.ok (.tup xs)
 |.lst es,δ=>(evs false es δ).bind λxs=>.ok (.lst xs)
 |.slc a lo hi,δ=>(ev true a δ).bind λx=>(evP lo δ).bind λl=>(evP hi δ).bind λh=>slc x l h
 |.call f es,δ=>(evs false es δ).bind λxs=>Φ f xs
 | .mapx it caps f es,δ=>(ev true it δ).bind λs=>(itemsD .seq [s]).bind λxs=>
   (compM (λx=>(evs false es (some (false,x)::capOf δ caps)).bind λas=>(Φ f as).bind λy=>.ok (some y)) xs).bind λys=>.ok (.lst ys)
 | .comp k its caps ntg cond elt,δ=>(evs true its δ).bind λss=>(itemsD k ss).bind λxs=>
   (compM (λx=>match spread ntg x with
    |none=>.bad
    |some ts=>
     (evO cond (ts.map (λt=>some (false,t))++capOf δ caps)).bind λb=>
      if b then(ev false elt (ts.map (λt=>some (false,t))++capOf δ caps)).bind λy=>.ok (some y) else .ok none) xs).quiet.bind λys=>.ok (.lst ys)
 | .get a b c,δ=>(ev true a δ).bind λx=>(ev true b δ).bind λy=>(ev false c δ).bind λz=>match x,y with
   |.dic ks vs,.int i=>.ok ((lookD ks vs i).getD z)
   |_,_=>.bad
 | .dget a b,δ=>(ev true a δ).bind λx=>(ev true b δ).bind λy=>match x,y with
   |.dic ks vs,.int i=>ofO (lookD ks vs i)
   |_,_=>.bad
 | .din neg b a,δ=>(ev true b δ).bind λy=>(ev true a δ).bind λx=>match x,y with
   |.dic ks _,.int i=>.ok (.bl (if neg then !decide (i∈ks) else decide (i∈ks)))
   |_,_=>.bad
 | .dlen a,δ=>(ev true a δ).bind λx=>match x with
   |.dic ks _=>.ok (.int ks.length)
   |_=>.bad
noncomputable def evs(m:Bool):List Ex->Sto->R (List D)
 |[],_=>.ok []
 |e::es,δ=>(ev m e δ).bind λx=>(evs m es δ).bind λxs=>.ok (x::xs)
noncomputable def evP:Option Ex->Sto->R (Option Int)
 |none,_=>.ok none
 |some e,δ=>(ev true e δ).bind λx=>asI x
noncomputable def evO:Option Tx->Sto->R Bool
 |none,_=>.ok true
 |some c,δ=>evT c δ
noncomputable def evT:Tx->Sto->R Bool
 |.leaf e,δ=>(ev true e δ).bind λx=>truth x
 |.not a,δ=>(evT a δ).bind λt=>.ok (!t)
 |.and a b,δ=>(evT a δ).bind λt=>if t then evT b δ else .ok false
 |.or a b,δ=>(evT a δ).bind λt=>if t then .ok true else evT b δ
end
end
mutual
noncomputable def leaks(m:Bool):Ex->List Nat
 |.var i=>if m then[] else[i]
 |.op1 _ a=>leaks true a
 |.op2 _ a b=>leaks true a++leaks true b
 |.not a=>leaks true a
 |.and a b=>leaks true a++leaks false b
 |.or a b=>leaks true a++leaks false b
 |.ite c a b=>leaksT c++leaks false a++leaks false b
 |.tup es=>leakss false es
 |.lst es=>leakss false es
 |.slc a l h=>leaks true a++leaksP l++leaksP h
 |.call _ es=>leakss false es
 |.mapx it caps _ es=>leaks true it++((leakss false es).filterMap λi=>if i<1 then none else caps[i-1]?)
 |.comp _ its caps n cond elt=>leakss true its++((leaksO cond++leaks false elt).filterMap λi=>if i<n then none else caps[i-n]?)
 |.get a b c=>leaks true a++leaks true b++leaks false c
 |.dget a b=>leaks true a++leaks true b
 |.din _ a b=>leaks true a++leaks true b
 |.dlen a=>leaks true a
 |_=>[]
noncomputable def leakss(m:Bool):List Ex->List Nat
 |[]=>[]
 |e::es=>leaks m e++leakss m es
noncomputable def leaksP:Option Ex->List Nat
 |none=>[]
 |some e=>leaks true e
noncomputable def leaksO:Option Tx->List Nat
 |none=>[]
 |some c=>leaksT c
noncomputable def leaksT:Tx->List Nat
 |.leaf e=>leaks true e
 |.not a=>leaksT a
 |.and a b=>leaksT a++leaksT b
 |.or a b=>leaksT a++leaksT b
end
noncomputable def frz1(δ:Sto)(i:Nat):Sto:=match δ[i]? with
 |some (some (true,.lst xs))=>δ.set i (some (false,.lst xs))
 |some (some (true,.dic ks vs))=>δ.set i (some (false,.dic ks vs))
 |_=>δ
noncomputable def frz:List Nat->Sto->Sto
 |[],δ=>δ
 |i::is,δ=>frz is (frz1 δ i)
noncomputable def frsh:Ex->Bool
 |.lst _=>true
 |.comp .. =>true
 |.mapx .. =>true
 |.op1 .list _=>true
 |.op2 .add _ _=>true
 |.op2 .rep _ _=>true
 |.slc .. =>true
 |_=>false
noncomputable def isOwn:D->Bool
 |.lst _=>true
 |_=>false
inductive Sm where
 |new (i:Nat)
 |asg (i:Nat) (e:Ex)
 |put (i:Nat) (ix e:Ex)
 |dput (i:Nat) (ix e:Ex)
 |app (i:Nat) (e:Ex)
 |ret (e:Ex)
 |ite (c:Tx) (a b:List Sm)
 |loop (k:IterK) (its:List Ex) (tg:List Nat) (body:List Sm)
 |whl (c:Tx) (body:List Sm)
 |rai (c:Nat)
 |tryx (body:List Sm) (cs:List Nat) (as:Option Nat) (h:List Sm)
 |pass
inductive Out where
 |nx (δ:Sto)|bk (δ:Sto)|ct (δ:Sto)|rt (d:D)|xc (c:Nat) (δ:Sto)|bad
noncomputable def Out.of{α:Type}(r:R α)(δ:Sto)(f:α->Out):Out:=match r with
 |.ok a=>f a|.exc c=>.xc c δ|.bad=>.bad
@[simp] theorem Out.of_ok {α : Type} (a : α) (δ : Sto) (f : α -> Out) : Out.of (.ok a) δ f = f a := rfl
@[simp] theorem Out.of_exc {α : Type} (c : Nat) (δ : Sto) (f : α -> Out) : Out.of (.exc c : R α) δ f = .xc c δ := rfl
@[simp] theorem Out.of_bad {α : Type} (δ : Sto) (f : α -> Out) : Out.of (.bad : R α) δ f = .bad := rfl
noncomputable def sets(δ:Sto):List Nat->List D->Sto
 |i::is,d::ds=>sets (δ.set i (some (false,d))) is ds
 |_,_=>δ
noncomputable def forM(f:D->Sto->Out):List D->Sto->Out
 |[],δ=>.nx δ
 |x::r,δ=>match f x δ with
  |.nx δ'=>forM f r δ'
  |.ct δ'=>forM f r δ'
  |.bk δ'=>.nx δ'
  |.rt d=>.rt d
  |_=>.bad
noncomputable def whlM(c:Sto->R Bool)(fz:Sto->Sto)(b:Sto->Out):Nat->Sto->Out
 |0,_=>.bad
 |n+1,δ=>match c (fz δ) with
  |.ok true=>(match b (fz δ) with
   |.nx δ'=>whlM c fz b n δ'
   |.ct δ'=>whlM c fz b n δ'
   |.bk δ'=>.nx δ'
   |.rt d=>.rt d
   |_=>.bad)
  |.ok false=>.nx (fz δ)
  |_=>.bad
noncomputable def putD(δ:Sto)(i:Nat)(k v:D):Out:=match δ[i]?,k with
 |some (some (true,.lst xs)),.int j=>match ixD xs.length j with
  |some n=>.nx (δ.set i (some (true,.lst (xs.set n v))))
  |none=>.bad
 |_,_=>.bad
noncomputable def repD:List Int->List D->Int->D->List D
 |k::ks,v::vs,j,x=>(if k=j then x else v)::repD ks vs j x
 |_,_,_,_=>[]
noncomputable def dputD(δ:Sto)(i:Nat)(k v:D):Out:=match δ[i]?,k with
 |some (some (true,.dic ks vs)),.int j=>if ks.length<LIM then(if j∈ks then .nx (δ.set i (some (true,.dic ks (repD ks vs j v)))) else .nx (δ.set i (some (true,.dic (ks++[j]) (vs++[v]))))) else .bad
 |_,_=>.bad
noncomputable def ownL(δ:Sto)(i:Nat):Bool:=match δ[i]? with
 |some (some (true,.lst _))=>true
 |_=>false
noncomputable def ownM(δ:Sto)(i:Nat):Bool:=match δ[i]? with
 |some (some (true,.dic _ _))=>true
 |_=>false
noncomputable def appD(δ:Sto)(i:Nat)(v:D):Out:=match δ[i]? with
 |some (some (true,.lst xs))=>if xs.length<LIM then .nx (δ.set i (some (true,.lst (xs++[v])))) else .bad
 |_=>.bad
noncomputable def ren(old new:Int)(r:List Int):List Int:=r.map λx=>if x=old then new else x
noncomputable def unset(δ:Sto)(i:Nat):Bool:=match δ[i]? with
 |some none=>true
 |_=>false
section
variable(Φ:Nat->List D->R D)(G:List D)(n:Nat)
mutual
noncomputable def xec:Sm->Sto->Out
 |.new i,δ=>.nx (δ.set i (some (true,.dic [] [])))
 |.asg i e,δ=>Out.of (ev Φ G false e (frz (leaks false e) δ)) (frz (leaks false e) δ) λd=>.nx ((frz (leaks false e) δ).set i (some (frsh e&&isOwn d,d)))
 | .put i ix e,δ=>if ownL (frz (leaks false e++leaks true ix) δ) i then Out.of (ev Φ G false e (frz (leaks false e++leaks true ix) δ)) (frz (leaks false e++leaks true ix) δ) λv=>
   Out.of (ev Φ G true ix (frz (leaks false e++leaks true ix) δ)) (frz (leaks false e++leaks true ix) δ) λk=>putD (frz (leaks false e++leaks true ix) δ) i k v else .bad
 | .dput i ix e,δ=>if ownM (frz (leaks false e++leaks true ix) δ) i then Out.of (ev Φ G false e (frz (leaks false e++leaks true ix) δ)) (frz (leaks false e++leaks true ix) δ) λv=>
   Out.of (ev Φ G true ix (frz (leaks false e++leaks true ix) δ)) (frz (leaks false e++leaks true ix) δ) λk=>dputD (frz (leaks false e++leaks true ix) δ) i k v else .bad
 |.app i e,δ=>if ownL (frz (leaks false e) δ) i then Out.of (ev Φ G false e (frz (leaks false e) δ)) (frz (leaks false e) δ) λv=>appD (frz (leaks false e) δ) i v else .bad
 |.ret e,δ=>Out.of (ev Φ G false e (frz (leaks false e) δ)) (frz (leaks false e) δ) λd=>.rt d
 |.ite c a b,δ=>Out.of (evT Φ G c (frz (leaksT c) δ)) (frz (leaksT c) δ) λt=>if t then xecs a (frz (leaksT c) δ) else xecs b (frz (leaksT c) δ)
 | .loop k its tg body,δ=>Out.of ((evs Φ G false its (frz (leakss false its) δ)).bind (itemsD k)).quiet (frz (leakss false its) δ) λxs=>
   forM (λx δ'=>match spread tg.length x with
    |none=>.bad
    |some ts=>xecs body (sets δ' tg ts)) xs (frz (leakss false its) δ)
 |.whl c body,δ=>whlM (evT Φ G c) (frz (leaksT c)) (xecs body) n δ
 |.rai c,δ=>.xc c δ
 | .tryx body cs as h,δ=>match xecs body δ with
   | .xc c' δ'=>if cs.contains c' then(match as with
     |none=>(match xecs h δ' with
      |.xc _ _=>.bad
      |o=>o)
     |some i=>match xecs h (δ'.set i (some (false,.exn c'))) with
      |.nx δ''=>.nx (δ''.set i none)
      |.rt d=>.rt d
      |_=>.bad) else .bad
   |o=>o
 |.pass,δ=>.nx δ
noncomputable def xecs:List Sm->Sto->Out
 |[],δ=>.nx δ
 |s::ss,δ=>match xec s δ with
  |.nx δ'=>xecs ss δ'
  |o=>o
end
end
structure Fn where
 np:Nat
 ns:Nat
 body:List Sm
noncomputable def startD(F:Fn)(ds:List D):Sto:=ds.map (λd=>some (false,d))++List.replicate (F.ns-F.np) none
noncomputable def Out.val:Out->R D
 |.nx _=>.ok .non
 |.rt d=>.ok d
 |.xc c _=>.exc c
 |_=>.bad
structure Prog where
 fns:List Fn
 gls:List D
noncomputable def Phi(P:Prog):Nat->Nat->List D->R D
 |0,_,_=>.bad
 |k+1,f,ds=>match P.fns[f]? with
  |some F=>if ds.length=F.np then(xecs (Phi P k) P.gls 1000 F.body (startD F ds)).val else .bad
  |none=>.bad
end Py
namespace L2.Snd
open PySem PySem.Spec PyProof.Rows L2 Py
def ExcOf(a C:Addr):HO:=.ext λh=>∃o,h.get? a=some o/\o.cls=.ref C/\o.dict=none/\∃vs,o.data=.fields vs
def SqF(K:PySem.W.Frag)(H:Hp)(a:Addr)(xs:List V):Prop:=
 (∃o,H a=some (.frz o (.lst xs)))\/
  ∃(o:Obj)(its:Array Value)(n:Nat),K.lookup a=some o/\o.cls=.type "list"/\o.dict=none/\o.data=.seq its n/\its.size<=sizeLine/\Vals xs its.toList
theorem SqF.sqL{K:PySem.W.Frag}(h:SqF K H a xs):SqL K H a xs:=h.elim (λ⟨o,e⟩=>.inl (.inr ⟨o,e⟩)) .inr
section
variable(K:PySem.W.Frag)(cl:Nat->Addr)(F:Addr->Prop)(H:Hp)
mutual
def Rep:D->V->Prop
 |.non,v=>v=.non
 |.bl b,v=>v=.bl b
 |.int i,v=>v=.int i
 |.str x,v=>v=.str ⟨x.toArray⟩
 |.tup xs,v=>∃a vs,v=.ref a/\SqT K H a vs/\Reps xs vs
 |.lst xs,v=>∃a vs,v=.ref a/\F a/\H a=some (.lst vs)/\Reps xs vs
 |.dic ks ds,v=>∃(a:Addr)(kvs:List (Key×V)),v=.ref a/\F a/\H a=some (.dK kvs)/\kvs.map (·.1)=ks.map Sum.inl/\Reps ds (kvs.map (·.2))
 |.exn c,v=>∃a,v=.ref a/\F a/\H a=some (ExcOf a (cl c))
 |.scr ns,v=>∃a,v=.ref a/\SqF K H a (ns.map V.int)
def Reps:List D->List V->Prop
 |[],vs=>vs=[]
 |d::ds,vs=>∃v r,vs=v::r/\Rep d v/\Reps ds r
end
def Own(d:D)(a:Addr):Prop:=match d with
 |.lst xs=>∃vs,H a=some (.lst vs)/\Reps K cl F H xs vs
 |.dic ks ds=>∃kvs:List (Key×V),H a=some (.dK kvs)/\kvs.map (·.1)=ks.map Sum.inl/\Reps K cl F H ds (kvs.map (·.2))
 |_=>False
def Got(d:D)(v:V):Prop:=Rep K cl F H d v\/∃p,v=.ref p/\Own K cl F H d p
end
structure Pres(F:Addr->Prop)(H H':Hp):Prop where
 fr:∀a o,F a->H a=some o->H' a=some o
 tp:∀a xs,H a=some (.tup xs)->H' a=some (.tup xs)
 fz:∀a o u,H a=some (.frz o u)->H' a=some (.frz o u)
theorem Pres.of_same(h:Same H H'):Pres F H H':=⟨λa o _ e=>h a o e,λa xs e=>h a _ e,λa o u e=>h a _ e⟩
theorem Pres.upd(hp:¬F p)(ht:∀xs,H p≠some (.tup xs))(hf:∀o u,H p≠some (.frz o u)):Pres F H (upd H p o):=by
 refine⟨λa o' fa e=>?_,λa xs e=>?_,λa o' u e=>?_⟩
 ·rw[aB (by rintro rfl;exact hp fa)];exact e
 ·rw[aB (by rintro rfl;exact ht xs e)];exact e
 ·rw[aB (by rintro rfl;exact hf o' u e)];exact e
theorem Pres.sqT{K:PySem.W.Frag}(P:Pres F H H')(h:SqT K H a xs):SqT K H' a xs:=by
 rcases h with(h|⟨o,h⟩)|h
 ·exact .inl (.inl (P.tp _ _ h))
 ·exact .inl (.inr ⟨o,P.fz _ _ _ h⟩)
 ·exact .inr h
theorem Pres.sqF{K:PySem.W.Frag}(P:Pres F H H')(h:SqF K H a xs):SqF K H' a xs:=by
 rcases h with⟨o,h⟩|h
 ·exact .inl ⟨o,P.fz _ _ _ h⟩
 ·exact .inr h
section
variable{K:PySem.W.Frag}{cl:Nat->Addr}{F F':Addr->Prop}{H H':Hp}
mutual
theorem Rep.mono(P:Pres F H H')(s:∀a,F a->F' a):∀{d:D}{v:V},Rep K cl F H d v->Rep K cl F' H' d v
 |.non,_,h=>by simpa[Rep] using h
 |.bl _,_,h=>by simpa[Rep] using h
 |.int _,_,h=>by simpa[Rep] using h
 |.str _,_,h=>by simpa[Rep] using h
 |.tup xs,_,h=>by
  simp only[Rep] at h⊢;obtain⟨a,vs,e,q,r⟩:=h;exact⟨a,vs,e,P.sqT q,Reps.mono P s r⟩
 |.lst xs,_,h=>by
  simp only[Rep] at h⊢;obtain⟨a,vs,e,fa,q,r⟩:=h;exact⟨a,vs,e,s a fa,P.fr _ _ fa q,Reps.mono P s r⟩
 |.dic _ _,_,h=>by
  simp only[Rep] at h⊢;obtain⟨a,kvs,e,fa,q,k,r⟩:=h;exact⟨a,kvs,e,s a fa,P.fr _ _ fa q,k,Reps.mono P s r⟩
 |.exn c,_,h=>by
  simp only[Rep] at h⊢;obtain⟨a,e,fa,q⟩:=h;exact⟨a,e,s a fa,P.fr _ _ fa q⟩
 |.scr ns,_,h=>by
  simp only[Rep] at h⊢;obtain⟨a,e,q⟩:=h;exact⟨a,e,P.sqF q⟩
theorem Reps.mono(P:Pres F H H')(s:∀a,F a->F' a):∀{ds:List D}{vs:List V},Reps K cl F H ds vs->Reps K cl F' H' ds vs
 |[],_,h=>by simpa[Reps] using h
 |d::ds,_,h=>by
  simp only[Reps] at h⊢;obtain⟨v,r,e,h1,h2⟩:=h;exact⟨v,r,e,Rep.mono P s h1,Reps.mono P s h2⟩
end
theorem Own.mono(h:Own K cl F H d a)(P:Pres F H H')(s:∀a,F a->F' a)(ha:H' a=H a):Own K cl F' H' d a:=by
 cases d with
 |lst xs=>obtain⟨vs,e,r⟩:=h;exact⟨vs,ha.trans e,r.mono P s⟩
 |dic ks ds=>obtain⟨kvs,e,k,r⟩:=h;exact⟨kvs,ha.trans e,k,r.mono P s⟩
 |_=>exact h.elim
theorem Own.at(h:Own K cl F H d a):(∃vs,H a=some (.lst vs))\/∃kvs,H a=some (.dK kvs):=by
 cases d with
 |lst xs=>obtain⟨vs,e,r⟩:=h;exact .inl ⟨vs,e⟩
 |dic ks ds=>obtain⟨kvs,e,k,r⟩:=h;exact .inr ⟨kvs,e⟩
 |_=>exact h.elim
theorem Own.some(h:Own K cl F H d a):H a≠none:=by
 rcases h.at with⟨_,e⟩|⟨_,e⟩<;>rw[e]<;>exact λz=>nomatch z
theorem Reps.nil:Reps K cl F H [] []:=by simp[Reps]
theorem Reps.cons{d:D}{ds:List D}{v:V}{vs:List V}(h:Rep K cl F H d v)(r:Reps K cl F H ds vs):Reps K cl F H (d::ds) (v::vs):=by
 simp only[Reps];exact⟨v,vs,rfl,h,r⟩
theorem Reps.cons_inv{d:D}{ds:List D}{vs:List V}(h:Reps K cl F H (d::ds) vs):∃v r,vs=v::r/\Rep K cl F H d v/\Reps K cl F H ds r:=by simpa only[Reps] using h
theorem Reps.nil_inv{vs:List V}(h:Reps K cl F H [] vs):vs=[]:=by simpa only[Reps] using h
theorem Reps.length:∀{ds:List D}{vs:List V},Reps K cl F H ds vs->vs.length=ds.length
 |[],vs,h=>by rw[h.nil_inv];rfl
 |d::ds,vs,h=>by
  obtain⟨v,r,rfl,_,h2⟩:=h.cons_inv;rw[w5,w5,Reps.length h2]
theorem Reps.append:∀{ds es:List D}{vs us:List V},Reps K cl F H ds vs->Reps K cl F H es us->Reps K cl F H (ds++es) (vs++us)
 |[],_,vs,_,h,h'=>by rw[h.nil_inv];exact h'
 |d::ds,_,vs,_,h,h'=>by
  obtain⟨v,r,rfl,h1,h2⟩:=h.cons_inv;exact(Reps.append h2 h').cons h1|>λz=>z
theorem Reps.get:∀{ds:List D}{vs:List V}{i:Nat}{d:D},Reps K cl F H ds vs->ds[i]?=some d->∃v,vs[i]?=some v/\Rep K cl F H d v
 |[],_,_,_,_,e=>by simp at e
 |d::ds,vs,0,d',h,e=>by
  obtain⟨v,r,rfl,h1,h2⟩:=h.cons_inv;simp at e;subst e;exact⟨v,by simp,h1⟩
 |d::ds,vs,i+1,d',h,e=>by
  obtain⟨v,r,rfl,h1,h2⟩:=h.cons_inv;obtain⟨u,h3,h4⟩:=Reps.get (i:=i) h2 (by simpa using e);exact⟨u,by simpa using h3,h4⟩
theorem Reps.take:∀(n:Nat){ds:List D}{vs:List V},Reps K cl F H ds vs->Reps K cl F H (ds.take n) (vs.take n)
 |0,_,_,_=>by simpa using Reps.nil
 |_+1,[],vs,h=>by rw[h.nil_inv];simpa using Reps.nil
 |n+1,d::ds,vs,h=>by
  obtain⟨v,r,rfl,h1,h2⟩:=h.cons_inv;simpa using Reps.cons h1 (Reps.take n h2)
theorem Reps.drop:∀(n:Nat){ds:List D}{vs:List V},Reps K cl F H ds vs->Reps K cl F H (ds.drop n) (vs.drop n)
 |0,_,_,h=>by simpa using h
 |_+1,[],vs,h=>by rw[h.nil_inv];simpa using Reps.nil
 |n+1,d::ds,vs,h=>by
  obtain⟨v,r,rfl,h1,h2⟩:=h.cons_inv;simpa using Reps.drop n h2
theorem Reps.set:∀(n:Nat){ds:List D}{vs:List V}{d:D}{v:V},Reps K cl F H ds vs->Rep K cl F H d v->Reps K cl F H (ds.set n d) (vs.set n v)
 |_,[],vs,_,_,h,_=>by rw[h.nil_inv];simpa using Reps.nil
 |0,d::ds,vs,_,_,h,h'=>by
  obtain⟨v,r,rfl,h1,h2⟩:=h.cons_inv;simpa using Reps.cons h' h2
 |n+1,d::ds,vs,_,_,h,h'=>by
  obtain⟨v,r,rfl,h1,h2⟩:=h.cons_inv;simpa using Reps.cons h1 (Reps.set n h2 h')
end
structure Up(F:Addr->Prop)(H:Hp)(F':Addr->Prop)(H':Hp):Prop where
 same:Same H H'
 sub:∀a,F a->F' a
 new:∀a,F' a->F a\/(H a=none/\H' a≠none)
theorem Up.refl(F:Addr->Prop)(H:Hp):Up F H F H:=⟨Same.refl H,λ_ h=>h,λ_ h=>.inl h⟩
theorem Up.trans(a:Up F H F1 H1)(b:Up F1 H1 F2 H2):Up F H F2 H2:=
 ⟨a.same.trans b.same,λx h=>b.sub x (a.sub x h),λx h=>by
  rcases b.new x h with z|⟨z1,z2⟩
  ·rcases a.new x z with y|⟨y1,y2⟩
   ·exact .inl y
   ·refine .inr ⟨y1,λe=>?_⟩
    exact y2 (b.same.free e)
  ·exact .inr ⟨a.same.free z1,z2⟩⟩
theorem Up.alloc(hp:H p=none):Up F H F (L2.upd H p o):=
 ⟨λb u e=>by rw[aB (bA e hp)];exact e,λ_ h=>h,λ_ h=>.inl h⟩
def addF(F:Addr->Prop)(p:Addr):Addr->Prop:=λa=>F a\/a=p
theorem Up.freeze(u:Up F H F' H')(hp:H p=none)(hp':H' p≠none):Up F H (addF F' p) H':=
 ⟨u.same,λa h=>.inl (u.sub a h),λa h=>h.elim (u.new a) λe=>.inr (by subst e;exact⟨hp,hp'⟩)⟩
def Trk(F:Addr->Prop)(H:Hp):Prop:=∀a,F a->H a≠none
theorem Trk.up(t:Trk F H)(u:Up F H F' H'):Trk F' H':=λa h=>by
 rcases u.new a h with z|⟨_,z⟩
 ·exact λe=>t a z (u.same.free e)
 ·exact z
theorem Trk.fresh(t:Trk F H)(h:H p=none):¬F p:=λz=>t p z h
section
variable{K:PySem.W.Frag}{cl:Nat->Addr}{F F':Addr->Prop}{H H':Hp}{d:D}{v:V}
theorem Rep.up(h:Rep K cl F H d v)(u:Up F H F' H'):Rep K cl F' H' d v:=h.mono (Pres.of_same u.same) u.sub
theorem Reps.up(h:Reps K cl F H ds vs)(u:Up F H F' H'):Reps K cl F' H' ds vs:=h.mono (Pres.of_same u.same) u.sub
theorem Own.up(h:Own K cl F H d a)(u:Up F H F' H'):Own K cl F' H' d a:=by
 refine h.mono (Pres.of_same u.same) u.sub ?_;rcases h.at with⟨_,e⟩|⟨_,e⟩<;>rw[e]<;>exact u.same _ _ e
theorem Got.up(h:Got K cl F H d v)(u:Up F H F' H'):Got K cl F' H' d v:=h.elim (λz=>.inl (z.up u)) λ⟨p,e,o⟩=>.inr ⟨p,e,o.up u⟩
end
structure Sees(K:PySem.W.Frag)(cl:Nat->Addr)(F:Addr->Prop)(H:Hp)(σ:St)(δ:Sto):Prop where
 len:σ.length=δ.length
 trk:Trk F H
 sh:∀(i:Nat) d,δ[i]?=some (some (false,d))->∃v,σ[i]?=some (some v)/\Rep K cl F H d v
 ow:∀(i:Nat) d,δ[i]?=some (some (true,d))->∃a,σ[i]?=some (some (.ref a))/\¬F a/\Own K cl F H d a
theorem Sees.up{K:PySem.W.Frag}(h:Sees K cl F H σ δ)(u:Up F H F' H'):Sees K cl F' H' σ δ:=by
 refine⟨h.len,h.trk.up u,λi d e=>?_,λi d e=>?_⟩
 ·obtain⟨v,h1,h2⟩:=h.sh i d e
  exact⟨v,h1,h2.up u⟩
 ·obtain⟨a,h1,h2,h3⟩:=h.ow i d e
  exact⟨a,h1,λz=>(u.new a z).elim h2 λy=>h3.some y.1,h3.up u⟩
def New(K:PySem.W.Frag)(cl:Nat->Addr)(F':Addr->Prop)(H H':Hp)(d:D)(v:V):Prop:=∃p,v=.ref p/\H p=none/\¬F' p/\Own K cl F' H' d p
def Res(K:PySem.W.Frag)(cl:Nat->Addr)(fr:Bool)(F':Addr->Prop)(H H':Hp)(d:D)(v:V):Prop:=
 if(fr&&isOwn d)=true then New K cl F' H H' d v else Rep K cl F' H' d v
def Gives(K:PySem.W.Frag)(cl:Nat->Addr)(m fr:Bool)(F':Addr->Prop)(H H':Hp)(d:D)(v:V):Prop:=
 if m=true then Got K cl F' H' d v else Res K cl fr F' H H' d v
section
variable{K:PySem.W.Frag}{cl:Nat->Addr}{F F':Addr->Prop}{H H':Hp}{d:D}{v:V}{fr:Bool}
theorem New.got(h:New K cl F' H H' d v):Got K cl F' H' d v:=let⟨p,e,_,_,o⟩:=h;.inr ⟨p,e,o⟩
theorem Res.got(h:Res K cl fr F' H H' d v):Got K cl F' H' d v:=by
 unfold Res at h;split at h
 ·exact h.got
 ·exact .inl h
theorem Res.gives(h:Res K cl fr F' H H' d v):Gives K cl m fr F' H H' d v:=by
 unfold Gives;split
 ·exact h.got
 ·exact h
theorem Res.of_rep(h:Rep K cl F' H' d v)(hn:(fr&&isOwn d)=false):Res K cl fr F' H H' d v:=by
 unfold Res;rw[xC (by rw[hn];exact xF)];exact h
theorem Gives.got(h:Gives K cl m fr F' H H' d v):Got K cl F' H' d v:=by
 unfold Gives at h;split at h
 ·exact h
 ·exact h.got
theorem Res.keep(h:Res K cl fr F' H H' d v)(u:Up F H F' H'):∃F2,Up F H F2 H'/\(∀a,F' a->F2 a)/\Rep K cl F2 H' d v:=by
 unfold Res at h;split at h
 ·obtain⟨p,rfl,hp,nf,o⟩:=h
  refine⟨addF F' p,u.freeze hp o.some,λa z=>.inl z,?_⟩
  cases d with
  |lst xs=>
   obtain⟨vs,e,r⟩:=o;simp only[Rep];exact⟨p,vs,rfl,.inr rfl,e,r.mono (Pres.of_same (Same.refl _)) λa z=>.inl z⟩
  |dic ks ds=>rename_i hc;simp[isOwn] at hc
  |_=>exact o.elim
 ·exact⟨F',u,λ_ z=>z,h⟩
end
def Meet{α:Type}(r:R α)(P:α->Prop)(E:Nat->Prop):Prop:=match r with
 |.ok a=>P a|.exc c=>E c|.bad=>False
theorem Meet.bind{α β:Type}{r:R α}{f:α->R β}{P:β->Prop}{E:Nat->Prop}(h:Meet (r.bind f) P E):Meet r (λa=>Meet (f a) P E) E:=by
 cases r<;>exact h
theorem Meet.mono{α:Type}{r:R α}{P P':α->Prop}{E E':Nat->Prop}(h:Meet r P E)(hP:∀a,r=.ok a->P a->P' a)(hE:∀c,E c->E' c):Meet r P' E':=by
 cases r with
 |ok a=>exact hP a rfl h
 |exc c=>exact hE c h
 |bad=>exact h
def Post(K:PySem.W.Frag)(cl:Nat->Addr)(XE:Nat->Hp->Prop)(m fr:Bool)(F:Addr->Prop)(H:Hp)(Q:VK)(r:R D):Prop:=
 Meet r (λd=>∀F' v H',Up F H F' H'->Gives K cl m fr F' H H' d v->Q v H') λc=>∀F' H',Up F H F' H'->XE c H'
def PostT(XE:Nat->Hp->Prop)(F:Addr->Prop)(H:Hp)(Q:Bool->Hp->Prop)(r:R Bool):Prop:=
 Meet r (λb=>∀F' H',Up F H F' H'->Q b H') λc=>∀F' H',Up F H F' H'->XE c H'
def PostA(K:PySem.W.Frag)(cl:Nat->Addr)(XE:Nat->Hp->Prop)(m:Bool)(F:Addr->Prop)(H:Hp)(Q:List V->Hp->Prop)(r:R (List D)):Prop:=
 Meet r (λds=>∀F' vs H',Up F H F' H'->(if m=true then Paired (Got K cl F' H') ds vs else Reps K cl F' H' ds vs)->Q vs H') λc=>∀F' H',Up F H F' H'->XE c H'
section
variable{K:PySem.W.Frag}{cl:Nat->Addr}{XE:Nat->Hp->Prop}{m fr:Bool}{F F':Addr->Prop}{H H' H0:Hp}{Q:VK}{r:R D}{d:D}{v:V}
theorem New.base(h:New K cl F' H0 H' d v)(s:Same H H0):New K cl F' H H' d v:=let⟨p,e,hp,n,o⟩:=h;⟨p,e,s.free hp,n,o⟩
theorem Res.base(h:Res K cl fr F' H0 H' d v)(s:Same H H0):Res K cl fr F' H H' d v:=by
 unfold Res at h⊢;split
 ·rename_i c;rw[xE c] at h;exact h.base s
 ·rename_i c;rw[xC c] at h;exact h
theorem Gives.base(h:Gives K cl m fr F' H0 H' d v)(s:Same H H0):Gives K cl m fr F' H H' d v:=by
 unfold Gives at h⊢;split
 ·rename_i c;rw[xE c] at h;exact h
 ·rename_i c;rw[xC c] at h;exact h.base s
theorem Post.up(h:Post K cl XE m fr F H Q r)(u:Up F H F' H'):Post K cl XE m fr F' H' Q r:=
 Meet.mono h (λd _ q F2 v H2 u2 g=>q F2 v H2 (u.trans u2) (g.base u.same)) λc q F2 H2 u2=>q F2 H2 (u.trans u2)
theorem PostT.up{Q:Bool->Hp->Prop}{r:R Bool}(h:PostT XE F H Q r)(u:Up F H F' H'):PostT XE F' H' Q r:=
 Meet.mono h (λd _ q F2 H2 u2=>q F2 H2 (u.trans u2)) λc q F2 H2 u2=>q F2 H2 (u.trans u2)
theorem PostA.up{Q:List V->Hp->Prop}{r:R (List D)}(h:PostA K cl XE m F H Q r)(u:Up F H F' H'):PostA K cl XE m F' H' Q r:=
 Meet.mono h (λd _ q F2 vs H2 u2 g=>q F2 vs H2 (u.trans u2) g) λc q F2 H2 u2=>q F2 H2 (u.trans u2)
theorem Post.here(h:Post K cl XE m fr F H Q (.ok d))(g:Res K cl fr F H H d v):Q v H:=h F v H (Up.refl F H) g.gives
theorem Post.hereR(h:Post K cl XE m fr F H Q (.ok d))(g:Rep K cl F H d v)(hn:(fr&&isOwn d)=false):Q v H:=h.here (.of_rep g hn)
end
section
variable(X:Cx)(cl:Nat->Addr)(XE:Nat->St->Hp->Prop)(Φ:Nat->List D->R D)(G:List D)
structure OkE(m:Bool)(ex:Ex)(e:Expr):Prop where
 ok:∃t,PE X e t/\∀F σ δ H Q,Sees X.K cl F H σ δ->Post X.K cl (λc=>XE c σ) m (frsh ex) F H Q (ev Φ G m ex δ)->t σ H Q
structure OkT(tx:Tx)(e:Expr):Prop where
 ok:∃t,PT X e t/\∀F σ δ H Q,Sees X.K cl F H σ δ->PostT (λc=>XE c σ) F H Q (evT Φ G tx δ)->t σ H Q
structure OkW(tx:Tx)(e:Expr):Prop where
 ok:∃t,PW X e t/\∀F σ δ H Q,Sees X.K cl F H σ δ->PostT (λc=>XE c σ) F H Q (evT Φ G tx δ)->t σ H Q
structure OkA(m:Bool)(exs:List Ex)(es:List Expr):Prop where
 ok:∃t,PA X es t/\∀F σ δ H Q,Sees X.K cl F H σ δ->PostA X.K cl (λc=>XE c σ) m F H Q (evs Φ G m exs δ)->t σ H Q
end
section
variable{X:Cx}{cl:Nat->Addr}{XE:Nat->St->Hp->Prop}{YE:Nat->Hp->Prop}{Φ:Nat->List D->R D}{G:List D}{m:Bool}
theorem ok_var(hN:X.N[i]?=some x)(hv:Vis X.env.scope x)(hd:(x==("__debug__":Str))=false)(hcd:(x==("__classdict__":Str))=false):
  OkE X cl XE Φ G m (.var i) (.Name x pos):=by
 refine⟨_,k4 hN hv hd hcd,λF σ δ H Q S h=>?_⟩;simp only[ev] at h
 cases e:δ[i]? with
 |none=>cases m<;>simp[rdV,rdR,e] at h<;>exact False.elim h
 |some o=>
  cases o with
  |none=>cases m<;>simp[rdV,rdR,e] at h<;>exact False.elim h
  |some p=>
   obtain⟨b,d⟩:=p
   cases b with
   |false=>
    obtain⟨v,h1,h2⟩:=S.sh i d e;refine⟨v,h1,?_⟩;cases m<;>simp[rdV,rdR,e] at h<;>exact h F v H (Up.refl F H) (Res.gives (.of_rep h2 (by simp[frsh])))
   |true=>
    obtain⟨a,h1,h2,h3⟩:=S.ow i d e;refine⟨.ref a,h1,?_⟩
    cases m with
    |false=>simp[rdV,e] at h;exact False.elim h
    |true=>
     simp[rdR,e] at h;exact h F _ H (Up.refl F H) (by unfold Gives;rw[xE rfl];exact .inr ⟨a,rfl,h3⟩)
theorem ok_int:OkE X cl XE Φ G m (.cst (.int i)) (.Constant (.int i) j pos):=
 ⟨_,pe_int,λF σ δ H Q S h=>Post.hereR h (by simp[Rep]) (by simp[frsh])⟩
theorem ok_bl:OkE X cl XE Φ G m (.cst (.bl i)) (.Constant (.bool i) j pos):=
 ⟨_,pe_bl,λF σ δ H Q S h=>Post.hereR h (by simp[Rep]) (by simp[frsh])⟩
theorem ok_non:OkE X cl XE Φ G m (.cst .non) (.Constant .none j pos):=
 ⟨_,pe_non,λF σ δ H Q S h=>Post.hereR h (by simp[Rep]) (by simp[frsh])⟩
theorem p8(hg:Gl X x)(hm:X.mg x=some u)(r:RelV v u)(hd:(x==("__debug__":Str))=false)(hr:∀d,G[g]?=some d->∀F H,Rep X.K cl F H d v):
  OkE X cl XE Φ G m (.glob g) (.Name x pos):=by
 refine⟨_,pe_glob hg hm r hd,λF σ δ H Q S h=>?_⟩;simp only[ev] at h
 cases e:G[g]? with
 |none=>rw[e] at h;exact False.elim h
 |some d=>rw[e] at h;exact Post.hereR h (hr d e F H) (by simp[frsh])
theorem two{a b:Expr}{o:D->D->R D}(ia:∀F σ δ H Q,Sees X.K cl F H σ δ->Post X.K cl (λc=>XE c σ) true (frsh ea) F H Q (ev Φ G true ea δ)->ta σ H Q)
  (ib:∀F σ δ H Q,Sees X.K cl F H σ δ->Post X.K cl (λc=>XE c σ) true (frsh eb) F H Q (ev Φ G true eb δ)->tb σ H Q)
  (ho:∀(YE:Nat->Hp->Prop) F H x y p q Q,Trk F H->Got X.K cl F H p x->Got X.K cl F H q y->Post X.K cl YE m fr F H Q (o p q)->r x y H Q)
  (S:Sees X.K cl F H σ δ) (h:Post X.K cl (λc=>XE c σ) m fr F H Q ((ev Φ G true ea δ).bind λx=>(ev Φ G true eb δ).bind λy=>o x y)):tOp r ta tb σ H Q:=by
 refine ia F σ δ H _ S (Meet.mono h.bind (λp _ hp F1 x H1 u1 g1=>?_) λc z=>z);have hp1:Post X.K cl (λc=>XE c σ) m fr F1 H1 Q ((ev Φ G true eb δ).bind λy=>o p y):=Post.up hp u1;refine ib F1 σ δ H1 _ (S.up u1) (Meet.mono hp1.bind (λq _ hq F2 y H2 u2 g2=>?_) λc z=>z);exact ho _ F2 H2 x y p q Q ((S.up u1).up u2).trk (g1.got.up u2) g2.got (Post.up hq u2)
theorem fJ(hr:OpR X (binaryOp op) r)(ia:OkE X cl XE Φ G true ea a)(ib:OkE X cl XE Φ G true eb b)
  (ho:∀(YE:Nat->Hp->Prop) F H x y p q Q,Trk F H->Got X.K cl F H p x->Got X.K cl F H q y->Post X.K cl YE m (frsh (.op2 o ea eb)) F H Q (op2 o p q)->r x y H Q):OkE X cl XE Φ G m (.op2 o ea eb) (.BinOp a op b pos):=by
 obtain⟨ta,pa,ia⟩:=ia;obtain⟨tb,pb,ib⟩:=ib;exact⟨_,pe_op hr pa pb,λF σ δ H Q S h=>two (a:=a) (b:=b) (o:=op2 o) ia ib ho S (by simpa only[ev] using h)⟩
theorem ok_ix(hr:IxR X r)(hs:PlainIx b)(ia:OkE X cl XE Φ G true ea a)(ib:OkE X cl XE Φ G true eb b)
  (ho:∀(YE:Nat->Hp->Prop) F H x y p q Q,Trk F H->Got X.K cl F H p x->Got X.K cl F H q y->Post X.K cl YE m (frsh (.op2 .at ea eb)) F H Q (op2 .at p q)->r x y H Q):OkE X cl XE Φ G m (.op2 .at ea eb) (.Subscript a b pos):=by
 obtain⟨ta,pa,ia⟩:=ia;obtain⟨tb,pb,ib⟩:=ib;exact⟨_,pe_ix hr pa pb hs,λF σ δ H Q S h=>two (a:=a) (b:=b) (o:=op2 .at) ia ib ho S (by simpa only[ev] using h)⟩
theorem ok_un(hr:UnR X (unaryOp op) r)(ia:OkE X cl XE Φ G true ea a)
  (ho:∀(YE:Nat->Hp->Prop) F H x p Q,Trk F H->Got X.K cl F H p x->Post X.K cl YE m (frsh (.op1 o ea)) F H Q (op1 o p)->r x H Q):OkE X cl XE Φ G m (.op1 o ea) (.UnaryOp op a pos):=by
 obtain⟨ta,pa,ia⟩:=ia;refine⟨_,pe_un hr pa,λF σ δ H Q S h=>?_⟩;simp only[ev] at h;exact ia F σ δ H _ S (Meet.mono (Meet.bind h) (λp _ hp F1 x H1 u1 g1=>ho _ F1 H1 x p Q (S.up u1).trk g1.got (Post.up hp u1)) λc z=>z)
theorem cA:OkA X cl XE Φ G m [] []:=⟨_,pa_nil,λF σ δ H Q S h=>by
 simp only[evs] at h;refine h F [] H (Up.refl F H) ?_;cases m
 ·rw[xC xF];exact Reps.nil
 ·rw[xE rfl];exact .nil⟩
theorem aZ(hs:starEach (a::as) X.env=(false,eval a X.env)::starEach as X.env)(ia:OkE X cl XE Φ G m ea a)(ir:OkA X cl XE Φ G m es as):
  OkA X cl XE Φ G m (ea::es) (a::as):=by
 obtain⟨ta,pa,ia⟩:=ia;obtain⟨tr,pr,ir⟩:=ir;refine⟨_,pa_cons pa pr hs,λF σ δ H Q S h=>?_⟩;simp only[evs] at h;refine ia F σ δ H _ S (Meet.mono (Meet.bind h) (λp _ hp F1 x H1 u1 g1=>?_) λc z=>z)
 cases m with
 |true=>
  have hp1:PostA X.K cl (λc=>XE c σ) true F1 H1 Q ((evs Φ G true es δ).bind λxs=>.ok (p::xs)):=PostA.up hp u1;refine ir F1 σ δ H1 _ (S.up u1) (Meet.mono (Meet.bind hp1) (λps _ hq F2 xs H2 u2 g2=>?_) λc z=>z);rw[xE rfl] at g2;exact hq F2 (x::xs) H2 u2 (by rw[xE rfl];exact .cons (g1.got.up u2) g2)
 |false=>
  unfold Gives at g1;rw[xC xF] at g1;obtain⟨F1',u1',sub,rp⟩:=g1.keep u1;have hp1:PostA X.K cl (λc=>XE c σ) false F1' H1 Q ((evs Φ G false es δ).bind λxs=>.ok (p::xs)):=PostA.up hp u1';refine ir F1' σ δ H1 _ (S.up u1') (Meet.mono (Meet.bind hp1) (λps _ hq F2 xs H2 u2 g2=>?_) λc z=>z);rw[xC xF] at g2;exact hq F2 (x::xs) H2 u2 (by rw[xC xF];exact .cons (rp.up u2) g2)
end
theorem iJ:∀{ds es:List D},eqDs ds es=true->ds.length=es.length
 |[],[],_=>rfl
 |[],_::_,h=>by simp[eqDs] at h
 |_::_,[],h=>by simp[eqDs] at h
 |a::as,b::bs,h=>by
  simp only[eqDs,xG] at h;rw[w5,w5,iJ h.2]
theorem iK:∀(ds es:List D),ds.length=es.length->eqDs ds es=(List.range ds.length).all λj=>eqD (ds.getD j .non) (es.getD j .non)
 |[],[],_=>by simp[eqDs]
 |[],_::_,h=>by simp at h
 |_::_,[],h=>by simp at h
 |a::as,b::bs,h=>by
  have ih:=iK as bs (by simpa using h);rw[eqDs,ih,w5,List.range_succ_eq_map,zT,List.all_map];rfl
section
variable{X:Cx}{pins:List (Addr×Obj)}{σ:St}{H:Hp}{s:Shared}{cl:Nat->Addr}{F:Addr->Prop}
theorem Got.tup(h:Got X.K cl F H (.tup xs) v):∃a vs,v=.ref a/\SqT X.K H a vs/\Reps X.K cl F H xs vs:=by
 rcases h with h|⟨p,_,o⟩
 ·simpa only[Rep] using h
 ·exact o.elim
theorem Got.lst(h:Got X.K cl F H (.lst xs) v):∃a vs,v=.ref a/\H a=some (.lst vs)/\Reps X.K cl F H xs vs:=by
 rcases h with h|⟨p,e,o⟩
 ·simp only[Rep] at h
  obtain⟨a,vs,e,_,q,r⟩:=h;exact⟨a,vs,e,q,r⟩
 ·obtain⟨vs,q,r⟩:=o
  exact⟨p,vs,e,q,r⟩
theorem Got.int(h:Got X.K cl F H (.int i) v):v=.int i:=by
 rcases h with h|⟨p,_,o⟩
 ·simpa only[Rep] using h
 ·exact o.elim
theorem Got.bl(h:Got X.K cl F H (.bl i) v):v=.bl i:=by
 rcases h with h|⟨p,_,o⟩
 ·simpa only[Rep] using h
 ·exact o.elim
theorem Got.non(h:Got X.K cl F H .non v):v=.non:=by
 rcases h with h|⟨p,_,o⟩
 ·simpa only[Rep] using h
 ·exact o.elim
theorem Got.str(h:Got X.K cl F H (.str x) v):v=.str ⟨x.toArray⟩:=by
 rcases h with h|⟨p,_,o⟩
 ·simpa only[Rep] using h
 ·exact o.elim
theorem Got.scr(h:Got X.K cl F H (.scr ns) v):∃a,v=.ref a/\SqF X.K H a (ns.map V.int):=by
 rcases h with h|⟨p,_,o⟩
 ·simpa only[Rep] using h
 ·exact o.elim
theorem Got.dic(h:Got X.K cl F H (.dic ks ds) v):∃a kvs,v=.ref a/\H a=some (.dK kvs)/\kvs.map (·.1)=ks.map Sum.inl/\Reps X.K cl F H ds (kvs.map (·.2)):=by
 rcases h with h|⟨p,e,o⟩
 ·simp only[Rep] at h
  obtain⟨a,kvs,e,_,h1,h2,h3⟩:=h;exact⟨a,kvs,e,h1,h2,h3⟩
 ·obtain⟨kvs,h1,h2,h3⟩:=o
  exact⟨p,kvs,e,h1,h2,h3⟩
theorem gJ(I:Inv X pins σ H s)(h1:H a=some (.lst xs))(h2:SqT X.K H a ys):False:=by
 obtain⟨its,_,⟨o,ho,hc,n,hd⟩,_⟩:=I.tuple h2;obtain⟨_,its2,n2,_,e⟩:=I.hok a _ h1;rw[ho] at e;have:=yN e;subst this;exact absurd (show Value.type "list"=Value.type "tuple" from hc) (by decide)
theorem p9(I:Inv X pins σ H s):∀(n:Nat)(d e:D)(v:V),pln n d=true->pln n e=true->Got X.K cl F H d v->Got X.K cl F H e v->eqD d e=true:=by
 intro n
 induction n using Nat.strongRecOn with
 |ind N ih0=>
  have many:∀(n:Nat),n<N->∀(ds es:List D)(vs:List V),plns n ds=true->plns n es=true->Reps X.K cl F H ds vs->Reps X.K cl F H es vs->eqDs ds es=true:=by
   intro n hn;have ih:=ih0 n hn;intro ds
   induction ds with
   |nil=>
    intro es vs _ _ r1 r2;rw[r1.nil_inv] at r2
    cases es with
    |nil=>rfl
    |cons e es=>obtain⟨_,_,z,_⟩:=r2.cons_inv;cases z
   |cons d ds ih2=>
    intro es vs p1 p2 r1 r2;obtain⟨v,r,rfl,a1,a2⟩:=r1.cons_inv
    cases es with
    |nil=>have z:=r2.nil_inv;cases z
    |cons e es=>
     obtain⟨v',r',z,b1,b2⟩:=r2.cons_inv;cases z;simp only[plns,xG] at p1 p2;simp only[eqDs,xG];exact⟨ih d e v p1.1 p2.1 (.inl a1) (.inl b1),ih2 es r p1.2 p2.2 a2 b2⟩
  intro d e v pd pe gd ge
  cases d with
  |tup xs=>
   obtain⟨a,vs,rfl,q,r⟩:=gd.tup
   cases e with
   |tup ys=>
    obtain⟨a',vs',z,q',r'⟩:=ge.tup;cases z;have:=I.tuple_inj q q';subst this;simp only[pln,xG,decide_eq_true_eq] at pd pe;simpa only[eqD] using many (N-1) (Nat.sub_lt pd.1 Nat.one_pos) xs ys vs pd.2 pe.2 r r'
   |lst ys=>
    obtain⟨a',vs',z,q',r'⟩:=ge.lst;cases z;exact(gJ I q' q).elim
   |int i=>have z:=ge.int;cases z
   |bl i=>have z:=ge.bl;cases z
   |non=>have z:=ge.non;cases z
   |str i=>have z:=ge.str;cases z
   |dic _ _=>simp[pln] at pe
   |exn _=>simp[pln] at pe
   |scr _=>simp[pln] at pe
  |lst xs=>
   obtain⟨a,vs,rfl,q,r⟩:=gd.lst
   cases e with
   |tup ys=>
    obtain⟨a',vs',z,q',r'⟩:=ge.tup;cases z;exact(gJ I q q').elim
   |lst ys=>
    obtain⟨a',vs',z,q',r'⟩:=ge.lst;cases z;rw[q] at q';cases q';simp only[pln,xG,decide_eq_true_eq] at pd pe;simpa only[eqD] using many (N-1) (Nat.sub_lt pd.1 Nat.one_pos) xs ys vs pd.2 pe.2 r r'
   |int i=>have z:=ge.int;cases z
   |bl i=>have z:=ge.bl;cases z
   |non=>have z:=ge.non;cases z
   |str i=>have z:=ge.str;cases z
   |dic _ _=>simp[pln] at pe
   |exn _=>simp[pln] at pe
   |scr _=>simp[pln] at pe
  |dic _ _=>simp[pln] at pd
  |exn _=>simp[pln] at pd
  |scr _=>simp[pln] at pd
  |non=>
   have z:=gd.non;subst z
   cases e with
   |non=>rfl
   |tup ys=>obtain⟨_,_,z,_⟩:=ge.tup;cases z
   |lst ys=>obtain⟨_,_,z,_⟩:=ge.lst;cases z
   |int i=>have z:=ge.int;cases z
   |bl i=>have z:=ge.bl;cases z
   |str i=>have z:=ge.str;cases z
   |dic _ _=>simp[pln] at pe
   |exn _=>simp[pln] at pe
   |scr _=>simp[pln] at pe
  |bl b=>
   have z:=gd.bl;subst z
   cases e with
   |non=>have z:=ge.non;cases z
   |tup ys=>obtain⟨_,_,z,_⟩:=ge.tup;cases z
   |lst ys=>obtain⟨_,_,z,_⟩:=ge.lst;cases z
   |int i=>have z:=ge.int;cases z
   |bl i=>have z:=ge.bl;cases z;simp[eqD]
   |str i=>have z:=ge.str;cases z
   |dic _ _=>simp[pln] at pe
   |exn _=>simp[pln] at pe
   |scr _=>simp[pln] at pe
  |int b=>
   have z:=gd.int;subst z
   cases e with
   |non=>have z:=ge.non;cases z
   |tup ys=>obtain⟨_,_,z,_⟩:=ge.tup;cases z
   |lst ys=>obtain⟨_,_,z,_⟩:=ge.lst;cases z
   |int i=>have z:=ge.int;cases z;simp[eqD]
   |bl i=>have z:=ge.bl;cases z
   |str i=>have z:=ge.str;cases z
   |dic _ _=>simp[pln] at pe
   |exn _=>simp[pln] at pe
   |scr _=>simp[pln] at pe
  |str b=>
   have z:=gd.str;subst z
   cases e with
   |non=>have z:=ge.non;cases z
   |tup ys=>obtain⟨_,_,z,_⟩:=ge.tup;cases z
   |lst ys=>obtain⟨_,_,z,_⟩:=ge.lst;cases z
   |int i=>have z:=ge.int;cases z
   |bl i=>have z:=ge.bl;cases z
   |str i=>have z:=ge.str;simp at z;simp[eqD,z]
   |dic _ _=>simp[pln] at pe
   |exn _=>simp[pln] at pe
   |scr _=>simp[pln] at pe
end
theorem g6(x y:List Nat):((⟨x.toArray⟩:Str)==⟨y.toArray⟩)=(x==y):=by
 rw[zH];simp
theorem Reps.at{K:PySem.W.Frag}(r:Reps K cl F H ds vs)(h:i<ds.length):∃v,vs[i]?=some v/\Rep K cl F H (ds.getD i .non) v:=by
 obtain⟨v,h1,h2⟩:=r.get (i:=i) (d:=ds.getD i .non) (by simp[List.getD,yY h]);exact⟨v,h1,h2⟩
theorem iL:∀{ds:List D}{i:Nat},plns n ds=true->i<ds.length->pln n (ds.getD i .non)=true
 |[],_,_,h=>by simp at h
 |d::ds,0,p,_=>by simp only[plns,xG] at p;simpa using p.1
 |d::ds,i+1,p,h=>by
  simp only[plns,xG] at p;simpa using iL (i:=i) p.2 (by simpa using h)
section
variable{X:Cx}{pins:List (Addr×Obj)}{σ:St}{H:Hp}{s:Shared}{cl:Nat->Addr}{F:Addr->Prop}
theorem d7(I:Inv X pins σ H s)(ih:∀(d e:D)(x y:V)(u w:Value),pln n d=true->pln n e=true->Got X.K cl F H d x->Got X.K cl F H e y->RelV x u->RelV y w->SeqAt.EqAt A s u w (eqD d e))
  (r1:Reps X.K cl F H ds vs) (r2:Reps X.K cl F H es ws) (p1:plns n ds=true) (p2:plns n es=true) (q1:Vals vs us) (q2:Vals ws zs)
  (j:Nat) (h1:j<us.toArray.size) (h2:j<zs.toArray.size):SeqAt.EqAt A s us.toArray[j] zs.toArray[j] (eqD (ds.getD j .non) (es.getD j .non)):=by
 have l1:j<ds.length:=by rw[←r1.length,q1.length];simpa using h1
 have l2:j<es.length:=by rw[←r2.length,q2.length];simpa using h2
 obtain⟨v,e1,a1⟩:=r1.at l1;obtain⟨w,e2,a2⟩:=r2.at l2;obtain⟨u,f1,b1⟩:=q1.get e1;obtain⟨z,f2,b2⟩:=q2.get e2;have g1:us.toArray[j]=u:=by
  have:j<us.length:=by simpa using h1
  simpa[this] using f1
 have g2:zs.toArray[j]=z:=by
  have:j<zs.length:=by simpa using h2
  simpa[this] using f2
 rw[g1,g2];exact ih _ _ v w u z (iL p1 l1) (iL p2 l2) (.inl a1) (.inl a2) b1 b2
theorem oG(I:Inv X pins σ H s){A:Around}(hu:A.units<cLine)(ih:∀(d e:D)(x y:V)(u w:Value),pln n d=true->pln n e=true->Got X.K cl F H d x->Got X.K cl F H e y->RelV x u->RelV y w->SeqAt.EqAt A.in1 s u w (eqD d e))
  (p1:plns n ds=true) (p2:plns n es=true) (h1:SqT X.K H a vs) (h2:SqT X.K H b ws) (r1:Reps X.K cl F H ds vs) (r2:Reps X.K cl F H es ws):
  ∃items items2 e,s.heap.IsTuple a items/\s.heap.IsTuple b items2/\(∀j (g1:j<items.size)(g2:j<items2.size),SeqAt.EqAt A.in1 s items[j] items2[j] (e j))/\
   ((List.range (min items.size items2.size)).all e&&items.size==items2.size)=eqDs ds es:=by
 obtain⟨its,q1,t1,_⟩:=I.tuple h1;obtain⟨its2,q2,t2,_⟩:=I.tuple h2;refine⟨its.toArray,its2.toArray,λj=>eqD (ds.getD j .non) (es.getD j .non),t1,t2,d7 I ih r1 r2 p1 p2 q1 q2,?_⟩;have l1:its.toArray.size=ds.length:=by rw[xO,←q1.length,r1.length]
 have l2:its2.toArray.size=es.length:=by rw[xO,←q2.length,r2.length]
 rw[l1,l2];by_cases hl:ds.length=es.length
 ·rw[iK ds es hl,hl];simp
 ·have:eqDs ds es=false:=by
   cases h:eqDs ds es with
   |false=>rfl
   |true=>exact absurd (iJ h) hl
  rw[this];simp[hl]
theorem oH(I:Inv X pins σ H s)(hu:A.units<cLine)(ih:∀(d e:D)(x y:V)(u w:Value),pln n d=true->pln n e=true->Got X.K cl F H d x->Got X.K cl F H e y->RelV x u->RelV y w->SeqAt.EqAt A.in1 s u w (eqD d e))
  (p1:plns n ds=true) (p2:plns n es=true) (h1:H a=some (.lst vs)) (h2:H b=some (.lst ws)) (r1:Reps X.K cl F H ds vs) (r2:Reps X.K cl F H es ws):
  SeqAt.RcAt A s (.ref a) (.ref b) (eqDs ds es)/\SeqAt.RcNeAt A s (.ref a) (.ref b) (!eqDs ds es):=by
 obtain⟨its,q1,t1,_⟩:=I.list (SqL.of (K:=X.K) h1);obtain⟨its2,q2,t2,_⟩:=I.list (SqL.of (K:=X.K) h2);have l1:its.toArray.size=ds.length:=by rw[xO,←q1.length,r1.length]
 have l2:its2.toArray.size=es.length:=by rw[xO,←q2.length,r2.length]
 by_cases hl:ds.length=es.length
 ·have hs:its.toArray.size=its2.toArray.size:=by rw[l1,l2,hl]
  have e1:=SeqAt.RcAt.lists (e:=λj=>eqD (ds.getD j .non) (es.getD j .non)) t1.isList t2.isList hs hu (d7 I ih r1 r2 p1 p2 q1 q2);have e2:=SeqAt.RcNeAt.lists (e:=λj=>eqD (ds.getD j .non) (es.getD j .non)) t1.isList t2.isList hs hu (d7 I ih r1 r2 p1 p2 q1 q2);rw[l1,←iK ds es hl] at e1 e2;exact⟨e1,e2⟩
 ·have:eqDs ds es=false:=by
   cases h:eqDs ds es with
   |false=>rfl
   |true=>exact absurd (iJ h) hl
  rw[this];have hs:(its.toArray.size !=its2.toArray.size)=true:=by rw[l1,l2];simpa using hl
  exact⟨SeqAt.RcAt.lists_lengths t1.isList t2.isList hs hu,SeqAt.RcNeAt.lists_lengths t1.isList t2.isList hs hu⟩
theorem uK(I:Inv X pins σ H s):∀(n:Nat)(A:Around),A.units+n<cLine->∀(d e:D)(x y:V)(u w:Value),pln n d=true->pln n e=true->Got X.K cl F H d x->Got X.K cl F H e y->RelV x u->RelV y w->
  SeqAt.EqAt A s u w (eqD d e):=by
 intro n
 induction n using Nat.strongRecOn with
 |ind N ih0=>
  intro A hu d e x y u w pd pe gd ge rx ry;have hu0:A.units<cLine:=by omega
  have tupR:∀{a:Addr}{vs:List V},SqT X.K H a vs->∃its,s.heap.IsTuple a its:=λh=>let⟨its,_,t,_⟩:=I.tuple h;⟨_,t⟩;have lstR:∀{a:Addr}{vs:List V},H a=some (.lst vs)->∃its,s.heap.IsList a its:=λh=>let⟨its,_,t,_⟩:=I.list (SqL.of (K:=X.K) h);⟨_,t.isList⟩
  cases d with
  |dic _ _=>simp[pln] at pd
  |exn _=>simp[pln] at pd
  |scr _=>simp[pln] at pd
  |tup ds=>
   obtain⟨a,vs,rfl,h1,r1⟩:=gd.tup;cases (show u=Value.ref a from rx);obtain⟨it1,t1⟩:=tupR h1;have pd':=pd;simp only[pln,xG,decide_eq_true_eq] at pd
   cases e with
   |dic _ _=>simp[pln] at pe
   |exn _=>simp[pln] at pe
   |scr _=>simp[pln] at pe
   |tup es=>
    obtain⟨b,ws,rfl,h2,r2⟩:=ge.tup;cases (show w=Value.ref b from ry);have pe':=pe;simp only[pln,xG,decide_eq_true_eq] at pe;by_cases hab:a=b
    ·subst hab
     rw[p9 I N (.tup ds) (.tup es) (.ref a) pd' pe' gd ge];exact SeqAt.EqAt.same _
    ·obtain⟨i1,i2,ee,a1,a2,a3,a4⟩:=oG I (A:=A) hu0 (ih0 (N-1) (Nat.sub_lt pd.1 Nat.one_pos) A.in1 (by show A.units+1+(N-1)<cLine;omega)) pd.2 pe.2 h1 h2 r1 r2
     have:=SeqAt.EqAt.of_refs hab (SeqAt.RcAt.tuples a1 a2 hu0 a3);rw[a4] at this;simpa only[eqD] using this
   |lst es=>
    obtain⟨b,ws,rfl,h2,r2⟩:=ge.lst;cases (show w=Value.ref b from ry);obtain⟨it2,t2⟩:=lstR h2;simpa only[eqD] using SeqAt.EqAt.tuple_list t1 t2 hu0
   |non=>rw[ge.non] at ry;cases ry;simpa only[eqD] using SeqAt.EqAt.tuple_none t1 hu0
   |bl b=>rw[ge.bl] at ry;cases ry;simpa only[eqD] using SeqAt.EqAt.tuple_bool b t1 hu0
   |int b=>rw[ge.int] at ry;obtain⟨t,rfl⟩:=ry;simpa only[eqD] using SeqAt.EqAt.tuple_int b t t1 hu0
   |str b=>rw[ge.str] at ry;obtain⟨t,rfl⟩:=ry;simpa only[eqD] using SeqAt.EqAt.tuple_str _ t t1 hu0
  |lst ds=>
   obtain⟨a,vs,rfl,h1,r1⟩:=gd.lst;cases (show u=Value.ref a from rx);obtain⟨it1,t1⟩:=lstR h1;have pd':=pd;simp only[pln,xG,decide_eq_true_eq] at pd
   cases e with
   |dic _ _=>simp[pln] at pe
   |exn _=>simp[pln] at pe
   |scr _=>simp[pln] at pe
   |lst es=>
    obtain⟨b,ws,rfl,h2,r2⟩:=ge.lst;cases (show w=Value.ref b from ry);have pe':=pe;simp only[pln,xG,decide_eq_true_eq] at pe;by_cases hab:a=b
    ·subst hab
     rw[p9 I N (.lst ds) (.lst es) (.ref a) pd' pe' gd ge];exact SeqAt.EqAt.same _
    ·have:=SeqAt.EqAt.of_refs hab (oH I (A:=A) hu0 (ih0 (N-1) (Nat.sub_lt pd.1 Nat.one_pos) A.in1 (by show A.units+1+(N-1)<cLine;omega)) pd.2 pe.2 h1 h2 r1 r2).1
     simpa only[eqD] using this
   |tup es=>
    obtain⟨b,ws,rfl,h2,r2⟩:=ge.tup;cases (show w=Value.ref b from ry);obtain⟨it2,t2⟩:=tupR h2;simpa only[eqD] using SeqAt.EqAt.list_tuple t1 t2 hu0
   |non=>rw[ge.non] at ry;cases ry;simpa only[eqD] using SeqAt.EqAt.list_none t1 hu0
   |bl b=>rw[ge.bl] at ry;cases ry;simpa only[eqD] using SeqAt.EqAt.list_bool b t1 hu0
   |int b=>rw[ge.int] at ry;obtain⟨t,rfl⟩:=ry;simpa only[eqD] using SeqAt.EqAt.list_int b t t1 hu0
   |str b=>rw[ge.str] at ry;obtain⟨t,rfl⟩:=ry;simpa only[eqD] using SeqAt.EqAt.list_str _ t t1 hu0
  |non=>
   rw[gd.non] at rx;cases rx
   cases e with
   |dic _ _=>simp[pln] at pe
   |exn _=>simp[pln] at pe
   |scr _=>simp[pln] at pe
   |tup es=>obtain⟨b,ws,rfl,h2,r2⟩:=ge.tup;cases (show w=Value.ref b from ry);obtain⟨it2,t2⟩:=tupR h2;simpa only[eqD] using SeqAt.EqAt.none_tuple t2 hu0
   |lst es=>obtain⟨b,ws,rfl,h2,r2⟩:=ge.lst;cases (show w=Value.ref b from ry);obtain⟨it2,t2⟩:=lstR h2;simpa only[eqD] using SeqAt.EqAt.none_list t2 hu0
   |non=>rw[ge.non] at ry;simpa only[eqD,eqV] using aV (y:=.non) (x:=.non) rfl ry rfl rfl
   |bl b=>rw[ge.bl] at ry;simpa only[eqD,eqV] using aV (y:=.non) (x:=.bl b) rfl ry rfl rfl
   |int b=>rw[ge.int] at ry;simpa only[eqD,eqV] using aV (y:=.non) (x:=.int b) rfl ry rfl rfl
   |str b=>rw[ge.str] at ry;simpa only[eqD,eqV] using aV (y:=.non) (x:=.str _) rfl ry rfl rfl
  |bl c=>
   rw[gd.bl] at rx
   cases e with
   |dic _ _=>simp[pln] at pe
   |exn _=>simp[pln] at pe
   |scr _=>simp[pln] at pe
   |tup es=>cases rx;obtain⟨b,ws,rfl,h2,r2⟩:=ge.tup;cases (show w=Value.ref b from ry);obtain⟨it2,t2⟩:=tupR h2;simpa only[eqD] using SeqAt.EqAt.bool_tuple c t2 hu0
   |lst es=>cases rx;obtain⟨b,ws,rfl,h2,r2⟩:=ge.lst;cases (show w=Value.ref b from ry);obtain⟨it2,t2⟩:=lstR h2;simpa only[eqD] using SeqAt.EqAt.bool_list c t2 hu0
   |non=>rw[ge.non] at ry;simpa only[eqD,eqV] using aV (y:=.bl c) (x:=.non) rx ry rfl rfl
   |bl b=>rw[ge.bl] at ry;simpa only[eqD,eqV] using aV (y:=.bl c) (x:=.bl b) rx ry rfl rfl
   |int b=>rw[ge.int] at ry;simpa only[eqD,eqV] using aV (y:=.bl c) (x:=.int b) rx ry rfl rfl
   |str b=>rw[ge.str] at ry;simpa only[eqD,eqV] using aV (y:=.bl c) (x:=.str _) rx ry rfl rfl
  |int c=>
   rw[gd.int] at rx
   cases e with
   |dic _ _=>simp[pln] at pe
   |exn _=>simp[pln] at pe
   |scr _=>simp[pln] at pe
   |tup es=>obtain⟨t,rfl⟩:=rx;obtain⟨b,ws,rfl,h2,r2⟩:=ge.tup;cases (show w=Value.ref b from ry);obtain⟨it2,t2⟩:=tupR h2;simpa only[eqD] using SeqAt.EqAt.int_tuple c t t2 hu0
   |lst es=>obtain⟨t,rfl⟩:=rx;obtain⟨b,ws,rfl,h2,r2⟩:=ge.lst;cases (show w=Value.ref b from ry);obtain⟨it2,t2⟩:=lstR h2;simpa only[eqD] using SeqAt.EqAt.int_list c t t2 hu0
   |non=>rw[ge.non] at ry;simpa only[eqD,eqV] using aV (y:=.int c) (x:=.non) rx ry rfl rfl
   |bl b=>rw[ge.bl] at ry;simpa only[eqD,eqV] using aV (y:=.int c) (x:=.bl b) rx ry rfl rfl
   |int b=>rw[ge.int] at ry;simpa only[eqD,eqV] using aV (y:=.int c) (x:=.int b) rx ry rfl rfl
   |str b=>rw[ge.str] at ry;simpa only[eqD,eqV] using aV (y:=.int c) (x:=.str _) rx ry rfl rfl
  |str c=>
   rw[gd.str] at rx
   cases e with
   |dic _ _=>simp[pln] at pe
   |exn _=>simp[pln] at pe
   |scr _=>simp[pln] at pe
   |tup es=>obtain⟨t,rfl⟩:=rx;obtain⟨b,ws,rfl,h2,r2⟩:=ge.tup;cases (show w=Value.ref b from ry);obtain⟨it2,t2⟩:=tupR h2;simpa only[eqD] using SeqAt.EqAt.str_tuple _ t t2 hu0
   |lst es=>obtain⟨t,rfl⟩:=rx;obtain⟨b,ws,rfl,h2,r2⟩:=ge.lst;cases (show w=Value.ref b from ry);obtain⟨it2,t2⟩:=lstR h2;simpa only[eqD] using SeqAt.EqAt.str_list _ t t2 hu0
   |non=>rw[ge.non] at ry;simpa only[eqD,eqV] using aV (y:=.str _) (x:=.non) rx ry rfl rfl
   |bl b=>rw[ge.bl] at ry;simpa only[eqD,eqV] using aV (y:=.str _) (x:=.bl b) rx ry rfl rfl
   |int b=>rw[ge.int] at ry;simpa only[eqD,eqV] using aV (y:=.str _) (x:=.int b) rx ry rfl rfl
   |str b=>
    rw[ge.str] at ry;have:=aV (A:=A) (s:=s) (y:=.str _) (x:=.str _) rx ry rfl rfl;have e:eqV (.str ⟨c.toArray⟩) (.str ⟨b.toArray⟩)=(c==b):=g6 c b;rw[e] at this;simpa only[eqD] using this
def rEqD(K:PySem.W.Frag)(cl:Nat->Addr)(neg:Bool):R2:=λx y H Q=>∃F p q,Got K cl F H p x/\Got K cl F H q y/\pln 9 p=true/\pln 9 q=true/\kin p q=true/\Q (.bl (if neg then !eqD p q else eqD p q)) H
theorem op_eqD(hu:X.A.units+20<cLine):OpR X (compareOp .Eq) (rEqD X.K cl false):=by
 intro pins s σ H x y v u Q I rx ry h;obtain⟨F,p,q,g1,g2,p1,p2,k,hq⟩:=h;rw[xC xF] at hq;have ih:=uK (cl:=cl) (F:=F) I 8 X.A.in1 (by show X.A.units+1+8<cLine;omega);cases p<;>cases q<;>first|(simp[kin] at k;done)|skip
 ·rename_i a b
  have e1:=g1.bl;have e2:=g2.bl;subst e1 e2;exact tV pins s σ H _ _ v u Q I rx ry ⟨rfl,by rw[k6];exact hq⟩
 ·rename_i a b
  have e1:=g1.int;have e2:=g2.int;subst e1 e2;exact tV pins s σ H _ _ v u Q I rx ry ⟨rfl,by rw[gZ];exact hq⟩
 ·rename_i a b
  have e1:=g1.str;have e2:=g2.str;subst e1 e2;exact tV pins s σ H _ _ v u Q I rx ry ⟨rfl,by rw[g5,g6];exact hq⟩
 ·rename_i ds es
  obtain⟨a,vs,rfl,h1,r1⟩:=g1.tup;obtain⟨b,ws,rfl,h2,r2⟩:=g2.tup;cases (show v=Value.ref a from rx);cases (show u=Value.ref b from ry);simp only[pln,xG] at p1 p2;obtain⟨i1,i2,ee,a1,a2,a3,a4⟩:=oG I (A:=X.A) (by omega) ih p1.2 p2.2 h1 h2 r1 r2;refine SeqAt.RcAt.tuples a1 a2 (by omega) a3 X.prog X.w X.xe _ ?_;rw[a4];exact⟨.bl _,H,I,rfl,hq⟩
 ·rename_i ds es
  obtain⟨a,vs,rfl,h1,r1⟩:=g1.lst;obtain⟨b,ws,rfl,h2,r2⟩:=g2.lst;cases (show v=Value.ref a from rx);cases (show u=Value.ref b from ry);simp only[pln,xG] at p1 p2;exact(oH I (A:=X.A) (by omega) ih p1.2 p2.2 h1 h2 r1 r2).1 X.prog X.w X.xe _ ⟨.bl _,H,I,rfl,hq⟩
theorem op_neD(hu:X.A.units+20<cLine):OpR X (compareOp .NotEq) (rEqD X.K cl true):=by
 intro pins s σ H x y v u Q I rx ry h;obtain⟨F,p,q,g1,g2,p1,p2,k,hq⟩:=h;rw[xE rfl] at hq;have ih:=uK (cl:=cl) (F:=F) I 8 X.A.in1 (by show X.A.units+1+8<cLine;omega);cases p<;>cases q<;>first|(simp[kin] at k;done)|skip
 ·rename_i a b
  have e1:=g1.bl;have e2:=g2.bl;subst e1 e2;exact tW pins s σ H _ _ v u Q I rx ry ⟨rfl,by rw[k6];exact hq⟩
 ·rename_i a b
  have e1:=g1.int;have e2:=g2.int;subst e1 e2;exact tW pins s σ H _ _ v u Q I rx ry ⟨rfl,by rw[gZ];exact hq⟩
 ·rename_i a b
  have e1:=g1.str;have e2:=g2.str;subst e1 e2;exact tW pins s σ H _ _ v u Q I rx ry ⟨rfl,by rw[g5,g6];exact hq⟩
 ·rename_i ds es
  obtain⟨a,vs,rfl,h1,r1⟩:=g1.tup;obtain⟨b,ws,rfl,h2,r2⟩:=g2.tup;cases (show v=Value.ref a from rx);cases (show u=Value.ref b from ry);simp only[pln,xG] at p1 p2;obtain⟨i1,i2,ee,a1,a2,a3,a4⟩:=oG I (A:=X.A) (by omega) ih p1.2 p2.2 h1 h2 r1 r2;refine SeqAt.RcNeAt.tuples a1 a2 (by omega) a3 X.prog X.w X.xe _ ?_;rw[a4];exact⟨.bl _,H,I,rfl,hq⟩
 ·rename_i ds es
  obtain⟨a,vs,rfl,h1,r1⟩:=g1.lst;obtain⟨b,ws,rfl,h2,r2⟩:=g2.lst;cases (show v=Value.ref a from rx);cases (show u=Value.ref b from ry);simp only[pln,xG] at p1 p2;exact(oH I (A:=X.A) (by omega) ih p1.2 p2.2 h1 h2 r1 r2).2 X.prog X.w X.xe _ ⟨.bl _,H,I,rfl,hq⟩
end
theorem iM(h:n<=LIM):n<=sizeLine:=xU h (by decide)
section
variable{X:Cx}{cl:Nat->Addr}{XE:Nat->St->Hp->Prop}{YE:Nat->Hp->Prop}{Φ:Nat->List D->R D}{G:List D}{m fr:Bool}{F:Addr->Prop}{H:Hp}{Q:VK}{x y:V}{p q:D}
theorem Post.no(h:Post X.K cl YE m fr F H Q .bad):False:=h
theorem Post.int(h:Post X.K cl YE m fr F H Q (.ok (.int i))):Q (.int i) H:=Post.hereR h (by simp[Rep]) (by simp[isOwn])
theorem Post.bl(h:Post X.K cl YE m fr F H Q (.ok (.bl i))):Q (.bl i) H:=Post.hereR h (by simp[Rep]) (by simp[isOwn])
theorem Post.newl{p:Addr}(h:Post X.K cl YE m true F H Q (.ok (.lst ds)))(r:Reps X.K cl F H ds vs)(hF:¬F p)(hp:H p=none):Q (.ref p) (L2.upd H p (.lst vs)):=by
 refine h F (.ref p) _ (Up.alloc hp) (Res.gives ?_);unfold Res;rw[xE (by simp[isOwn])];exact⟨p,rfl,hp,hF,vs,aE,r.up (Up.alloc hp)⟩
theorem Post.newt{p:Addr}(h:Post X.K cl YE m fr F H Q (.ok (.tup ds)))(r:Reps X.K cl F H ds vs)(hp:H p=none):Q (.ref p) (L2.upd H p (.tup vs)):=by
 refine h F (.ref p) _ (Up.alloc hp) (Res.gives (.of_rep ?_ (by simp[isOwn])));simp only[Rep];exact⟨p,vs,rfl,.inl (.inl aE),r.up (Up.alloc hp)⟩
theorem ho_add(t:Trk F H)(g1:Got X.K cl F H p x)(g2:Got X.K cl F H q y)(h:Post X.K cl YE m true F H Q (op2 .add p q)):rI0 (λi j=>.int (i+j)) x y H Q\/rCat x y H Q\/rCatTW X.K x y H Q:=by
 cases p<;>cases q<;>first|exact(show False from h).elim|skip
 ·rw[g1.int,g2.int]
  exact .inl ⟨_,_,rfl,rfl,Post.int h⟩
 ·rename_i ds es
  have h':Post X.K cl YE m true F H Q (if ds.length+es.length<=LIM then .ok (.tup (ds++es)) else .bad):=h;by_cases hc:ds.length+es.length<=LIM
  ·rw[xE hc] at h'
   obtain⟨a,vs,rfl,h1,r1⟩:=g1.tup;obtain⟨b,ws,rfl,h2,r2⟩:=g2.tup;refine .inr (.inr ⟨a,b,vs,ws,rfl,rfl,h1,h2,by rw[r1.length,r2.length];exact iM hc,λe=>?_,λ_ e=>?_,λ_ _ l hl=>Post.newt h' (r1.append r2) hl⟩)
   ·subst e
    have e:ds=[]:=by have:=r1.length;cases ds with|nil=>rfl|cons _ _=>simp at this
    subst e;exact Post.hereR h' (by rw[List.nil_append];simp only[Rep];exact⟨b,ws,rfl,h2,r2⟩) (by simp[isOwn])
   ·subst e
    have e:es=[]:=by have:=r2.length;cases es with|nil=>rfl|cons _ _=>simp at this
    subst e;exact Post.hereR h' (by rw[yD];simp only[Rep];exact⟨a,vs,rfl,h1,r1⟩) (by simp[isOwn])
  ·rw[xC hc] at h';exact h'.no.elim
 ·rename_i ds es
  have h':Post X.K cl YE m true F H Q (if ds.length+es.length<=LIM then .ok (.lst (ds++es)) else .bad):=h;by_cases hc:ds.length+es.length<=LIM
  ·rw[xE hc] at h'
   obtain⟨a,vs,rfl,h1,r1⟩:=g1.lst;obtain⟨b,ws,rfl,h2,r2⟩:=g2.lst;exact .inr (.inl ⟨a,b,vs,ws,rfl,rfl,h1,h2,by rw[r1.length,r2.length];exact iM hc,λl hl=>Post.newl h' (r1.append r2) (t.fresh hl) hl⟩)
  ·rw[xC hc] at h';exact h'.no.elim
theorem lE[∀i j,Decidable (C i j)]{f:Int->Int->D}(ho:∀p q,(∃i j,p=.int i/\q=.int j/\op2 o p q=if C i j then .ok (f i j) else .bad)\/op2 o p q=.bad)
  (hk:∀i j,Rep X.K cl F H (f i j) (k i j)) (hn:∀i j,isOwn (f i j)=false) (g1:Got X.K cl F H p x) (g2:Got X.K cl F H q y) (h:Post X.K cl YE m fr F H Q (op2 o p q)):rI C k x y H Q:=by
 rcases ho p q with⟨i,j,rfl,rfl,e⟩|e
 ·rw[e] at h
  by_cases hc:C i j
  ·rw[xE hc] at h
   exact⟨i,j,g1.int,g2.int,hc,Post.hereR h (hk i j) (by rw[hn];simp)⟩
  ·rw[xC hc] at h;exact h.no.elim
 ·rw[e] at h;exact h.no.elim
theorem eS{f:Int->Int->D}(ho:∀p q,(∃i j,p=.int i/\q=.int j/\op2 o p q=.ok (f i j))\/op2 o p q=.bad)
  (hk:∀i j,Rep X.K cl F H (f i j) (k i j)) (hn:∀i j,isOwn (f i j)=false) (g1:Got X.K cl F H p x) (g2:Got X.K cl F H q y) (h:Post X.K cl YE m fr F H Q (op2 o p q)):rI0 k x y H Q:=by
 rcases ho p q with⟨i,j,rfl,rfl,e⟩|e
 ·rw[e] at h
  exact⟨i,j,g1.int,g2.int,Post.hereR h (hk i j) (by rw[hn];simp)⟩
 ·rw[e] at h;exact h.no.elim
theorem sp_sub(p q:D):(∃i j,p=.int i/\q=.int j/\op2 .sub p q=.ok (.int (i-j)))\/op2 .sub p q=.bad:=by
 cases p<;>cases q<;>first|exact .inr rfl|exact .inl ⟨_,_,rfl,rfl,rfl⟩
theorem sp_mul(p q:D):(∃i j,p=.int i/\q=.int j/\op2 .mul p q=if(-(2^64)<i/\i<2^64)\/(-(2^64)<j/\j<2^64) then R.ok (.int (i*j)) else R.bad)\/op2 .mul p q=.bad:=by
 cases p<;>cases q<;>first|exact .inr rfl|exact .inl ⟨_,_,rfl,rfl,rfl⟩
theorem sp_mod(p q:D):(∃i j,p=.int i/\q=.int j/\op2 .mod p q=if 0<j then R.ok (.int (i%j)) else R.bad)\/op2 .mod p q=.bad:=by
 cases p<;>cases q<;>first|exact .inr rfl|exact .inl ⟨_,_,rfl,rfl,rfl⟩
theorem sp_fdiv(p q:D):(∃i j,p=.int i/\q=.int j/\op2 .fdiv p q=if 0<j/\j<1073741824 then R.ok (.int (i/j)) else R.bad)\/op2 .fdiv p q=.bad:=by
 cases p<;>cases q<;>first|exact .inr rfl|exact .inl ⟨_,_,rfl,rfl,rfl⟩
theorem sp_lt(p q:D):(∃i j,p=.int i/\q=.int j/\op2 .lt p q=.ok (.bl (decide (i<j))))\/op2 .lt p q=.bad:=by
 cases p<;>cases q<;>first|exact .inr rfl|exact .inl ⟨_,_,rfl,rfl,rfl⟩
theorem sp_gt(p q:D):(∃i j,p=.int i/\q=.int j/\op2 .gt p q=.ok (.bl (decide (j<i))))\/op2 .gt p q=.bad:=by
 cases p<;>cases q<;>first|exact .inr rfl|exact .inl ⟨_,_,rfl,rfl,rfl⟩
theorem sp_ge(p q:D):(∃i j,p=.int i/\q=.int j/\op2 .ge p q=.ok (.bl (decide (j<=i))))\/op2 .ge p q=.bad:=by
 cases p<;>cases q<;>first|exact .inr rfl|exact .inl ⟨_,_,rfl,rfl,rfl⟩
theorem ho_eq(g1:Got X.K cl F H p x)(g2:Got X.K cl F H q y)(h:Post X.K cl YE m fr F H Q (op2 .eq p q)):rEqD X.K cl false x y H Q:=by
 have h':Post X.K cl YE m fr F H Q (if(pln 9 p&&pln 9 q&&kin p q)=true then .ok (.bl (eqD p q)) else .bad):=h;by_cases hc:(pln 9 p&&pln 9 q&&kin p q)=true
 ·rw[xE hc] at h'
  simp only[xG] at hc;exact⟨F,p,q,g1,g2,hc.1.1,hc.1.2,hc.2,by rw[xC xF];exact Post.bl h'⟩
 ·rw[xC hc] at h';exact h'.no.elim
theorem ho_ne(g1:Got X.K cl F H p x)(g2:Got X.K cl F H q y)(h:Post X.K cl YE m fr F H Q (op2 .ne p q)):rEqD X.K cl true x y H Q:=by
 have h':Post X.K cl YE m fr F H Q (if(pln 9 p&&pln 9 q&&kin p q)=true then .ok (.bl (!eqD p q)) else .bad):=h;by_cases hc:(pln 9 p&&pln 9 q&&kin p q)=true
 ·rw[xE hc] at h'
  simp only[xG] at hc;exact⟨F,p,q,g1,g2,hc.1.1,hc.1.2,hc.2,by rw[xE rfl];exact Post.bl h'⟩
 ·rw[xC hc] at h';exact h'.no.elim
theorem eT(g:Got X.K cl F H d v)(h:flat d=true):flatV v=true:=by
 cases d with
 |non=>rw[g.non];rfl
 |bl b=>rw[g.bl];rfl
 |int b=>rw[g.int];rfl
 |str b=>rw[g.str];rfl
 |_=>simp[flat] at h
theorem lH(g:Got X.K cl F H d v)(g':Got X.K cl F H e w)(h:flat d=true)(h':flat e=true):eqV v w=eqD d e:=by
 cases d with
 |non=>rw[g.non];cases e with
  |non=>rw[g'.non];simp only[eqV,eqD]
  |bl b=>rw[g'.bl];simp only[eqV,eqD]
  |int b=>rw[g'.int];simp only[eqV,eqD]
  |str b=>rw[g'.str];simp only[eqV,eqD]
  |_=>simp[flat] at h'
 |bl c=>rw[g.bl];cases e with
  |non=>rw[g'.non];simp only[eqV,eqD]
  |bl b=>rw[g'.bl];simp only[eqV,eqD]
  |int b=>rw[g'.int];simp only[eqV,eqD]
  |str b=>rw[g'.str];simp only[eqV,eqD]
  |_=>simp[flat] at h'
 |int c=>rw[g.int];cases e with
  |non=>rw[g'.non];simp only[eqV,eqD]
  |bl b=>rw[g'.bl];simp only[eqV,eqD]
  |int b=>rw[g'.int];simp only[eqV,eqD]
  |str b=>rw[g'.str];simp only[eqV,eqD]
  |_=>simp[flat] at h'
 |str c=>rw[g.str];cases e with
  |non=>rw[g'.non];simp only[eqV,eqD]
  |bl b=>rw[g'.bl];simp only[eqV,eqD]
  |int b=>rw[g'.int];simp only[eqV,eqD]
  |str b=>rw[g'.str];simp only[eqV,eqD];exact g6 c b
  |_=>simp[flat] at h'
 |_=>simp[flat] at h
theorem dE:∀{ds:List D}{vs:List V},Reps X.K cl F H ds vs->ds.all flat=true->vs.all flatV=true
 |[],vs,r,_=>by rw[r.nil_inv];rfl
 |d::ds,vs,r,h=>by
  obtain⟨v,r',rfl,a1,a2⟩:=r.cons_inv;rw[zT,xG] at h⊢;exact⟨eT (.inl a1) h.1,dE a2 h.2⟩
theorem oI(g:Got X.K cl F H p x)(h:flat p=true):∀{ds:List D}{vs:List V},Reps X.K cl F H ds vs->ds.all flat=true->inV x vs=inD p ds
 |[],vs,r,_=>by rw[r.nil_inv];rfl
 |d::ds,vs,r,hf=>by
  obtain⟨v,r',rfl,a1,a2⟩:=r.cons_inv;rw[zT,xG] at hf;have ih:=oI g h a2 hf.2;unfold inV inD at ih⊢;rw[List.any_cons,List.any_cons,ih,lH (.inl a1) g hf.1 h]
theorem ho_in(neg:Bool)(g1:Got X.K cl F H p x)(g2:Got X.K cl F H q y)(h:Post X.K cl YE m fr F H Q ((isin p q).bind λb=>.ok (.bl (if neg then !b else b)))):rIn X.K neg x y H Q:=by
 cases q with
 |lst es=>
  have h':Post X.K cl YE m fr F H Q ((if(flat p&&es.all flat)=true then R.ok (inD p es) else R.bad).bind λb=>.ok (.bl (if neg then !b else b))):=h;by_cases hc:(flat p&&es.all flat)=true
  ·rw[xE hc] at h'
   simp only[xG] at hc;obtain⟨a,vs,rfl,h1,r1⟩:=g2.lst;exact⟨a,vs,rfl,.inl (SqL.of h1),eT g1 hc.1,dE r1 hc.2,by rw[oI g1 hc.1 r1 hc.2];exact Post.bl h'⟩
  ·rw[xC hc] at h';exact(show False from h').elim
 |tup es=>
  have h':Post X.K cl YE m fr F H Q ((if(flat p&&es.all flat)=true then R.ok (inD p es) else R.bad).bind λb=>.ok (.bl (if neg then !b else b))):=h;by_cases hc:(flat p&&es.all flat)=true
  ·rw[xE hc] at h'
   simp only[xG] at hc;obtain⟨a,vs,rfl,h1,r1⟩:=g2.tup;exact⟨a,vs,rfl,.inr h1,eT g1 hc.1,dE r1 hc.2,by rw[oI g1 hc.1 r1 hc.2];exact Post.bl h'⟩
  ·rw[xC hc] at h';exact(show False from h').elim
 |_=>exact(show False from h).elim
theorem uL(r:Reps X.K cl F H ds vs)(h:atD ds i=some d):∃v,atI vs i=some v/\Rep X.K cl F H d v:=by
 unfold atD at h
 cases e:ixD ds.length i with
 |none=>rw[e] at h;cases h
 |some j=>
  rw[e] at h;obtain⟨v,h1,h2⟩:=r.get (i:=j) (d:=d) h;refine⟨v,?_,h2⟩;show(ixN vs.length i).bind (λj=>vs[j]?)=some v;rw[r.length];have e':ixN ds.length i=some j:=e;rw[e'];exact h1
theorem ho_at(g1:Got X.K cl F H p x)(g2:Got X.K cl F H q y)(h:Post X.K cl YE m false F H Q (op2 .at p q)):rIxL X.K x y H Q\/rIxT X.K x y H Q:=by
 cases p<;>cases q<;>first|exact(show False from h).elim|skip
 ·rename_i ds i
  have h':Post X.K cl YE m false F H Q (ofO (atD ds i)):=h
  cases e:atD ds i with
  |none=>rw[e] at h';exact(show False from h').elim
  |some d=>
   rw[e] at h';obtain⟨a,vs,rfl,h1,r1⟩:=g1.tup;obtain⟨v,e1,e2⟩:=uL r1 e;exact .inr ⟨a,vs,i,v,rfl,g2.int,h1,e1,Post.hereR h' e2 (by simp)⟩
 ·rename_i ds i
  have h':Post X.K cl YE m false F H Q (ofO (atD ds i)):=h
  cases e:atD ds i with
  |none=>rw[e] at h';exact(show False from h').elim
  |some d=>
   rw[e] at h';obtain⟨a,vs,rfl,h1,r1⟩:=g1.lst;obtain⟨v,e1,e2⟩:=uL r1 e;exact .inl ⟨a,vs,i,v,rfl,g2.int,SqL.of h1,e1,Post.hereR h' e2 (by simp)⟩
 ·rename_i ns i
  have h':Post X.K cl YE m false F H Q (ofO ((atD ns i).map .int)):=h
  cases e:atD ns i with
  |none=>rw[e] at h';exact(show False from h').elim
  |some d=>
   rw[e] at h';obtain⟨a,rfl,h1⟩:=g1.scr;refine .inl ⟨a,_,i,.int d,rfl,g2.int,h1.sqL,?_,Post.int h'⟩;unfold atD at e;show(ixN (ns.map V.int).length i).bind (λj=>(ns.map V.int)[j]?)=_;rw[xB]
   cases e2:ixD ns.length i with
   |none=>rw[e2] at e;cases e
   |some j=>
    rw[e2] at e;have e3:ixN ns.length i=some j:=e2;rw[e3];show(ns.map V.int)[j]?=_;rw[zN];have e4:ns[j]?=some d:=e;rw[e4];rfl
end
def lift1(o:D->R D):List D->R D
 |[x]=>o x
 |_=>.bad
def lift2(o:D->D->R D):List D->R D
 |[x,y]=>o x y
 |_=>.bad
theorem Paired.one{α β:Type}{P:α->β->Prop}{a:α}{l:List β}(h:Paired P [a] l):∃b,l=[b]/\P a b:=by
 cases h with|cons h r=>cases r;exact⟨_,rfl,h⟩
theorem Paired.two{α β:Type}{P:α->β->Prop}{a b:α}{l:List β}(h:Paired P [a,b] l):∃c d,l=[c,d]/\P a c/\P b d:=by
 cases h with|cons h r=>cases r with|cons h' r=>cases r;exact⟨_,_,rfl,h,h'⟩
section
variable{X:Cx}{cl:Nat->Addr}{XE:Nat->St->Hp->Prop}{YE:Nat->Hp->Prop}{Φ:Nat->List D->R D}{G:List D}{m fr:Bool}
theorem iN{id:String}(hev:∀δ,ev Φ G m ex δ=(evs Φ G true exs δ).bind o)
  (hc:CallR X (.builtin id) r) (hg:Gl X x) (hm:X.mg x=none) (hv:bootBuiltins x=some (.builtin id)) (hn:x≠"__name__") (hdb:(x==("__debug__":Str))=false)
  (he:starEach (e::es) X.env=(false,eval e X.env)::starEach es X.env) (hpl:(backTo pos (starEach es X.env)).any (·.1)=false) (ia:OkA X cl XE Φ G true exs (e::es))
  (ho:∀(YE:Nat->Hp->Prop) F H vs ds Q,Trk F H->Paired (Got X.K cl F H) ds vs->Post X.K cl YE m (frsh ex) F H Q (o ds)->r vs H Q):OkE X cl XE Φ G m ex (.Call (.Name x p) (e::es) [] pos):=by
 obtain⟨ta,pa,ia⟩:=ia;refine⟨_,mB hc hg hm hv pa hn hdb he hpl,λF σ δ H Q S h=>?_⟩;rw[hev] at h;refine ia F σ δ H _ S (Meet.mono (Meet.bind h) (λds _ hd F1 vs H1 u1 g1=>?_) λc z=>z);rw[xE rfl] at g1;exact ho _ F1 H1 vs ds Q (S.up u1).trk g1 (Post.up hd u1)
theorem fK{id:String}(hev:∀δ,ev Φ G m ex δ=(evs Φ G true exs δ).bind o)
  (hc:CallR X (.type id) r) (hg:Gl X x) (hm:X.mg x=none) (hv:bootBuiltins x=some (.type id)) (hn:x≠"__name__") (hdb:(x==("__debug__":Str))=false)
  (he:starEach (e::es) X.env=(false,eval e X.env)::starEach es X.env) (hpl:(backTo pos (starEach es X.env)).any (·.1)=false) (ia:OkA X cl XE Φ G true exs (e::es))
  (ho:∀(YE:Nat->Hp->Prop) F H vs ds Q,Trk F H->Paired (Got X.K cl F H) ds vs->Post X.K cl YE m (frsh ex) F H Q (o ds)->r vs H Q):OkE X cl XE Φ G m ex (.Call (.Name x p) (e::es) [] pos):=by
 obtain⟨ta,pa,ia⟩:=ia;refine⟨_,rN hc hg hm hv pa hn hdb he hpl,λF σ δ H Q S h=>?_⟩;rw[hev] at h;refine ia F σ δ H _ S (Meet.mono (Meet.bind h) (λds _ hd F1 vs H1 u1 g1=>?_) λc z=>z);rw[xE rfl] at g1;exact ho _ F1 H1 vs ds Q (S.up u1).trk g1 (Post.up hd u1)
theorem ev1(δ:Sto):ev Φ G m (.op1 o a) δ=(evs Φ G true [a] δ).bind (lift1 (op1 o)):=by
 simp only[ev,evs];cases ev Φ G true a δ<;>rfl
theorem ev2(δ:Sto):ev Φ G m (.op2 o a b) δ=(evs Φ G true [a,b] δ).bind (lift2 (op2 o)):=by
 simp only[ev,evs]
 cases ev Φ G true a δ with
 |ok x=>cases ev Φ G true b δ<;>rfl
 |exc c=>rfl
 |bad=>rfl
variable{F:Addr->Prop}{H:Hp}{Q:VK}{x y:V}{p q:D}
theorem ho_len(g:Paired (Got X.K cl F H) ds vs)(h:Post X.K cl YE m fr F H Q (lift1 (op1 .len) ds)):
  ∃p ys,vs=[.ref p]/\(SqL X.K H p ys\/SqT X.K H p ys)/\Q (.int ys.length) H:=by
 match ds,g,h with
 |[],_,h=>exact(show False from h).elim
 |_::_::_,_,h=>exact(show False from h).elim
 |[d],g,h=>
  obtain⟨v,rfl,gv⟩:=Paired.one g;have h:Post X.K cl YE m fr F H Q (op1 .len d):=h;cases d<;>first|exact(show False from h).elim|skip
  ·rename_i ds
   obtain⟨a,ws,rfl,h1,r1⟩:=gv.tup;exact⟨a,ws,rfl,.inr h1,by rw[r1.length];exact Post.int h⟩
  ·rename_i ds
   obtain⟨a,ws,rfl,h1,r1⟩:=gv.lst;exact⟨a,ws,rfl,.inl (SqL.of h1),by rw[r1.length];exact Post.int h⟩
  ·rename_i ns
   obtain⟨a,rfl,h1⟩:=gv.scr;exact⟨a,_,rfl,.inl h1.sqL,by rw[xB];exact Post.int h⟩
theorem ho_list(t:Trk F H)(g:Paired (Got X.K cl F H) ds vs)(h:Post X.K cl YE m true F H Q (lift1 (op1 .list) ds)):
  ∃p ys,vs=[.ref p]/\(SqL X.K H p ys\/SqT X.K H p ys)/\∀l,H l=none->Q (.ref l) (L2.upd H l (.lst ys)):=by
 match ds,g,h with
 |[],_,h=>exact(show False from h).elim
 |_::_::_,_,h=>exact(show False from h).elim
 |[d],g,h=>
  obtain⟨v,rfl,gv⟩:=Paired.one g;have h:Post X.K cl YE m true F H Q (op1 .list d):=h;cases d<;>first|exact(show False from h).elim|skip
  ·rename_i ds
   obtain⟨a,ws,rfl,h1,r1⟩:=gv.tup;exact⟨a,ws,rfl,.inr h1,λl hl=>Post.newl h r1 (t.fresh hl) hl⟩
  ·rename_i ds
   obtain⟨a,ws,rfl,h1,r1⟩:=gv.lst;exact⟨a,ws,rfl,.inl (SqL.of h1),λl hl=>Post.newl h r1 (t.fresh hl) hl⟩
theorem uM(g:Paired (Got X.K cl F H) ds vs)(h:Post X.K cl YE m false F H Q (lift1 (op1 .tuple) ds)):
  ∃p ys,vs=[.ref p]/\((SqL X.K H p ys/\∀l,H l=none->Q (.ref l) (L2.upd H l (.tup ys)))\/(SqT X.K H p ys/\Q (.ref p) H)):=by
 match ds,g,h with
 |[],_,h=>exact(show False from h).elim
 |_::_::_,_,h=>exact(show False from h).elim
 |[d],g,h=>
  obtain⟨v,rfl,gv⟩:=Paired.one g;have h:Post X.K cl YE m false F H Q (op1 .tuple d):=h;cases d<;>first|exact(show False from h).elim|skip
  ·rename_i ds
   obtain⟨a,ws,rfl,h1,r1⟩:=gv.tup;exact⟨a,ws,rfl,.inr ⟨h1,Post.hereR h (by simp only[Rep];exact⟨a,ws,rfl,h1,r1⟩) (by simp)⟩⟩
  ·rename_i ds
   obtain⟨a,ws,rfl,h1,r1⟩:=gv.lst;exact⟨a,ws,rfl,.inl ⟨SqL.of h1,λl hl=>Post.newt h r1 hl⟩⟩
theorem ho_max(g:Paired (Got X.K cl F H) ds vs)(h:Post X.K cl YE m fr F H Q (lift2 (op2 .max) ds)):
  ∃i j,vs=[.int i,.int j]/\Q (.int (if j>i then j else i)) H:=by
 match ds,g,h with
 |[],_,h=>exact(show False from h).elim
 |[_],_,h=>exact(show False from h).elim
 |_::_::_::_,_,h=>exact(show False from h).elim
 |[d,e],g,h=>
  obtain⟨v,w,rfl,gv,gw⟩:=Paired.two g;have h:Post X.K cl YE m fr F H Q (op2 .max d e):=h;cases d<;>cases e<;>first|exact(show False from h).elim|skip;rw[gv.int,gw.int];exact⟨_,_,rfl,Post.int h⟩
theorem ho_neg(g:Got X.K cl F H p x)(h:Post X.K cl YE m fr F H Q (op1 .neg p)):rU (λi=>.int (-i)) x H Q:=by
 cases p<;>first|exact(show False from h).elim|skip;exact⟨_,g.int,Post.int h⟩
theorem ho_isN(g:Got X.K cl F H p x)(h:Post X.K cl YE m fr F H Q (op1 .isNone p)):Q (.bl (decide (x=.non))) H:=by
 cases p with
 |non=>rw[g.non];exact Post.bl h
 |bl b=>rw[g.bl];exact Post.bl h
 |int b=>rw[g.int];exact Post.bl h
 |str b=>rw[g.str];exact Post.bl h
 |tup b=>
  obtain⟨a,_,rfl,_⟩:=g.tup;have h':Post X.K cl YE m fr F H Q (if pln 1000 (.tup b)=true then .ok (.bl false) else .bad):=h;by_cases hc:pln 1000 (.tup b)=true
  ·rw[xE hc] at h';exact Post.bl h'
  ·rw[xC hc] at h';exact h'.no.elim
 |lst b=>
  obtain⟨a,_,rfl,_⟩:=g.lst;have h':Post X.K cl YE m fr F H Q (if pln 1000 (.lst b)=true then .ok (.bl false) else .bad):=h;by_cases hc:pln 1000 (.lst b)=true
  ·rw[xE hc] at h';exact Post.bl h'
  ·rw[xC hc] at h';exact h'.no.elim
 |dic a b=>exact(show False from h).elim
 |exn a=>exact(show False from h).elim
 |scr a=>exact(show False from h).elim
theorem ho_isNN(g:Got X.K cl F H p x)(h:Post X.K cl YE m fr F H Q (op1 .isNotNone p)):Q (.bl (!decide (x=.non))) H:=by
 cases p with
 |non=>rw[g.non];exact Post.bl h
 |bl b=>rw[g.bl];exact Post.bl h
 |int b=>rw[g.int];exact Post.bl h
 |str b=>rw[g.str];exact Post.bl h
 |tup b=>
  obtain⟨a,_,rfl,_⟩:=g.tup;have h':Post X.K cl YE m fr F H Q (if pln 1000 (.tup b)=true then .ok (.bl true) else .bad):=h;by_cases hc:pln 1000 (.tup b)=true
  ·rw[xE hc] at h';exact Post.bl h'
  ·rw[xC hc] at h';exact h'.no.elim
 |lst b=>
  obtain⟨a,_,rfl,_⟩:=g.lst;have h':Post X.K cl YE m fr F H Q (if pln 1000 (.lst b)=true then .ok (.bl true) else .bad):=h;by_cases hc:pln 1000 (.lst b)=true
  ·rw[xE hc] at h';exact Post.bl h'
  ·rw[xC hc] at h';exact h'.no.elim
 |dic a b=>exact(show False from h).elim
 |exn a=>exact(show False from h).elim
 |scr a=>exact(show False from h).elim
theorem Post.asB(g:Got X.K cl F H p x)(h:Post X.K cl YE m fr F H Q ((asB p).bind f)):∃c,x=.bl c/\Post X.K cl YE m fr F H Q (f c):=by
 cases p with
 |bl c=>exact⟨c,g.bl,h⟩
 |_=>exact(show False from h).elim
theorem ok_not(ia:OkE X cl XE Φ G true ea a):OkE X cl XE Φ G m (.not ea) (.UnaryOp .Not a pos):=by
 obtain⟨ta,pa,ia⟩:=ia;refine⟨_,pe_not pa,λF σ δ H Q S h=>?_⟩;simp only[ev] at h;refine ia F σ δ H _ S (Meet.mono (Meet.bind h) (λp _ hp F1 x H1 u1 g1=>?_) λc z=>z);obtain⟨c,e,hc⟩:=Post.asB g1.got (Post.up hp u1);exact⟨c,e,Post.bl hc⟩
theorem ok_one(ia:OkE X cl XE Φ G m ex a):OkE X cl XE Φ G m ex (.BoolOp op [a] pos):=by
 obtain⟨ta,pa,ia⟩:=ia;exact⟨_,pe_one pa,ia⟩
theorem Post.weak(h:Post X.K cl YE m false F H Q r):Post X.K cl YE m fr F H Q r:=by
 refine Meet.mono h (λd _ q F' v H' u g=>?_) λc z=>z;unfold Gives at g;by_cases hm:m=true
 ·rw[xE hm] at g
  exact q F' v H' u (by unfold Gives;rw[xE hm];exact g)
 ·rw[xC hm] at g
  obtain⟨F2,u2,_,rp⟩:=g.keep u;exact q F2 v H' u2 (by unfold Gives;rw[xC hm];exact .of_rep rp (by simp))
theorem Post.modes(h:Post X.K cl YE m fr F H Q r):Post X.K cl YE false fr F H Q r:=
 Meet.mono h (λd _ q F' v H' u g=>q F' v H' u (Res.gives (by unfold Gives at g;rw[xC xF] at g;exact g))) λc z=>z
theorem ok_and(ia:OkE X cl XE Φ G true ea a)(ib:OkE X cl XE Φ G false eb (.BoolOp .And (b::rest) pos)):OkE X cl XE Φ G m (.and ea eb) (.BoolOp .And (a::b::rest) pos):=by
 obtain⟨ta,pa,ia⟩:=ia;obtain⟨tb,pb,ib⟩:=ib;refine⟨_,pe_and pa pb,λF σ δ H Q S h=>?_⟩;simp only[ev] at h;refine ia F σ δ H _ S (Meet.mono (Meet.bind h) (λp _ hp F1 x H1 u1 g1=>?_) λc z=>z);obtain⟨c,e,hc⟩:=Post.asB g1.got (Post.up hp u1);refine⟨c,e,?_⟩
 cases c with
 |true=>
  rw[xE rfl];exact ib F1 σ δ H1 Q (S.up u1) (Post.modes hc).weak
 |false=>
  rw[xC xF];exact Post.bl hc
theorem ok_ite(ic:OkT X cl XE Φ G ec c)(ia:OkE X cl XE Φ G false ea a)(ib:OkE X cl XE Φ G false eb b):OkE X cl XE Φ G m (.ite ec ea eb) (.IfExp c a b pos):=by
 obtain⟨tc,pc,ic⟩:=ic;obtain⟨ta,pa,ia⟩:=ia;obtain⟨tb,pb,ib⟩:=ib;refine⟨_,tP pc pa pb,λF σ δ H Q S h=>?_⟩;simp only[ev] at h;refine ic F σ δ H _ S (Meet.mono (Meet.bind h) (λt _ hp F1 H1 u1=>?_) λc z=>z);have hp:=Post.up (K:=X.K) (cl:=cl) hp u1
 cases t with
 |true=>
  show ta σ H1 Q;exact ia F1 σ δ H1 Q (S.up u1) (Post.modes hp).weak
 |false=>
  show tb σ H1 Q;exact ib F1 σ δ H1 Q (S.up u1) (Post.modes hp).weak
theorem ok_tup(hl:exs.length<=LIM)(ia:OkA X cl XE Φ G false exs es):OkE X cl XE Φ G m (.tup exs) (.Tuple es k pos):=by
 obtain⟨ta,pa,ia⟩:=ia;refine⟨_,pe_tup pa,λF σ δ H Q S h=>?_⟩;simp only[ev] at h;refine ia F σ δ H _ S (Meet.mono (Meet.bind h) (λds hds hp F1 vs H1 u1 g1=>?_) λc z=>z);rw[xC xF] at g1;have hlen:ds.length=exs.length:=by
  have:∀(es:List Ex)(ds:List D),evs Φ G false es δ=.ok ds->ds.length=es.length:=by
   intro es
   induction es with
   |nil=>intro ds h;simp only[evs] at h;cases h;rfl
   |cons e es ih=>
    intro ds h;simp only[evs] at h
    cases q:ev Φ G false e δ with
    |ok x=>
     rw[q] at h
     cases q2:evs Φ G false es δ with
     |ok xs=>rw[q2] at h;cases h;rw[w5,w5,ih xs q2]
     |exc c=>rw[q2] at h;cases h
     |bad=>rw[q2] at h;cases h
    |exc c=>rw[q] at h;cases h
    |bad=>rw[q] at h;cases h
  exact this exs ds hds
 exact⟨by rw[g1.length,hlen];exact iM hl,λl hl'=>Post.newt (Post.up hp u1) g1 hl'⟩
theorem ok_lst(hl:exs.length<=LIM)(ia:OkA X cl XE Φ G false exs es):OkE X cl XE Φ G m (.lst exs) (.List es pos):=by
 obtain⟨ta,pa,ia⟩:=ia;refine⟨_,pe_lst pa,λF σ δ H Q S h=>?_⟩;simp only[ev] at h;refine ia F σ δ H _ S (Meet.mono (Meet.bind h) (λds hds hp F1 vs H1 u1 g1=>?_) λc z=>z);rw[xC xF] at g1;have hlen:ds.length=exs.length:=by
  have:∀(es:List Ex)(ds:List D),evs Φ G false es δ=.ok ds->ds.length=es.length:=by
   intro es
   induction es with
   |nil=>intro ds h;simp only[evs] at h;cases h;rfl
   |cons e es ih=>
    intro ds h;simp only[evs] at h
    cases q:ev Φ G false e δ with
    |ok x=>
     rw[q] at h
     cases q2:evs Φ G false es δ with
     |ok xs=>rw[q2] at h;cases h;rw[w5,w5,ih xs q2]
     |exc c=>rw[q2] at h;cases h
     |bad=>rw[q2] at h;cases h
    |exc c=>rw[q] at h;cases h
    |bad=>rw[q] at h;cases h
  exact this exs ds hds
 exact⟨by rw[g1.length,hlen];exact iM hl,λl hl'=>Post.newl (Post.up hp u1) g1 ((S.up u1).trk.fresh hl') hl'⟩
end
section
variable{X:Cx}{cl:Nat->Addr}{XE:Nat->St->Hp->Prop}{YE:Nat->Hp->Prop}{Φ:Nat->List D->R D}{G:List D}{m fr:Bool}
structure OkP(X:Cx)(cl:Nat->Addr)(XE:Nat->St->Hp->Prop)(Φ:Nat->List D->R D)(G:List D)(ex:Option Ex)(e:Option Expr):Prop where
 ok:∃t,PO X e t/\∀F σ δ H Q,Sees X.K cl F H σ δ->
 Meet (evP Φ G ex δ) (λo=>∀F' H',Up F H F' H'->Q o H') (λc=>∀F' H',Up F H F' H'->XE c σ H')->t σ H Q
theorem uN:OkP X cl XE Φ G none none:=⟨_,po_none,λF σ δ H Q S h=>by simp only[evP] at h;exact h F H (Up.refl F H)⟩
theorem uO(ia:OkE X cl XE Φ G true ex e):OkP X cl XE Φ G (some ex) (some e):=by
 obtain⟨ta,pa,ia⟩:=ia;refine⟨_,po_some pa,λF σ δ H Q S h=>?_⟩;simp only[evP] at h;refine ia F σ δ H _ S (Meet.mono (Meet.bind h) (λp _ hp F1 x H1 u1 g1=>?_) λc z=>z)
 cases p with
 |int i=>exact⟨i,g1.got.int,hp F1 H1 u1⟩
 |_=>exact(show False from hp).elim
variable{F:Addr->Prop}{H:Hp}{Q:VK}{x y:V}{p q:D}
theorem fL(n d:Nat)(o:Option Int):HT.sIx n d o=Py.sIx n d o:=by cases o<;>rfl
theorem uP(r:Reps X.K cl F H ds vs)(l h:Option Int):Reps X.K cl F H (cut ds l h) (cutV vs l h):=by
 unfold cut cutV;rw[r.length,fL,fL];exact(r.drop _).take _
theorem cut_all{ds:List D}(e:Py.sIx ds.length 0 l=0/\Py.sIx ds.length ds.length h=ds.length):cut ds l h=ds:=by
 unfold cut;rw[e.1,e.2];simp
theorem ho_slc(t:Trk F H)(g:Got X.K cl F H p x)(hp:Post X.K cl YE m true F H Q (slc p l h)):rSlL X.K x l h H Q\/rSlT X.K x l h H Q\/rSlTW X.K x l h H Q\/rSlS x l h H Q:=by
 cases p with
 |lst ds=>
  obtain⟨a,vs,rfl,h1,r1⟩:=g.lst;exact .inl ⟨a,vs,rfl,SqL.of h1,λp' hp'=>Post.newl hp (uP r1 l h) (t.fresh hp') hp'⟩
 |tup ds=>
  obtain⟨a,vs,rfl,h1,r1⟩:=g.tup;by_cases hw:HT.sIx vs.length 0 l=0/\HT.sIx vs.length vs.length h=vs.length
  ·refine .inr (.inr (.inl ⟨a,vs,rfl,h1,hw,Post.hereR hp ?_ (by simp[isOwn])⟩))
   have hw':Py.sIx ds.length 0 l=0/\Py.sIx ds.length ds.length h=ds.length:=by
    rw[r1.length,fL,fL] at hw;exact hw
   rw[cut_all hw'];simp only[Rep];exact⟨a,vs,rfl,h1,r1⟩
  ·exact .inr (.inl ⟨a,vs,rfl,h1,hw,λp' hp'=>Post.newt hp (uP r1 l h) hp'⟩)
 |str z=>
  have hp:Post X.K cl YE m true F H Q (if z.length<=LIM then .ok (.str (cut z l h)) else .bad):=hp;by_cases hc:z.length<=LIM
  ·rw[xE hc] at hp
   refine .inr (.inr (.inr ⟨⟨z.toArray⟩,?_,iM (show z.toArray.size<=LIM by simpa using hc),?_⟩))
   ·rcases g with g|⟨a,_,o⟩
    ·simpa[Rep] using g
    ·exact o.elim
   ·rw[rT]
    have e:(⟨z.toArray⟩:Str).length=z.length:=by show z.toArray.size=_;simp
    rw[e,fL,fL];exact Post.hereR hp (by simp[Rep,cut]) (by simp[isOwn])
  ·rw[xC hc] at hp;exact(show False from hp).elim
 |_=>exact(show False from hp).elim
theorem ok_slc{lo hi:Option Ex}(ia:OkE X cl XE Φ G true ea a)(il:OkP X cl XE Φ G lo le)(ih:OkP X cl XE Φ G hi he):OkE X cl XE Φ G m (.slc ea lo hi) (.Subscript a (.Slice le he none p2) pos):=by
 obtain⟨ta,pa,ia⟩:=ia;obtain⟨tl,pl,il⟩:=il;obtain⟨th,ph,ih⟩:=ih;refine⟨_,t7 (sl_list.or (sl_tup.or (sl_tupW.or sl_str))) pa pl ph,λF σ δ H Q S h=>?_⟩;simp only[ev] at h;refine ia F σ δ H _ S (Meet.mono (Meet.bind h) (λp _ hp F1 x H1 u1 g1=>?_) λc z=>z);have hp1:Post X.K cl (λc=>XE c σ) m true F1 H1 Q ((evP Φ G lo δ).bind λl=>(evP Φ G hi δ).bind λh=>slc p l h):=Post.up hp u1;refine il F1 σ δ H1 _ (S.up u1) (Meet.mono (Meet.bind hp1) (λl _ hl F2 H2 u2=>?_) λc z=>z);have hp2:Post X.K cl (λc=>XE c σ) m true F2 H2 Q ((evP Φ G hi δ).bind λh=>slc p l h):=Post.up hl u2;refine ih F2 σ δ H2 _ ((S.up u1).up u2) (Meet.mono (Meet.bind hp2) (λh' _ hh F3 H3 u3=>?_) λc z=>z);exact ho_slc (((S.up u1).up u2).up u3).trk ((g1.got.up u2).up u3) (Post.up hh u3)
theorem rep_get(r:Reps X.K cl F H ds vs){i:Nat}(h:vs[i]?=some v):∃d,ds[i]?=some d/\Rep X.K cl F H d v:=by
 have hl:=r.length;have hi:i<ds.length:=by
  by_cases hc:i<vs.length
  ·omega
  ·rw[zC (by omega)] at h;cases h
 obtain⟨v',h1,h2⟩:=r.get (i:=i) (d:=ds[i]) (by simp[hi]);rw[h] at h1;cases h1;exact⟨ds[i],by simp[hi],h2⟩
theorem mL(e:D):∀(ds:List D)(j:Nat),idxD e ds=some j->∃z,ds[j]?=some z/\eqD z e=true/\∀(k:Nat) z',k<j->ds[k]?=some z'->eqD z' e=false
 |[],j,h=>by simp[idxD] at h
 |d::ds,j,h=>by
  unfold idxD at h;by_cases hc:eqD d e=true
  ·rw[xE hc] at h
   cases h;exact⟨d,by simp,hc,λk z' hk=>absurd hk (Nat.not_lt_zero k)⟩
  ·rw[xC hc] at h
   cases q:idxD e ds with
   |none=>rw[q] at h;cases h
   |some i=>
    rw[q] at h;cases h;obtain⟨z,h1,h2,h3⟩:=mL e ds i q;refine⟨z,by simpa using h1,h2,λk z' hk hz=>?_⟩
    cases k with
    |zero=>simp at hz;subst hz;simpa using hc
    |succ k=>exact h3 k z' (by have:k+1<i+1:=hk;omega) (by simpa using hz)
theorem uQ(g1:Got X.K cl F H p x)(g2:Got X.K cl F H q y)(h:Post X.K cl YE m fr F H Q (op2 .index p q)):rIndex x [y] H Q:=by
 cases p<;>first|exact(show False from h).elim|skip;rename_i ds;have h':Post X.K cl YE m fr F H Q (if(flat q&&ds.all flat)=true then ofO ((idxD q ds).map λn=>.int n) else .bad):=h;by_cases hc:(flat q&&ds.all flat)=true
 ·rw[xE hc] at h'
  simp only[xG] at hc;obtain⟨a,vs,rfl,h1,r1⟩:=g1.lst
  cases e:idxD q ds with
  |none=>rw[e] at h';exact(show False from h').elim
  |some j=>
   rw[e] at h';obtain⟨z,e1,e2,e3⟩:=mL q ds j e;obtain⟨v,f1,f2⟩:=r1.get e1;have fl:∀(k:Nat) d,ds[k]?=some d->flat d=true:=λk d hk=>List.all_eq_true.mp hc.2 d (List.mem_of_getElem? hk);refine⟨a,vs,y,j,v,rfl,rfl,h1,eT g2 hc.1,dE r1 hc.2,f1,by rw[lH (.inl f2) g2 (fl j z e1) hc.1];exact e2,λk z' hk hz=>?_,Post.int h'⟩;obtain⟨d,d1,d2⟩:=rep_get r1 hz;rw[lH (.inl d2) g2 (fl k d d1) hc.1];exact e3 k d hk d1
 ·rw[xC hc] at h';exact h'.no.elim
theorem mM(g:Got X.K cl F H p x)(h:flat p=true):∀{ds:List D}{vs:List V},Reps X.K cl F H ds vs->ds.all flat=true->(vs.countP λz=>eqV z x)=ds.countP λz=>eqD z p
 |[],vs,r,_=>by rw[r.nil_inv];rfl
 |d::ds,vs,r,hf=>by
  obtain⟨v,r',rfl,a1,a2⟩:=r.cons_inv;rw[zT,xG] at hf;rw[List.countP_cons,List.countP_cons,mM g h a2 hf.2,lH (.inl a1) g hf.1 h]
theorem uR(g1:Got X.K cl F H p x)(g2:Got X.K cl F H q y)(h:Post X.K cl YE m fr F H Q (op2 .count p q)):rCount x [y] H Q:=by
 cases p<;>first|exact(show False from h).elim|skip;rename_i ds;have h':Post X.K cl YE m fr F H Q (if(flat q&&ds.all flat)=true then .ok (.int (ds.countP λy=>eqD y q)) else .bad):=h;by_cases hc:(flat q&&ds.all flat)=true
 ·rw[xE hc] at h'
  simp only[xG] at hc;obtain⟨a,vs,rfl,h1,r1⟩:=g1.lst;exact⟨a,vs,y,rfl,rfl,h1,eT g2 hc.1,dE r1 hc.2,by rw[mM g2 hc.1 r1 hc.2];exact Post.int h'⟩
 ·rw[xC hc] at h';exact h'.no.elim
theorem qA{id:String}(slot:Slot "list" name id)(hty:typeOf (.builtin id)=pure (.type "method_descriptor"))(hm:MtR X id r)
  (ia:OkE X cl XE Φ G true ea a) (ib:OkE X cl XE Φ G true eb b) (hbase:attributeBase a name X.env (eval a X.env)=eval a X.env) (hline:(apos.endLine==cpos.line)=true)
  (hs:starEach [b] X.env=[(false,eval b X.env)])
  (hl:∀p q,(∃ds,p=.lst ds)\/op2 o p q=.bad) (hx:∀δ c,ev Φ G true eb δ≠.exc c)
  (ho:∀(YE:Nat->Hp->Prop) F H x y p q Q,Got X.K cl F H p x->Got X.K cl F H q y->Post X.K cl YE m (frsh (.op2 o ea eb)) F H Q (op2 o p q)->r x [y] H Q):OkE X cl XE Φ G m (.op2 o ea eb) (.Call (.Attribute a name apos) [b] [] cpos):=by
 obtain⟨ta,pa,ia⟩:=ia;obtain⟨tb,pb,ib⟩:=ib;have hs':starEach (b::[]) X.env=(false,eval b X.env)::starEach [] X.env:=hs;refine⟨_,pe_bm PySem.F.plainAttrs_list slot hty hm pa (pa_cons pb pa_nil hs') hbase (by rw[hs];rfl) hline hs' rfl,λF σ δ H Q S h=>?_⟩;simp only[ev] at h;refine ia F σ δ H _ S (Meet.mono (Meet.bind h) (λp _ hp F1 x H1 u1 g1=>?_) λc z=>z);have hp1:Post X.K cl (λc=>XE c σ) m (frsh (.op2 o ea eb)) F1 H1 Q ((ev Φ G true eb δ).bind λy=>op2 o p y):=Post.up hp u1;refine⟨?_,?_⟩
 ·rcases hl p .non with⟨ds,rfl⟩|_
  ·obtain⟨l,vs,rfl,h1,r1⟩:=g1.got.lst
   exact .inl ⟨rfl,vs,SqL.of h1⟩
  ·by_cases hc:∃ds,p=.lst ds
   ·obtain⟨ds,rfl⟩:=hc
    obtain⟨l,vs,rfl,h1,r1⟩:=g1.got.lst;exact .inl ⟨rfl,vs,SqL.of h1⟩
   ·exfalso
    cases e:ev Φ G true eb δ with
    |ok y=>
     rw[e] at hp1;rcases hl p y with z|z
     ·exact hc z
     ·have:Post X.K cl (λc=>XE c σ) m (frsh (.op2 o ea eb)) F1 H1 Q (op2 o p y):=hp1
      rw[z] at this;exact this
    |exc c=>
     exact hx δ c e
    |bad=>rw[e] at hp1;exact hp1
 ·show tCons tb tNil σ H1 _
  refine ib F1 σ δ H1 _ (S.up u1) (Meet.mono (Meet.bind hp1) (λq _ hq F2 y H2 u2 g2=>?_) λc z=>z);exact ho _ F2 H2 x y p q Q (g1.got.up u2) g2.got (Post.up hq u2)
theorem boot_isinstance:bootBuiltins "isinstance"=some (.builtin "isinstance"):=by first|exact PySem.boot_isinstance|rfl|decide+kernel
theorem boot_int:bootBuiltins "int"=some (.type "int"):=by first|exact PySem.boot_int|rfl|decide+kernel
theorem boot_bool:bootBuiltins "bool"=some (.type "bool"):=by first|exact PySem.boot_bool|rfl|decide+kernel
theorem boot_tuple:bootBuiltins "tuple"=some (.type "tuple"):=by first|exact PySem.boot_tuple|rfl|decide+kernel
theorem boot_list:bootBuiltins "list"=some (.type "list"):=by first|exact PySem.boot_list|rfl|decide+kernel
theorem boot_max:bootBuiltins "max"=some (.builtin "max"):=by first|exact PySem.boot_max|rfl|decide+kernel
def tyName:D->String
 |.non=>"NoneType"|.bl _=>"bool"|.int _=>"int"|.str _=>"str"|.tup _=>"tuple"|.lst _=>"list"|_=>""
theorem isi_run{pins:List (Addr×Obj)}{σ:St}{s:Shared}{A:Around}{E:Value->Shared->Prop}{QQ:Value->Shared->Prop}{u c:Value}{b:Bool}(I:Inv X pins σ H s)(g:Got X.K cl F H p x)(hp:pln 1000 p=true)(rx:RelV x u)
  (e:PySem.W.kitOne X.K (.type (tyName p)) c=some b) (h:∀tk,QQ (.bool b) {s with toks:=tk}):wpAny (model X.prog X.w) A (call (.builtin "isinstance") [u,c]) QQ E s:=by
 cases p with
 |non=>rw[g.non] at rx;cases rx;exact PySem.W.kia_one PySem.W.kitx_none I.kIn True.intro e (λz=>nomatch z) h
 |bl y=>rw[g.bl] at rx;cases rx;exact PySem.W.kia_one PySem.W.kitx_bool I.kIn True.intro e (λz=>nomatch z) h
 |int i=>rw[g.int] at rx;obtain⟨t,rfl⟩:=rx;exact PySem.W.kia_one PySem.W.kitx_int I.kIn True.intro e (λz=>nomatch z) h
 |str y=>rw[g.str] at rx;obtain⟨t,rfl⟩:=rx;exact PySem.W.kia_one PySem.W.kitx_str I.kIn True.intro e (λz=>nomatch z) h
 |tup ds=>
  obtain⟨a,vs,rfl,h1,r1⟩:=g.tup;cases (show u=Value.ref a from rx);obtain⟨its,_,⟨o,ho,hc,_⟩,_⟩:=I.tuple h1;exact PySem.W.kia_one PySem.W.kitx_tuple I.kIn ⟨o,ho,hc⟩ e (λz=>nomatch z) h
 |lst ds=>
  obtain⟨a,vs,rfl,h1,r1⟩:=g.lst;cases (show u=Value.ref a from rx);obtain⟨_,_,n,_,h2⟩:=I.hok a _ h1;exact PySem.W.kia_one PySem.W.kitx_list I.kIn ⟨_,h2,rfl⟩ e (λz=>nomatch z) h
 |_=>simp[pln] at hp
def rIsi(K:PySem.W.Frag)(cl:Nat->Addr)(T:String):List V->Hp->VK->Prop:=λxs H Q=>∃F d x b,xs=[x,.ty T]/\Got K cl F H d x/\pln 1000 d=true/\PySem.W.kitOne K (.type (tyName d)) (.type T)=some b/\Q (.bl b) H
theorem uS(T:String):CallR X (.builtin "isinstance") (rIsi X.K cl T):=by
 intro pins s σ H xs us Q I r h;obtain⟨F,d,x,b,rfl,g,hp,e,q⟩:=h;obtain⟨u,w,rfl,ru,rw'⟩:=vals2 r;cases (show w=Value.type T from rw');exact isi_run I g hp ru e λtk=>⟨.bl b,H,I.tok tk,rfl,q⟩
def isTy(T:String)(d:D):Bool:=match d with
 |.bl _=>T=="bool"||T=="int"
 |d=>T==tyName d
theorem kit_ty(K:PySem.W.Frag)(T:String)(hT:T="int"\/T="bool"\/T="tuple"\/T="list"\/T="str")(d:D)(hp:pln 1000 d=true):PySem.W.kitOne K (.type (tyName d)) (.type T)=some (isTy T d):=by
 rcases hT with rfl|rfl|rfl|rfl|rfl<;>cases d<;>first|(simp[pln] at hp;done)|rfl|decide+kernel
theorem oJ(hT:T="int"\/T="bool"\/T="tuple"\/T="list"\/T="str")
  (hg:Gl X "isinstance") (hm:X.mg "isinstance"=none) (hg2:Gl X Tn) (hm2:X.mg Tn=none) (hv:bootBuiltins Tn=some (.type T)) (hn:Tn≠"__name__") (hdb:(Tn==("__debug__":Str))=false) (ia:OkE X cl XE Φ G true ea a)
  (hs:starEach [a,.Name Tn p2] X.env=[(false,eval a X.env),(false,eval (.Name Tn p2) X.env)]) (hfr:frsh (.op1 o ea)=false)
  (ho:∀d,(op1 o d=.ok (.bl (isTy T d))/\pln 1000 d=true)\/op1 o d=.bad):OkE X cl XE Φ G m (.op1 o ea) (.Call (.Name "isinstance" p1) [a,.Name Tn p2] [] pos):=by
 obtain⟨ta,pa,ia⟩:=ia;have pt:PE X (.Name Tn p2) (tC (.ty T)):=pe_bltn hg2 hm2 hv rfl hn hdb;have hs':starEach (a::[.Name Tn p2]) X.env=(false,eval a X.env)::starEach [.Name Tn p2] X.env:=hs;refine⟨_,mB (uS (cl:=cl) T) hg hm boot_isinstance (pa_cons pa (pa_cons pt pa_nil rfl) hs') (by decide) (by decide) hs' rfl,λF σ δ H Q S h=>?_⟩;simp only[ev] at h;refine ia F σ δ H _ S (Meet.mono (Meet.bind h) (λd _ hp F1 x H1 u1 g1=>?_) λc z=>z);have hp1:=Post.up hp u1;rcases ho d with⟨e,pl⟩|e
 ·rw[e] at hp1
  exact⟨F1,d,x,_,rfl,g1.got,pl,kit_ty X.K T hT d pl,Post.bl hp1⟩
 ·rw[e] at hp1;exact hp1.no.elim
theorem uT(d:D):(op1 .isInt d=.ok (.bl (isTy "int" d))/\pln 1000 d=true)\/op1 .isInt d=.bad:=by
 cases d<;>first|exact .inl ⟨rfl,by simp[pln]⟩|exact .inr rfl|skip
 all_goals exact Classical.byCases (λhc=>.inl ⟨xE hc,hc⟩) λhc=>.inr (xC hc)
theorem rZ(d:D):(op1 .isBool d=.ok (.bl (isTy "bool" d))/\pln 1000 d=true)\/op1 .isBool d=.bad:=by
 cases d<;>first|exact .inl ⟨rfl,by simp[pln]⟩|exact .inr rfl|skip
 all_goals exact Classical.byCases (λhc=>.inl ⟨xE hc,hc⟩) λhc=>.inr (xC hc)
theorem uU(d:D):(op1 .isTup d=.ok (.bl (isTy "tuple" d))/\pln 1000 d=true)\/op1 .isTup d=.bad:=by
 cases d<;>first|exact .inl ⟨rfl,by simp[pln]⟩|exact .inr rfl|skip
 all_goals exact Classical.byCases (λhc=>.inl ⟨xE hc,hc⟩) λhc=>.inr (xC hc)
end
def spOf(K:PySem.W.Frag)(cl:Nat->Addr)(Φ:Nat->List D->R D)(f:Nat):Sp:=λvs H Q E=>∃F ds,Trk F H/\Reps K cl F H ds vs/\
 Meet (Φ f ds) (λd=>∀F' v H',Up F H F' H'->Rep K cl F' H' d v->Q v H') λc=>∀F' H',Up F H F' H'->E (.ref (cl c)) none H'
def XK1(cl:Nat->Addr)(YE:Nat->Hp->Prop):XK:=λk _ H'=>∃c,k=.ref (cl c)/\YE c H'
section
variable{X:Cx}{cl:Nat->Addr}{XE:Nat->St->Hp->Prop}{YE:Nat->Hp->Prop}{Φ:Nat->List D->R D}{G:List D}{m fr:Bool}
def PassAt(CX:CXT)(X:Cx)(σ:St)(E:XK):Prop:=∀(pins:List (Addr×Obj))(H:Hp)(s:Shared)(e:Value)(s':Shared),Inv X pins σ H s->CX X.stack H s E e s'->X.xe e s'
theorem run_fnX(Fo:FnOk X.prog X.w X.K X.mg X.base CX k f fd ps sp)(hr:Room k X.A)
  (hb:Binds X.K fd ps []) (hx:PassAt CX X σ E) (I:Inv X pins σ H s) (r:Vals vs us) (h:sp vs H Q E):wpAny (model X.prog X.w) X.A (call (.ref f) us) (EP X pins σ Q) X.xe s:=by
 have hl:(us++[]).length=ps.length:=by rw[yD,←r.length];exact Fo.len _ _ _ _ h
 have hbb:=hb s us I.kIn hl;rw[yD] at hbb;refine wpAny_call (codeAny_mono (Fo.run X.A X.stack s H ⟨us,[]⟩ us vs Q E hr I.env0 hbb r h) λr s' hq=>?_)
 cases r with
 |error e=>exact hx pins H s e s' I hq
 |ok fl=>
  cases fl with
  |ret u=>exact I.after hq
  |next=>exact False.elim hq
  |brk=>exact False.elim hq
  |cont=>exact False.elim hq
theorem uV{E:St->XK}(Fo:FnOk X.prog X.w X.K X.mg X.base CX k f fd ps sp)(hr:Room k X.A)(hg:Gl X x)(hm:X.mg x=some (.ref f))
  (hk:PySem.W.keepIn X.K (.ref f)=true) (hb:Binds X.K fd ps []) (hx:∀σ,PassAt CX X σ (E σ)) (ha:PA X (e::es) t) (hdb:(x==("__debug__":Str))=false)
  (he:starEach (e::es) X.env=(false,eval e X.env)::starEach es X.env) (hpl:(backTo pos (starEach es X.env)).any (·.1)=false):
  PE X (.Call (.Name x p) (e::es) [] pos) (λσ H Q=>t σ H λvs H1=>sp vs H1 Q (E σ)):=by
 intro pins s σ H Q I h;refine wpAny_Call_Name_kw (gY I hg hm ?_ hdb);refine PySem.W.callWith_K (h₀:=X.base) I.ok.mod.kin hk (thn (ha pos pins s σ H _ I h) λus s1 ⟨vs,H1,I1,r,q⟩=>⟨I1.kIn,?_⟩) he hpl;exact run_fnX Fo hr hb (hx σ) I1 r q
theorem ok_call(Fo:FnOk X.prog X.w X.K X.mg X.base CX k fa fd ps (spOf X.K cl Φ f))(hr:Room k X.A)
  (hg:Gl X x) (hm:X.mg x=some (.ref fa)) (hk:PySem.W.keepIn X.K (.ref fa)=true) (hb:Binds X.K fd ps []) (hx:∀σ,PassAt CX X σ (XK1 cl λc=>XE c σ)) (hdb:(x==("__debug__":Str))=false)
  (he:starEach (e::es) X.env=(false,eval e X.env)::starEach es X.env) (hpl:(backTo pos (starEach es X.env)).any (·.1)=false) (ia:OkA X cl XE Φ G false exs (e::es)):
  OkE X cl XE Φ G m (.call f exs) (.Call (.Name x p) (e::es) [] pos):=by
 obtain⟨ta,pa,ia⟩:=ia;refine⟨_,uV Fo hr hg hm hk hb hx pa hdb he hpl,λF σ δ H Q S h=>?_⟩;simp only[ev] at h;refine ia F σ δ H _ S (Meet.mono (Meet.bind h) (λds _ hp F1 vs H1 u1 g1=>?_) λc z=>z);rw[xC xF] at g1;refine⟨F1,ds,(S.up u1).trk,g1,Meet.mono (Post.up hp u1) (λd _ q F2 v H2 u2 r2=>q F2 v H2 u2 (Res.gives (.of_rep r2 (by simp[frsh])))) λc z F2 H2 u2=>⟨c,rfl,z F2 H2 u2⟩⟩
variable{F:Addr->Prop}{H:Hp}{Q:VK}{x y:V}{p q:D}
theorem lI:∀{ks:List Int}{ds:List D}{kvs:List (Key×V)}(i:Int),kvs.map (·.1)=ks.map Sum.inl->Reps X.K cl F H ds (kvs.map (·.2))->
  (match lookD ks ds i with|some d=>∃v,valV kvs (Sum.inl i)=some v/\Rep X.K cl F H d v|none=>valV kvs (Sum.inl i)=none)/\decide (i∈ks)=(valV kvs (Sum.inl i)).isSome
 |[],ds,kvs,i,h,r=>by
  have:kvs=[]:=by cases kvs with|nil=>rfl|cons _ _=>simp at h
  subst this;have:ds=[]:=by have:=r.length;cases ds with|nil=>rfl|cons _ _=>simp at this
  subst this;exact⟨rfl,rfl⟩
 |k::ks,ds,kvs,i,h,r=>by
  cases kvs with
  |nil=>simp at h
  |cons kv kvs=>
   obtain⟨kk,v⟩:=kv;simp only[xM,List.cons.injEq] at h;obtain⟨h1,h2⟩:=h;subst h1
   cases ds with
   |nil=>have:=r.length;simp at this
   |cons d ds=>
    obtain⟨v',r',z,a1,a2⟩:=r.cons_inv;have z':v=v'/\kvs.map (·.2)=r':=by simpa using z
    obtain⟨rfl,rfl⟩:=z';obtain⟨ih1,ih2⟩:=lI i h2 a2;by_cases hc:k=i
    ·subst hc
     have e1:valV ((Sum.inl k,v)::kvs) (Sum.inl k:Key)=some v:=eM rfl;refine⟨?_,?_⟩
     ·simp only[lookD,xD]
      exact⟨v,e1,a1⟩
     ·rw[e1];simp
    ·have e1:valV ((Sum.inl k,v)::kvs) (Sum.inl i:Key)=valV kvs (Sum.inl i):=eO (λz=>hc (Sum.inl.inj z))
     refine⟨?_,?_⟩
     ·simp only[lookD,xC hc]
      rw[e1];exact ih1
     ·rw[e1,←ih2]
      simp only[yC,decide_eq_decide];constructor
      ·rintro(z|z)
       ·exact absurd z.symm hc
       ·exact z
      ·exact .inr
theorem ok_dget(hu:X.A.units+1<cLine)(hs:NoSl b)(ia:OkE X cl XE Φ G true ea a)(ib:OkE X cl XE Φ G true eb b):OkE X cl XE Φ G m (.dget ea eb) (.Subscript a b pos):=by
 obtain⟨ta,pa,ia⟩:=ia;obtain⟨tb,pb,ib⟩:=ib;refine⟨_,pe_dget hu pa pb hs,λF σ δ H Q S h=>?_⟩;simp only[ev] at h;refine ia F σ δ H _ S (Meet.mono (Meet.bind h) (λp _ hp F1 x H1 u1 g1=>?_) λc z=>z);refine ib F1 σ δ H1 _ (S.up u1) (Meet.mono (Meet.bind (Post.up hp u1)) (λq _ hq F2 y H2 u2 g2=>?_) λc z=>z);have hq2:=Post.up (K:=X.K) (cl:=cl) hq u2;obtain⟨ks,ds,i,rfl,rfl⟩:∃ks ds i,p=.dic ks ds/\q=.int i:=by
  cases p<;>cases q<;>first|exact(show False from hq2).elim|exact⟨_,_,_,rfl,rfl⟩
 obtain⟨l,kvs,rfl,h1,h2,h3⟩:=(g1.got.up u2).dic;have hq3:Post X.K cl (λc=>XE c σ) m (frsh (.dget ea eb)) F2 H2 Q (ofO (lookD ks ds i)):=hq2;have lk:=(lI i h2 h3).1
 cases e:lookD ks ds i with
 |none=>rw[e] at hq3;exact(show False from hq3).elim
 |some d=>
  rw[e] at hq3 lk;obtain⟨v,e1,e2⟩:=lk;refine⟨l,v,rfl,?_,Post.hereR hq3 e2 (by simp[frsh])⟩;rw[g2.got.int];have:=DGet.k (k:=Sum.inl i) h1;rw[e1] at this;exact this
theorem r8:CallR X (.builtin "len") (λxs H Q=>∃a kvs,xs=[V.ref a]/\H a=some (.dK kvs)/\Q (.int kvs.length) H):=by
 intro pins s σ H xs us Q I r h;obtain⟨a,kvs,rfl,ha,q⟩:=h;obtain⟨u,rfl,ru⟩:=vals1 r;cases ru;exact d_len I (.inl ha) λt s' I'=>⟨.int kvs.length,H,I',⟨t,rfl⟩,q⟩
def lenD:D->R D
 |.dic ks _=>.ok (.int ks.length)
 |_=>.bad
theorem ok_dlen{p pos:Pos}(hg:Gl X "len")(hm:X.mg "len"=none)(hs:starEach [a] X.env=[(false,eval a X.env)])(ia:OkE X cl XE Φ G true ea a):OkE X cl XE Φ G m (.dlen ea) (.Call (.Name "len" p) [a] [] pos):=by
 have hs':starEach (a::[]) X.env=(false,eval a X.env)::starEach [] X.env:=hs;refine iN (exs:=[ea]) (o:=lift1 lenD) (λδ=>?_) r8 hg hm PySem.boot_len (by decide) (by decide) hs' rfl (aZ hs' ia cA) λYE F H vs ds Q t g h=>?_
 ·simp only[ev,evs]
  cases ev Φ G true ea δ with
  |ok d=>cases d<;>rfl
  |exc c=>rfl
  |bad=>rfl
 ·match ds,g,h with
  |[],_,h=>exact(show False from h).elim
  |_::_::_,_,h=>exact(show False from h).elim
  |[d],g,h=>
   obtain⟨v,rfl,gv⟩:=Paired.one g;have h:Post X.K cl YE m (frsh (.dlen ea)) F H Q (lenD d):=h;obtain⟨ks,ws,rfl⟩:∃ks ws,d=.dic ks ws:=by
    cases d<;>first|exact(show False from h).elim|exact⟨_,_,rfl⟩
   obtain⟨l,kvs,rfl,h1,h2,h3⟩:=gv.dic;have hl:kvs.length=ks.length:=by have:=congrArg List.length h2;simpa using this
   exact⟨l,kvs,rfl,h1,by rw[hl];exact Post.int h⟩
theorem tru_of{t:R Bool}(g:Got X.K cl F H p x){Q:Bool->Hp->Prop}(h:PostT YE F H Q (truth p)):∃k,TruV X.K x H k/\Q k H:=by
 cases p with
 |non=>rw[g.non];exact⟨false,rfl,h F H (Up.refl F H)⟩
 |bl b=>rw[g.bl];exact⟨b,rfl,h F H (Up.refl F H)⟩
 |int i=>
  rw[g.int];refine⟨_,rfl,?_⟩;have e:(i !=0)=decide (i≠0):=by
   by_cases hc:i=0
   ·subst hc;rfl
   ·simp[hc]
  rw[e];exact h F H (Up.refl F H)
 |str z=>exact(show False from h).elim
 |tup ds=>
  obtain⟨a,vs,rfl,h1,r1⟩:=g.tup;refine⟨!ds.isEmpty,.inr (.inl ⟨vs,h1,?_⟩),h F H (Up.refl F H)⟩;have:=r1.length;cases ds<;>cases vs<;>simp at this⊢
 |lst ds=>
  obtain⟨a,vs,rfl,h1,r1⟩:=g.lst;refine⟨!ds.isEmpty,.inl ⟨vs,SqL.of h1,?_⟩,h F H (Up.refl F H)⟩;have:=r1.length;cases ds<;>cases vs<;>simp at this⊢
 |dic _ _=>exact(show False from h).elim
 |exn _=>exact(show False from h).elim
 |scr _=>exact(show False from h).elim
theorem ok_leaf(he:∀whole,isTrue e X.env whole=(do let v←whole;standAt e.pos;holding [v] (truthy v)))(ia:OkE X cl XE Φ G true ex e):OkT X cl XE Φ G (.leaf ex) e:=by
 obtain⟨ta,pa,ia⟩:=ia;refine⟨_,tY pa he,λF σ δ H Q S h=>?_⟩;simp only[evT] at h;refine ia F σ δ H _ S (Meet.mono (Meet.bind h) (λp _ hp F1 x H1 u1 g1=>?_) λc z=>z);exact tru_of (t:=.bad) g1.got (PostT.up hp u1)
theorem ok_tnot(ia:OkT X cl XE Φ G tx e):OkT X cl XE Φ G (.not tx) (.UnaryOp .Not e pos):=by
 obtain⟨ta,pa,ia⟩:=ia;refine⟨_,pt_not pa,λF σ δ H Q S h=>?_⟩;simp only[evT] at h;exact ia F σ δ H _ S (Meet.mono (Meet.bind h) (λb _ hp F1 H1 u1=>hp F1 H1 u1) λc z=>z)
theorem uW(ia:OkT X cl XE Φ G tx e):OkW X cl XE Φ G tx (.BoolOp .And [e] pos):=by
 obtain⟨ta,pa,ia⟩:=ia;exact⟨_,pw_and1 pa,ia⟩
theorem ok_tor1(ia:OkT X cl XE Φ G tx e):OkW X cl XE Φ G tx (.BoolOp .Or [e] pos):=by
 obtain⟨ta,pa,ia⟩:=ia;exact⟨_,pw_or1 pa,ia⟩
theorem ok_tand(ia:OkT X cl XE Φ G ta a)(ib:OkW X cl XE Φ G tb (.BoolOp .And (b::rest) pos)):OkW X cl XE Φ G (.and ta tb) (.BoolOp .And (a::b::rest) pos):=by
 obtain⟨ra,pa,ia⟩:=ia;obtain⟨rb,pb,ib⟩:=ib;refine⟨_,pw_and pa pb,λF σ δ H Q S h=>?_⟩;simp only[evT] at h;refine ia F σ δ H _ S (Meet.mono (Meet.bind h) (λc _ hp F1 H1 u1=>?_) λc z=>z);have hp:=PostT.up hp u1
 cases c with
 |true=>exact ib F1 σ δ H1 Q (S.up u1) hp
 |false=>exact hp F1 H1 (Up.refl F1 H1)
theorem ok_tor(ia:OkT X cl XE Φ G ta a)(ib:OkW X cl XE Φ G tb (.BoolOp .Or (b::rest) pos)):OkW X cl XE Φ G (.or ta tb) (.BoolOp .Or (a::b::rest) pos):=by
 obtain⟨ra,pa,ia⟩:=ia;obtain⟨rb,pb,ib⟩:=ib;refine⟨_,pw_or pa pb,λF σ δ H Q S h=>?_⟩;simp only[evT] at h;refine ia F σ δ H _ S (Meet.mono (Meet.bind h) (λc _ hp F1 H1 u1=>?_) λc z=>z);have hp:=PostT.up hp u1
 cases c with
 |true=>exact hp F1 H1 (Up.refl F1 H1)
 |false=>exact ib F1 σ δ H1 Q (S.up u1) hp
theorem OkW.t(h:OkW X cl XE Φ G tx e):OkT X cl XE Φ G tx e:=let⟨t,p,q⟩:=h;⟨t,p.pt,q⟩
end
def tE(K:PySem.W.Frag)(cl:Nat->Addr)(XE:Nat->St->Hp->Prop)(Φ:Nat->List D->R D)(G:List D)(m:Bool)(ex:Ex):TE:=λσ H Q=>∃F δ,Sees K cl F H σ δ/\Post K cl (λc=>XE c σ) m (frsh ex) F H Q (ev Φ G m ex δ)
def tO(K:PySem.W.Frag)(cl:Nat->Addr)(XE:Nat->St->Hp->Prop)(Φ:Nat->List D->R D)(G:List D)(c:Option Tx):TT:=λσ H Q=>∃F δ,Sees K cl F H σ δ/\PostT (λc=>XE c σ) F H Q (evO Φ G c δ)
section
variable{X:Cx}{cl:Nat->Addr}{XE:Nat->St->Hp->Prop}{YE:Nat->Hp->Prop}{Φ:Nat->List D->R D}{G:List D}{m fr:Bool}
theorem OkE.pe(h:OkE X cl XE Φ G m ex e):PE X e (tE X.K cl XE Φ G m ex):=by
 obtain⟨t,p,q⟩:=h;exact λpins s σ H Q I ⟨F,δ,S,z⟩=>p pins s σ H Q I (q F σ δ H Q S z)
def OkC(X:Cx)(cl:Nat->Addr)(XE:Nat->St->Hp->Prop)(Φ:Nat->List D->R D)(G:List D)(c:Option Tx)(ifs:List Expr):Prop:=PTs X ifs (tO X.K cl XE Φ G c)
theorem uX:OkC X cl XE Φ G none []:=λpins s σ H Q I ⟨F,δ,S,z⟩=>pX pins s σ H Q I (by simp only[evO] at z;exact z F H (Up.refl F H))
theorem uY(h:OkT X cl XE Φ G tx e):OkC X cl XE Φ G (some tx) [e]:=by
 obtain⟨t,p,q⟩:=h;exact λpins s σ H Q I ⟨F,δ,S,z⟩=>pts_one p pins s σ H Q I (q F σ δ H Q S (by simpa only[evO] using z))
def Stb(m:Bool)(F:Addr->Prop)(H H':Hp):Prop:=if m=true then Same H H' else Pres F H H'
structure Wk(K:PySem.W.Frag)(cl:Nat->Addr)(m:Bool)(J:It)(xs:List D)(P:(Addr->Prop)->Hp->Prop):Prop where
 st:∀F H F' H',P F H->Stb m F H H'->(∀a,F a->F' a)->P F' H'
 go:∀F H (i:Nat) x,P F H->xs[i]?=some x->J.go i H/\∀v H',J.yld i H v H'->Up F H F H'/\Rep K cl F H' x v
 stop:∀F H,P F H->J.stop xs.length H
structure OkI(X:Cx)(cl:Nat->Addr)(XE:Nat->St->Hp->Prop)(Φ:Nat->List D->R D)(G:List D)(m:Bool)(k:IterK)(its:List Ex)(tg iter:Expr):Prop where
 ok:∃wi,PI X tg iter wi/\∀F σ δ H R,Sees X.K cl F H σ δ->
 Meet ((evs Φ G m its δ).bind (itemsD k)) (λxs=>∀F' H' J P,Up F H F' H'->Wk X.K cl m J xs P->P F' H'->R J H') (λc=>∀F' H',Up F H F' H'->XE c σ H')->wi σ H R
theorem PI.or(h:PI X tg iter wi)(h':PI X tg iter wi'):PI X tg iter (λσ H R=>wi σ H R\/wi' σ H R):=λpins s σ H R I z=>z.elim (h pins s σ H R I) (h' pins s σ H R I)
theorem g7{a:Addr}{xs:List D}:Wk X.K cl m (Itl X.K a) xs (λF H=>(m=true\/F a)/\∃vs,H a=some (.lst vs)/\Reps X.K cl F H xs vs) where
 st:=λF H F' H' ⟨hm,vs,h1,r1⟩ hs sub=>by
  unfold Stb at hs;by_cases hc:m=true
  ·rw[xE hc] at hs
   exact⟨.inl hc,vs,hs _ _ h1,r1.mono (Pres.of_same hs) sub⟩
  ·rw[xC hc] at hs
   have fa:F a:=hm.resolve_left hc;exact⟨.inr (sub a fa),vs,hs.fr _ _ fa h1,r1.mono hs sub⟩
 go:=λF H i x ⟨_,vs,h1,r1⟩ hx=>by
  obtain⟨v,h2,h3⟩:=r1.get hx;refine⟨⟨vs,v,SqL.of h1,h2⟩,λw H' hy=>?_⟩;obtain⟨rfl,hy⟩:=hy;have:=hy vs (SqL.of h1);rw[h2] at this;cases this;exact⟨Up.refl F _,h3⟩
 stop:=λF H ⟨_,vs,h1,r1⟩=>⟨vs,SqL.of h1,by rw[r1.length];exact xN _⟩
theorem uZ{a:Addr}{xs:List D}:Wk X.K cl m (Itt X.K a) xs (λF H=>∃vs,SqT X.K H a vs/\Reps X.K cl F H xs vs) where
 st:=λF H F' H' ⟨vs,h1,r1⟩ hs sub=>by
  have hs':Pres F H H':=by
   unfold Stb at hs;by_cases hc:m=true
   ·rw[xE hc] at hs;exact Pres.of_same hs
   ·rw[xC hc] at hs;exact hs
  exact⟨vs,hs'.sqT h1,r1.mono hs' sub⟩
 go:=λF H i x ⟨vs,h1,r1⟩ hx=>by
  obtain⟨v,h2,h3⟩:=r1.get hx;refine⟨⟨vs,v,h1,h2⟩,λw H' hy=>?_⟩;obtain⟨rfl,hy⟩:=hy;have:=hy vs h1;rw[h2] at this;cases this;exact⟨Up.refl F _,h3⟩
 stop:=λF H ⟨vs,h1,r1⟩=>⟨vs,h1,by rw[r1.length];exact xN _⟩
theorem oK{lo:Int}(h:(rangeD lo n)[i]?=some x):i<n/\x=.int (lo+i):=by
 unfold rangeD at h;rw[zN] at h;by_cases hc:i<n
 ·rw[List.getElem?_range hc] at h
  simp at h;exact⟨hc,h.symm⟩
 ·rw[zC (by simp;omega)] at h;cases h
theorem wk_rng{lo:Int}{n:Nat}:Wk X.K cl m (Itr lo n) (rangeD lo n) (λ_ _=>True) where
 st:=λ_ _ _ _ _ _ _=>trivial
 go:=λF H i x _ hx=>by
  obtain⟨hi,rfl⟩:=oK hx;refine⟨hi,λv H' hy=>?_⟩;obtain⟨rfl,rfl⟩:=hy;exact⟨Up.refl F _,by simp[Rep]⟩
 stop:=λF H _=>by show n<=(rangeD lo n).length;simp[rangeD]
theorem j5:∀{xs:List D}{n i:Nat}{x:D},(enumD n xs)[i]?=some x->∃y,xs[i]?=some y/\x=.tup [.int ((n+i:Nat):Int),y]
 |[],n,i,x,h=>by simp[enumD] at h
 |y::xs,n,0,x,h=>by simp[enumD] at h;exact⟨y,by simp,h.symm⟩
 |y::xs,n,i+1,x,h=>by
  obtain⟨z,h1,h2⟩:=j5 (xs:=xs) (n:=n+1) (i:=i) (by simpa[enumD] using h);exact⟨z,by simpa using h1,by rw[h2];congr 3;omega⟩
theorem j6:∀(xs:List D)(n:Nat),(enumD n xs).length=xs.length
 |[],_=>rfl
 |_::xs,n=>by simp[enumD,j6 xs (n+1)]
theorem wk_enum{a:Addr}{xs:List D}:Wk X.K cl m (Ite X.K a) (enumD 0 xs) (λF H=>∃vs,SqT X.K H a vs/\Reps X.K cl F H xs vs) where
 st:=(uZ (X:=X) (cl:=cl) (m:=m) (a:=a) (xs:=xs)).st
 go:=λF H i x ⟨vs,h1,r1⟩ hx=>by
  obtain⟨y,e1,rfl⟩:=j5 hx;obtain⟨v,h2,h3⟩:=r1.get e1;refine⟨⟨vs,v,h1,h2⟩,λw H' hy=>?_⟩;obtain⟨t,z,ht,rfl,rfl,hy⟩:=hy;have:=hy vs h1;rw[h2] at this;cases this;refine⟨Up.alloc ht,?_⟩;simp only[Rep];refine⟨t,_,rfl,SqT.of aE,Reps.cons ?_ (Reps.cons (h3.up (Up.alloc ht)) Reps.nil)⟩;simp[Rep]
 stop:=λF H ⟨vs,h1,r1⟩=>⟨vs,h1,by rw[j6,r1.length];exact xN _⟩
theorem qB{α:Type}{P:Prop}[Decidable P]{a:α}{c:Nat}(h:(if P then R.ok a else R.bad)=R.exc c):False:=by split at h<;>cases h
theorem cO(h:Meet (itemsD k ss) P E):∃xs,items0 k ss=.ok xs/\P xs:=by
 unfold itemsD at h
 cases e:items0 k ss with
 |ok xs=>
  rw[e] at h;simp only[R.bind_ok] at h;by_cases hc:xs.length<=LIM
  ·rw[xE hc] at h;exact⟨xs,rfl,h⟩
  ·rw[xC hc] at h;exact(show False from h).elim
 |exc c=>
  exfalso;cases k<;>rcases ss with _|⟨d,_|⟨d',_|⟨d'',ss⟩⟩⟩<;>first|cases e|(cases d<;>first|cases e|exact qB e|(cases d'<;>first|cases e|exact qB e))
 |bad=>rw[e] at h;exact(show False from h).elim
theorem iO(g:if m=true then Paired (Got X.K cl F H) ds vs else Reps X.K cl F H ds vs):Paired (Got X.K cl F H) ds vs:=by
 by_cases hc:m=true
 ·rw[xE hc] at g;exact g
 ·rw[xC hc] at g
  clear hc
  induction ds generalizing vs with
  |nil=>rw[g.nil_inv];exact .nil
  |cons d ds ih=>obtain⟨v,r,rfl,a1,a2⟩:=g.cons_inv;exact .cons (.inl a1) (ih a2)
theorem ok_rng(hg:Gl X "range")(hm:X.mg "range"=none)(hs:starEach [a] X.env=[(false,eval a X.env)])(ia:OkE X cl XE Φ G m ea a):OkI X cl XE Φ G m .rng [ea] tg (.Call (.Name "range" p) [a] [] pos):=by
 obtain⟨ta,pa,ia⟩:=aZ (es:=[]) (as:=[]) hs ia cA;refine⟨_,rG hg hm pa hs,λF σ δ H R S h=>?_⟩;refine ia F σ δ H _ S (Meet.mono (Meet.bind h) (λds _ hd F1 vs H1 u1 g1=>?_) λc z=>z);obtain⟨xs,e,hx⟩:=cO hd;have g2:=iO g1
 match ds,e,g2 with
 |[],e,_=>cases e
 |x::_::_,e,_=>cases x<;>cases e
 |[d],e,g2=>
  obtain⟨v,rfl,gv⟩:=Paired.one g2;obtain⟨n,rfl⟩:∃n,d=.int n:=by
   cases d<;>first|exact⟨_,rfl⟩|cases e
  have e:(if-(LIM:Int)<=n/\n<=LIM then Py.R.ok (rangeD 0 n.toNat) else Py.R.bad)=Py.R.ok xs:=e;by_cases hc: -(LIM:Int)<=n/\n<=(LIM:Int)
  ·rw[xE hc] at e
   cases e;rw[gv.int];have hl:(LIM:Int)=100000:=rfl;exact⟨n,rfl,by have:=hc.1;omega,by have:=hc.2;omega,hx F1 H1 _ _ u1 wk_rng trivial⟩
  ·rw[xC hc] at e;cases e
theorem ok_enum(hg:Gl X "enumerate")(hm:X.mg "enumerate"=none)(hs:starEach [a] X.env=[(false,eval a X.env)])(ia:OkE X cl XE Φ G m ea a):
  OkI X cl XE Φ G m .enum [ea] (.Tuple elts tk tpos) (.Call (.Name "enumerate" p) [a] [] pos):=by
 obtain⟨ta,pa,ia⟩:=aZ (es:=[]) (as:=[]) hs ia cA;refine⟨_,pi_enum hg hm pa hs,λF σ δ H R S h=>?_⟩;refine ia F σ δ H _ S (Meet.mono (Meet.bind h) (λds _ hd F1 vs H1 u1 g1=>?_) λc z=>z);obtain⟨xs,e,hx⟩:=cO hd;have g2:=iO g1
 match ds,e,g2 with
 |[],e,_=>cases e
 |x::_::_,e,_=>cases x<;>cases e
 |[d],e,g2=>
  obtain⟨v,rfl,gv⟩:=Paired.one g2;obtain⟨ys,rfl⟩:∃ys,d=.tup ys:=by
   cases d<;>first|exact⟨_,rfl⟩|cases e
  cases e;obtain⟨b,ws,rfl,h1,r1⟩:=gv.tup;exact⟨b,rfl,⟨ws,h1⟩,hx F1 H1 _ _ u1 wk_enum ⟨ws,h1,r1⟩⟩
theorem ok_seq(ia:OkE X cl XE Φ G m ea a):OkI X cl XE Φ G m .seq [ea] tg a:=by
 obtain⟨ta,pa,ia⟩:=ia;refine⟨_,PI.or (pi_list pa) (pi_tup pa),λF σ δ H R S h=>?_⟩;simp only[evs] at h
 cases e:ev Φ G m ea δ with
 |bad=>rw[e] at h;exact(show False from h).elim
 |exc c=>
  rw[e] at h;refine .inl (ia F σ δ H _ S ?_);rw[e];exact h
 |ok d=>
  rw[e] at h;obtain⟨xs,e2,hx⟩:=cO (show Meet (itemsD .seq [d]) _ _ from h);cases d<;>first|(cases e2;done)|skip
  ·rename_i ys
   cases e2;refine .inr (ia F σ δ H _ S ?_);rw[e];intro F1 v H1 u1 g1;obtain⟨b,ws,rfl,h1,r1⟩:=g1.got.tup;exact⟨b,rfl,⟨ws,h1⟩,hx F1 H1 _ _ u1 uZ ⟨ws,h1,r1⟩⟩
  ·rename_i ys
   cases e2;refine .inl (ia F σ δ H _ S ?_);rw[e];intro F1 v H1 u1 g1;by_cases hc:m=true
   ·obtain⟨b,ws,rfl,h1,r1⟩:=g1.got.lst
    exact⟨b,rfl,⟨ws,SqL.of h1⟩,hx F1 H1 _ _ u1 g7 ⟨.inl hc,ws,h1,r1⟩⟩
   ·unfold Gives at g1
    rw[xC hc] at g1;obtain⟨F2,u2,_,rp⟩:=g1.keep u1;simp only[Rep] at rp;obtain⟨b,ws,rfl,fa,h1,r1⟩:=rp;exact⟨b,rfl,⟨ws,SqL.of h1⟩,hx F2 H1 _ _ u2 g7 ⟨.inr fa,ws,h1,r1⟩⟩
end
def setsV(σ:St):List Nat->List V->St
 |i::is,v::vs=>setsV (σ.set i (some v)) is vs
 |_,_=>σ
theorem fM:∀(is:List Nat)(vs:List V)(σ:St),(setsV σ is vs).length=σ.length
 |[],_,σ=>rfl
 |_::_,[],σ=>rfl
 |i::is,v::vs,σ=>by rw[setsV,fM is vs];simp
theorem dO:∀(is:List Nat)(vs:List V)(σ:St)(j:Nat),j∉is->(setsV σ is vs)[j]?=σ[j]?
 |[],_,σ,j,_=>rfl
 |_::_,[],σ,j,_=>rfl
 |i::is,v::vs,σ,j,h=>by
  rw[setsV,dO is vs _ j λz=>h (xK _ z),xR];rintro rfl;exact h xT
section
variable{X:Cx}{cl:Nat->Addr}{XE:Nat->St->Hp->Prop}{YE:Nat->Hp->Prop}{Φ:Nat->List D->R D}{G:List D}{m fr:Bool}
def OkG(X:Cx)(cl:Nat->Addr)(tgs:List Nat)(g:TG)(tg:Expr):Prop:=PG X tg g/\∀F H σ v x ts Q,spread tgs.length x=some ts->Rep X.K cl F H x v->(∀vs,Reps X.K cl F H ts vs->Q (setsV σ tgs vs) H)->g v σ H Q
theorem u8(hN:X.N.Nodup)(hi:X.N[i]?=some x)(hx:Loc X.env.scope x)(hf:X.fn x=true\/X.env.scope.names.lookup x=some .local):OkG X cl [i] (gName i) (.Name x pos):=by
 refine⟨eK hN hi hx hf,λF H σ v x ts Q hs r q=>?_⟩;have:ts=[x]:=by simpa[spread] using hs.symm
 subst this;exact q [v] (Reps.cons r Reps.nil)
theorem ok_g2(hc:X.calm=true)(hN:X.N.Nodup)(hi:X.N[i]?=some x)(hx:Loc X.env.scope x)(hf:X.fn x=true\/X.env.scope.names.lookup x=some .local)
  (hj:X.N[j]?=some y) (hy:Loc X.env.scope y) (hf2:X.fn y=true\/X.env.scope.names.lookup y=some .local):
  OkG X cl [i,j] (gTup X.K 2 (gCons (gName i) (gCons (gName j) gNil))) (.Tuple [.Name x p1,.Name y p2] k pos):=by
 refine⟨pg_tup hc (l8 (eK hN hi hx hf) (l8 (eK hN hj hy hf2) pgs_nil)),λF H σ v d ts Q hs r q=>?_⟩
 cases d with
 |tup xs=>
  have hs':(if xs.length=2 then some xs else none)=some ts:=hs;by_cases hl:xs.length=2
  ·rw[xE hl] at hs'
   cases hs';simp only[Rep] at r;obtain⟨a,vs,rfl,h1,r1⟩:=r;have hv:vs.length=2:=by rw[r1.length,hl]
   match vs,hv,h1,r1 with
   |[v1,v2],_,h1,r1=>exact⟨a,[v1,v2],rfl,h1,rfl,v1,[v2],rfl,v2,[],rfl,rfl,q [v1,v2] r1⟩
  ·rw[xC hl] at hs';cases hs'
 |_=>cases hs
theorem mO(S:Sees X.K cl F H σ δ)(u:Up F H F' H')(hl:σ'.length=ntg+caps.length)
  (hc:∀j,ntg<=j->σ'[j]?=(capS σ caps ntg)[j]?) (hts:ts.length=ntg) (r:Reps X.K cl F' H' ts vs):
  Sees X.K cl F' H' (setsV σ' (List.range ntg) vs) (ts.map (λt=>some (false,t))++capOf δ caps):=by
 have S':=S.up u;have hv:vs.length=ntg:=by rw[r.length,hts]
 --the targets
 have tgt:∀(n k:Nat)(ws:List V)(τ:St),ws.length=n->k+n<=τ.length->∀i,i<n->(setsV τ (List.range' k n) ws)[k+i]?=(ws[i]?).map some:=by
  intro n
  induction n with
  |zero=>intro k ws τ _ _ i hi;exact absurd hi (Nat.not_lt_zero i)
  |succ n ih=>
   intro k ws τ hw hτ i hi
   match ws,hw with
   |w::ws,hw=>
    have hw':ws.length=n:=by simpa using hw
    rw[List.range'_succ,setsV]
    cases i with
    |zero=>
     rw[dO _ _ _ _ (by simp[List.mem_range'];omega)];simp[x9 (show k<τ.length by omega)]
    |succ i=>
     have:=ih (k+1) ws (τ.set k (some w)) hw' (by simp;omega) i (by omega);rw[show k+(i+1)=k+1+i by omega,this];simp
 have lenσ:(setsV σ' (List.range ntg) vs).length=ntg+caps.length:=by rw[fM,hl]
 have get1:∀i,i<ntg->(setsV σ' (List.range ntg) vs)[i]?=(vs[i]?).map some:=λi hi=>by
  have:=tgt ntg 0 vs σ' hv (by omega) i hi;rw[List.range_eq_range'];simpa using this
 have get2:∀i,ntg<=i->(setsV σ' (List.range ntg) vs)[i]?=(capS σ caps ntg)[i]?:=λi hi=>by
  rw[dO _ _ _ _ (by simp;omega)];exact hc i hi
 have capG:∀k,(capS σ caps ntg)[ntg+k]?=(caps[k]?).map λj=>(σ[j]?).getD none:=λk=>by
  unfold capS;rw[zD (by simp),zL,zN];simp
 have capD:∀k,(ts.map (λt=>(some (false,t):Slot))++capOf δ caps)[ntg+k]?=(caps[k]?).map λj=>(δ[j]?).getD none:=λk=>by
  rw[zD (by simp[hts]),xB,hts];unfold capOf;rw[zN];simp
 have tgtD:∀i,i<ntg->(ts.map (λt=>(some (false,t):Slot))++capOf δ caps)[i]?=(ts[i]?).map λt=>some (false,t):=λi hi=>by
  rw[zG (by simp[hts];exact hi),zN]
 refine⟨by rw[lenσ];simp[capOf,hts],S'.trk,λi d e=>?_,λi d e=>?_⟩
 ·by_cases hi:i<ntg
  ·rw[tgtD i hi] at e
   cases q:ts[i]? with
   |none=>rw[q] at e;cases e
   |some t=>
    rw[q] at e;have:t=d:=by simpa using e
    subst this;obtain⟨v,h1,h2⟩:=r.get q;exact⟨v,by rw[get1 i hi,h1];rfl,h2⟩
  ·obtain⟨k,rfl⟩:∃k,i=ntg+k:=⟨i-ntg,by omega⟩
   rw[capD k] at e
   cases q:caps[k]? with
   |none=>rw[q] at e;cases e
   |some j=>
    rw[q] at e;have e':(δ[j]?).getD none=some (false,d):=by simpa using e
    have e2:δ[j]?=some (some (false,d)):=by
     cases z:δ[j]? with
     |none=>rw[z] at e';cases e'
     |some o=>rw[z] at e';simp at e';rw[e']
    obtain⟨v,h1,h2⟩:=S'.sh j d e2;exact⟨v,by rw[get2 _ (by omega),capG k,q];simp[h1],h2⟩
 ·by_cases hi:i<ntg
  ·rw[tgtD i hi] at e
   cases q:ts[i]? with
   |none=>rw[q] at e;cases e
   |some t=>rw[q] at e;simp at e
  ·obtain⟨k,rfl⟩:∃k,i=ntg+k:=⟨i-ntg,by omega⟩
   rw[capD k] at e
   cases q:caps[k]? with
   |none=>rw[q] at e;cases e
   |some j=>
    rw[q] at e;have e':(δ[j]?).getD none=some (true,d):=by simpa using e
    have e2:δ[j]?=some (some (true,d)):=by
     cases z:δ[j]? with
     |none=>rw[z] at e';cases e'
     |some o=>rw[z] at e';simp at e';rw[e']
    obtain⟨a,h1,h2,h3⟩:=S'.ow j d e2;exact⟨a,by rw[get2 _ (by omega),capG k,q];simp[h1],h2,h3⟩
theorem iP{cond:Option Tx}
   (hw:∀F σ δ H R,Sees X.K cl F H σ δ->Meet ((evs Φ G true its δ).bind (itemsD k)) (λxs=>∀F' H' J P,Up F H F' H'->Wk X.K cl true J xs P->P F' H'->R J H') (λc=>∀F' H',Up F H F' H'->XE c σ H')->wi σ H R)
   (hg:∀F H σ v x ts Q,spread ntg x=some ts->Rep X.K cl F H x v->(∀vs,Reps X.K cl F H ts vs->Q (setsV σ (List.range ntg) vs) H)->g v σ H Q)
   (S:Sees X.K cl F H σ δ) (h:Post X.K cl (λc=>XE c σ) m true F H Q (ev Φ G m (.comp k its caps ntg cond elt) δ)):
   tComp wi g (tO X.K cl (λ_ _ _=>False) Φ G cond) (tE X.K cl (λ_ _ _=>False) Φ G false elt) caps ntg σ H Q:=by
 simp only[ev] at h;generalize hf:(λx=>match spread ntg x with
       |none=>(.bad:R (Option D))
       | some ts=>
         (evO Φ G cond (ts.map (λt=>some (false,t))++capOf δ caps)).bind λb=>
           if b then(ev Φ G false elt (ts.map (λt=>some (false,t))++capOf δ caps)).bind λy=>.ok (some y) else .ok none)=f at h
 have h0:Meet ((evs Φ G true its δ).bind (itemsD k)) (λxs=>Post X.K cl (λc=>XE c σ) m true F H Q (R.bind (R.quiet (compM f xs)) λys=>.ok (.lst ys))) (λc=>∀F' H',Up F H F' H'->XE c σ H'):=by
   have h1:=Meet.bind h
   cases e:evs Φ G true its δ with
   |ok ss=>rw[e] at h1;exact Meet.bind h1
   |exc c=>rw[e] at h1;exact h1
   |bad=>rw[e] at h1;exact h1
 have h0':Meet ((evs Φ G true its δ).bind (itemsD k)) (λxs=>xs.length<=LIM/\Post X.K cl (λc=>XE c σ) m true F H Q (R.bind (R.quiet (compM f xs)) λys=>.ok (.lst ys))) (λc=>∀F' H',Up F H F' H'->XE c σ H'):=by
   refine Meet.mono h0 (λxs e z=>⟨?_,z⟩) λc z=>z
   cases e1:evs Φ G true its δ with
   | ok ss=>
     rw[e1] at e;have e:itemsD k ss=.ok xs:=e;unfold itemsD at e
     cases e2:items0 k ss with
     | ok ys=>
       rw[e2] at e;simp only[R.bind_ok] at e;by_cases hc:ys.length<=LIM
       · rw[xE hc] at e;cases e;exact hc
       · rw[xC hc] at e;cases e
     |exc c=>rw[e2] at e;cases e
     |bad=>rw[e2] at e;cases e
   |exc c=>rw[e1] at e;cases e
   |bad=>rw[e1] at e;cases e
 clear h h0;unfold tComp;refine hw F σ δ H _ S (Meet.mono h0' (λxs _ hx F1 H1 J P u1 W1 p1 q hq=>?_) λc z=>z);obtain⟨hlen,hx⟩:=hx
 cases ho:compM f xs with
 |exc c=>rw[ho] at hx;exact(show False from hx).elim
 |bad=>rw[ho] at hx;exact(show False from hx).elim
 | ok out=>
   rw[ho] at hx;have hx:Post X.K cl (λc=>XE c σ) m true F H Q (.ok (.lst out)):=hx;have nq:∀b o,H1 b=some o->b≠q:=λb o e z=>by rw[z,hq] at e;cases e
   have nF1:¬F1 q:=(S.up u1).trk.fresh hq;refine⟨λi n σ' H'=>n=xs.length-i/\i<=xs.length/\σ'.length=ntg+caps.length/\(∀j,ntg<=j->σ'[j]?=(capS σ caps ntg)[j]?)/\
     ∃F' ys ds rest,Up F1 H1 F' H'/\¬F' q/\H' q=some (.lst ys)/\Reps X.K cl F' H' ds ys/\ds.length<=i/\compM f (xs.drop i)=.ok rest/\out=ds++rest,⟨xs.length,?_⟩,?_⟩
   · refine⟨by simp,Nat.zero_le _,by simp[capS],λj _=>rfl,F1,[],[],out,Up.alloc hq,nF1,aE,Reps.nil,xN _,by simpa using ho,rfl⟩
   · rintro i n σ' H' ⟨rfl,hi,hl,hc,F',ys,ds,rest,u2,nF,hqs,r2,hdl,hcm,hout⟩
     have pH:P F' H':=W1.st F1 H1 F' H' p1 (by unfold Stb;rw[xE rfl];exact u2.same) u2.sub;by_cases hlt:i<xs.length
     · refine .inr ?_
       obtain⟨go,yl⟩:=W1.go F' H' i xs[i] pH (by simp[hlt]);refine⟨go,λv H2 hy=>?_⟩;obtain⟨u3,rx⟩:=yl v H2 hy;have hd:xs.drop i=xs[i]::xs.drop (i+1):=List.drop_eq_getElem_cons hlt;rw[hd] at hcm;simp only[compM] at hcm
       cases hfx:f xs[i] with
       |exc c=>rw[hfx] at hcm;cases hcm
       |bad=>rw[hfx] at hcm;cases hcm
       | ok o=>
         rw[hfx] at hcm;simp only[R.bind_ok] at hcm
         cases hrest:compM f (xs.drop (i+1)) with
         |exc c=>rw[hrest] at hcm;cases hcm
         |bad=>rw[hrest] at hcm;cases hcm
         | ok rest'=>
           rw[hrest] at hcm;simp only[R.bind_ok,R.ok.injEq] at hcm;have hfx':=hfx;rw[←hf] at hfx';dsimp only at hfx'
           cases hsp:spread ntg xs[i] with
           |none=>rw[hsp] at hfx';cases hfx'
           | some ts=>
             rw[hsp] at hfx';dsimp only at hfx';have hts:ts.length=ntg:=by
               match ntg,xs[i],hsp with
               |0,d,hsp=>cases d<;>cases hsp
               | 1, d, hsp => have:[d]=ts:=by simpa[spread] using hsp
                              subst this;rfl
               | n+2,d,hsp=>
                 cases d<;>first|(cases hsp;done)|skip;simp only[spread] at hsp;split at hsp
                 · rename_i hh;cases hsp;exact hh
                 · cases hsp
             refine hg F' H2 σ' v xs[i] ts _ hsp rx λvs rv=>?_;have u3':Up F1 H1 F' H2:=u2.trans u3;have S2:Sees X.K cl F' H2 (setsV σ' (List.range ntg) vs) (ts.map (λt=>some (false,t))++capOf δ caps):=mO S (u1.trans u3') hl hc hts rv;have hl2:(setsV σ' (List.range ntg) vs).length=ntg+caps.length:=by rw[fM];exact hl
             have hc2:∀j,ntg<=j->(setsV σ' (List.range ntg) vs)[j]?=(capS σ caps ntg)[j]?:=λj hj=>by
               rw[dO _ _ _ _ (by simp;omega)];exact hc j hj
             have hq2:H2 q=some (.lst ys):=u3.same _ _ hqs
             cases hb:evO Φ G cond (ts.map (λt=>some (false,t))++capOf δ caps) with
             |exc c=>rw[hb] at hfx';cases hfx'
             |bad=>rw[hb] at hfx';cases hfx'
             | ok b=>
               rw[hb] at hfx';simp only[R.bind_ok] at hfx';refine⟨F',_,S2,?_⟩;rw[hb];intro F3 H3 u4;have S3:=S2.up u4;have hq3:H3 q=some (.lst ys):=u4.same _ _ hq2;have nF3:¬F3 q:=λz=>(u4.new q z).elim nF λy=>by rw[hq2] at y;cases y.1
               have r3:Reps X.K cl F3 H3 ds ys:=(r2.up u3).up u4
               cases b with
               | false=>
                 rw[xC xF] at hfx';cases hfx';show∃m',_;refine⟨xs.length-(i+1),by omega,rfl,hlt,hl2,hc2,F3,ys,ds,rest',u3'.trans u4,nF3,hq3,r3,by omega,hrest,?_⟩;rw[hout,←hcm]
               | true=>
                 rw[xE rfl] at hfx'
                 cases hy2:ev Φ G false elt (ts.map (λt=>some (false,t))++capOf δ caps) with
                 |exc c=>rw[hy2] at hfx';cases hfx'
                 |bad=>rw[hy2] at hfx';cases hfx'
                 | ok y=>
                   rw[hy2] at hfx';simp only[R.bind_ok] at hfx';cases hfx';show tE X.K cl (λ_ _ _=>False) Φ G false elt _ H3 _;refine⟨F3,_,S3,?_⟩;rw[hy2];intro F4 w H4 u5 gv;unfold Gives at gv;rw[xC xF] at gv;obtain⟨F5,u6,sub5,rw'⟩:=gv.keep u5;have hq4:H4 q=some (.lst ys):=u6.same _ _ hq3;have nF5:¬F5 q:=λz=>(u6.new q z).elim nF3 λy=>by rw[hq3] at y;cases y.1
                   have r4:Reps X.K cl F5 H4 ds ys:=r3.up u6;have pr:Pres F5 H4 (L2.upd H4 q (.lst (ys++[w]))):=Pres.upd nF5 (λzs e=>by rw[hq4] at e;cases e) (λo u e=>by rw[hq4] at e;cases e);have u7:Up F1 H1 F5 H4:=(u3'.trans u4).trans u6;refine⟨ys,xs.length-(i+1),hq4,?_,by omega,rfl,hlt,hl2,hc2,F5,ys++[w],ds++[y],rest',⟨λb o e=>?_,u7.sub,λa z=>?_⟩,nF5,aE,?_,?_,hrest,?_⟩
                   · rw[r4.length];exact yK (xU hdl (Nat.le_of_lt hlt)) (yK hlen (by decide))
                   · rw[aB (nq b o e)];exact u7.same b o e
                   · rcases u7.new a z with y|⟨y1,y2⟩
                     · exact .inl y
                     · refine .inr ⟨y1,?_⟩
                       rw[aB (by rintro rfl;exact nF5 z)];exact y2
                   · exact(r4.mono pr λ_ z=>z).append (Reps.cons (rw'.mono pr λ_ z=>z) Reps.nil)
                   · rw[xL,List.length_singleton];omega
                   · rw[hout,←hcm];simp
     · have hi':i=xs.length:=by omega
       subst hi';refine .inl ⟨W1.stop F' H' pH,?_⟩;have hr:rest=[]:=by
         rw[List.drop_length] at hcm;simp only[compM] at hcm;cases hcm;rfl
       subst hr;rw[yD] at hout;subst hout;refine hx F' (.ref q) H' (u1.trans u2) (Res.gives ?_);unfold Res;rw[xE (by simp[isOwn])];exact⟨q,rfl,u1.same.free hq,nF,ys,hqs,r2⟩
end
section
variable{X:Cx}{cl:Nat->Addr}{XE:Nat->St->Hp->Prop}{YE:Nat->Hp->Prop}{Φ:Nat->List D->R D}{G:List D}{m fr:Bool}
theorem ok_comp{cond:Option Tx}
  (hc:X.calm=true) (hi:OkI X cl XE Φ G true k its tg iter) (Sc:CompSc X N' caps ntg scope) (hg:∀cl' C s H fp,OkG (cxComp X N' scope cl' C s H fp λ_ _=>False) cl (List.range ntg) g tg)
  (ht:∀cl' C s H fp,OkC (cxComp X N' scope cl' C s H fp λ_ _=>False) cl (λ_ _ _=>False) Φ G cond ifs) (he:∀cl' C s H fp,OkE (cxComp X N' scope cl' C s H fp λ_ _=>False) cl (λ_ _ _=>False) Φ G false elt e)
  (hs:∀x,foldedSetIterable iter X.env x=pure x):OkE X cl XE Φ G m (.comp k its caps ntg cond elt) (.ListComp e [⟨tg,iter,ifs,0⟩] scope pos):=by
 obtain⟨wi,pi,hw⟩:=hi;refine⟨_,pe_comp (tc:=tO X.K cl (λ_ _ _=>False) Φ G cond) (te:=tE X.K cl (λ_ _ _=>False) Φ G false elt) hc pi Sc (λcl' C s H fp=>(hg cl' C s H fp).1) (λcl' C s H fp=>ht cl' C s H fp) (λcl' C s H fp=>(he cl' C s H fp).pe) hs,λF σ δ H Q S h=>?_⟩;exact iP (g:=g) hw (λF H σ v x ts Q h1 h2 h3=>(hg [] 0 X.s₀ X.H₀ []).2 F H σ v x ts Q (by rw[List.length_range];exact h1) h2 h3) S h
theorem mP{cond:Option Tx}(hN:X.N.Nodup)(hy:X.N[i]?=some y)(hx:Loc X.env.scope y)
  (hf:X.fn y=true\/X.env.scope.names.lookup y=some .local) (hsw:swapsWith (.ListComp e [⟨tg,iter,ifs,0⟩] scope pos) (some (.Name y py)) spos.line X.env=pure true)
  (hc:X.calm=true) (hi:OkI X cl XE Φ G true k its tg iter) (Sc:CompSc X N' caps ntg scope) (hg:∀cl' C s H fp,OkG (cxComp X N' scope cl' C s H fp λ_ _=>False) cl (List.range ntg) g tg)
  (ht:∀cl' C s H fp,OkC (cxComp X N' scope cl' C s H fp λ_ _=>False) cl (λ_ _ _=>False) Φ G cond ifs) (he:∀cl' C s H fp,OkE (cxComp X N' scope cl' C s H fp λ_ _=>False) cl (λ_ _ _=>False) Φ G false elt e)
  (hs:∀x,foldedSetIterable iter X.env x=pure x):∃t,PS X (.Assign [.Name y py] (.ListComp e [⟨tg,iter,ifs,0⟩] scope pos) spos) (tAsg t (gName i))/\
   ∀F σ δ H Q,Sees X.K cl F H σ δ->Post X.K cl (λc=>XE c σ) false true F H Q (ev Φ G false (.comp k its caps ntg cond elt) δ)->t σ H Q:=by
 obtain⟨wi,pi,hw⟩:=hi;refine⟨_,mH (tc:=tO X.K cl (λ_ _ _=>False) Φ G cond) (te:=tE X.K cl (λ_ _ _=>False) Φ G false elt) hN hy hx hf hsw hc pi Sc (λcl' C s H fp=>(hg cl' C s H fp).1) (λcl' C s H fp=>ht cl' C s H fp) (λcl' C s H fp=>(he cl' C s H fp).pe) hs,λF σ δ H Q S h=>?_⟩;exact iP (g:=g) hw (λF H σ v x ts Q h1 h2 h3=>(hg [] 0 X.s₀ X.H₀ []).2 F H σ v x ts Q (by rw[List.length_range];exact h1) h2 h3) S h
structure Fit(K:PySem.W.Frag)(cl:Nat->Addr)(F₀:Addr->Prop)(H₀:Hp)(F:Addr->Prop)(H:Hp)(σ:St)(δ:Sto):Prop where
 sees:Sees K cl F H σ δ
 up:Up F₀ H₀ F H
 new:∀(i:Nat) d a,δ[i]?=some (some (true,d))->σ[i]?=some (some (.ref a))->H₀ a=none
 ds:∀(i j:Nat) d e a,i≠j->δ[i]?=some (some (true,d))->δ[j]?=some (some (true,e))->σ[i]?=some (some (.ref a))->σ[j]?≠some (some (.ref a))
section
variable{F₀ F F':Addr->Prop}{H₀ H H':Hp}{σ σ':St}{δ δ':Sto}{K:PySem.W.Frag}
theorem Fit.to(f:Fit K cl F₀ H₀ F H σ δ)(u:Up F H F' H'):Fit K cl F₀ H₀ F' H' σ δ:=⟨f.sees.up u,f.up.trans u,f.new,f.ds⟩
theorem Own.fz(h:Own K cl F H d a):H a≠none/\Rep K cl (addF F a) H d (.ref a):=by
 have pr:Pres F H H:=Pres.of_same (Same.refl H)
 cases d with
 |lst xs=>
  obtain⟨vs,e,r⟩:=h;refine⟨by rw[e];exact Option.some_ne_none _,?_⟩;simp only[Rep];exact⟨a,vs,rfl,.inr rfl,e,r.mono pr λb z=>.inl z⟩
 |dic ks ds=>
  obtain⟨kvs,e,k,r⟩:=h;refine⟨by rw[e];exact Option.some_ne_none _,?_⟩;simp only[Rep];exact⟨a,kvs,rfl,.inr rfl,e,k,r.mono pr λb z=>.inl z⟩
 |_=>exact h.elim
theorem Fit.fzD(f:Fit K cl F₀ H₀ F H σ δ)(i:Nat)(e:δ[i]?=some (some (true,d))):∃F',(∀a,F a->F' a)/\Fit K cl F₀ H₀ F' H σ (δ.set i (some (false,d))):=by
  obtain⟨a,h1,h2,h3⟩:=f.sees.ow i _ e;obtain⟨e1,r1⟩:=h3.fz;have hn:=f.new i _ a e h1;have hi:i<δ.length:=by
   by_cases hc:i<δ.length
   ·exact hc
   ·rw[zC (by omega)] at e;cases e
  have sub:∀b,F b->addF F a b:=λb z=>.inl z;have pr:Pres F H H:=Pres.of_same (Same.refl H);have other:∀j,j≠i->(δ.set i (some (false,d)))[j]?=δ[j]?:=λj hj=>xR (yI hj);have here:(δ.set i (some (false,d)))[i]?=some (some (false,d)):=by simp[x9 hi]
  have notown:∀d',(δ.set i (some (false,d)))[i]?≠some (some (true,d')):=λd' z=>by rw[here] at z;cases z
  refine⟨addF F a,sub,⟨by rw[yV];exact f.sees.len,λb z=>z.elim (f.sees.trk b) λy=>(by rw[y];exact e1),λj d' z=>?_,λj d' z=>?_⟩,⟨f.up.same,λb z=>.inl (f.up.sub b z),λb z=>z.elim (f.up.new b) λy=>.inr ?_⟩,λj d' b z w=>?_,λj k d1 d2 b hjk z z' w=>?_⟩
  ·by_cases hj:j=i
   ·subst hj
    rw[here] at z;cases z;exact⟨.ref a,h1,r1⟩
   ·rw[other j hj] at z
    obtain⟨v,q1,q2⟩:=f.sees.sh j d' z;exact⟨v,q1,q2.mono pr sub⟩
  ·have hj:j≠i:=by rintro rfl;exact notown d' z
   rw[other j hj] at z;obtain⟨b,q1,q2,q3⟩:=f.sees.ow j d' z;refine⟨b,q1,λy=>y.elim q2 λy=>?_,q3.mono pr sub rfl⟩;subst y;exact f.ds i j _ d' b (yI hj) e z h1 q1
  ·rw[y];exact⟨hn,e1⟩
  ·have hj:j≠i:=by rintro rfl;exact notown d' z
   rw[other j hj] at z;exact f.new j d' b z w
  ·have hj:j≠i:=by rintro rfl;exact notown d1 z
   have hk:k≠i:=by rintro rfl;exact notown d2 z'
   rw[other j hj] at z;rw[other k hk] at z';exact f.ds j k d1 d2 b hjk z z' w
theorem Fit.frz1(f:Fit K cl F₀ H₀ F H σ δ)(i:Nat):∃F',(∀a,F a->F' a)/\Fit K cl F₀ H₀ F' H σ (frz1 δ i):=by
 unfold Py.frz1;split
 ·exact f.fzD i (by assumption)
 ·exact f.fzD i (by assumption)
 ·exact⟨F,λ_ z=>z,f⟩
theorem Fit.frz:∀(is:List Nat){F:Addr->Prop}{δ:Sto},Fit K cl F₀ H₀ F H σ δ->∃F',(∀a,F a->F' a)/\Fit K cl F₀ H₀ F' H σ (frz is δ)
 |[],F,δ,f=>⟨F,λ_ z=>z,f⟩
 |i::is,F,δ,f=>by
  obtain⟨F1,s1,f1⟩:=f.frz1 i;obtain⟨F2,s2,f2⟩:=Fit.frz is f1;exact⟨F2,λa z=>s2 a (s1 a z),f2⟩
theorem Fit.set(f:Fit K cl F₀ H₀ F H σ δ)(i:Nat)(r:Rep K cl F H d v):Fit K cl F₀ H₀ F H (σ.set i (some v)) (δ.set i (some (false,d))):=by
 have hl:=f.sees.len;have oσ:∀j,j≠i->(σ.set i (some v))[j]?=σ[j]?:=λj hj=>xR (yI hj);have oδ:∀j,j≠i->(δ.set i (some (false,d)))[j]?=δ[j]?:=λj hj=>xR (yI hj);have here:∀o,(δ.set i (some (false,d)))[i]?=some o->o=some (false,d)/\(σ.set i (some v))[i]?=some (some v):=λo z=>by
  by_cases hi:i<δ.length
  ·rw[x9 hi] at z
   exact⟨(yN z).symm,x9 (by rw[hl];exact hi)⟩
  ·rw[zC (by simpa using hi)] at z;cases z
 have notown:∀e,(δ.set i (some (false,d)))[i]?≠some (some (true,e)):=λe z=>by have:=(here _ z).1;cases this
 refine⟨⟨by simp[hl],f.sees.trk,λj e z=>?_,λj e z=>?_⟩,f.up,λj e b z w=>?_,λj k e e' b hjk z z' w=>?_⟩
 ·by_cases hj:j=i
  ·subst hj
   obtain⟨q1,q2⟩:=here _ z;cases q1;exact⟨v,q2,r⟩
  ·rw[oδ j hj] at z
   obtain⟨u,q1,q2⟩:=f.sees.sh j e z;exact⟨u,by rw[oσ j hj];exact q1,q2⟩
 ·have hj:j≠i:=by rintro rfl;exact notown e z
  rw[oδ j hj] at z;obtain⟨b,q1,q2⟩:=f.sees.ow j e z;exact⟨b,by rw[oσ j hj];exact q1,q2⟩
 ·have hj:j≠i:=by rintro rfl;exact notown e z
  rw[oδ j hj] at z;rw[oσ j hj] at w;exact f.new j e b z w
 ·have hj:j≠i:=by rintro rfl;exact notown e z
  have hk:k≠i:=by rintro rfl;exact notown e' z'
  rw[oδ j hj] at z;rw[oδ k hk] at z';rw[oσ j hj] at w;rw[oσ k hk];exact f.ds j k e e' b hjk z z' w
theorem Fit.own(f:Fit K cl F₀ H₀ F H σ δ)(i:Nat)(u:Up F H F' H')(hp:H p=none)(nF:¬F' p)(o:Own K cl F' H' d p):Fit K cl F₀ H₀ F' H' (σ.set i (some (.ref p))) (δ.set i (some (true,d))):=by
 have f':=f.to u;have hl:=f.sees.len;have oσ:∀j,j≠i->(σ.set i (some (V.ref p)))[j]?=σ[j]?:=λj hj=>xR (yI hj);have oδ:∀j,j≠i->(δ.set i (some (true,d)))[j]?=δ[j]?:=λj hj=>xR (yI hj);have here:∀o,(δ.set i (some (true,d)))[i]?=some o->o=some (true,d)/\(σ.set i (some (V.ref p)))[i]?=some (some (V.ref p)):=λo z=>by
  by_cases hi:i<δ.length
  ·rw[x9 hi] at z
   exact⟨(yN z).symm,x9 (by rw[hl];exact hi)⟩
  ·rw[zC (by simpa using hi)] at z;cases z
 have old:∀(j:Nat) e b,δ[j]?=some (some (true,e))->σ[j]?=some (some (V.ref b))->b≠p:=λj e b z w y=>by
  obtain⟨b',q1,q2,q3⟩:=f.sees.ow j e z;rw[w] at q1;have:b=b':=by simpa using q1
  subst this;rw[y] at q3;exact q3.some hp
 refine⟨⟨by simp[hl],f'.sees.trk,λj e z=>?_,λj e z=>?_⟩,f'.up,λj e b z w=>?_,λj k e e' b hjk z z' w=>?_⟩
 ·have hj:j≠i:=by rintro rfl;have:=(here _ z).1;cases this
  rw[oδ j hj] at z;obtain⟨v,q1,q2⟩:=f'.sees.sh j e z;exact⟨v,by rw[oσ j hj];exact q1,q2⟩
 ·by_cases hj:j=i
  ·subst hj
   obtain⟨q1,q2⟩:=here _ z;cases q1;exact⟨p,q2,nF,o⟩
  ·rw[oδ j hj] at z
   obtain⟨b,q1,q2⟩:=f'.sees.ow j e z;exact⟨b,by rw[oσ j hj];exact q1,q2⟩
 ·by_cases hj:j=i
  ·subst hj
   obtain⟨q1,q2⟩:=here _ z;rw[q2] at w;have:p=b:=by simpa using w
   subst this;exact f.up.same.free hp
  ·rw[oδ j hj] at z
   rw[oσ j hj] at w;exact f.new j e b z w
 ·by_cases hj:j=i
  ·subst hj
   obtain⟨q1,q2⟩:=here _ z;rw[q2] at w;have:p=b:=by simpa using w
   subst this;rw[oδ k (yI hjk)] at z';rw[oσ k (yI hjk)];exact λy=>old k e' p z' y rfl
  ·rw[oδ j hj] at z
   rw[oσ j hj] at w;by_cases hk:k=i
   ·subst hk
    obtain⟨q1,q2⟩:=here _ z';rw[q2];intro y;have:p=b:=by simpa using y
    exact old j e b z w this.symm
   ·rw[oδ k hk] at z'
    rw[oσ k hk];exact f.ds j k e e' b hjk z z' w
theorem Fit.write(f:Fit K cl F₀ H₀ F H σ δ)(i:Nat)(e:δ[i]?=some (some (true,d)))(hp:σ[i]?=some (some (.ref p)))(hd:(∃vs,o=.lst vs)\/∃kvs,o=.dK kvs)(ho:Own K cl F (L2.upd H p o) d' p):
  Fit K cl F₀ H₀ F (L2.upd H p o) σ (δ.set i (some (true,d'))):=by
 obtain⟨p',q1,q2,q3⟩:=f.sees.ow i d e;rw[hp] at q1;have:p=p':=by simpa using q1
 subst this;have hi:i<δ.length:=by
  by_cases hc:i<δ.length
  ·exact hc
  ·rw[zC (by omega)] at e;cases e
 have pr:Pres F H (L2.upd H p o):=by
  refine Pres.upd q2 (λxs z=>?_) λo' u z=>?_
  ·rcases q3.at with⟨_,y⟩|⟨_,y⟩<;>(rw[y] at z;cases z)
  ·rcases q3.at with⟨_,y⟩|⟨_,y⟩<;>(rw[y] at z;cases z)
 have h0:=f.new i d p e hp;have oδ:∀j,j≠i->(δ.set i (some (true,d')))[j]?=δ[j]?:=λj hj=>xR (yI hj);have here:(δ.set i (some (true,d')))[i]?=some (some (true,d')):=x9 hi;have nn:∀b,(L2.upd H p o b)=none->H b=none:=λb z=>by
  by_cases hb:b=p
  ·subst hb;rw[aE] at z;cases z
  ·rw[aB hb] at z;exact z
 refine⟨⟨by simp[f.sees.len],λb z y=>f.sees.trk b z (nn b y),λj x z=>?_,λj x z=>?_⟩,⟨λb u z=>?_,f.up.sub,λb z=>?_⟩,λj x b z w=>?_,λj k x x' b hjk z z' w=>?_⟩
 ·have hj:j≠i:=by rintro rfl;rw[here] at z;cases z
  rw[oδ j hj] at z;obtain⟨v,r1,r2⟩:=f.sees.sh j x z;exact⟨v,r1,r2.mono pr λ_ y=>y⟩
 ·by_cases hj:j=i
  ·subst hj
   rw[here] at z;cases z;exact⟨p,hp,q2,ho⟩
  ·rw[oδ j hj] at z
   obtain⟨b,r1,r2,r3⟩:=f.sees.ow j x z;refine⟨b,r1,r2,r3.mono pr (λ_ y=>y) (aB ?_)⟩;rintro rfl;exact f.ds i j d x b (yI hj) e z hp r1
 ·rw[aB (bA z h0)]
  exact f.up.same b u z
 ·rcases f.up.new b z with y|⟨y1,y2⟩
  ·exact .inl y
  ·exact .inr ⟨y1,λw=>y2 (nn b w)⟩
 ·by_cases hj:j=i
  ·subst hj
   rw[hp] at w;have:p=b:=by simpa using w
   subst this;exact h0
  ·rw[oδ j hj] at z
   exact f.new j x b z w
 ·by_cases hj:j=i
  ·subst hj
   rw[oδ k (yI hjk)] at z';exact f.ds j k d x' b hjk e z' w
  ·rw[oδ j hj] at z
   by_cases hk:k=i
   ·subst hk
    exact f.ds j k x d b hjk z e w
   ·rw[oδ k hk] at z'
    exact f.ds j k x x' b hjk z z' w
end
end
def PostS(K:PySem.W.Frag)(cl:Nat->Addr)(XE:Nat->St->Hp->Prop)(F₀:Addr->Prop)(H₀:Hp)(D:Ends):Out->Prop
 |.nx δ=>∀F σ H,Fit K cl F₀ H₀ F H σ δ->D.nx σ H
 |.bk δ=>∀F σ H,Fit K cl F₀ H₀ F H σ δ->D.bk σ H
 |.ct δ=>∀F σ H,Fit K cl F₀ H₀ F H σ δ->D.ct σ H
 |.rt d=>∀F v H,Up F₀ H₀ F H->Rep K cl F H d v->D.rt v H
 |.xc c δ=>∀F σ H,Fit K cl F₀ H₀ F H σ δ->XE c σ H
 |.bad=>False
section
variable(X:Cx)(cl:Nat->Addr)(XE:Nat->St->Hp->Prop)(Φ:Nat->List D->R D)(G:List D)(n:Nat)
structure OkS(sm:Sm)(st:Stmt):Prop where
 ok:∃t,PS X st t/\∀F₀ H₀ F σ δ H D,Fit X.K cl F₀ H₀ F H σ δ->PostS X.K cl XE F₀ H₀ D (xec Φ G n sm δ)->t D σ H
structure OkSs(sms:List Sm)(sts:List Stmt):Prop where
 ok:∃t,PSs X sts t/\∀F₀ H₀ F σ δ H D,Fit X.K cl F₀ H₀ F H σ δ->PostS X.K cl XE F₀ H₀ D (xecs Φ G n sms δ)->t D σ H
end
section
variable{X:Cx}{cl:Nat->Addr}{XE:Nat->St->Hp->Prop}{Φ:Nat->List D->R D}{G:List D}{n:Nat}{K:PySem.W.Frag}{F₀ F F':Addr->Prop}{H₀ H H':Hp}{σ:St}{δ:Sto}{W:Ends}
theorem oks_nil:OkSs X cl XE Φ G n [] []:=⟨_,pss_nil,λF₀ H₀ F σ δ H D f h=>by simp only[xecs] at h;exact h F σ H f⟩
theorem u9{st:Stmt}(h1:OkS X cl XE Φ G n sm st)(h2:OkSs X cl XE Φ G n sms sts):OkSs X cl XE Φ G n (sm::sms) (st::sts):=by
 obtain⟨t,p1,i1⟩:=h1;obtain⟨u,p2,i2⟩:=h2;refine⟨_,tQ p1 p2,λF₀ H₀ F σ δ H D f h=>?_⟩;simp only[xecs] at h;refine i1 F₀ H₀ F σ δ H _ f ?_
 cases e:xec Φ G n sm δ with
 |nx δ'=>rw[e] at h;exact λF' σ' H' f'=>i2 F₀ H₀ F' σ' δ' H' D f' h
 |bk δ'=>rw[e] at h;exact h
 |ct δ'=>rw[e] at h;exact h
 |rt d=>rw[e] at h;exact h
 |xc c δ'=>rw[e] at h;exact h
 |bad=>rw[e] at h;exact h
theorem PostS.of_ok{α:Type}{r:R α}{k:α->Out}{P:α->Prop}(h:PostS K cl XE F₀ H₀ W (Out.of r δ k))(hk:∀a,r=.ok a->PostS K cl XE F₀ H₀ W (k a)->P a):Meet r P (λc=>∀F σ H,Fit K cl F₀ H₀ F H σ δ->XE c σ H):=by
 cases r with
 |ok a=>exact hk a rfl h
 |exc c=>exact h
 |bad=>exact h
theorem gK{e:Expr}{t:TE}(ie:∀F σ δ H Q,Sees X.K cl F H σ δ->Post X.K cl (λc=>XE c σ) m (frsh ex) F H Q (ev Φ G m ex δ)->t σ H Q)(f:Fit X.K cl F₀ H₀ F H σ δ)
  (h:PostS X.K cl XE F₀ H₀ W (Out.of (ev Φ G m ex δ) δ k)) (hQ:∀d F' v H',Up F H F' H'->Gives X.K cl m (frsh ex) F' H H' d v->PostS X.K cl XE F₀ H₀ W (k d)->Q v H'):t σ H Q:=by
 refine ie F σ δ H Q f.sees (Meet.mono (h.of_ok (P:=λd=>PostS X.K cl XE F₀ H₀ W (k d)) λa _ z=>z) (λd _ z F' v H' u g=>hQ d F' v H' u g z) λc z F' H' u=>z F' σ H' (f.to u))
theorem oks_asg(hN:X.N.Nodup)(hi:X.N[i]?=some x)(hx:Loc X.env.scope x)(hf:X.fn x=true\/X.env.scope.names.lookup x=some .local)(hs:swapsWith e (some (.Name x pos')) pos.line X.env=pure false)
  (ie:OkE X cl XE Φ G false ex e):OkS X cl XE Φ G n (.asg i ex) (.Assign [.Name x pos'] e pos):=by
 obtain⟨t,pe,ie⟩:=ie;refine⟨_,tR hN hi hx pe hs hf,λF₀ H₀ F σ δ H D f h=>?_⟩;simp only[xec] at h;obtain⟨F1,s1,f1⟩:=f.frz (leaks false ex);refine gK (e:=e) (m:=false) ie f1 h λd F' v H' u g z=>?_;have g':Res X.K cl (frsh ex) F' H H' d v:=by unfold Gives at g;rw[xC xF] at g;exact g
 show D.nx (σ.set i (some v)) H';unfold Res at g';by_cases hc:(frsh ex&&isOwn d)=true
 ·rw[xE hc] at g'
  obtain⟨p,rfl,hp,nF,o⟩:=g';rw[hc] at z;exact z F' _ H' (f1.own i u hp nF o)
 ·rw[xC hc] at g'
  rw[Bool.not_eq_true _|>.mp hc] at z;exact z F' _ H' ((f1.to u).set i g')
theorem gM(hfr:frsh ex=true)(ie:∃t,PS X (.Assign [.Name x pos'] e pos) (tAsg t (gName i))/\∀F σ δ H Q,Sees X.K cl F H σ δ->Post X.K cl (λc=>XE c σ) false true F H Q (ev Φ G false ex δ)->t σ H Q):
  OkS X cl XE Φ G n (.asg i ex) (.Assign [.Name x pos'] e pos):=by
 obtain⟨t,pe,ie⟩:=ie;refine⟨_,pe,λF₀ H₀ F σ δ H D f h=>?_⟩;simp only[xec] at h;obtain⟨F1,s1,f1⟩:=f.frz (leaks false ex);refine gK (ex:=ex) (e:=e) (m:=false) (λF σ δ H Q S z=>ie F σ δ H Q S (by rw[hfr] at z;exact z)) f1 h λd F' v H' u g z=>?_;have g':Res X.K cl (frsh ex) F' H H' d v:=by unfold Gives at g;rw[xC xF] at g;exact g
 show D.nx (σ.set i (some v)) H';unfold Res at g';by_cases hc:(frsh ex&&isOwn d)=true
 ·rw[xE hc] at g'
  obtain⟨p,rfl,hp,nF,o⟩:=g';rw[hc] at z;exact z F' _ H' (f1.own i u hp nF o)
 ·rw[xC hc] at g'
  rw[Bool.not_eq_true _|>.mp hc] at z;exact z F' _ H' ((f1.to u).set i g')
theorem oks_new(hN:X.N.Nodup)(hi:X.N[i]?=some x)(hx:Loc X.env.scope x)(hf:X.fn x=true\/X.env.scope.names.lookup x=some .local)(hs:swapsWith (.Dict [] [] p) (some (.Name x pos')) pos.line X.env=pure false):
  OkS X cl XE Φ G n (.new i) (.Assign [.Name x pos'] (.Dict [] [] p) pos):=by
 refine⟨_,tR hN hi hx t5 hs hf,λF₀ H₀ F σ δ H D f h=>?_⟩;simp only[xec] at h;intro a ha;exact h F _ _ (f.own i (d:=.dic [] []) (Up.alloc ha) ha (f.sees.trk.fresh ha) ⟨[],aE,rfl,Reps.nil⟩)
theorem oks_ret(ie:OkE X cl XE Φ G false ex e):OkS X cl XE Φ G n (.ret ex) (.Return (some e) pos):=by
 obtain⟨t,pe,ie⟩:=ie;refine⟨_,ps_ret pe,λF₀ H₀ F σ δ H D f h=>?_⟩;simp only[xec] at h;obtain⟨F1,s1,f1⟩:=f.frz (leaks false ex);refine gK (e:=e) (m:=false) ie f1 h λd F' v H' u g z=>?_;have g':Res X.K cl (frsh ex) F' H H' d v:=by unfold Gives at g;rw[xC xF] at g;exact g
 obtain⟨F2,u2,_,rp⟩:=g'.keep u;exact z F2 v H' (f1.up.trans u2) rp
theorem oks_if{sa sb:List Sm}(ic:OkT X cl XE Φ G tx c)(ia:OkSs X cl XE Φ G n sa a)(ib:OkSs X cl XE Φ G n sb b):OkS X cl XE Φ G n (.ite tx sa sb) (.If c a b pos):=by
 obtain⟨tc,pc,ic⟩:=ic;obtain⟨ta,pa,ia⟩:=ia;obtain⟨tb,pb,ib⟩:=ib;refine⟨_,ps_if pc pa pb,λF₀ H₀ F σ δ H D f h=>?_⟩;simp only[xec] at h;obtain⟨F1,s1,f1⟩:=f.frz (leaksT tx);refine ic F1 σ _ H _ f1.sees (Meet.mono (h.of_ok (P:=λt=>PostS X.K cl XE F₀ H₀ D (if t then xecs Φ G n sa (Py.frz (leaksT tx) δ) else xecs Φ G n sb (Py.frz (leaksT tx) δ))) λa _ z=>z) (λt _ z F' H' u=>?_) λc z F' H' u=>z F' σ H' (f1.to u))
 cases t with
 |true=>rw[xE rfl] at z⊢;exact ia F₀ H₀ F' σ _ H' D (f1.to u) z
 |false=>rw[xC xF] at z⊢;exact ib F₀ H₀ F' σ _ H' D (f1.to u) z
theorem sA{st:Stmt}(h:PS X st (tRaise XE c)):OkS X cl XE Φ G n (.rai c) st:=⟨_,h,λF₀ H₀ F σ δ H D f z=>by simp only[xec] at z;exact z F σ H f⟩
theorem oks_app(hN:X.N[i]?=some x)(hv:Vis X.env.scope x)(hd:(x==("__debug__":Str))=false)(hcd:(x==("__classdict__":Str))=false)
  (hbase:attributeBase (.Name x p) "append" X.env (eval (.Name x p) X.env)=eval (.Name x p) X.env) (hline:(apos.endLine==cpos.line)=true) (hs:starEach [e] X.env=[(false,eval e X.env)])
  (hsw:swapsWith (.Call (.Attribute (.Name x p) "append" apos) [e] [] cpos) none pos.line X.env=pure false)
  (ie:OkE X cl XE Φ G false ex e):OkS X cl XE Φ G n (.app i ex) (.Expr (.Call (.Attribute (.Name x p) "append" apos) [e] [] cpos) pos):=by
 obtain⟨t,pe,ie⟩:=ie;have hs':starEach (e::[]) X.env=(false,eval e X.env)::starEach [] X.env:=hs;refine⟨_,ps_expr (pe_bm PySem.F.plainAttrs_list PySem.F.slot_list_append PySem.F.type_list_append fH (k4 hN hv hd hcd) (pa_cons pe pa_nil hs') hbase (by rw[hs];rfl) hline hs' rfl) hsw,λF₀ H₀ F σ δ H D f h=>?_⟩;simp only[xec] at h;obtain⟨F1,s1,f1⟩:=f.frz (leaks false ex);generalize hδ:Py.frz (leaks false ex) δ=δ1 at h f1;by_cases ho:ownL δ1 i=true
 ·rw[xE ho] at h
  obtain⟨xs,e0⟩:∃xs,δ1[i]?=some (some (true,.lst xs)):=by
   unfold ownL at ho;split at ho
   ·rename_i xs e;exact⟨xs,e⟩
   ·cases ho
  obtain⟨a,q1,q2,q3⟩:=f1.sees.ow i _ e0;obtain⟨vs0,w1,w2⟩:=id q3;refine⟨.ref a,q1,.inl ⟨rfl,vs0,SqL.of w1⟩,?_⟩;refine gK (e:=e) (m:=false) ie f1 h λd F' v H' u g z=>?_;have g':Res X.K cl (frsh ex) F' H H' d v:=by unfold Gives at g;rw[xC xF] at g;exact g
  obtain⟨F2,u2,sub2,rp⟩:=g'.keep u;have f2:=f1.to u2;obtain⟨a',q1',q2',vs,w1,w2⟩:=f2.sees.ow i _ e0;rw[q1] at q1';have:a=a':=by simpa using q1'
  subst this;simp only[appD,e0] at z;by_cases hl:xs.length<LIM
  ·rw[xE hl] at z
   refine⟨a,vs,v,rfl,rfl,w1,by rw[w2.length];exact yA hl (by decide),?_⟩;have pr:Pres F2 H' (L2.upd H' a (.lst (vs++[v]))):=Pres.upd q2' (λys y=>by rw[w1] at y;cases y) λo u y=>by rw[w1] at y;cases y
   exact z F2 σ _ (f2.write i e0 q1 (.inl ⟨_,rfl⟩) ⟨_,aE,(w2.mono pr λ_ y=>y).append (Reps.cons (rp.mono pr λ_ y=>y) Reps.nil)⟩)
  ·rw[xC hl] at z;exact z.elim
 ·rw[xC ho] at h;exact h.elim
end
section
variable{X:Cx}{cl:Nat->Addr}{XE:Nat->St->Hp->Prop}{Φ:Nat->List D->R D}{G:List D}{n:Nat}{K:PySem.W.Frag}{F₀ F F':Addr->Prop}{H₀ H H':Hp}{σ:St}{δ:Sto}{W:Ends}
theorem ixN_of(h:ixD n j=some k):ixN n j=some k:=by
 unfold ixD at h;unfold ixN;by_cases h0:0<=j
 ·rw[xE h0] at h⊢
  exact h
 ·rw[xC h0] at h⊢
  exact h
theorem oks_put(hN:X.N[i]?=some x)(hv:Vis X.env.scope x)(hd:(x==("__debug__":Str))=false)(hcd:(x==("__classdict__":Str))=false)
  (hsw:swapsWithSole [.Subscript (.Name x p) ie ps] e pos.line X.env=pure false) (hw:swappedStores [.Subscript (.Name x p) ie ps] e X.env=pure none) (h1:(assignEach [.Subscript (.Name x p) ie ps] X.env).map (·.2)=[assign (.Subscript (.Name x p) ie ps) X.env])
  (ha:∀v,assign (.Subscript (.Name x p) ie ps) X.env v=(do
   let ov←holding [v] (eval (.Name x p) X.env)
   let iv←holding [v,ov] (eval ie X.env)
   standAt ps
   holding [v,ov,iv] (setItem ov iv v)
   release [v,ov,iv] []))
  (i1:OkE X cl XE Φ G false ex e) (i2:OkE X cl XE Φ G true ix ie):OkS X cl XE Φ G n (.put i ix ex) (.Assign [.Subscript (.Name x p) ie ps] e pos):=by
 obtain⟨t,pe,i1⟩:=i1;obtain⟨u,pi,i2⟩:=i2;refine⟨_,ps_asg pe (pg_sub (k4 hN hv hd hcd) pi t8 ha) hsw hw h1,λF₀ H₀ F σ δ H W f h=>?_⟩;simp only[xec] at h;obtain⟨F1,s1,f1⟩:=f.frz (leaks false ex++leaks true ix);generalize hδ:Py.frz (leaks false ex++leaks true ix) δ=δ1 at h f1;by_cases ho:ownL δ1 i=true
 ·rw[xE ho] at h
  obtain⟨xs,e0⟩:∃xs,δ1[i]?=some (some (true,.lst xs)):=by
   unfold ownL at ho;split at ho
   ·rename_i xs e;exact⟨xs,e⟩
   ·cases ho
  refine gK (e:=e) (m:=false) i1 f1 h λd F' v H' uu g z=>?_;have g':Res X.K cl (frsh ex) F' H H' d v:=by unfold Gives at g;rw[xC xF] at g;exact g
  obtain⟨F2,u2,sub2,rp⟩:=g'.keep uu;have f2:=f1.to u2;obtain⟨a,q1,q2,vs0,w01,w02⟩:=f2.sees.ow i _ e0;refine⟨.ref a,q1,?_⟩;refine gK (e:=ie) (m:=true) i2 f2 z λk F3 y H3 u3 g3 z3=>?_;have f3:=f2.to u3;obtain⟨a',q1',q2',vs,w1,w2⟩:=f3.sees.ow i _ e0;rw[q1] at q1';have:a=a':=by simpa using q1'
  subst this
  cases k with
  |int j=>
   simp only[putD,e0] at z3
   cases hj:ixD xs.length j with
   |none=>rw[hj] at z3;exact z3.elim
   |some m=>
    rw[hj] at z3;rw[g3.got.int];refine⟨a,vs,j,m,rfl,rfl,w1,ixN_of (by rw[w2.length];exact hj),?_⟩;have pr:Pres F3 H3 (L2.upd H3 a (.lst (vs.set m v))):=Pres.upd q2' (λys y=>by rw[w1] at y;cases y) λo u y=>by rw[w1] at y;cases y
    exact z3 F3 σ _ (f3.write i e0 q1 (.inl ⟨_,rfl⟩) ⟨_,aE,(w2.mono pr λ_ y=>y).set m ((rp.up u3).mono pr λ_ y=>y)⟩)
  |_=>simp only[putD,e0] at z3<;>exact z3.elim
 ·rw[xC ho] at h;exact h.elim
theorem putK_of(rv:Rep K cl F H d v):∀{ks:List Int}{ds:List D}{kvs:List (Key×V)},kvs.map (·.1)=ks.map Sum.inl->Reps K cl F H ds (kvs.map (·.2))->
  (j∈ks->(putK kvs (Sum.inl j:Key) v).map (·.1)=ks.map Sum.inl/\Reps K cl F H (repD ks ds j d) ((putK kvs (Sum.inl j:Key) v).map (·.2)))/\
  (j∉ks->(putK kvs (Sum.inl j:Key) v).map (·.1)=(ks++[j]).map Sum.inl/\Reps K cl F H (ds++[d]) ((putK kvs (Sum.inl j:Key) v).map (·.2))):=by
 intro ks ds kvs hk r;have hany:(kvs.any λkv=>decide (kv.1=(Sum.inl j:Key)))=decide (j∈ks):=by
  clear r
  induction kvs generalizing ks with
  |nil=>cases ks with|nil=>rfl|cons _ _=>simp at hk
  |cons kv kvs ih=>
   cases ks with
   |nil=>simp at hk
   |cons k ks=>
    simp only[xM,List.cons.injEq] at hk;rw[List.any_cons,ih hk.2,hk.1];by_cases e:k=j
    ·subst e;simp
    ·have e':¬(Sum.inl k:Key)=Sum.inl j:=λz=>e (Sum.inl.inj z)
     simp[e,e',yI e]
 refine⟨λhj=>?_,λhj=>?_⟩
 ·unfold putK
  rw[hany,xE (yJ hj)];clear hany hj
  induction kvs generalizing ks ds with
  |nil=>
   cases ks with
   |nil=>cases ds with|nil=>exact⟨rfl,Reps.nil⟩|cons _ _=>exact⟨rfl,Reps.nil⟩
   |cons _ _=>simp at hk
  |cons kv kvs ih=>
   cases ks with
   |nil=>simp at hk
   |cons k ks=>
    simp only[xM,List.cons.injEq] at hk
    cases ds with
    |nil=>have:=r.length;simp at this
    |cons d0 ds=>
     obtain⟨v0,r0,z,a1,a2⟩:=r.cons_inv;have z':kv.2=v0/\kvs.map (·.2)=r0:=by simpa using z
     obtain⟨rfl,rfl⟩:=z';obtain⟨ih1,ih2⟩:=ih hk.2 a2;by_cases e:k=j
     ·have e':kv.1=(Sum.inl j:Key):=by rw[hk.1,e]
      simp only[xM,xE e',repD,xE e];exact⟨by rw[ih1,hk.1],Reps.cons rv ih2⟩
     ·have e':¬kv.1=(Sum.inl j:Key):=by rw[hk.1];exact λz=>e (Sum.inl.inj z)
      simp only[xM,xC e',repD,xC e];exact⟨by rw[ih1,hk.1],Reps.cons a1 ih2⟩
 ·unfold putK
  rw[hany,xC (by simpa using hj)];rw[yB,yB,yB,hk];exact⟨rfl,r.append (Reps.cons rv Reps.nil)⟩
theorem vA(hu:X.A.units+1<cLine)(hN:X.N[i]?=some x)(hv:Vis X.env.scope x)(hd:(x==("__debug__":Str))=false)(hcd:(x==("__classdict__":Str))=false)
  (hs:swapsWith e (some (.Subscript (.Name x p) ie ps)) pos.line X.env=pure false) (i1:OkE X cl XE Φ G false ex e) (i2:OkE X cl XE Φ G true ix ie):OkS X cl XE Φ G n (.dput i ix ex) (.Assign [.Subscript (.Name x p) ie ps] e pos):=by
 obtain⟨t,pe,i1⟩:=i1;obtain⟨u,pi,i2⟩:=i2;refine⟨_,ps_dput hu (k4 hN hv hd hcd) pi pe hs,λF₀ H₀ F σ δ H W f h=>?_⟩;simp only[xec] at h;obtain⟨F1,s1,f1⟩:=f.frz (leaks false ex++leaks true ix);generalize hδ:Py.frz (leaks false ex++leaks true ix) δ=δ1 at h f1;by_cases ho:ownM δ1 i=true
 ·rw[xE ho] at h
  obtain⟨ks,ds,e0⟩:∃ks ds,δ1[i]?=some (some (true,.dic ks ds)):=by
   unfold ownM at ho;split at ho
   ·rename_i ks ds e;exact⟨ks,ds,e⟩
   ·cases ho
  refine gK (e:=e) (m:=false) i1 f1 h λd F' v H' uu g z=>?_;have g':Res X.K cl (frsh ex) F' H H' d v:=by unfold Gives at g;rw[xC xF] at g;exact g
  obtain⟨F2,u2,sub2,rp⟩:=g'.keep uu;have f2:=f1.to u2;obtain⟨a,q1,q2,kv0,w01,w02,w03⟩:=f2.sees.ow i _ e0;refine⟨.ref a,q1,?_⟩;refine gK (e:=ie) (m:=true) i2 f2 z λk F3 y H3 u3 g3 z3=>?_;have f3:=f2.to u3;obtain⟨a',q1',q2',kvs,w1,w2,w3⟩:=f3.sees.ow i _ e0;rw[q1] at q1';have:a=a':=by simpa using q1'
  subst this
  cases k with
  |int j=>
   simp only[dputD,e0] at z3;by_cases hl:ks.length<LIM
   ·rw[xE hl] at z3
    rw[g3.got.int];have hkl:kvs.length=ks.length:=by have:=congrArg List.length w2;simpa using this
    refine⟨a,_,rfl,DPut.k (k:=Sum.inl j) w1 (by rw[hkl];exact yA hl (by decide)),?_⟩;have pr:Pres F3 H3 (L2.upd H3 a (.dK (putK kvs (Sum.inl j) v))):=Pres.upd q2' (λys y=>by rw[w1] at y;cases y) λo u y=>by rw[w1] at y;cases y
    have rv:=(rp.up u3).mono (F':=F3) pr λ_ y=>y;have pk:=putK_of (j:=j) rv w2 (w3.mono (F':=F3) pr λ_ y=>y);by_cases hj:j∈ks
    ·rw[xE hj] at z3
     exact z3 F3 σ _ (f3.write i e0 q1 (.inr ⟨_,rfl⟩) ⟨_,aE,(pk.1 hj).1,(pk.1 hj).2⟩)
    ·rw[xC hj] at z3
     exact z3 F3 σ _ (f3.write i e0 q1 (.inr ⟨_,rfl⟩) ⟨_,aE,(pk.2 hj).1,(pk.2 hj).2⟩)
   ·rw[xC hl] at z3;exact z3.elim
  |_=>simp only[dputD,e0] at z3<;>exact z3.elim
 ·rw[xC ho] at h;exact h.elim
theorem Fit.rebase(f:Fit K cl F₀ H₀ F H σ δ):∃Hm,Fit K cl F Hm F H σ δ/\∀F' H',Up F Hm F' H'->Up F₀ H₀ F' H'/\Pres F H H'/\(∀a,F a->F' a)/\∀σ' δ',Fit K cl F Hm F' H' σ' δ'->Fit K cl F₀ H₀ F' H' σ' δ':=by
 classical
 let mine:Addr->Prop:=λa=>∃(i:Nat)(d:D),δ[i]?=some (some (true,d))/\σ[i]?=some (some (.ref a))
 let Hm:Hp:=λa=>if mine a then none else H a
 have h1:∀a,mine a->Hm a=none:=λa h=>xE h;have h2:∀a,¬mine a->Hm a=H a:=λa h=>xC h;have sub:∀a o,Hm a=some o->H a=some o:=λa o e=>by
  by_cases hm:mine a
  ·rw[h1 a hm] at e;cases e
  ·rw[h2 a hm] at e;exact e
 have oldN:∀a o,H₀ a=some o->¬mine a:=λa o e ⟨i,d,e1,e2⟩=>by rw[f.new i d a e1 e2] at e;cases e
 have old:∀a o,H₀ a=some o->Hm a=some o:=λa o e=>by rw[h2 a (oldN a o e)];exact f.up.same a o e
 have nF:∀a,F a->¬mine a:=λa fa ⟨i,d,e1,e2⟩=>by
  obtain⟨a',q1,q2,_⟩:=f.sees.ow i d e1;rw[e2] at q1;have:a=a':=by simpa using q1
  subst this;exact q2 fa
 have at':∀a,mine a->(∃vs,H a=some (.lst vs))\/∃kvs,H a=some (.dK kvs):=λa ⟨i,d,e1,e2⟩=>by
  obtain⟨a',q1,q2,o⟩:=f.sees.ow i d e1;rw[e2] at q1;have:a=a':=by simpa using q1
  subst this;exact o.at
 refine⟨Hm,⟨f.sees,⟨sub,λ_ h=>h,λ_ h=>.inl h⟩,λi d a e1 e2=>h1 a ⟨i,d,e1,e2⟩,f.ds⟩,λF' H' u=>?_⟩;have up:Up F₀ H₀ F' H':=by
  refine⟨λa o e=>u.same a o (old a o e),λa h=>u.sub a (f.up.sub a h),λa h=>?_⟩;rcases u.new a h with z|⟨z1,z2⟩
  ·rcases f.up.new a z with y|⟨y1,y2⟩
   ·exact .inl y
   ·refine .inr ⟨y1,λw=>?_⟩
    cases q:H a with
    |none=>exact y2 q
    |some o=>
     have:=u.same a o (by rw[h2 a (nF a z)];exact q);rw[w] at this;cases this
  ·refine .inr ⟨?_,z2⟩
   cases q:H₀ a with
   |none=>rfl
   |some o=>rw[old a o q] at z1;cases z1
 refine⟨up,⟨λa o fa e=>u.same a o (by rw[h2 a (nF a fa)];exact e),λa xs e=>u.same a _ (by rw[h2 a λm=>(at' a m).elim (λ⟨_,z⟩=>by rw[e] at z;cases z) λ⟨_,z⟩=>by rw[e] at z;cases z];exact e),
  λa o w e=>u.same a _ (by rw[h2 a λm=>(at' a m).elim (λ⟨_,z⟩=>by rw[e] at z;cases z) λ⟨_,z⟩=>by rw[e] at z;cases z];exact e)⟩,u.sub,λσ' δ' g=>⟨g.sees,up,λi d a e1 e2=>?_,g.ds⟩⟩
 have z:=g.new i d a e1 e2
 cases q:H₀ a with
 |none=>rfl
 |some o=>rw[old a o q] at z;cases z
theorem Fit.sets:∀(is:List Nat){ds:List D}{vs:List V}{σ:St}{δ:Sto},Fit K cl F₀ H₀ F H σ δ->Reps K cl F H ds vs->Fit K cl F₀ H₀ F H (setsV σ is vs) (sets δ is ds)
 |[],_,_,_,_,f,_=>by simpa[setsV,Py.sets] using f
 |i::is,[],vs,_,_,f,r=>by rw[r.nil_inv];simpa[setsV,Py.sets] using f
 |i::is,d::ds,vs,σ,δ,f,r=>by
  obtain⟨v,r',rfl,h1,h2⟩:=r.cons_inv;simp only[setsV,Py.sets];exact Fit.sets is (f.set i h1) h2
end
section
variable{X:Cx}{cl:Nat->Addr}{XE:Nat->St->Hp->Prop}{Φ:Nat->List D->R D}{G:List D}{n:Nat}{K:PySem.W.Frag}{F₀ F F':Addr->Prop}{H₀ H H':Hp}{σ:St}{δ:Sto}{W:Ends}
theorem PS.nox{st:Stmt}(h:PS X.nox st t):PS X st t:=λpins s σ H D I hw=>
 yG (h pins s σ H D (I.wish _) hw) (λ_ _ q=>q.unwish) λ_ _ z=>False.elim z
theorem vB(hc:X.calm=true)(hi:OkI X.nox cl (λ_ _ _=>False) Φ G false k its tg iter)(hg:OkG X.nox cl tgs g tg)
  (hb:OkSs X.nox cl (λ_ _ _=>False) Φ G n body b) (hs:∀x,foldedSetIterable iter X.env x=pure x):OkS X cl XE Φ G n (.loop k its tgs body) (.For tg iter b [] pos):=by
 obtain⟨wi,pi,hw⟩:=hi;obtain⟨pg,hgq⟩:=hg;obtain⟨tb,pb,ib⟩:=hb;refine⟨_,PS.nox (ps_for (X:=X.nox) PassesOwn.never hc pi pg pb hs),λF₀ H₀ F σ δ H W f h=>?_⟩;simp only[xec] at h;obtain⟨F1,s1,f1⟩:=f.frz (leakss false its);generalize hδ:Py.frz (leakss false its) δ=δ1 at h f1;refine hw F1 σ δ1 H _ f1.sees ?_
 cases e:(evs Φ G false its δ1).bind (itemsD k) with
 |bad=>rw[e] at h;exact h
 |exc c=>rw[e] at h;exact(show False from h).elim
 |ok xs=>
  rw[e] at h;have h:PostS X.K cl XE F₀ H₀ W (forM (λx δ'=>match spread tgs.length x with
    |none=>.bad
    |some ts=>xecs Φ G n body (sets δ' tgs ts)) xs δ1):=h
  generalize hfb:(λx δ'=>match spread tgs.length x with
    |none=>Out.bad
    |some ts=>xecs Φ G n body (sets δ' tgs ts))=fb at h
  intro F2 H2 J P u2 W2 p2;refine⟨λi m σ' H'=>m=xs.length-i/\i<=xs.length/\∃F' δ',Fit X.K cl F₀ H₀ F' H' σ' δ'/\P F' H'/\PostS X.K cl XE F₀ H₀ W (forM fb (xs.drop i) δ'),⟨_,rfl,Nat.zero_le _,F2,δ1,f1.to u2,p2,by simpa using h⟩,?_⟩;rintro i m σ' H' ⟨rfl,hi,F',δ',f',pH,h'⟩;by_cases hlt:i<xs.length
  ·refine .inr ?_
   obtain⟨go,yl⟩:=W2.go F' H' i xs[i] pH (by simp[hlt]);refine⟨go,λσ3 H3=>∃F3 δ3,Fit X.K cl F₀ H₀ F3 H3 σ3 δ3/\P F3 H3/\PostS X.K cl XE F₀ H₀ W (forM fb (xs.drop (i+1)) δ3),λσ3 H3 z=>⟨xs.length-(i+1),by omega,rfl,hlt,z⟩,λv H3 hy=>?_⟩;obtain⟨u3,rv⟩:=yl v H3 hy;have f3:=f'.to u3;have p3:P F' H3:=W2.st F' H' F' H3 pH (by unfold Stb;rw[xC xF];exact Pres.of_same u3.same) λ_ z=>z;rw[List.drop_eq_getElem_cons hlt,Py.forM.eq_2] at h'
   cases hsp:spread tgs.length xs[i] with
   |none=>
    have:fb xs[i] δ'=.bad:=by rw[←hfb];simp only[hsp]
    rw[this] at h';exact h'.elim
   |some ts=>
    have hx:fb xs[i] δ'=xecs Φ G n body (sets δ' tgs ts):=by rw[←hfb];simp only[hsp]
    rw[hx] at h';refine hgq F' H3 σ' v xs[i] ts _ hsp rv λvs rvs=>?_;have f4:=f3.sets tgs rvs;obtain⟨Hm,f5,back⟩:=f4.rebase;refine ib F' Hm F' _ _ H3 _ f5 ?_
    cases e2:xecs Φ G n body (sets δ' tgs ts) with
    |nx δ6=>
     rw[e2] at h';intro F6 σ6 H6 f6;obtain⟨up,pr,sb,bk⟩:=back F6 H6 f6.up;exact⟨F6,δ6,bk σ6 δ6 f6,W2.st F' H3 F6 H6 p3 (by unfold Stb;rw[xC xF];exact pr) sb,h'⟩
    |ct δ6=>
     rw[e2] at h';intro F6 σ6 H6 f6;obtain⟨up,pr,sb,bk⟩:=back F6 H6 f6.up;exact⟨F6,δ6,bk σ6 δ6 f6,W2.st F' H3 F6 H6 p3 (by unfold Stb;rw[xC xF];exact pr) sb,h'⟩
    |bk δ6=>
     rw[e2] at h';intro F6 σ6 H6 f6;obtain⟨up,pr,sb,bk⟩:=back F6 H6 f6.up;exact h' F6 σ6 H6 (bk σ6 δ6 f6)
    |rt d=>
     rw[e2] at h';intro F6 v6 H6 u6 r6;exact h' F6 v6 H6 (back F6 H6 u6).1 r6
    |xc c δ6=>rw[e2] at h';exact(show False from h').elim
    |bad=>rw[e2] at h';exact h'
  ·have ei:i=xs.length:=by omega
   subst ei;refine .inl ⟨W2.stop F' H' pH,?_⟩;rw[List.drop_length,Py.forM.eq_1] at h';exact h' F' σ' H' f'
theorem sB(hi:OkT X.nox cl (λ_ _ _=>False) Φ G tx c)(hb:OkSs X.nox cl (λ_ _ _=>False) Φ G n body b):OkS X cl XE Φ G n (.whl tx body) (.While c b [] pos):=by
 obtain⟨tc,pc,ic⟩:=hi;obtain⟨tb,pb,ib⟩:=hb;refine⟨_,PS.nox (tS (X:=X.nox) PassesOwn.never pc pb),λF₀ H₀ F σ δ H W f h=>?_⟩;simp only[xec] at h;refine⟨λm σ' H'=>∃F' δ',Fit X.K cl F₀ H₀ F' H' σ' δ'/\PostS X.K cl XE F₀ H₀ W (whlM (evT Φ G tx) (Py.frz (leaksT tx)) (xecs Φ G n body) m δ'),⟨n,F,δ,f,h⟩,?_⟩;rintro m σ' H' ⟨F',δ',f',h'⟩
 cases m with
 |zero=>exact h'.elim
 |succ m=>
  obtain⟨F1,s1,f1⟩:=f'.frz (leaksT tx);simp only[whlM] at h';refine ic F1 σ' _ H' _ f1.sees ?_
  cases e:evT Φ G tx (Py.frz (leaksT tx) δ') with
  |bad=>rw[e] at h';exact h'
  |exc c=>rw[e] at h';exact(show False from h').elim
  |ok t=>
   rw[e] at h';intro F2 H2 u2
   cases t with
   |true=>
    rw[xE rfl];refine⟨λσ3 H3=>∃F3 δ3,Fit X.K cl F₀ H₀ F3 H3 σ3 δ3/\PostS X.K cl XE F₀ H₀ W (whlM (evT Φ G tx) (Py.frz (leaksT tx)) (xecs Φ G n body) m δ3),λσ3 H3 z=>⟨m,Nat.lt_succ_self m,z⟩,?_⟩;refine ib F₀ H₀ F2 σ' _ H2 _ (f1.to u2) ?_
    cases e2:xecs Φ G n body (Py.frz (leaksT tx) δ') with
    |nx δ6=>rw[e2] at h';exact λF6 σ6 H6 f6=>⟨F6,δ6,f6,h'⟩
    |ct δ6=>rw[e2] at h';exact λF6 σ6 H6 f6=>⟨F6,δ6,f6,h'⟩
    |bk δ6=>rw[e2] at h';exact λF6 σ6 H6 f6=>h' F6 σ6 H6 f6
    |rt d=>rw[e2] at h';exact h'
    |xc c δ6=>rw[e2] at h';exact(show False from h').elim
    |bad=>rw[e2] at h';exact h'
   |false=>
    rw[xC xF];exact h' F2 σ' H2 (f1.to u2)
def tSs(K:PySem.W.Frag)(cl:Nat->Addr)(XE:Nat->St->Hp->Prop)(Φ:Nat->List D->R D)(G:List D)(n:Nat)(sms:List Sm):TS:=λW σ H=>∃F₀ H₀ F δ,Fit K cl F₀ H₀ F H σ δ/\PostS K cl XE F₀ H₀ W (xecs Φ G n sms δ)
theorem OkSs.pss(h:OkSs X cl XE Φ G n sms sts):PSs X sts (tSs X.K cl XE Φ G n sms):=by
 obtain⟨t,p,i⟩:=h;exact λpins s σ H W I ⟨F₀,H₀,F,δ,f,z⟩=>p pins s σ H W I (i F₀ H₀ F σ δ H W f z)
theorem PostS.quiet(h:PostS K cl XE F₀ H₀ W (match o with|.xc _ _=>.bad|o=>o)):PostS K cl (λ_ _ _=>False) F₀ H₀ W o:=by
 cases o<;>first|exact h|exact(show False from h).elim
theorem oks_try{CE:Addr}(hx:X.ex=[])(hst:X.stack=X.env::X.outer)(hfm:X.env.frame=some X.env.locals)(hg:Gl X cn)(hm:X.mg cn=some (.ref CE))(hdb:(cn==("__debug__":Str))=false)
  (hcs:∀c∈cs,PySem.W.exmOne X.K (.ref (cl c)) (.ref CE)=some true) (ib:∀pins XH,OkSs (tryCx X cl pins XH) cl XH Φ G n body b) (ih:∀a,OkSs (hdCx X a) cl (λ_ _ _=>False) Φ G n hb (b0::suite)):
  OkS X cl XE Φ G n (.tryx body cs none hb) (.Try b [.ExceptHandler (some (.Name cn np)) none (b0::suite) hpos] [] [] pos):=by
 refine⟨_,ps_try (cl:=cl) (th:=tSs X.K cl (λ_ _ _=>False) Φ G n hb) hx hst hfm hg hm hdb λa=>(ih a).pss,λF₀ H₀ F σ δ H W f h pins=>?_⟩;obtain⟨t,p,i⟩:=ib pins (hdR X cl CE (tSs X.K cl (λ_ _ _=>False) Φ G n hb) W);refine⟨t,p,i F₀ H₀ F σ δ H W f ?_⟩;simp only[xec] at h
 cases e:xecs Φ G n body δ with
 |xc c δ'=>
  rw[e] at h;intro F' σ' H' f';by_cases hc:cs.contains c=true
  ·simp only[hc,xD] at h
   exact⟨hcs c (by simpa using hc),F₀,H₀,F',δ',f',h.quiet⟩
  ·simp only[hc] at h;exact(show False from h).elim
 |nx δ'=>rw[e] at h;exact h
 |bk δ'=>rw[e] at h;exact h
 |ct δ'=>rw[e] at h;exact h
 |rt d=>rw[e] at h;exact h
 |bad=>rw[e] at h;exact h
end
section
variable{P:Program}{w:World}{K:PySem.W.Frag}{mg:Str->Option Value}{base:Heap}{cl:Nat->Addr}{Pg:Prog}
theorem mR{Fn:Py.Fn}(hf:Pg.fns[f]?=some Fn)(h:spOf K cl (Phi Pg k) f vs H Q E):vs.length=Fn.np:=by
 obtain⟨F,ds,tr,r,z⟩:=h;rw[r.length]
 cases k with
 |zero=>exact z.elim
 |succ k=>
  simp only[Phi,hf] at z;by_cases hl:ds.length=Fn.np
  ·exact hl
  ·rw[xC hl] at z;exact z.elim
theorem sE{Fn:Py.Fn}(tr:Trk F H)(r:Reps K cl F H ds vs)(hl:ds.length=Fn.np)(hn:Fn.ns=N.length)(hp:Fn.np<=Fn.ns):Fit K cl F H F H (start N vs) (startD Fn ds):=by
 have hvl:=r.length;have get:∀(i:Nat)(o:Bool×D),(startD Fn ds)[i]?=some (some o)->∃d,ds[i]?=some d/\o=(false,d):=λi o z=>by
  unfold startD at z;by_cases hi:i<ds.length
  ·rw[zG (by simpa using hi),zN] at z
   cases e:ds[i]? with
   |none=>rw[e] at z;cases z
   |some d=>rw[e] at z;cases z;exact⟨d,rfl,rfl⟩
  ·rw[zD (by simpa using hi),zE] at z
   split at z<;>cases z
 refine⟨⟨?_,tr,λi d z=>?_,λi d z=>?_⟩,Up.refl F H,λi d a z _=>?_,λi j d e a _ z _ _=>?_⟩
 ·unfold start startD
  rw[xL,xL,xB,xB,zL,zL];omega
 ·obtain⟨d',e1,e2⟩:=get i _ z
  cases e2;obtain⟨v,e3,rv⟩:=r.get e1;refine⟨v,?_,rv⟩;unfold start;rw[zG (by
   have:=(List.getElem?_eq_some_iff.mp e3).1;simpa using this),zN,e3]
  rfl
 ·obtain⟨d',_,e2⟩:=get i _ z;cases e2
 ·obtain⟨d',_,e2⟩:=get i _ z;cases e2
 ·obtain⟨d',_,e2⟩:=get i _ z;cases e2
abbrev cxE(P:Program)(w:World)(K:PySem.W.Frag)(mg:Str->Option Value)(base:Heap)(N:List Str)(qual:Str)(scope:Scope)(f:Addr)(cd:Value)(A:Around)(outer:List Env)(s:Shared)(H:Hp)(E:XK):Cx:=
 cxOf (CXE P w) P w K mg base N qual scope f cd A outer s H E
theorem def_ok{st:Stmt}{Fn:Py.Fn}(F:Fun K x qual st fa fd)(S:FnScope N ps (defScope st))(hf:Pg.fns[f]?=some Fn)(hnp:Fn.np=ps.length)(hns:Fn.ns=N.length)
  (hb:∀(cd:Value)(A:Around)(outer:List Env)(s:Shared)(H:Hp)(E:XK),Room k (A.deeper (envOfC qual (defScope st) s.heap.objs.size fa cd))->
   OkSs (cxE P w K mg base N qual (defScope st) fa cd A outer s H E) cl (λc _ H'=>E (.ref (cl c)) none H') (Phi Pg j) Pg.gls 1000 Fn.body (defBody st)):
  FnOk P w K mg base (CXE P w) (k+1) fa fd ps (spOf K cl (Phi Pg (j+1)) f):=by
 obtain⟨oc,od,kV,doc,pm,an,cdv,ct,osl,rfl,lk,hcd⟩:=F.ex;refine fn_of lk hcd S (λvs H Q E h=>by rw[mR hf h,hnp]) λA outer s H vs Q E hr h=>?_;have hvl:=mR hf h;obtain⟨F0,ds,tr,r,z⟩:=h;obtain⟨t,pt,it⟩:=hb cdv A outer s H E hr;have hl:ds.length=Fn.np:=by rw[←r.length];exact hvl
 have hle:Fn.np<=Fn.ns:=by
  rw[hnp,hns];have:=congrArg List.length S.pre;rw[yS] at this;omega
 refine⟨t,pt,it F0 H F0 (start N vs) (startD Fn ds) H _ (sE tr r hl hns hle) ?_⟩;simp only[Phi,hf,xE hl] at z
 cases e:xecs (Phi Pg j) Pg.gls 1000 Fn.body (startD Fn ds) with
 |nx δ=>rw[e] at z;exact λF' σ' H' f'=>z F' .non H' f'.up (by simp[Rep])
 |rt d=>rw[e] at z;exact λF' v H' u rp=>z F' v H' u rp
 |xc c δ=>rw[e] at z;exact λF' σ' H' f'=>z F' H' f'.up
 |bk δ=>rw[e] at z;exact z.elim
 |ct δ=>rw[e] at z;exact z.elim
 |bad=>rw[e] at z;exact z.elim
theorem vC:FnOk P w K mg base (CXE P w) k fa fd ps (spOf K cl (Phi Pg 0) f):=
 ⟨λvs H Q E ⟨F,ds,_,_,z⟩=>z.elim,λA outer s H args us vs Q E _ _ _ _ ⟨F,ds,_,_,z⟩=>z.elim⟩
end
end L2.Snd
namespace L2
open PySem PySem.Spec PyProof.Rows
theorem sF{P:Program}{w:World}{K:PySem.W.Frag}{mg mb:Str->Option Value}{CX:CXT}{k:Nat}{fa a:Addr}{fd:FuncData}{x:Str}{sp:Sp}{s₁:Shared}{vs:List Value}{ns:List Int}
  (KX:K.In s₁.heap) (hns:s₁.heap.Ns mainGlobals mg) (hb:s₁.heap.Ns builtinsNs mb) (hbb:∀x:Str,x≠"__name__"->mb x=bootBuiltins x) (hlim:s₁.heap.NoLimit) (hg:s₁.gens= #[])
  (ha:s₁.heap.get? a=some {cls:=.type "list",data:=.seq vs.toArray}) (hi:IntsAre vs ns) (hl:ns.length<=sizeLine) (hr:Room k callerA)
  (F:∀base:Heap,K.In base->base.Ns mainGlobals mg->(∀b o,s₁.heap.get? b=some o->(∀its n,o.data≠.seq its n)->base.get? b=some o)->FnOk P w K mg base CX k fa fd [x] sp) (hbind:∀(s:Shared)(u:Value),BindsTo s fd ⟨[u],[]⟩ [(x,u)])
  (hsp:∀H:Hp,Only H->SqL K H a (ns.map V.int)->sp [.ref a] H (λv _=>v=.bl true) λ_ _ _=>False)
  (hCX:∀H e s',CX [] H s₁ (λ_ _ _=>False) e s'->False):
  codeAny (model P w) callerA (.call (.ref fa) ⟨[.ref a],[]⟩) (λr s'=>r=.ok (.ret (.bool true))/\OldK s₁.heap s'.heap/\s'.os=s₁.os/\AllBare s'.gens) s₁:=by
 have rv:=j0 hi;have lenV:=hi.length
 --from an abstract heap in which nothing but the script may be tracked
 have core:∀H:Hp,Only H->SqL K H a (ns.map V.int)->HOk P w H s₁.heap->(∀b,H b≠none->b=a)->(H a≠none->K.lookup a=none)->
   codeAny (model P w) callerA (.call (.ref fa) ⟨[.ref a],[]⟩) (λr s'=>r=.ok (.ret (.bool true))/\OldK s₁.heap s'.heap/\s'.os=s₁.os/\AllBare s'.gens) s₁:=by
  intro H hO hS hok hA hK;have base_of:∀{b:Addr}{o:Obj},s₁.heap.get? b=some o->H b=none->(hidT s₁.heap H).get? b=some o:=λe n=>tN e n;have noA:∀{b:Addr}{o:Obj}{es:Array DictEntry}{ep:Nat},s₁.heap.get? b=some o->o.data=.dict es ep->H b=none:=λ{b o es ep} e d=>by
   cases q:H b with
   |none=>rfl
   |some u=>
    have e':b=a:=hA b (by rw[q];simp);subst e';rw[ha] at e;cases e;have d':Data.seq vs.toArray _=Data.dict es ep:=d;cases d'
  have noS:∀{b:Addr}{o:Obj},s₁.heap.get? b=some o->(∀its n,o.data≠.seq its n)->H b=none:=λ{b o} e nd=>by
   cases q:H b with
   |none=>rfl
   |some u=>
    have e':b=a:=hA b (by rw[q];simp);subst e';rw[ha] at e;cases e;exact(nd _ _ rfl).elim
  have nsK:∀{b:Addr}{m:Str->Option Value},s₁.heap.Ns b m->(hidT s₁.heap H).Ns b m:=λ{b m} ⟨o,es,ep,e,d,r⟩=>⟨o,es,ep,base_of e (noA e d),d,r⟩
  have hKb:K.In (hidT s₁.heap H):=λb o e=>base_of (KX b o e) (by
   cases q:H b with
   |none=>rfl
   |some u=>
    have e':b=a:=hA b (by rw[q];simp);subst e';rw[hK (by rw[q];simp)] at e;cases e)
  have hM:Mod K mg (hidT s₁.heap H):=⟨hKb,nsK hns,⟨mb,nsK hb,hbb⟩,let⟨mc,h1,h2⟩:=hlim;⟨mc,nsK h1,h2⟩⟩
  have e0:Env0 P w K mg (hidT s₁.heap H) callerA [] s₁ H:=⟨rfl,hM,λb o e=>of_hidT e,Nat.le_of_eq (rD _ _),trivial,λb hb=>absurd (show b∈([]:List Addr) from hb) (by simp),hok,.of_eq hg⟩
  refine codeAny_mono ((F _ hKb (nsK hns) λb o e nd=>base_of e (noS e nd)).run callerA [] s₁ H ⟨[.ref a],[]⟩ [.ref a] [.ref a] _ _ hr e0 (hbind s₁ (.ref a)) (.cons rfl .nil) (hsp H hO hS)) λr s' h=>?_
  cases r with
  |error e=>exact(hCX H e s' h).elim
  |ok fl=>
   cases fl with
   |next=>exact False.elim h
   |brk=>exact False.elim h
   |cont=>exact False.elim h
   |ret u=>
    obtain⟨v,H',os,bare,un,hok',r',q⟩:=h;have q':v=.bl true:=q;subst q';obtain rfl:u=Value.bool true:=r';refine⟨rfl,OldK.of_keep λb o e=>?_,os,bare⟩
    cases q:H b with
    |none=>exact un.keep b o e q (by intro z;exact absurd (show b∈([]:List Addr) from z) (by simp)) (by simp)
    |some u=>
     rcases hO b with z|⟨ob,xs,z⟩
     ·rw[q] at z;cases z
     ·have z2:=un.frzs b ob _ z
      obtain⟨e1,_⟩:=hok b _ z;obtain⟨e2,_⟩:=hok' b _ z2;rw[e] at e1;cases e1;exact e2
 cases hk:K.lookup a with
 |some o=>
  --the script is one of the module's own objects
  have e:=KX a o hk;rw[ha] at e;cases e;refine core (λ_=>none) (λ_=>.inl rfl) (.inr ⟨_,vs.toArray,_,hk,rfl,rfl,rfl,by rw[xO,lenV];exact hl,by simpa using rv⟩) (λb u z=>by have z':(none:Option HO)=some u:=z;cases z') (λb z=>absurd rfl z) λz=>absurd rfl z
 |none=>
  refine core (λb=>if b=a then some (.frz {cls:=.type "list",data:=.seq vs.toArray} (.lst (ns.map V.int))) else none) (λb=>?_) (.inl (.inr ⟨{cls:=.type "list",data:=.seq vs.toArray},xE rfl⟩)) (λb u z=>?_) (λb z=>?_) λ_=>hk
  ·by_cases hb:b=a
   ·exact .inr ⟨_,_,xE hb⟩
   ·exact .inl (xC hb)
  ·by_cases hb:b=a
   ·have z':=(xE hb).symm.trans z
    cases z';subst hb;exact⟨ha,by rw[xB];exact hl,vs,_,rv,ha⟩
   ·have z':=(xC hb).symm.trans z
    cases z'
  ·by_cases hb:b=a
   ·exact hb
   ·exact absurd (xC hb) z
theorem iQ(O:OwnCls x C bm nid mg h)(k:∀a o,h.get? a=some o->(∀its n,o.data≠.seq its n)->b.get? a=some o):OwnCls x C bm nid mg b:=by
 obtain⟨tl,N,nm,q,bs,hdct,sn,sub,ab,col,dd,k0,k1,k2,k3,k5,mN,hC,hN,hni,T⟩:=O.obj;have ns:∀{N:Addr}{m:Str->Option Value},h.Ns N m->b.Ns N m:=λ{N m} ⟨o,es,ep,e,d,r⟩=>⟨o,es,ep,k _ _ e λits n z=>(by rw[d] at z;cases z),d,r⟩
 refine⟨O.bound,tl,N,nm,q,bs,hdct,sn,sub,ab,col,dd,k0,k1,k2,k3,k5,mN,k _ _ hC (λits n z=>by cases z),ns hN,hni,?_⟩;clear hC hN hni
 induction T with
 |base=>exact .base
 |own hA hN hni _ ih=>exact .own (k _ _ hA λits n z=>by cases z) (ns hN) hni ih
namespace Snd
open Py
theorem sp_law{K:PySem.W.Frag}(e:Φ f [.scr ns]=.ok (.bl true))(hO:Only H)(hS:SqL K H a (ns.map V.int)):spOf K cl Φ f [.ref a] H (λv _=>v=.bl true) λ_ _ _=>False:=by
 refine⟨λ_=>False,[.scr ns],λ_ z=>z.elim,Reps.cons ?_ Reps.nil,?_⟩
 ·simp only[Rep]
  refine⟨a,rfl,?_⟩;rcases hS with(h|⟨o,h⟩)|h
  ·rcases hO a with z|⟨o,xs,z⟩
   ·rw[z] at h;cases h
   ·rw[z] at h;cases h
  ·exact .inl ⟨o,h⟩
  ·exact .inr h
 ·rw[e]
  intro F' v H' u r;simpa only[Rep] using r
theorem no_cxe(h:CXE P w [] H s (λ_ _ _=>False) e s'):False:=by
 obtain⟨a,C,H',_,_,_,_,_,_,z⟩:=h;exact z
end Snd
end L2
namespace L2.Snd
open PySem PySem.Spec PyProof.Rows L2 Py
section
variable{X:Cx}{cl:Nat->Addr}{XE:Nat->St->Hp->Prop}{YE:Nat->Hp->Prop}{Φ:Nat->List D->R D}{G:List D}{n:Nat}{m fr:Bool}
theorem pc_R(ho:OpR X (compareOp op) r)(ha:PE X a ta)(hb:PE X b tb):PC X op a b (tOp r ta tb):=
 λpins s σ H Q I h=>binT ha hb I h λv u s2 x y H2 I2 rx ry q=>ho pins s2 σ H2 x y v u Q I2 rx ry q
structure OkCm(X:Cx)(cl:Nat->Addr)(XE:Nat->St->Hp->Prop)(Φ:Nat->List D->R D)(G:List D)(op:CmpOp)(ex:Ex)(a b:Expr):Prop where
 ok:∃t,PC X op a b t/\∀F σ δ H Q,Sees X.K cl F H σ δ->Post X.K cl (λc=>XE c σ) true false F H Q (ev Φ G true ex δ)->t σ H Q
 bl:∀δ d,ev Φ G true ex δ=.ok d->∃b,d=.bl b
 md:∀m δ,ev Φ G m ex δ=ev Φ G true ex δ
theorem OkCm.e(h:OkCm X cl XE Φ G op ex a b)(hm:behindInMarks op b=false):OkE X cl XE Φ G m ex (.Compare a [op] [b] pos):=by
 obtain⟨t,pc,i⟩:=h.ok;refine⟨t,pe_cmp pc hm,λF σ δ H Q S z=>i F σ δ H Q S ?_⟩;rw[h.md] at z;refine Meet.mono z (λd e q F' v H' u g=>?_) λc q=>q;obtain⟨b',rfl⟩:=h.bl δ d e;refine q F' v H' u ?_;have gv:v=.bl b':=g.got.bl;subst gv;exact Res.gives (.of_rep (by simp[Rep]) (by simp[isOwn]))
theorem OkCm.t(h:OkCm X cl XE Φ G op ex a b)(hm:behindInMarks op b=false):OkT X cl XE Φ G (.leaf ex) (.Compare a [op] [b] pos):=by
 obtain⟨t,pc,i⟩:=h.ok;refine⟨_,pt_cmp pc hm,λF σ δ H Q S z=>i F σ δ H _ S ?_⟩;simp only[evT] at z;refine Meet.mono (Meet.bind z) (λd e q F' v H' u g=>?_) λc q=>q;obtain⟨b',rfl⟩:=h.bl δ d e;have gv:v=.bl b':=g.got.bl;exact⟨b',gv,q F' H' u⟩
theorem fN(hr:OpR X (compareOp op) r)(ia:OkE X cl XE Φ G true ea a)(ib:OkE X cl XE Φ G true eb b)
  (ho:∀(YE:Nat->Hp->Prop) F H x y p q Q,Trk F H->Got X.K cl F H p x->Got X.K cl F H q y->Post X.K cl YE true false F H Q (op2 o p q)->r x y H Q) (hbl:∀p q d,op2 o p q=.ok d->∃b,d=.bl b):OkCm X cl XE Φ G op (.op2 o ea eb) a b:=by
 obtain⟨ta,pa,ia⟩:=ia;obtain⟨tb,pb,ib⟩:=ib;refine⟨⟨_,pc_R hr pa pb,λF σ δ H Q S h=>two (a:=a) (b:=b) (o:=op2 o) ia ib ho S (by simpa only[ev] using h)⟩,λδ d e=>?_,λm δ=>by simp only[ev]⟩;simp only[ev] at e
 cases e1:ev Φ G true ea δ with
 |ok p=>
  cases e2:ev Φ G true eb δ with
  |ok q=>rw[e1,e2] at e;exact hbl p q d e
  |exc c=>rw[e1,e2] at e;cases e
  |bad=>rw[e1,e2] at e;cases e
 |exc c=>rw[e1] at e;cases e
 |bad=>rw[e1] at e;cases e
variable{ea eb:Ex}{a b:Expr}{pos:Pos}
theorem bl_lt(p q d:D)(h:op2 .lt p q=.ok d):∃b,d=.bl b:=by
 rcases sp_lt p q with⟨i,j,_,_,e⟩|e<;>rw[e] at h<;>cases h;exact⟨_,rfl⟩
theorem bl_gt(p q d:D)(h:op2 .gt p q=.ok d):∃b,d=.bl b:=by
 rcases sp_gt p q with⟨i,j,_,_,e⟩|e<;>rw[e] at h<;>cases h;exact⟨_,rfl⟩
theorem bl_ge(p q d:D)(h:op2 .ge p q=.ok d):∃b,d=.bl b:=by
 rcases sp_ge p q with⟨i,j,_,_,e⟩|e<;>rw[e] at h<;>cases h;exact⟨_,rfl⟩
theorem op2_eq(p q:D):op2 .eq p q=if pln 9 p&&pln 9 q&&kin p q then .ok (.bl (eqD p q)) else .bad:=by cases p<;>cases q<;>rfl
theorem op2_ne(p q:D):op2 .ne p q=if pln 9 p&&pln 9 q&&kin p q then .ok (.bl (!eqD p q)) else .bad:=by cases p<;>cases q<;>rfl
theorem qC(p q:D):op2 .notIn p q=(isin p q).bind λb=>.ok (.bl (!b)):=by cases p<;>cases q<;>rfl
theorem bl_eq(p q d:D)(h:op2 .eq p q=.ok d):∃b,d=.bl b:=by
 rw[op2_eq] at h;split at h<;>cases h;exact⟨_,rfl⟩
theorem bl_ne(p q d:D)(h:op2 .ne p q=.ok d):∃b,d=.bl b:=by
 rw[op2_ne] at h;split at h<;>cases h;exact⟨_,rfl⟩
theorem bl_nin(p q d:D)(h:op2 .notIn p q=.ok d):∃b,d=.bl b:=by
 rw[qC] at h;cases e:isin p q<;>rw[e] at h<;>cases h;exact⟨_,rfl⟩
theorem c_lt(ia:OkE X cl XE Φ G true ea a)(ib:OkE X cl XE Φ G true eb b):OkCm X cl XE Φ G .Lt (.op2 .lt ea eb) a b:=fN op_lt ia ib (λYE F H x y p q Q t g1 g2 h=>eS (k:=λi j=>.bl (decide (i<j))) sp_lt (λ_ _=>by simp[Rep]) (λ_ _=>rfl) g1 g2 h) bl_lt
theorem c_gt(ia:OkE X cl XE Φ G true ea a)(ib:OkE X cl XE Φ G true eb b):OkCm X cl XE Φ G .Gt (.op2 .gt ea eb) a b:=fN op_gt ia ib (λYE F H x y p q Q t g1 g2 h=>eS (k:=λi j=>.bl (decide (j<i))) sp_gt (λ_ _=>by simp[Rep]) (λ_ _=>rfl) g1 g2 h) bl_gt
theorem c_ge(ia:OkE X cl XE Φ G true ea a)(ib:OkE X cl XE Φ G true eb b):OkCm X cl XE Φ G .GtE (.op2 .ge ea eb) a b:=fN op_ge ia ib (λYE F H x y p q Q t g1 g2 h=>eS (k:=λi j=>.bl (decide (j<=i))) sp_ge (λ_ _=>by simp[Rep]) (λ_ _=>rfl) g1 g2 h) bl_ge
theorem c_eq(hu:X.A.units+20<cLine)(ia:OkE X cl XE Φ G true ea a)(ib:OkE X cl XE Φ G true eb b):OkCm X cl XE Φ G .Eq (.op2 .eq ea eb) a b:=fN (op_eqD (cl:=cl) hu) ia ib (λYE F H x y p q Q t g1 g2 h=>ho_eq g1 g2 h) bl_eq
theorem c_ne(hu:X.A.units+20<cLine)(ia:OkE X cl XE Φ G true ea a)(ib:OkE X cl XE Φ G true eb b):OkCm X cl XE Φ G .NotEq (.op2 .ne ea eb) a b:=fN (op_neD (cl:=cl) hu) ia ib (λYE F H x y p q Q t g1 g2 h=>ho_ne g1 g2 h) bl_ne
theorem c_nin(ia:OkE X cl XE Φ G true ea a)(ib:OkE X cl XE Φ G true eb b):OkCm X cl XE Φ G .NotIn (.op2 .notIn ea eb) a b:=fN lA ia ib (λYE F H x y p q Q t g1 g2 h=>ho_in true g1 g2 (by rw[qC] at h;simpa using h)) bl_nin
theorem vD[Decidable c]{b:Bool}(e:(if c then R.ok (D.bl b) else R.bad)=.ok d):∃b,d=.bl b:=by
 split at e<;>cases e;exact⟨_,rfl⟩
theorem c_isN(ia:OkE X cl XE Φ G true ea a):OkCm X cl XE Φ G .Is (.op1 .isNone ea) a (.Constant .none j p):=by
 obtain⟨ta,pa,ia⟩:=ia;refine⟨⟨_,pc_isN pa,λF σ δ H Q S h=>?_⟩,λδ d e=>?_,λm δ=>by simp only[ev]⟩
 ·simp only[ev] at h
  exact ia F σ δ H _ S (Meet.mono (Meet.bind h) (λp _ hp F1 x H1 u1 g1=>ho_isN g1.got (Post.up hp u1)) λc z=>z)
 ·simp only[ev] at e
  cases e1:ev Φ G true ea δ with
  |ok p=>
   rw[e1] at e;have e:op1 .isNone p=.ok d:=e;cases p<;>first|(cases e;done)|(cases e;exact⟨_,rfl⟩)|exact vD e
  |exc c=>rw[e1] at e;cases e
  |bad=>rw[e1] at e;cases e
theorem c_isNN(ia:OkE X cl XE Φ G true ea a):OkCm X cl XE Φ G .IsNot (.op1 .isNotNone ea) a (.Constant .none j p):=by
 obtain⟨ta,pa,ia⟩:=ia;refine⟨⟨_,pc_notN pa,λF σ δ H Q S h=>?_⟩,λδ d e=>?_,λm δ=>by simp only[ev]⟩
 ·simp only[ev] at h
  exact ia F σ δ H _ S (Meet.mono (Meet.bind h) (λp _ hp F1 x H1 u1 g1=>ho_isNN g1.got (Post.up hp u1)) λc z=>z)
 ·simp only[ev] at e
  cases e1:ev Φ G true ea δ with
  |ok p=>
   rw[e1] at e;have e:op1 .isNotNone p=.ok d:=e;cases p<;>first|(cases e;done)|(cases e;exact⟨_,rfl⟩)|exact vD e
  |exc c=>rw[e1] at e;cases e
  |bad=>rw[e1] at e;cases e
theorem c_din(neg:Bool)(hu:X.A.units+20<cLine)(ia:OkE X cl XE Φ G true ea a)(ib:OkE X cl XE Φ G true eb b):OkCm X cl XE Φ G (if neg then .NotIn else .In) (.din neg ea eb) a b:=by
 have hu1:X.A.units+1<cLine:=yK (Nat.add_le_add_left (by decide) _) hu;obtain⟨ta,pa,ia⟩:=ia;obtain⟨tb,pb,ib⟩:=ib;have rd:∀F σ δ H Q,Sees X.K cl F H σ δ->Post X.K cl (λc=>XE c σ) true false F H Q (ev Φ G true (.din neg ea eb) δ)->ta σ H λy H1=>tb σ H1 λx H2=>∃a o,x=.ref a/\DGet H2 a y o/\Q (.bl (if neg then !o.isSome else o.isSome)) H2:=λF σ δ H Q S h=>by
  simp only[ev] at h;refine ia F σ δ H _ S (Meet.mono (Meet.bind h) (λq _ hp F1 y H1 u1 g1=>?_) λc z=>z);refine ib F1 σ δ H1 _ (S.up u1) (Meet.mono (Meet.bind (Post.up hp u1)) (λp _ hq F2 x H2 u2 g2=>?_) λc z=>z);have hq2:=Post.up (K:=X.K) (cl:=cl) hq u2;obtain⟨ks,ds,i,rfl,rfl⟩:∃ks ds i,p=.dic ks ds/\q=.int i:=by
   cases p<;>cases q<;>first|exact(show False from hq2).elim|exact⟨_,_,_,rfl,rfl⟩
  obtain⟨l,kvs,rfl,h1,h2,h3⟩:=g2.got.dic;refine⟨l,_,rfl,by rw[(g1.got.up u2).int];exact DGet.k (k:=Sum.inl i) h1,?_⟩;rw[←(lI i h2 h3).2];exact Post.bl hq2
 refine⟨?_,λδ d e=>?_,λm δ=>by simp only[ev]⟩
 ·cases neg with
  |true=>exact⟨_,rQ hu1 pa pb,rd⟩
  |false=>exact⟨_,pc_din hu1 pa pb,rd⟩
 ·simp only[ev] at e
  cases e1:ev Φ G true ea δ with
  |ok p=>
   cases e2:ev Φ G true eb δ with
   |ok q=>
    rw[e1,e2] at e;simp only[R.bind_ok] at e;cases q<;>cases p<;>first|(cases e;exact⟨_,rfl⟩)|cases e
   |exc c=>rw[e1,e2] at e;cases e
   |bad=>rw[e1,e2] at e;cases e
  |exc c=>rw[e1] at e;cases e
  |bad=>rw[e1] at e;cases e
theorem x_var(hN:X.N[i]?=some x:=by rfl)(hv:Vis X.env.scope x:=by first|exact Or.inl rfl|exact Or.inr (Or.inl rfl)|exact Or.inr (Or.inr rfl))(hd:(x==("__debug__":Str))=false:=by decide)(hcd:(x==("__classdict__":Str))=false:=by decide):
  OkE X cl XE Φ G m (.var i) (.Name x pos):=ok_var hN hv hd hcd
theorem x_add(ia:OkE X cl XE Φ G true ea a)(ib:OkE X cl XE Φ G true eb b):OkE X cl XE Φ G m (.op2 .add ea eb) (.BinOp a .Add b pos):=fJ (op_add.or (op_cat.or uC)) ia ib λYE F H x y p q Q t g1 g2 h=>ho_add t g1 g2 h
theorem x_sub(ia:OkE X cl XE Φ G true ea a)(ib:OkE X cl XE Φ G true eb b):OkE X cl XE Φ G m (.op2 .sub ea eb) (.BinOp a .Sub b pos):=fJ op_sub ia ib λYE F H x y p q Q t g1 g2 h=>eS (k:=λi j=>.int (i-j)) sp_sub (λ_ _=>by simp[Rep]) (λ_ _=>rfl) g1 g2 h
theorem x_mul(ia:OkE X cl XE Φ G true ea a)(ib:OkE X cl XE Φ G true eb b):OkE X cl XE Φ G m (.op2 .mul ea eb) (.BinOp a .Mult b pos):=fJ op_mul ia ib λYE F H x y p q Q t g1 g2 h=>lE (C:=λi j=>(-(2^64)<i/\i<2^64)\/(-(2^64)<j/\j<2^64)) (k:=λi j=>.int (i*j)) sp_mul (λ_ _=>by simp[Rep]) (λ_ _=>rfl) g1 g2 h
theorem x_mod(ia:OkE X cl XE Φ G true ea a)(ib:OkE X cl XE Φ G true eb b):OkE X cl XE Φ G m (.op2 .mod ea eb) (.BinOp a .Mod b pos):=fJ op_mod ia ib λYE F H x y p q Q t g1 g2 h=>lE (C:=λi j=>0<j) (k:=λi j=>.int (i%j)) sp_mod (λ_ _=>by simp[Rep]) (λ_ _=>rfl) g1 g2 h
theorem x_fdiv(ia:OkE X cl XE Φ G true ea a)(ib:OkE X cl XE Φ G true eb b):OkE X cl XE Φ G m (.op2 .fdiv ea eb) (.BinOp a .FloorDiv b pos):=fJ op_fdiv ia ib λYE F H x y p q Q t g1 g2 h=>lE (C:=λi j=>0<j/\j<1073741824) (k:=λi j=>.int (i/j)) sp_fdiv (λ_ _=>by simp[Rep]) (λ_ _=>rfl) g1 g2 h
theorem x_neg(ia:OkE X cl XE Φ G true ea a):OkE X cl XE Φ G m (.op1 .neg ea) (.UnaryOp .USub a pos):=ok_un un_neg ia λYE F H x p Q t g h=>ho_neg g h
theorem x_at(ia:OkE X cl XE Φ G true ea a)(ib:OkE X cl XE Φ G true eb b)(hs:PlainIx b:=by exact λ_ _=>rfl):OkE X cl XE Φ G m (.op2 .at ea eb) (.Subscript a b pos):=ok_ix (ix_list.or ix_tup) hs ia ib λYE F H x y p q Q t g1 g2 h=>ho_at g1 g2 h
theorem x_dget(hu:X.A.units+20<cLine)(ia:OkE X cl XE Φ G true ea a)(ib:OkE X cl XE Φ G true eb b)(hs:NoSl b:=by exact λ_ _=>rfl):OkE X cl XE Φ G m (.dget ea eb) (.Subscript a b pos):=ok_dget (yK (Nat.add_le_add_left (by decide) _) hu) hs ia ib
theorem j7(δ:Sto)(c:Nat):ev Φ G m (.var i) δ≠.exc c:=by
 simp only[ev];cases m<;>simp only[rdR,rdV]<;>(intro z;split at z<;>first|(split at z<;>cases z)|cases z)
theorem x_index{i:Nat}{apos cpos:Pos}(ia:OkE X cl XE Φ G true ea a)(ib:OkE X cl XE Φ G true (.var i) b)(hbase:attributeBase a "index" X.env (eval a X.env)=eval a X.env:=by rfl)(hline:(apos.endLine==cpos.line)=true:=by rfl)(hs:starEach [b] X.env=[(false,eval b X.env)]:=by rfl):
  OkE X cl XE Φ G m (.op2 .index ea (.var i)) (.Call (.Attribute a "index" apos) [b] [] cpos):=qA PySem.F.slot_list_index PySem.F.type_list_index uD ia ib hbase hline hs (λp q=>by cases p<;>first|exact .inl ⟨_,rfl⟩|exact .inr rfl) (λδ c=>j7 δ c) λYE F H x y p q Q g1 g2 h=>uQ g1 g2 h
theorem x_count{i:Nat}{apos cpos:Pos}(ia:OkE X cl XE Φ G true ea a)(ib:OkE X cl XE Φ G true (.var i) b)(hbase:attributeBase a "count" X.env (eval a X.env)=eval a X.env:=by rfl)(hline:(apos.endLine==cpos.line)=true:=by rfl)(hs:starEach [b] X.env=[(false,eval b X.env)]:=by rfl):
  OkE X cl XE Φ G m (.op2 .count ea (.var i)) (.Call (.Attribute a "count" apos) [b] [] cpos):=qA PySem.F.slot_list_count PySem.F.type_list_count uE ia ib hbase hline hs (λp q=>by cases p<;>first|exact .inl ⟨_,rfl⟩|exact .inr rfl) (λδ c=>j7 δ c) λYE F H x y p q Q g1 g2 h=>uR g1 g2 h
theorem x_len{p:Pos}(hm:X.mg "len"=none)(ia:OkE X cl XE Φ G true ea a)(hg:Gl X "len":=by rfl)(hs:starEach (a::[]) X.env=(false,eval a X.env)::starEach [] X.env:=by rfl):OkE X cl XE Φ G m (.op1 .len ea) (.Call (.Name "len" p) [a] [] pos):=
 iN (exs:=[ea]) (o:=lift1 (op1 .len)) ev1 lB hg hm PySem.boot_len (by decide) (by decide) hs rfl (aZ hs ia cA) λYE F H vs ds Q t g h=>ho_len g h
theorem x_dlen{p:Pos}(hm:X.mg "len"=none)(ia:OkE X cl XE Φ G true ea a)(hg:Gl X "len":=by rfl)(hs:starEach [a] X.env=[(false,eval a X.env)]:=by rfl):OkE X cl XE Φ G m (.dlen ea) (.Call (.Name "len" p) [a] [] pos):=ok_dlen hg hm hs ia
theorem x_list{p:Pos}(hm:X.mg "list"=none)(ia:OkE X cl XE Φ G true ea a)(hg:Gl X "list":=by rfl)(hs:starEach (a::[]) X.env=(false,eval a X.env)::starEach [] X.env:=by rfl):OkE X cl XE Φ G m (.op1 .list ea) (.Call (.Name "list" p) [a] [] pos):=
 fK (exs:=[ea]) (o:=lift1 (op1 .list)) ev1 lC hg hm boot_list (by decide) (by decide) hs rfl (aZ hs ia cA) λYE F H vs ds Q t g h=>ho_list t g h
theorem x_tuple{p:Pos}(hm:X.mg "tuple"=none)(ia:OkE X cl XE Φ G true ea a)(hg:Gl X "tuple":=by rfl)(hs:starEach (a::[]) X.env=(false,eval a X.env)::starEach [] X.env:=by rfl):OkE X cl XE Φ G m (.op1 .tuple ea) (.Call (.Name "tuple" p) [a] [] pos):=
 fK (exs:=[ea]) (o:=lift1 (op1 .tuple)) ev1 jP hg hm boot_tuple (by decide) (by decide) hs rfl (aZ hs ia cA) λYE F H vs ds Q t g h=>uM g h
theorem x_max{p:Pos}(hm:X.mg "max"=none)(ia:OkE X cl XE Φ G true ea a)(ib:OkE X cl XE Φ G true eb b)(hc:X.calm=true:=by rfl)(hg:Gl X "max":=by rfl)(hs:starEach (a::[b]) X.env=(false,eval a X.env)::starEach [b] X.env:=by rfl)(hs2:starEach (b::[]) X.env=(false,eval b X.env)::starEach [] X.env:=by rfl)(hpl:(backTo pos (starEach [b] X.env)).any (·.1)=false:=by rfl):
  OkE X cl XE Φ G m (.op2 .max ea eb) (.Call (.Name "max" p) [a,b] [] pos):=
 iN (exs:=[ea,eb]) (o:=lift2 (op2 .max)) ev2 (rJ hc) hg hm boot_max (by decide) (by decide) hs hpl (aZ hs ia (aZ hs2 ib cA)) λYE F H vs ds Q t g h=>ho_max g h
theorem x_isInt{p1 p2:Pos}(hm:X.mg "isinstance"=none)(hm2:X.mg "int"=none)(ia:OkE X cl XE Φ G true ea a)(hg:Gl X "isinstance":=by rfl)(hg2:Gl X "int":=by rfl)(hs:starEach [a,.Name "int" p2] X.env=[(false,eval a X.env),(false,eval (.Name "int" p2) X.env)]:=by rfl):
  OkE X cl XE Φ G m (.op1 .isInt ea) (.Call (.Name "isinstance" p1) [a,.Name "int" p2] [] pos):=oJ (T:="int") (by simp) hg hm hg2 hm2 boot_int (by decide) (by decide) ia hs rfl uT
theorem vE{p1 p2:Pos}(hm:X.mg "isinstance"=none)(hm2:X.mg "bool"=none)(ia:OkE X cl XE Φ G true ea a)(hg:Gl X "isinstance":=by rfl)(hg2:Gl X "bool":=by rfl)(hs:starEach [a,.Name "bool" p2] X.env=[(false,eval a X.env),(false,eval (.Name "bool" p2) X.env)]:=by rfl):
  OkE X cl XE Φ G m (.op1 .isBool ea) (.Call (.Name "isinstance" p1) [a,.Name "bool" p2] [] pos):=oJ (T:="bool") (by simp) hg hm hg2 hm2 boot_bool (by decide) (by decide) ia hs rfl rZ
theorem x_isTup{p1 p2:Pos}(hm:X.mg "isinstance"=none)(hm2:X.mg "tuple"=none)(ia:OkE X cl XE Φ G true ea a)(hg:Gl X "isinstance":=by rfl)(hg2:Gl X "tuple":=by rfl)(hs:starEach [a,.Name "tuple" p2] X.env=[(false,eval a X.env),(false,eval (.Name "tuple" p2) X.env)]:=by rfl):
  OkE X cl XE Φ G m (.op1 .isTup ea) (.Call (.Name "isinstance" p1) [a,.Name "tuple" p2] [] pos):=oJ (T:="tuple") (by simp) hg hm hg2 hm2 boot_tuple (by decide) (by decide) ia hs rfl uU
theorem x_cons(ia:OkE X cl XE Φ G m ea a)(ir:OkA X cl XE Φ G m es as)(hs:starEach (a::as) X.env=(false,eval a X.env)::starEach as X.env:=by rfl):OkA X cl XE Φ G m (ea::es) (a::as):=aZ hs ia ir
theorem x_tup{exs:List Ex}{es:List Expr}{k:Nat}(ia:OkA X cl XE Φ G false exs es)(hl:exs.length<=LIM:=by decide):OkE X cl XE Φ G m (.tup exs) (.Tuple es k pos):=ok_tup hl ia
theorem x_lst(ia:OkA X cl XE Φ G false exs es)(hl:exs.length<=LIM:=by decide):OkE X cl XE Φ G m (.lst exs) (.List es pos):=ok_lst hl ia
theorem x_cm(h:OkCm X cl XE Φ G op ex a b)(hm:behindInMarks op b=false:=by rfl):OkE X cl XE Φ G m ex (.Compare a [op] [b] pos):=h.e hm
theorem t_cm(h:OkCm X cl XE Φ G op ex a b)(hm:behindInMarks op b=false:=by rfl):OkT X cl XE Φ G (.leaf ex) (.Compare a [op] [b] pos):=h.t hm
theorem t_leaf(ia:OkE X cl XE Φ G true ex e)(he:∀whole,isTrue e X.env whole=(do let v←whole;standAt e.pos;holding [v] (truthy v)):=by intro _;rfl):OkT X cl XE Φ G (.leaf ex) e:=ok_leaf he ia
theorem g_one(hN:X.N.Nodup)(hi:X.N[i]?=some x:=by rfl)(hx:Loc X.env.scope x:=by first|exact Or.inl rfl|exact Or.inr rfl)(hf:X.fn x=true\/X.env.scope.names.lookup x=some .local:=by first|exact .inl rfl|exact .inr rfl):OkG X cl [i] (gName i) (.Name x pos):=u8 hN hi hx hf
theorem g_two{i j:Nat}{x y:Str}{k:Nat}{p1 p2:Pos}(hN:X.N.Nodup)(hc:X.calm=true:=by rfl)(hi:X.N[i]?=some x:=by rfl)(hx:Loc X.env.scope x:=by first|exact Or.inl rfl|exact Or.inr rfl)(hf:X.fn x=true\/X.env.scope.names.lookup x=some .local:=by first|exact .inl rfl|exact .inr rfl)
  (hj:X.N[j]?=some y:=by rfl) (hy:Loc X.env.scope y:=by first|exact Or.inl rfl|exact Or.inr rfl) (hf2:X.fn y=true\/X.env.scope.names.lookup y=some .local:=by first|exact .inl rfl|exact .inr rfl):
  OkG X cl [i,j] (gTup X.K 2 (gCons (gName i) (gCons (gName j) gNil))) (.Tuple [.Name x p1,.Name y p2] k pos):=ok_g2 hc hN hi hx hf hj hy hf2
theorem i_rng{tg:Expr}{p:Pos}(hm:X.mg "range"=none)(ia:OkE X cl XE Φ G m ea a)(hg:Gl X "range":=by rfl)(hs:starEach [a] X.env=[(false,eval a X.env)]:=by rfl):OkI X cl XE Φ G m .rng [ea] tg (.Call (.Name "range" p) [a] [] pos):=ok_rng hg hm hs ia
theorem i_enum{elts:List Expr}{tk:Nat}{tpos p:Pos}(hm:X.mg "enumerate"=none)(ia:OkE X cl XE Φ G m ea a)(hg:Gl X "enumerate":=by rfl)(hs:starEach [a] X.env=[(false,eval a X.env)]:=by rfl):OkI X cl XE Φ G m .enum [ea] (.Tuple elts tk tpos) (.Call (.Name "enumerate" p) [a] [] pos):=ok_enum hg hm hs ia
def compScB(Nx:List Str)(kx:Str->Option NameKind)(N':List Str)(caps:List Nat)(ntg:Nat)(scope:Scope):Bool:=
 scope.kind== .function&&scope.names.all (λy=>y.2 != .cell)&&scope.names.all (λy=>y.2 != .local||scope.names.lookup y.1==some .local)
  &&scope.names.all (λy=>y.2 != .free||(kx y.1==some .cell||kx y.1==some .free))&&N'.length==ntg+caps.length
  &&(List.range caps.length).all (λi=>match caps[i]?,N'[ntg+i]? with
   |some j,some x=>Nx[j]?==some x&&scope.names.lookup x==some .free
   |_,_=>true)
theorem j8(h:compScB X.N X.env.kindOf N' caps ntg scope=true):CompSc X N' caps ntg scope:=by
 unfold compScB at h;simp only[xG,List.all_eq_true,Bool.or_eq_true,bne_iff_ne,zB] at h;obtain⟨⟨⟨⟨⟨h1,h2⟩,h3⟩,h4⟩,h5⟩,h6⟩:=h;refine⟨h1,h2,λy hy e=>(h3 y hy).resolve_left λz=>z e,λy hy e=>(h4 y hy).resolve_left λz=>z e,h5,λi j x e1 e2=>?_⟩;have hi:i<caps.length:=(List.getElem?_eq_some_iff.mp e1).1;have z:=h6 i (List.mem_range.mpr hi);rw[e1,e2] at z;simp only[xG,zB] at z;exact z
def cnm(X:Cx)(tg:Expr)(caps:List Nat):List Str:=(match tg with
 |.Name x _=>[x]
 |.Tuple [.Name x _,.Name y _] _ _=>[x,y]
 |_=>[])++caps.map λi=>X.N.getD i ""
abbrev cxN(X:Cx)(tg:Expr)(caps:List Nat)(scope:Scope)(cl':List (Str×Addr))(C:Addr)(s:Shared)(H:Hp)(fp:List Addr)(E:Value->Shared->Prop):Cx:=cxComp X (cnm X tg caps) scope cl' C s H fp E
def ndB:List Str->Bool
 |[]=>true
 |x::r=>!r.contains x&&ndB r
theorem vF:∀{l:List Str},ndB l=true->l.Nodup
 |[],_=>zQ
 |x::r,h=>by
  simp only[ndB,xG,Bool.not_eq_true',List.contains_eq_mem,decide_eq_false_iff_not] at h;exact List.nodup_cons.mpr ⟨h.1,vF h.2⟩
def tgB(tg:Expr)(sc:Scope)(n:Nat):Bool:=match tg with
 |.Name x _=>n==1&&sc.names.lookup x==some .local
 |.Tuple [.Name x _,.Name y _] _ _=>n==2&&(sc.names.lookup x==some .local&&sc.names.lookup y==some .local)
 |_=>false
def scB(X:Cx)(tg:Expr)(caps:List Nat)(n:Nat)(sc:Scope):Bool:=compScB X.N X.env.kindOf (cnm X tg caps) caps n sc&&(tgB tg (relabel sc X.env) n&&ndB (cnm X tg caps))
theorem sc_one(h:scB X (.Name x tp) caps 1 scope=true):CompSc X (cnm X (.Name x tp) caps) caps 1 scope/\∀cl' C s H fp E,OkG (cxN X (.Name x tp) caps scope cl' C s H fp E) cl [0] (gName 0) (.Name x tp):=by
 simp only[scB,tgB,xG,zB] at h;obtain⟨h1,⟨_,hx⟩,h3⟩:=h;exact⟨j8 h1,λcl' C s H fp E=>u8 (X:=cxN X _ caps scope cl' C s H fp E) (vF h3) rfl (.inl hx) (.inr hx)⟩
theorem sc_of(h:scB X tg caps ntg scope=true)(hc:X.calm=true):CompSc X (cnm X tg caps) caps ntg scope/\∃g,∀cl' C s H fp E,OkG (cxN X tg caps scope cl' C s H fp E) cl (List.range ntg) g tg:=by
 simp only[scB,xG] at h;obtain⟨h1,h2,h3⟩:=h;refine⟨j8 h1,?_⟩;have nd:=vF h3;unfold tgB at h2;split at h2
 ·simp only[xG,zB] at h2
  obtain⟨rfl,hx⟩:=h2;exact⟨_,λcl' C s H fp E=>u8 (X:=cxN X _ caps scope cl' C s H fp E) nd rfl (.inl hx) (.inr hx)⟩
 ·simp only[xG,zB] at h2
  obtain⟨rfl,hx,hy⟩:=h2;exact⟨gTup X.K 2 (gCons (gName 0) (gCons (gName 1) gNil)),λcl' C s H fp E=>ok_g2 (X:=cxN X (.Tuple [.Name _ _,.Name _ _] _ _) caps scope cl' C s H fp E) hc nd rfl (.inl hx) (.inr hx) rfl (.inl hy) (.inr hy)⟩
 ·cases h2
theorem x_comp{cond:Option Tx}(hi:OkI X cl XE Φ G true k its tg iter)
  (ht:∀cl' C s H fp,OkC (cxN X tg caps scope cl' C s H fp λ_ _=>False) cl (λ_ _ _=>False) Φ G cond ifs) (he:∀cl' C s H fp,OkE (cxN X tg caps scope cl' C s H fp λ_ _=>False) cl (λ_ _ _=>False) Φ G false elt e)
  (Sc:scB X tg caps ntg scope=true:=by rfl) (hc:X.calm=true:=by rfl) (hs:∀x,foldedSetIterable iter X.env x=pure x:=by intro _;rfl):OkE X cl XE Φ G m (.comp k its caps ntg cond elt) (.ListComp e [⟨tg,iter,ifs,0⟩] scope pos):=by
 obtain⟨S,g,hg⟩:=sc_of (cl:=cl) Sc hc;exact ok_comp hc hi S (λcl' C s H fp=>hg cl' C s H fp _) ht he hs
theorem oM:PassAt (CXE X.prog X.w) X σ (XK1 cl λc=>(λ_ _ _=>False:Nat->St->Hp->Prop) c σ):=λpins H s e s' I ⟨_,_,_,_,_,_,_,_,_,_,_,z⟩=>z.elim
theorem vG(hx:X.ex=[])(t:ToX X cl XE)(σ:St):PassAt (CXE X.prog X.w) X σ (XK1 cl λc=>XE c σ):=λpins H s e s' I z=>pass_of hx t σ pins H s e s' I z
theorem x_call{k:Nat}{fa:Addr}{fd:FuncData}{ps:List Str}{f:Nat}{x:Str}{p:Pos}{exs:List Ex}{e:Expr}{es:List Expr}(Fo:FnOk X.prog X.w X.K X.mg X.base (CXE X.prog X.w) k fa fd ps (spOf X.K cl Φ f))(hr:Room k X.A)(hm:X.mg x=some (.ref fa))(hk:PySem.W.keepIn X.K (.ref fa)=true)(hb:Binds X.K fd ps [])
  (hx:∀σ,PassAt (CXE X.prog X.w) X σ (XK1 cl λc=>XE c σ)) (ia:OkA X cl XE Φ G false exs (e::es)) (hg:Gl X x:=by rfl) (hdb:(x==("__debug__":Str))=false:=by decide) (he:starEach (e::es) X.env=(false,eval e X.env)::starEach es X.env:=by rfl) (hpl:(backTo pos (starEach es X.env)).any (·.1)=false:=by rfl):
  OkE X cl XE Φ G m (.call f exs) (.Call (.Name x p) (e::es) [] pos):=ok_call Fo hr hg hm hk hb hx hdb he hpl ia
theorem s_asg{i:Nat}{x:Str}{ex:Ex}{e:Expr}{pos':Pos}(hN:X.N.Nodup)(ie:OkE X cl XE Φ G false ex e)(hi:X.N[i]?=some x:=by rfl)(hx:Loc X.env.scope x:=by first|exact Or.inl rfl|exact Or.inr rfl)(hf:X.fn x=true\/X.env.scope.names.lookup x=some .local:=by first|exact .inl rfl|exact .inr rfl)(hs:swapsWith e (some (.Name x pos')) pos.line X.env=pure false:=by rfl):
  OkS X cl XE Φ G n (.asg i ex) (.Assign [.Name x pos'] e pos):=oks_asg hN hi hx hf hs ie
theorem s_asgC{k:IterK}{its:List Ex}{caps:List Nat}{ntg:Nat}{cond:Option Tx}{elt:Ex}{tg iter e:Expr}{ifs:List Expr}{scope:Scope}{py spos:Pos}{i:Nat}{y:Str}(hN:X.N.Nodup)(hi:OkI X cl XE Φ G true k its tg iter)
  (ht:∀cl' C s H fp,OkC (cxN X tg caps scope cl' C s H fp λ_ _=>False) cl (λ_ _ _=>False) Φ G cond ifs) (he:∀cl' C s H fp,OkE (cxN X tg caps scope cl' C s H fp λ_ _=>False) cl (λ_ _ _=>False) Φ G false elt e)
  (Sc:scB X tg caps ntg scope=true:=by rfl) (hy:X.N[i]?=some y:=by rfl) (hx:Loc X.env.scope y:=by first|exact Or.inl rfl|exact Or.inr rfl) (hf:X.fn y=true\/X.env.scope.names.lookup y=some .local:=by first|exact .inl rfl|exact .inr rfl) (hsw:swapsWith (.ListComp e [⟨tg,iter,ifs,0⟩] scope pos) (some (.Name y py)) spos.line X.env=pure true:=by rfl)
  (hc:X.calm=true:=by rfl) (hs:∀x,foldedSetIterable iter X.env x=pure x:=by intro _;rfl):OkS X cl XE Φ G n (.asg i (.comp k its caps ntg cond elt)) (.Assign [.Name y py] (.ListComp e [⟨tg,iter,ifs,0⟩] scope pos) spos):=by
 obtain⟨S,g,hg⟩:=sc_of (cl:=cl) Sc hc;exact gM rfl (mP hN hy hx hf hsw hc hi S (λcl' C s H fp=>hg cl' C s H fp _) ht he hs)
theorem s_new{i:Nat}{x:Str}{pos' p:Pos}(hN:X.N.Nodup)(hi:X.N[i]?=some x:=by rfl)(hx:Loc X.env.scope x:=by first|exact Or.inl rfl|exact Or.inr rfl)(hf:X.fn x=true\/X.env.scope.names.lookup x=some .local:=by first|exact .inl rfl|exact .inr rfl)(hs:swapsWith (.Dict [] [] p) (some (.Name x pos')) pos.line X.env=pure false:=by rfl):
  OkS X cl XE Φ G n (.new i) (.Assign [.Name x pos'] (.Dict [] [] p) pos):=oks_new hN hi hx hf hs
theorem s_app{i:Nat}{x:Str}{ex:Ex}{e:Expr}{p apos cpos:Pos}(ie:OkE X cl XE Φ G false ex e)(hN:X.N[i]?=some x:=by rfl)(hv:Vis X.env.scope x:=by first|exact Or.inl rfl|exact Or.inr (Or.inl rfl)|exact Or.inr (Or.inr rfl))(hd:(x==("__debug__":Str))=false:=by decide)(hcd:(x==("__classdict__":Str))=false:=by decide)
  (hbase:attributeBase (.Name x p) "append" X.env (eval (.Name x p) X.env)=eval (.Name x p) X.env:=by rfl) (hline:(apos.endLine==cpos.line)=true:=by rfl) (hs:starEach [e] X.env=[(false,eval e X.env)]:=by rfl)
  (hsw:swapsWith (.Call (.Attribute (.Name x p) "append" apos) [e] [] cpos) none pos.line X.env=pure false:=by rfl):OkS X cl XE Φ G n (.app i ex) (.Expr (.Call (.Attribute (.Name x p) "append" apos) [e] [] cpos) pos):=oks_app hN hv hd hcd hbase hline hs hsw ie
theorem s_put{i:Nat}{x:Str}{ex ix:Ex}{e ie:Expr}{p ps:Pos}(i1:OkE X cl XE Φ G false ex e)(i2:OkE X cl XE Φ G true ix ie)(hN:X.N[i]?=some x:=by rfl)(hv:Vis X.env.scope x:=by first|exact Or.inl rfl|exact Or.inr (Or.inl rfl)|exact Or.inr (Or.inr rfl))(hd:(x==("__debug__":Str))=false:=by decide)(hcd:(x==("__classdict__":Str))=false:=by decide)
  (hsw:swapsWithSole [.Subscript (.Name x p) ie ps] e pos.line X.env=pure false:=by rfl) (hw:swappedStores [.Subscript (.Name x p) ie ps] e X.env=pure none:=by rfl) (h1:(assignEach [.Subscript (.Name x p) ie ps] X.env).map (·.2)=[assign (.Subscript (.Name x p) ie ps) X.env]:=by rfl)
  (ha:∀v,assign (.Subscript (.Name x p) ie ps) X.env v=(do
   let ov←holding [v] (eval (.Name x p) X.env)
   let iv←holding [v,ov] (eval ie X.env)
   standAt ps
   holding [v,ov,iv] (setItem ov iv v)
   release [v,ov,iv] []):=by intro _;rfl):OkS X cl XE Φ G n (.put i ix ex) (.Assign [.Subscript (.Name x p) ie ps] e pos):=oks_put hN hv hd hcd hsw hw h1 ha i1 i2
theorem s_dput{i:Nat}{x:Str}{ex ix:Ex}{e ie:Expr}{p ps:Pos}(hu:X.A.units+20<cLine)(i1:OkE X cl XE Φ G false ex e)(i2:OkE X cl XE Φ G true ix ie)(hN:X.N[i]?=some x:=by rfl)(hv:Vis X.env.scope x:=by first|exact Or.inl rfl|exact Or.inr (Or.inl rfl)|exact Or.inr (Or.inr rfl))(hd:(x==("__debug__":Str))=false:=by decide)(hcd:(x==("__classdict__":Str))=false:=by decide)
  (hs:swapsWith e (some (.Subscript (.Name x p) ie ps)) pos.line X.env=pure false:=by rfl):OkS X cl XE Φ G n (.dput i ix ex) (.Assign [.Subscript (.Name x p) ie ps] e pos):=vA (yK (Nat.add_le_add_left (by decide) _) hu) hN hv hd hcd hs i1 i2
theorem s_loop{b:List Stmt}(hi:OkI X.nox cl (λ_ _ _=>False) Φ G false k its tg iter)(hg:OkG X.nox cl tgs g tg)(hb:OkSs X.nox cl (λ_ _ _=>False) Φ G n body b)(hc:X.calm=true:=by rfl)(hs:∀x,foldedSetIterable iter X.env x=pure x:=by intro _;rfl):
  OkS X cl XE Φ G n (.loop k its tgs body) (.For tg iter b [] pos):=vB hc hi hg hb hs
theorem s_raise{c:Nat}{x tx:Str}{bm bmN:List Value}{B Bn newId nid initId inN:String}{j:Nat}{p np cpos:Pos}(t:ToX X cl XE)(O:OwnCls x (cl c) bm newId X.mg X.base)(Fn:ExcBaseFacts Bn newId inN bmN)(hBn:bm.contains (.type Bn)=true)(FB:ExcBaseFacts B nid initId bm)
  (hc:X.calm=true:=by rfl) (hx:X.ex=[]:=by rfl) (hg:Gl X x:=by rfl) (hdb:(x==("__debug__":Str))=false:=by decide):OkS X cl XE Φ G n (.rai c) (.Raise (some (.Call (.Name x np) [.Constant (.str tx) j p] [] cpos)) none pos):=sA (uG hc hx t hg hdb O Fn hBn FB)
theorem s_try{CE:Addr}{cn:Str}{np hpos:Pos}{body hb:List Sm}{cs:List Nat}{b suite:List Stmt}{b0:Stmt}(hm:X.mg cn=some (.ref CE))(hcs:∀c∈cs,PySem.W.exmOne X.K (.ref (cl c)) (.ref CE)=some true)(ib:∀pins XH,OkSs (tryCx X cl pins XH) cl XH Φ G n body b)(ih:∀a,OkSs (hdCx X a) cl (λ_ _ _=>False) Φ G n hb (b0::suite))
  (hx:X.ex=[]:=by rfl) (hst:X.stack=X.env::X.outer:=by rfl) (hfm:X.env.frame=some X.env.locals:=by rfl) (hg:Gl X cn:=by rfl) (hdb:(cn==("__debug__":Str))=false:=by decide):
  OkS X cl XE Φ G n (.tryx body cs none hb) (.Try b [.ExceptHandler (some (.Name cn np)) none (b0::suite) hpos] [] [] pos):=oks_try hx hst hfm hg hm hdb hcs ib ih
end
theorem us1{α:Type}:∀{us:List α},us.length=1->∃a,us=[a]
 |[a],_=>⟨a,rfl⟩
theorem us2{α:Type}:∀{us:List α},us.length=2->∃a b,us=[a,b]
 |[a,b],_=>⟨a,b,rfl⟩
theorem us3{α:Type}:∀{us:List α},us.length=3->∃a b c,us=[a,b,c]
 |[a,b,c],_=>⟨a,b,c,rfl⟩
theorem us4{α:Type}:∀{us:List α},us.length=4->∃a b c d,us=[a,b,c,d]
 |[a,b,c,d],_=>⟨a,b,c,d,rfl⟩
theorem oN{K:PySem.W.Frag}(h0:PySem.W.subIn K (.ref d) (.type "BaseException")=some true)(h1:PySem.W.clsIn K d=some cd)(h2:PySem.W.typeIn K (.ref d)=some (.type "type"))(h3:PySem.W.subIn K (.ref c) (.ref d)=some true):PySem.W.exmOne K (.ref c) (.ref d)=some true:=by
 unfold PySem.W.exmOne;rw[h0,xE (by simp)];unfold PySem.W.kitCls;dsimp only;rw[h1,h2,xE (by simp)];exact h3
theorem walk_law{l:PySem.W.OpenLaw}{K:Params->PySem.W.Frag}(ht:∀ns:List Int,ns.length<=63->Phi Pg j f [.scr ns]=.ok (.bl true))
  (hn:l.most=some 63) (hdf:d.params.defaults=[]) (hY:∀(w:World)(h:Heap),YP w h->(K w.params).In h)
  (F:∀(w:World)(mg mb:Str->Option Value)(mean:ExcName->Option Value)(fa:Addr)(h:Heap),(K w.params).In h->Top q (PySem.W.looseW q loose) mean mg mb h->mg d.name=some (.ref fa)->
   ∃(fd:FuncData)(cl:Nat->Addr),(∀(s:Shared)(u:Value),BindsTo s fd ⟨[u],[]⟩ [("script",u)])/\∀base:Heap,(K w.params).In base->base.Ns mainGlobals mg->(∀b o,h.get? b=some o->(∀its n,o.data≠.seq its n)->base.get? b=some o)->
    FnOk l.prog w (K w.params) mg base (CXE l.prog w) (j+1) fa fd ["script"] (spOf (K w.params) cl (Phi Pg j) f)) (hj:j<=30):
  PySem.W.WalkO q loose XP YP l.row.toRowW d [] (λf vs=>PySem.call f vs):=by
 refine Att.attach_call hn hdf λw s₀ s₁ mg mb fa o pm cd doc a vs ns G Y ho hd hcd hmg hobj hints hlen hg=>?_;have KX:=hY w _ Y;obtain⟨fd,cl,hb,hF⟩:=F w mg mb _ fa _ KX G.T hmg;have hr:Room (j+1) callerA:=by
  have r:Room 31 callerA:=⟨rfl,by decide,by decide⟩
  exact r.mono (by omega)
 exact sF KX G.T.g G.T.b G.T.builtins G.T.nolimit hg hobj hints (xU hlen (by decide)) hr hF hb (λH hO hS=>sp_law (ht ns hlen) hO hS) λH e s' z=>no_cxe z
variable{X:Cx}{cl:Nat->Addr}{XE:Nat->St->Hp->Prop}{YE:Nat->Hp->Prop}{Φ:Nat->List D->R D}{G:List D}{n:Nat}{m fr:Bool}
variable{ea eb:Ex}{a b:Expr}{pos:Pos}
theorem vH(g:Paired (Got X.K cl F H) ds vs)(h:Post X.K cl YE m fr F H Q (lift1 (op1 .toInt) ds)):
  (∃i,vs=[.int i]/\Q (.int i) H)\/∃k,vs=[.bl k]/\Q (.int (if k then 1 else 0)) H:=by
 match ds,g,h with
 |[],_,h=>exact(show False from h).elim
 |_::_::_,_,h=>exact(show False from h).elim
 |[d],g,h=>
  obtain⟨v,rfl,gv⟩:=Paired.one g;have h:Post X.K cl YE m fr F H Q (op1 .toInt d):=h;cases d<;>first|exact(show False from h).elim|skip
  ·first
    |(rw[gv.bl];exact .inr ⟨_,rfl,Post.int h⟩)
    |(rw[gv.int];exact .inl ⟨_,rfl,Post.int h⟩)
  ·first
    |(rw[gv.bl];exact .inr ⟨_,rfl,Post.int h⟩)
    |(rw[gv.int];exact .inl ⟨_,rfl,Post.int h⟩)
theorem x_toInt{m:Bool}{ea:Ex}{a:Expr}{pos p:Pos}(hm:X.mg "int"=none)(ia:OkE X cl XE Φ G true ea a)(hg:Gl X "int":=by rfl)(hs:starEach (a::[]) X.env=(false,eval a X.env)::starEach [] X.env:=by rfl):OkE X cl XE Φ G m (.op1 .toInt ea) (.Call (.Name "int" p) [a] [] pos):=
 fK (exs:=[ea]) (o:=lift1 (op1 .toInt)) ev1 rK hg hm boot_int (by decide) (by decide) hs rfl (aZ hs ia cA) λYE F H vs ds Q t g h=>vH g h
end L2.Snd
namespace L2.Snd
open PySem PySem.Spec PyProof.Rows L2 Py
section
variable{X:Cx}{cl:Nat->Addr}{XE:Nat->St->Hp->Prop}{YE:Nat->Hp->Prop}{Φ:Nat->List D->R D}{G:List D}{n:Nat}{m fr:Bool}
def GlobT(K:PySem.W.Frag)(mg:Str->Option Value)(x:Str)(d:D):Prop:=∃(v:V)(u:Value),mg x=some u/\RelV v u/\∀(cl:Nat->Addr)(F:Addr->Prop)(H:Hp),Rep K cl F H d v
end
def GlobV(K:PySem.W.Frag)(d:D)(v:V):Prop:=∀(cl:Nat->Addr)(F:Addr->Prop)(H:Hp),Rep K cl F H d v
theorem dF{K:PySem.W.Frag}:GlobV K (.int i) (.int i):=λ_ _ _=>by simp[Rep]
theorem qD{K:PySem.W.Frag}:∀{ds:List D}{vs:List V},Paired (GlobV K) ds vs->∀(cl:Nat->Addr)(F:Addr->Prop)(H:Hp),Reps K cl F H ds vs
 |_,_,.nil,_,_,_=>Reps.nil
 |_,_,.cons a r,cl,F,H=>Reps.cons (a cl F H) (qD r cl F H)
theorem iR{K:PySem.W.Frag}(hl:K.lookup a=some ⟨.type "tuple",od,.seq us.toArray k,sl⟩)(hv:Vals vs us)(hd:Paired (GlobV K) ds vs)(hn:us.length<=sizeLine):GlobV K (.tup ds) (.ref a):=λcl F H=>by
 simp only[Rep];exact⟨a,vs,rfl,.inr ⟨_,_,_,hl,rfl,rfl,by simpa using hn,by simpa using hv⟩,qD hd cl F H⟩
theorem globT_v{K:PySem.W.Frag}(hm:mg x=some (.ref a))(g:GlobV K d (.ref a)):GlobT K mg x d:=⟨.ref a,.ref a,hm,rfl,g⟩
theorem sc_mk{N P:List Str}{sc:Scope}(h1:sc.kind=.function:=by rfl)(h2:sc.isCoroutine=false:=by rfl)(h3:sc.isGenerator=false:=by rfl)(h4:N.Nodup:=by decide+kernel)(h5:N.take P.length=P:=by rfl)(h6:∀x∈P,sc.names.lookup x=some .local\/sc.names.lookup x=some .cell:=by decide+kernel)(h7:∀y∈sc.names,y.2≠.free:=by decide+kernel):FnScope N P sc:=⟨h1,h2,h3,h4,h5,h6,h7⟩
theorem room_un(hr:Room (j+1) A):A.units+20<cLine:=yK (Nat.add_le_add_left (by decide) _) hr.units
end L2.Snd
namespace L2
open PySem PySem.Spec PyProof.Rows
end L2
namespace L2.Snd
open PySem PySem.Spec PyProof.Rows L2 Py
theorem mT:∀{xs ys:List D}{i:Nat}{x:D},(zipD xs ys)[i]?=some x->∃a b,xs[i]?=some a/\ys[i]?=some b/\x=.tup [a,b]
 |a::xs,b::ys,0,x,h=>by simp[zipD] at h;exact⟨a,b,by simp,by simp,h.symm⟩
 |a::xs,b::ys,i+1,x,h=>by
  obtain⟨c,d,h1,h2,h3⟩:=mT (xs:=xs) (ys:=ys) (i:=i) (by simpa[zipD] using h);exact⟨c,d,by simpa using h1,by simpa using h2,h3⟩
 |[],_,i,x,h=>by simp[zipD] at h
 |_::_,[],i,x,h=>by simp[zipD] at h
theorem mU:∀(xs ys:List D),(zipD xs ys).length=min xs.length ys.length
 |a::xs,b::ys=>by simp[zipD,mU xs ys]
 |[],_=>by simp[zipD]
 |_::_,[]=>by simp[zipD]
section
variable{X:Cx}{cl:Nat->Addr}{XE:Nat->St->Hp->Prop}{Φ:Nat->List D->R D}{G:List D}{m:Bool}
theorem wk_zip{a b:Addr}{xs ys:List D}:Wk X.K cl m (Itz X.K a b) (zipD xs ys) (λF H=>((m=true\/F a)/\∃vs,H a=some (.lst vs)/\Reps X.K cl F H xs vs)/\(m=true\/F b)/\∃vs,H b=some (.lst vs)/\Reps X.K cl F H ys vs) where
 st:=λF H F' H' ⟨p,q⟩ hs sub=>⟨(g7 (X:=X) (cl:=cl) (m:=m)).st F H F' H' p hs sub,(g7 (X:=X) (cl:=cl) (m:=m)).st F H F' H' q hs sub⟩
 go:=λF H i x ⟨⟨_,vs,h1,r1⟩,_,ws,h2,r2⟩ hx=>by
  obtain⟨c,d,e1,e2,rfl⟩:=mT hx;obtain⟨v,k1,k2⟩:=r1.get e1;obtain⟨w,l1,l2⟩:=r2.get e2;refine⟨⟨vs,ws,v,w,SqL.of h1,SqL.of h2,k1,l1⟩,λz H' hy=>?_⟩;obtain⟨t,v',w',ht,rfl,rfl,hv,hw⟩:=hy;have hv:=hv vs (SqL.of h1);have hw:=hw ws (SqL.of h2);rw[k1] at hv;cases hv;rw[l1] at hw;cases hw;refine⟨Up.alloc ht,?_⟩;simp only[Rep];exact⟨t,_,rfl,SqT.of aE,Reps.cons (k2.up (Up.alloc ht)) (Reps.cons (l2.up (Up.alloc ht)) Reps.nil)⟩
 stop:=λF H ⟨⟨_,vs,h1,r1⟩,_,ws,h2,r2⟩=>by
  refine⟨vs,ws,SqL.of h1,SqL.of h2,?_⟩;have l1:=r1.length;have l2:=r2.length;rw[mU];omega
theorem i_zip{ea eb:Ex}{a b:Expr}{elts:List Expr}{tk:Nat}{tpos p pos:Pos}(hm:X.mg "zip"=none)(ia:OkE X cl XE Φ G true ea a)(ib:OkE X cl XE Φ G true eb b)(hg:Gl X "zip":=by rfl)(hs:starEach [a,b] X.env=[(false,eval a X.env),(false,eval b X.env)]:=by rfl)(hs2:starEach [b] X.env=[(false,eval b X.env)]:=by rfl):
  OkI X cl XE Φ G true .zip [ea,eb] (.Tuple elts tk tpos) (.Call (.Name "zip" p) [a,b] [] pos):=by
 obtain⟨ta,pa,ia⟩:=aZ (es:=[eb]) (as:=[b]) (by rw[hs,hs2]) ia (aZ (es:=[]) (as:=[]) hs2 ib cA);refine⟨_,pi_zip hg hm pa hs hs2,λF σ δ H R S h=>?_⟩;refine ia F σ δ H _ S (Meet.mono (Meet.bind h) (λds _ hd F1 vs H1 u1 g1=>?_) λc z=>z);obtain⟨xs,e,hx⟩:=cO hd;have g2:=iO g1
 match ds,e,g2 with
 |[],e,_=>cases e
 |[_],e,_=>simp[items0] at e
 |_::_::_::_,e,_=>simp[items0] at e
 |[d,d'],e,g2=>
  obtain⟨v,w,rfl,gv,gw⟩:=Paired.two g2;obtain⟨i,j,rfl,rfl⟩:∃i j,d=.lst i/\d'=.lst j:=by
   cases d<;>cases d'<;>first|(simp[items0] at e;done)|exact⟨_,_,rfl,rfl⟩
  simp only[items0] at e;cases e;obtain⟨a1,ws,rfl,h1,r1⟩:=gv.lst;obtain⟨b1,us,rfl,h2,r2⟩:=gw.lst;exact⟨a1,b1,rfl,⟨ws,SqL.of h1⟩,⟨us,SqL.of h2⟩,hx F1 H1 _ _ u1 wk_zip ⟨⟨.inl rfl,ws,h1,r1⟩,.inl rfl,us,h2,r2⟩⟩
theorem Reps.rep{K:PySem.W.Frag}(h:Reps K cl F H ds vs):∀k:Nat,Reps K cl F H (List.replicate k ds).flatten (List.replicate k vs).flatten
 |0=>by simpa using Reps.nil
 |k+1=>by
  rw[List.replicate_succ,List.replicate_succ,xZ,xZ];exact h.append (Reps.rep h k)
theorem x_rep(ia:OkE X cl XE Φ G true ea a)(ib:OkE X cl XE Φ G true eb b):OkE X cl XE Φ G m (.op2 .rep ea eb) (.BinOp a .Mult b pos):=fJ op_rep ia ib λYE F H x y p q Q t g1 g2 h=>by
 cases p<;>cases q<;>first|exact(show False from h).elim|skip;rename_i ds j;have h':Post X.K cl YE m true F H Q (if 0<=j/\j<=1000/\ds.length=1 then .ok (.lst ((List.replicate j.toNat ds).flatten)) else .bad):=h;by_cases hc:0<=j/\j<=1000/\ds.length=1
 ·rw[xE hc] at h'
  obtain⟨a,vs,rfl,h1,r1⟩:=g1.lst;have hl:=r1.length;have hk:j.toNat<=1000:=by omega
  refine⟨a,j,vs,rfl,g2.int,h1,by omega,by omega,?_,λl hl=>Post.newl h' (r1.rep j.toNat) (t.fresh hl) hl⟩;have:vs.length=1:=by omega
  rw[this,Nat.one_mul];exact xU hk (by decide)
 ·rw[xC hc] at h';exact h'.no.elim
end
section
variable{X:Cx}{cl:Nat->Addr}{XO:Nat->Hp->Prop}{Φ:Nat->List D->R D}{G:List D}{m fr:Bool}
theorem oO
  (hw:∀F σ δ H R,Sees X.K cl F H σ δ->Meet ((evs Φ G true [it] δ).bind (itemsD .seq)) (λxs=>∀F' H' J P,Up F H F' H'->Wk X.K cl true J xs P->P F' H'->R J H') (λc=>∀F' H',Up F H F' H'->XO c H')->wi σ H R)
  (S:Sees X.K cl F H σ δ) (h:Post X.K cl XO m true F H Q (ev Φ G m (.mapx it caps f es) δ)):
  tComp wi (gName 0) (λσ H Q=>Q true H) (tE X.K cl (λc _ H'=>XO c H') Φ G false (.call f es)) caps 1 σ H Q:=by
 simp only[ev] at h;generalize hf:(λx=>(evs Φ G false es (some (false,x)::capOf δ caps)).bind λas=>(Φ f as).bind λy=>(.ok (some y):R (Option D)))=g at h;have h0:Meet ((evs Φ G true [it] δ).bind (itemsD .seq)) (λxs=>xs.length<=LIM/\Meet (compM g xs) (λys=>Post X.K cl XO m true F H Q (.ok (.lst ys))) (λc=>∀F' H',Up F H F' H'->XO c H')) (λc=>∀F' H',Up F H F' H'->XO c H'):=by
  simp only[evs]
  cases e:ev Φ G true it δ with
  |exc c=>rw[e] at h;exact h
  |bad=>rw[e] at h;exact h
  |ok s=>
   rw[e] at h;have h':Meet ((itemsD .seq [s]).bind λxs=>(compM g xs).bind λys=>R.ok (D.lst ys)) (λd=>∀F' v H',Up F H F' H'->Gives X.K cl m true F' H H' d v->Q v H') (λc=>∀F' H',Up F H F' H'->XO c H'):=h;have h1:=Meet.bind h';show Meet (itemsD .seq [s]) _ _
   cases e2:itemsD .seq [s] with
   |exc c=>rw[e2] at h1;exact h1
   |bad=>rw[e2] at h1;exact h1
   |ok xs=>
    rw[e2] at h1;refine⟨?_,Meet.bind h1⟩;unfold itemsD at e2
    cases e3:items0 .seq [s] with
    |ok ys=>
     rw[e3] at e2;simp only[R.bind_ok] at e2;by_cases hc:ys.length<=LIM
     ·rw[xE hc] at e2;cases e2;exact hc
     ·rw[xC hc] at e2;cases e2
    |exc c=>rw[e3] at e2;cases e2
    |bad=>rw[e3] at e2;cases e2
 clear h;unfold tComp;refine hw F σ δ H _ S (Meet.mono h0 (λxs _ hx F1 H1 J P u1 W1 p1 q hq=>?_) λc z=>z);obtain⟨hlen,hx⟩:=hx;have nq:∀b o,H1 b=some o->b≠q:=λb o e z=>by rw[z,hq] at e;cases e
 have nF1:¬F1 q:=(S.up u1).trk.fresh hq;refine⟨λi n σ' H'=>n=xs.length-i/\i<=xs.length/\σ'.length=1+caps.length/\(∀j,1<=j->σ'[j]?=(capS σ caps 1)[j]?)/\
  ∃F' ys ds,Up F1 H1 F' H'/\¬F' q/\H' q=some (.lst ys)/\Reps X.K cl F' H' ds ys/\ds.length<=i/\Meet (compM g (xs.drop i)) (λrest=>Post X.K cl XO m true F H Q (.ok (.lst (ds++rest)))) (λc=>∀F' H',Up F H F' H'->XO c H'),⟨xs.length,?_⟩,?_⟩
 ·exact⟨by simp,Nat.zero_le _,by simp[capS,Nat.add_comm],λj _=>rfl,F1,[],[],Up.alloc hq,nF1,aE,Reps.nil,xN _,by simpa using hx⟩
 ·rintro i n σ' H' ⟨rfl,hi,hl,hc,F',ys,ds,u2,nF,hqs,r2,hdl,hcm⟩
  have pH:P F' H':=W1.st F1 H1 F' H' p1 (by unfold Stb;rw[xE rfl];exact u2.same) u2.sub;by_cases hlt:i<xs.length
  ·refine .inr ?_
   obtain⟨go,yl⟩:=W1.go F' H' i xs[i] pH (by simp[hlt]);refine⟨go,λv H2 hy=>?_⟩;obtain⟨u3,rx⟩:=yl v H2 hy;have hd:xs.drop i=xs[i]::xs.drop (i+1):=List.drop_eq_getElem_cons hlt;rw[hd] at hcm;simp only[compM] at hcm;have u3':Up F1 H1 F' H2:=u2.trans u3;have S2:Sees X.K cl F' H2 (setsV σ' (List.range 1) [v]) ([xs[i]].map (λt=>some (false,t))++capOf δ caps):=mO S (u1.trans u3') hl hc rfl (Reps.cons rx Reps.nil);have hl2:(σ'.set 0 (some v)).length=1+caps.length:=by rw[yV];exact hl
   have hc2:∀j,1<=j->(σ'.set 0 (some v))[j]?=(capS σ caps 1)[j]?:=λj hj=>by
    rw[xR (by omega)];exact hc j hj
   have hq2:H2 q=some (.lst ys):=u3.same _ _ hqs;show tE X.K cl (λc _ H'=>XO c H') Φ G false (.call f es) (σ'.set 0 (some v)) H2 _;refine⟨F',some (false,xs[i])::capOf δ caps,S2,?_⟩;have hg:g xs[i]=(ev Φ G false (.call f es) (some (false,xs[i])::capOf δ caps)).bind λy=>.ok (some y):=by
    rw[←hf];simp only[ev];cases evs Φ G false es (some (false,xs[i])::capOf δ caps)<;>rfl
   rw[hg] at hcm;have hm:Meet (ev Φ G false (.call f es) (some (false,xs[i])::capOf δ caps)) (λy=>Meet (compM g (xs.drop (i+1))) (λrest=>Post X.K cl XO m true F H Q (.ok (.lst (ds++y::rest)))) (λc=>∀F' H',Up F H F' H'->XO c H')) (λc=>∀F' H',Up F H F' H'->XO c H'):=by
    cases e:ev Φ G false (.call f es) (some (false,xs[i])::capOf δ caps) with
    |exc c=>rw[e] at hcm;exact hcm
    |bad=>rw[e] at hcm;exact hcm
    |ok y=>
     rw[e] at hcm;have hcm':Meet ((compM g (xs.drop (i+1))).bind λys=>.ok (y::ys)) _ _:=hcm;have hb:=Meet.bind hcm';exact hb
   refine Meet.mono hm (λy _ hy2 F4 w H4 u5 gv=>?_) λc z F4 H4 u5=>z F4 H4 ((u1.trans u3').trans u5);unfold Gives at gv;rw[xC xF] at gv;obtain⟨F5,u6,sub5,rw'⟩:=gv.keep u5;have hq4:H4 q=some (.lst ys):=u6.same _ _ hq2;have nF5:¬F5 q:=λz=>(u6.new q z).elim nF λy=>by rw[hq2] at y;cases y.1
   have r4:Reps X.K cl F5 H4 ds ys:=(r2.up u3).up u6;have pr:Pres F5 H4 (L2.upd H4 q (.lst (ys++[w]))):=Pres.upd nF5 (λzs e=>by rw[hq4] at e;cases e) (λo u e=>by rw[hq4] at e;cases e);have u7:Up F1 H1 F5 H4:=u3'.trans u6;refine⟨ys,xs.length-(i+1),hq4,?_,by omega,rfl,hlt,hl2,hc2,F5,ys++[w],ds++[y],⟨λb o e=>?_,u7.sub,λa z=>?_⟩,nF5,aE,?_,?_,?_⟩
   ·rw[r4.length];exact yK (xU hdl (Nat.le_of_lt hlt)) (yK hlen (by decide))
   ·rw[aB (nq b o e)];exact u7.same b o e
   ·rcases u7.new a z with y|⟨y1,y2⟩
    ·exact .inl y
    ·refine .inr ⟨y1,?_⟩
     rw[aB (by rintro rfl;exact nF5 z)];exact y2
   ·exact(r4.mono pr λ_ z=>z).append (Reps.cons (rw'.mono pr λ_ z=>z) Reps.nil)
   ·rw[xL,List.length_singleton];omega
   ·refine Meet.mono hy2 (λrest _ z=>?_) λc z=>z
    rw[List.append_assoc];exact z
  ·have hi':i=xs.length:=by omega
   subst hi';refine .inl ⟨W1.stop F' H' pH,?_⟩;rw[List.drop_length] at hcm;have hcm:Post X.K cl XO m true F H Q (.ok (.lst (ds++[]))):=hcm;rw[yD] at hcm;refine hcm F' (.ref q) H' (u1.trans u2) (Res.gives ?_);unfold Res;rw[xE (by simp[isOwn])];exact⟨q,rfl,u1.same.free hq,nF,ys,hqs,r2⟩
theorem s_mapx{it:Ex}{caps:List Nat}{f:Nat}{es:List Ex}{x:Str}{tp:Pos}{iter e:Expr}{scope:Scope}{pos py spos:Pos}{L:Addr}{i:Nat}{y:Str}{n:Nat}(hN:X.N.Nodup)(tX:ToG X cl (λc _ H=>XO c H))
  (hi:OkI X cl (λc _ H=>XO c H) Φ G true .seq [it] (.Name x tp) iter)
  (he:∀cl' C s H fp E,PassC (cxN X (.Name x tp) caps scope cl' C s H fp E) cl XO->OkE (cxN X (.Name x tp) caps scope cl' C s H fp E) cl (λc _ H=>XO c H) Φ G false (.call f es) e)
  (Sc:scB X (.Name x tp) caps 1 scope=true:=by rfl) (hx:X.ex=[]:=by rfl) (hst:X.stack=X.env::X.outer:=by rfl) (hfm:X.env.frame=some L:=by rfl)
  (hy:X.N[i]?=some y:=by rfl) (hxy:Loc X.env.scope y:=by first|exact Or.inl rfl|exact Or.inr rfl) (hf:X.fn y=true\/X.env.scope.names.lookup y=some .local:=by first|exact .inl rfl|exact .inr rfl) (hsw:swapsWith (.ListComp e [⟨.Name x tp,iter,[],0⟩] scope pos) (some (.Name y py)) spos.line X.env=pure true:=by rfl)
  (hc:X.calm=true:=by rfl) (hs:∀x,foldedSetIterable iter X.env x=pure x:=by intro _;rfl):OkS X cl (λc _ H=>XO c H) Φ G n (.asg i (.mapx it caps f es)) (.Assign [.Name y py] (.ListComp e [⟨.Name x tp,iter,[],0⟩] scope pos) spos):=by
 obtain⟨wi,pi,hw⟩:=hi;obtain⟨Sc,hg⟩:=sc_one (cl:=cl) Sc;refine gM rfl ⟨_,lD (clx:=cl) (XE:=λc _ H=>XO c H) (tc:=λσ H Q=>Q true H) (te:=tE X.K cl (λc _ H'=>XO c H') Φ G false (.call f es)) hN hy hxy hf hsw hc pi Sc hx hst hfm tX (λcl' C s H fp E=>(hg cl' C s H fp E).1) (λcl' C s H fp E=>pX) (λ_ cl' C s H fp E z=>(he cl' C s H fp E z).pe) hs,λF σ δ H Q S h=>?_⟩;exact oO hw S h
theorem pass_c(h:PassC X cl XO)(σ:St):PassAt (CXE X.prog X.w) X σ (XK1 cl λc=>XO c):=λpins H s e s' I z=>h pins σ H s e s' I z
end
end L2.Snd
namespace L2
open PySem PySem.Spec PyProof.Rows
variable{X:Cx}
end L2
namespace L2.Snd
open PySem PySem.Spec PyProof.Rows L2 Py
end L2.Snd
namespace L2
open PySem PyProof.Rows
variable{X:Cx}
end L2
namespace L2.Snd
open PySem PySem.Spec PyProof.Rows L2 Py
end L2.Snd
namespace Py
theorem bQ(g:D->D):∀(xs:List D),(∀x∈xs,f x=.ok (some (g x)))->compM f xs=.ok (xs.map g)
 |[],_=>rfl
 |x::r,h=>by
  rw[compM,h x xT,bQ g r λy hy=>h y (xK _ hy)];rfl
theorem bD(p:D->Bool)(g:D->D):∀(xs:List D),(∀x∈xs,f x=.ok (if p x then some (g x) else none))->compM f xs=.ok ((xs.filter p).map g)
 |[],_=>rfl
 |x::r,h=>by
  rw[compM,h x xT,bD p g r λy hy=>h y (xK _ hy)];cases e:p x<;>simp[e]
theorem j9:∀(xs:List D)(δ:Nat->Sto),(∀i (h:i<xs.length),f xs[i] (δ i)=.nx (δ (i+1)))->forM f xs (δ 0)=.nx (δ xs.length)
 |[],δ,_=>rfl
 |x::r,δ,h=>by
  rw[Py.forM.eq_2,show f x (δ 0)=.nx (δ 1) from h 0 (by simp)];exact j9 r (λi=>δ (i+1)) λi hi=>h (i+1) (by simpa using hi)
theorem vI(n:Nat)(δ:Nat->Sto)(h:∀i,i<n->f (.int i) (δ i)=.nx (δ (i+1))):forM f (rangeD 0 n) (δ 0)=.nx (δ n):=by
 have:=j9 (rangeD 0 n) δ (f:=f) λi hi=>by
  have hi':i<n:=by simpa[rangeD] using hi
  have e:(rangeD 0 n)[i]=.int i:=by simp[rangeD]
  rw[e];exact h i hi'
 rwa[show(rangeD 0 n).length=n by simp[rangeD]] at this
theorem lJ:∀(m n:Nat)(δ:Nat->Sto),m<n->(∀i,i<m->c (fz (δ i))=.ok true/\b (fz (δ i))=.nx (δ (i+1)))->c (fz (δ m))=.ok false->whlM c fz b n (δ 0)=.nx (fz (δ m))
 |0,n+1,δ,_,_,he=>by rw[whlM,he]
 |m+1,n+1,δ,hm,h,he=>by
  obtain⟨h1,h2⟩:=h 0 (by omega);rw[whlM,h1];dsimp only;rw[h2];exact lJ m n (λi=>δ (i+1)) (by omega) (λi hi=>h (i+1) (by omega)) he
noncomputable def intL(xs:List Int):List D:=xs.map .int
noncomputable def rowD(r:List Int):D:=.tup (intL r)
theorem iS(lo:Int)(n:Nat):(rangeD lo n).length=n:=by simp[rangeD]
theorem bC{n:Nat}(h:n<=1000):itemsD .rng [.int n]=.ok (rangeD 0 n):=by
 have h1:(-(LIM:Int))<=(n:Int)/\(n:Int)<=(LIM:Int):=by
  have:(LIM:Int)=100000:=rfl;omega
 show((if-(LIM:Int)<=(n:Int)/\(n:Int)<=(LIM:Int) then R.ok (rangeD 0 (n:Int).toNat) else R.bad).bind λxs=>if xs.length<=LIM then R.ok xs else R.bad)=_;rw[xE h1];simp only[R.bind_ok,yE,iS];rw[xE (show n<=LIM from xU h (by decide))]
theorem bH(h:xs.length<=1000):itemsD .seq [.lst xs]=.ok xs:=by
 show(if xs.length<=LIM then R.ok xs else R.bad)=_;rw[xE (show xs.length<=LIM from xU h (by decide))]
theorem aM(h:xs.length<=1000):itemsD .seq [.tup xs]=.ok xs:=by
 show(if xs.length<=LIM then R.ok xs else R.bad)=_;rw[xE (show xs.length<=LIM from xU h (by decide))]
theorem bW{α:Type}{xs:List α}{i:Nat}(h:i<xs.length):atD xs (i:Int)=some xs[i]:=by
 have h1:(0:Int)<=(i:Int):=by omega
 have h2:(i:Int)<(xs.length:Int):=by omega
 simp[atD,ixD,h1,h2,h]
theorem fO(h:i<n):ixD n (i:Int)=some i:=by
 have h1:(0:Int)<=(i:Int):=by omega
 have h2:(i:Int)<(n:Int):=by omega
 simp[ixD,h1,h2]
theorem qE(xs:List α)(a b:Nat):cut xs (some (a:Int)) (some (b:Int))=(xs.drop a).take (b-a):=by
 have h1:¬((a:Int)<0):=by omega
 have h2:¬((b:Int)<0):=by omega
 simp only[cut,sIx,xC h1,xC h2,yE];by_cases ha:a<=xs.length
 ·rw[Nat.min_eq_left ha]
  by_cases hb:b<=xs.length
  ·rw[Nat.min_eq_left hb]
  ·rw[Nat.min_eq_right (by omega)]
   rw[List.take_of_length_le (by rw[List.length_drop];omega),List.take_of_length_le (by rw[List.length_drop];omega)]
 ·have e1:xs.drop a=[]:=List.drop_of_length_le (by omega)
  have e2:xs.drop (min a xs.length)=[]:=List.drop_of_length_le (by omega);rw[e1,e2];simp
theorem iT(xs:List α)(a:Nat):cut xs (some (a:Int)) none=xs.drop a:=by
 have h1:¬((a:Int)<0):=by omega
 simp only[cut,sIx,xC h1,yE];by_cases ha:a<=xs.length
 ·rw[Nat.min_eq_left ha,List.take_of_length_le (by rw[List.length_drop];omega)]
 ·rw[Nat.min_eq_right (by omega),List.drop_of_length_le (xN _),List.drop_of_length_le (by omega)]
  simp
theorem fP(a b:List D)(h:a.length+b.length<=LIM):op2 .add (.lst a) (.lst b)=.ok (.lst (a++b)):=xE h
theorem eU(i j:Int)(h:(-(2^64)<i/\i<2^64)\/(-(2^64)<j/\j<2^64)):op2 .mul (.int i) (.int j)=.ok (.int (i*j)):=xE h
theorem cD(i j:Int)(h:0<j):op2 .mod (.int i) (.int j)=.ok (.int (i%j)):=xE h
theorem dG(i j:Int)(h:0<j/\j<1073741824):op2 .fdiv (.int i) (.int j)=.ok (.int (i/j)):=xE h
theorem vJ(xs:List D):op1 .len (.tup xs)=.ok (.int xs.length):=rfl
theorem fQ(xs:List D):op1 .list (.lst xs)=.ok (.lst xs):=rfl
theorem o_lstT(xs:List D):op1 .list (.tup xs)=.ok (.lst xs):=rfl
theorem oP(xs:List D)(h:plns 999 xs=true):op1 .isTup (.tup xs)=.ok (.bl true):=by
 show(if pln 1000 (.tup xs) then _ else _)=_;rw[xE (by simpa[pln] using h)]
theorem of_ok(a:α)(δ:Sto)(f:α->Out):Out.of (.ok a) δ f=f a:=rfl
theorem of_exc(c:Nat)(δ:Sto)(f:α->Out):Out.of (.exc c:R α) δ f=.xc c δ:=rfl
theorem bX(a:α)(f:α->R β):(R.ok a).bind f=f a:=rfl
theorem Za(b:Bool):truth (.bl b)=.ok b:=rfl
theorem Zb(xs:List D):truth (.lst xs)=.ok (!xs.isEmpty):=rfl
theorem Zc(a:α)(δ:Sto)(f:α->Out):Out.of (.ok a) δ f=f a:=rfl
theorem Zd(c:Nat)(δ:Sto)(f:α->Out):Out.of (.exc c:R α) δ f=.xc c δ:=rfl
theorem Ze(d:D):ofO (some d)=.ok d:=rfl
theorem Zf(a:α)(f:α->R β):(R.ok a).bind f=f a:=rfl
theorem Zg(c:Nat)(f:α->R β):(R.exc c:R α).bind f=.exc c:=rfl
theorem Zh(a:α):(R.ok a).quiet=.ok a:=rfl
theorem Zi{α:Type}{x:α}{xs:List α}{a:α}:(x::xs).set 0 a=a::xs:=rfl
theorem Zj{α:Type}{x:α}{xs:List α}{a:α}:(x::xs).set (n+1) a=x::xs.set n a:=rfl
theorem Zk{α:Type}{x:α}{xs:List α}:(x::xs)[0]?=some x:=rfl
theorem Zl{α:Type}{x:α}{xs:List α}:(x::xs)[i+1]?=xs[i]?:=rfl
theorem Zm{α β:Type}{f:α->β}{a:α}{l:List α}:(a::l).map f=f a::l.map f:=rfl
theorem Zn{α β:Type}{f:α->β}:([]:List α).map f=[]:=rfl
theorem Zo{α:Type}(l:List α):[]++l=l:=rfl
theorem Zp{α:Type}{a:α}{l r:List α}:(a::l)++r=a::(l++r):=rfl
theorem Zq{α:Type}(l:List α):l++[]=l:=yD l
theorem Zr(b:Bool):(b&&true)=b:=Bool.and_true b
theorem Zs(b:Bool):(b&&false)=false:=Bool.and_false b
theorem Zt(b:Bool):(true&&b)=b:=rfl
theorem Zu(b:Bool):(false&&b)=false:=rfl
theorem Zv:(!true)=false:=rfl
theorem Zw:(!false)=true:=rfl
theorem Zx{α:Type}{a b:α}:(some a).getD b=a:=rfl
theorem ZA(i j:Int):op2 .add (.int i) (.int j)=.ok (.int (i+j)):=rfl
theorem ZB(i j:Int):op2 .sub (.int i) (.int j)=.ok (.int (i-j)):=rfl
theorem ZC(i j:Int):op2 .lt (.int i) (.int j)=.ok (.bl (decide (i<j))):=rfl
theorem ZD(i j:Int):op2 .le (.int i) (.int j)=.ok (.bl (decide (i<=j))):=rfl
theorem ZE(i j:Int):op2 .gt (.int i) (.int j)=.ok (.bl (decide (j<i))):=rfl
theorem ZF(i j:Int):op2 .ge (.int i) (.int j)=.ok (.bl (decide (j<=i))):=rfl
theorem ZG(i j:Int):op2 .eq (.int i) (.int j)=.ok (.bl (i==j)):=rfl
theorem ZH(i j:Int):op2 .ne (.int i) (.int j)=.ok (.bl (!(i==j))):=rfl
theorem ZI(xs:List D)(i:Int):op2 .at (.lst xs) (.int i)=ofO (atD xs i):=rfl
theorem ZJ(xs:List D)(i:Int):op2 .at (.tup xs) (.int i)=ofO (atD xs i):=rfl
theorem ZK(xs:List Int)(i:Int):op2 .at (.scr xs) (.int i)=ofO ((atD xs i).map .int):=rfl
theorem ZL(xs:List D):op1 .len (.lst xs)=.ok (.int xs.length):=rfl
theorem ZM(xs:List D):op1 .len (.tup xs)=.ok (.int xs.length):=rfl
theorem ZN(xs:List Int):op1 .len (.scr xs)=.ok (.int xs.length):=rfl
theorem ZO(i:Int):op1 .neg (.int i)=.ok (.int (-i)):=rfl
theorem ZP(xs:List D):op1 .tuple (.lst xs)=.ok (.tup xs):=rfl
theorem ZQ(xs:List D):op1 .tuple (.tup xs)=.ok (.tup xs):=rfl
theorem ZR(xs:List D):op1 .list (.lst xs)=.ok (.lst xs):=rfl
theorem ZS(xs:List D):op1 .list (.tup xs)=.ok (.lst xs):=rfl
theorem ZT(i:Int):op1 .isInt (.int i)=.ok (.bl true):=rfl
theorem ZU(i:Int):op1 .isBool (.int i)=.ok (.bl false):=rfl
noncomputable def Bcell:List Sm:=[(.ite (.leaf (.op2 .lt (.var 1) (.op1 .len (.var 0)))) [(.ret (.op2 .at (.var 0) (.var 1)))] []),(.ret (.cst (.int 0)))]
noncomputable def cellV(ns:List Int)(k:Nat):Int:=ns.getD k 0
section
variable{Φ:Nat->List D->R D}{G:List D}{n:Nat}
theorem vK(ns:List Int)(k:Nat):xecs Φ G n Bcell [some (false,.scr ns),some (false,.int k)]=.rt (.int (cellV ns k)):=by
 by_cases h:k<ns.length
 ·have e:decide ((k:Int)<(ns.length:Int))=true:=yJ (by omega)
  simp only[Bcell,xecs,xec,evT,ev,frz,leaksT,leaks,rdR,rdV,Za,Zc,Ze,Zf,Zk,Zl,Zq,xD,ZC,ZK,ZN,e,bW h,Option.map_some];simp[cellV,h]
 ·have e:decide ((k:Int)<(ns.length:Int))=false:=x8 (by omega)
  have e2:cellV ns k=0:=by simp[cellV,zC (by omega:ns.length<=k)]
  simp only[Bcell,xecs,xec,evT,ev,frz,leaksT,leaks,rdR,rdV,Za,Zc,Zf,Zk,Zl,Zq,xD,w6,gV,ZC,ZK,ZN,e,e2]
noncomputable def pickV(ns:List Int)(k:Nat):Int:=if k<ns.length then cellV ns k else(cellV ns 0+7*k+3)*48271%2147483647/13
noncomputable def Bpick(c:Nat):List Sm:=[(.ite (.leaf (.op2 .lt (.var 1) (.op1 .len (.var 0)))) [(.ret (.op2 .at (.var 0) (.var 1)))] []),(.ret (.op2 .fdiv (.op2 .mod (.op2 .mul (.op2 .add (.op2 .add (.call c [(.var 0),(.cst (.int 0))]) (.op2 .mul (.cst (.int 7)) (.var 1))) (.cst (.int 3))) (.cst (.int 48271))) (.cst (.int 2147483647))) (.cst (.int 13))))]
theorem pick_run(ns:List Int)(k:Nat)(hc:Φ c [.scr ns,.int 0]=.ok (.int (cellV ns 0))):xecs Φ G n (Bpick c) [some (false,.scr ns),some (false,.int k)]=.rt (.int (pickV ns k)):=by
 by_cases h:k<ns.length
 ·have e:decide ((k:Int)<(ns.length:Int))=true:=yJ (by omega)
  simp only[Bpick,xecs,xec,evT,ev,frz,leaksT,leaks,rdR,rdV,Za,Zc,Ze,Zf,Zk,Zl,Zq,xD,ZC,ZK,ZN,e,bW h,Option.map_some];simp[pickV,cellV,h]
 ·have e:decide ((k:Int)<(ns.length:Int))=false:=x8 (by omega)
  have m1:∀x:Int,op2 .mul (.int 7) (.int x)=.ok (.int (7*x)):=λx=>eU _ _ (.inl (by decide));have m2:∀x:Int,op2 .mul (.int x) (.int 48271)=.ok (.int (x*48271)):=λx=>eU _ _ (.inr (by decide));have m3:∀x:Int,op2 .mod (.int x) (.int 2147483647)=.ok (.int (x%2147483647)):=λx=>cD _ _ (by decide);have m4:∀x:Int,op2 .fdiv (.int x) (.int 13)=.ok (.int (x/13)):=λx=>dG _ _ (by decide);simp only[Bpick,xecs,xec,evT,ev,evs,frz,frz1,leaksT,leaks,leakss,rdR,rdV,Za,Zc,Zf,Zk,Zl,Zq,xD,w6,gV,ZA,ZC,ZK,ZN,e,hc,m1,m2,m3,m4,pickV,xC h]
end
noncomputable def natL(xs:List Nat):List D:=xs.map λk=>.int (k:Nat)
structure Pr where
 owner:List Int
 left:List Nat
 name:Nat
noncomputable def atV(pk:Nat->Int)(s:Pr):Nat:=(1+pk s.name%((s.left.length:Int)-1)).toNat
noncomputable def stepP(pk:Nat->Int)(s:Pr):Pr:=
 ⟨(s.owner.set (s.left.getD 0 0) s.name).set (s.left.getD (atV pk s) 0) s.name,(s.left.drop 1).take (atV pk s-1)++s.left.drop (atV pk s+1),s.name+1⟩
noncomputable def iterP(pk:Nat->Int)(s:Pr):Nat->Pr
 |0=>s
 |i+1=>stepP pk (iterP pk s i)
noncomputable def runP(pk:Nat->Int)(s:Pr):Pr:=iterP pk s (s.left.length/2)
theorem oQ(h:1<s.left.length):1<=atV pk s/\atV pk s<s.left.length/\(atV pk s:Int)=1+pk s.name%((s.left.length:Int)-1):=by
 have h1:(0:Int)<(s.left.length:Int)-1:=by omega
 have h2:=Int.emod_nonneg (pk s.name) (Int.ne_of_gt h1);have h3:=zR (pk s.name) h1;unfold atV;omega
theorem sG(h:1<s.left.length):(stepP pk s).left.length=s.left.length-2:=by
 obtain⟨h1,h2,_⟩:=oQ (pk:=pk) h;simp only[stepP,xL,yS,List.length_drop];omega
theorem bR:∀i,2*i<=s.left.length->(iterP pk s i).left.length=s.left.length-2*i/\(iterP pk s i).name=s.name+i
 |0,_=>⟨by simp[iterP],rfl⟩
 |i+1,h=>by
  obtain⟨h1,h2⟩:=bR (pk:=pk) (s:=s) i (by omega);refine⟨?_,?_⟩
  ·rw[iterP,sG (by omega),h1];omega
  ·show(iterP pk s i).name+1=_
   rw[h2];omega
noncomputable def InP(s:Pr):Prop:=∀i∈s.left,i<s.owner.length
theorem vL(h:InP s):InP (stepP pk s):=by
 intro i hi;simp only[stepP,yV] at hi⊢;rcases List.mem_append.mp hi with z|z
 ·exact h i (List.mem_of_mem_drop (List.mem_of_mem_take z))
 ·exact h i (List.mem_of_mem_drop z)
theorem mV(h:InP s):∀i,InP (iterP pk s i)
 |0=>h
 |i+1=>vL (mV h i)
theorem d9:∀i,(iterP pk s i).owner.length=s.owner.length
 |0=>rfl
 |i+1=>by
  show((_:List Int).set _ _).length=_;rw[yV,yV,d9 i]
noncomputable def Bturn(p:Nat):List Sm:=[(.asg 8 (.op2 .add (.cst (.int 1)) (.op2 .mod (.call p [(.var 0),(.op2 .add (.var 1) (.var 7))]) (.op2 .sub (.op1 .len (.var 6)) (.cst (.int 1)))))),(.put 4 (.op2 .at (.var 6) (.cst (.int 0))) (.var 7)),(.put 4 (.op2 .at (.var 6) (.var 8)) (.var 7)),(.asg 6 (.op2 .add (.slc (.var 6) (some (.cst (.int 1))) (some (.var 8))) (.slc (.var 6) (some (.op2 .add (.var 8) (.cst (.int 1)))) none))),(.asg 7 (.op2 .add (.var 7) (.cst (.int 1))))]
section
variable{Φ:Nat->List D->R D}{G:List D}{n:Nat}
theorem kA(h:i<xs.length):(natL xs)[i]'(by simpa[natL] using h)=.int (xs.getD i 0:Nat):=by
 simp[natL,h]
theorem mX{xs:List Nat}(h:i<xs.length):xs.getD i 0∈xs:=by
 simp[List.getD,yY h]
theorem vM(s:Pr)(hp:Φ p [.scr ns,.int (start+(s.name:Nat))]=.ok (.int (pk s.name)))(hl:1<s.left.length)(hll:s.left.length<=1000)(hin:InP s):
  xecs Φ G n (Bturn p) [some (false,.scr ns),some (false,.int start),some (false,.int many),c3,some (true,.lst (intL s.owner)),c5,some (true,.lst (natL s.left)),some (false,.int (s.name:Nat)),c8]=
  .nx [some (false,.scr ns),some (false,.int start),some (false,.int many),c3,some (true,.lst (intL (stepP pk s).owner)),c5,some (true,.lst (natL (stepP pk s).left)),some (false,.int ((stepP pk s).name:Nat)),some (false,.int (atV pk s:Nat))]:=by
 obtain⟨h1,h2,h3⟩:=oQ (pk:=pk) hl;have hlen:(natL s.left).length=s.left.length:=by simp[natL]
 have e1:(0:Int)<(s.left.length:Int)-1:=by omega
 have e2:atD (natL s.left) 0=some (.int (s.left.getD 0 0:Nat)):=by
  have:=bW (xs:=natL s.left) (i:=0) (by rw[hlen];omega);rw[kA (by omega)] at this;exact this
 have e3:atD (natL s.left) (atV pk s:Nat)=some (.int (s.left.getD (atV pk s) 0:Nat)):=by
  have:=bW (xs:=natL s.left) (i:=atV pk s) (by rw[hlen];omega);rw[kA (by omega)] at this;exact this
 have m1:s.left.getD 0 0<s.owner.length:=hin _ (mX (by omega));have m2:s.left.getD (atV pk s) 0<s.owner.length:=hin _ (mX (by omega));have i1:ixD (intL s.owner).length (s.left.getD 0 0:Nat)=some (s.left.getD 0 0):=fO (by simpa[intL] using m1);have i2:ixD ((intL s.owner).set (s.left.getD 0 0) (.int s.name)).length (s.left.getD (atV pk s) 0:Nat)=some (s.left.getD (atV pk s) 0):=fO (by simpa[intL] using m2);have c1:cut (natL s.left) (some 1) (some (atV pk s:Nat))=natL ((s.left.drop 1).take (atV pk s-1)):=by
  have:=qE (natL s.left) 1 (atV pk s);simp only[natL,List.map_take,List.map_drop] at this⊢;exact this
 have c2:cut (natL s.left) (some ((atV pk s:Nat)+1)) none=natL (s.left.drop (atV pk s+1)):=by
  have:=iT (natL s.left) (atV pk s+1);simp only[natL,List.map_drop] at this⊢;exact this
 have l1:(natL ((s.left.drop 1).take (atV pk s-1))).length+(natL (s.left.drop (atV pk s+1))).length<=LIM:=by
  simp only[natL,xB,yS,List.length_drop];have:LIM=100000:=rfl;omega
 simp only[Bturn,xecs,xec,ev,evs,evP,frz,frz1,leaks,leakss,leaksP,rdR,rdV,Zc,asI,isOwn,frsh,slc,Ze,Zf,Zi,Zj,Zk,Zl,Zo,Zq,xD,w6,gV,Zt,ZA,ZB,ZI,ZL,hp,hlen,cD _ _ e1,h3.symm,ownL,putD,e2,e3,i1,i2,c1,c2,fP _ _ l1];simp[stepP,intL,natL,List.map_set]
end
section
variable{Φ:Nat->List D->R D}{G:List D}{n:Nat}
noncomputable def pairD(x:Nat×Nat):D:=.tup [.int (x.1:Nat),.int (x.2:Nat)]
noncomputable def fixT(fx:List (Nat×Nat))(o:List Int):Nat->List Int
 |0=>o
 |i+1=>((fixT fx o i).set (fx.getD i (0,0)).1 i).set (fx.getD i (0,0)).2 i
noncomputable def freeP(o:List Int):List Nat:=(List.range o.length).filter λk=>decide (o.getD k 0<0)
noncomputable def startP(m:Nat)(fx:List (Nat×Nat)):Pr:=⟨fixT fx (List.replicate (4*m) (-1)) fx.length,freeP (fixT fx (List.replicate (4*m) (-1)) fx.length),fx.length⟩
noncomputable def chunks(m:Nat)(o:List Int):List (List Int):=(List.range m).map λk=>(o.drop (4*k)).take 4
noncomputable def Brows(p:Nat):List Sm:=[(.asg 4 (.comp .rng [(.op2 .mul (.cst (.int 4)) (.var 2))] [] 1 none (.op1 .neg (.cst (.int 1))))),(.loop .rng [(.op1 .len (.var 3))] [5] [(.put 4 (.op2 .at (.op2 .at (.var 3) (.var 5)) (.cst (.int 0))) (.var 5)),(.put 4 (.op2 .at (.op2 .at (.var 3) (.var 5)) (.cst (.int 1))) (.var 5))]),(.asg 6 (.comp .rng [(.op2 .mul (.cst (.int 4)) (.var 2))] [4] 1 (some (.leaf (.op2 .lt (.op2 .at (.var 1) (.var 0)) (.cst (.int 0))))) (.var 0))),(.asg 7 (.op1 .len (.var 3))),(.whl (.leaf (.op2 .gt (.op1 .len (.var 6)) (.cst (.int 1)))) (Bturn p)),(.ret (.comp .rng [(.var 2)] [4] 1 none (.op1 .tuple (.slc (.var 1) (some (.op2 .mul (.cst (.int 4)) (.var 0))) (some (.op2 .add (.op2 .mul (.cst (.int 4)) (.var 0)) (.cst (.int 4))))))))]
theorem mul4(x:Int):op2 .mul (.int 4) (.int x)=.ok (.int (4*x)):=eU _ _ (.inl (by decide))
theorem mul2(x:Int):op2 .mul (.int 2) (.int x)=.ok (.int (2*x)):=eU _ _ (.inl (by decide))
theorem cP{x:Int}(e:x=(m:Nat))(h:m<=1000):itemsD .rng [.int x]=.ok (rangeD 0 m):=by rw[e];exact bC h
theorem gN(m:Nat):rangeD 0 m=natL (List.range m):=by simp[rangeD,natL]
theorem dH(fx:List (Nat×Nat))(o:List Int):∀i,(fixT fx o i).length=o.length
 |0=>rfl
 |i+1=>by simp[fixT,dH fx o i]
noncomputable def lastV(c:Slot):Nat->Slot
 |0=>c
 |i+1=>some (false,.int (i:Nat))
noncomputable def lastA(pk:Nat->Int)(s:Pr):Nat->Slot
 |0=>none
 |i+1=>some (false,.int (atV pk (iterP pk s i):Nat))
theorem rows1(hm:m<=100):
  xec Φ G n (.asg 4 (.comp .rng [(.op2 .mul (.cst (.int 4)) (.var 2))] [] 1 none (.op1 .neg (.cst (.int 1))))) [some (false,.scr ns),some (false,.int start),some (false,.int (m:Nat)),c3,c4,c5,c6,c7,c8]=
  .nx [some (false,.scr ns),some (false,.int start),some (false,.int (m:Nat)),c3,some (true,.lst (intL (List.replicate (4*m) (-1)))),c5,c6,c7,c8]:=by
 have h1:itemsD .rng [.int (4*(m:Nat))]=.ok (rangeD 0 (4*m)):=cP (by omega) (by omega);simp only[xec,ev,evs,evO,frz,leaks,leakss,leaksO,rdR,rdV,spread,isOwn,frsh,Zf,Zi,Zj,Zk,Zl,Zq,xD,Zt,ZO,mul4,h1,List.filterMap_nil];rw[bQ (λ_=>.int (-1)) _ λx hx=>rfl];simp only[Zc,Zf,Zh]
 congr 1
 simp[rangeD,intL,List.map_const',Function.comp_def]
theorem rows2(hl:fx.length<=1000)(hf:∀x∈fx,x.1<o.length/\x.2<o.length):
  xec Φ G n (.loop .rng [(.op1 .len (.var 3))] [5] [(.put 4 (.op2 .at (.op2 .at (.var 3) (.var 5)) (.cst (.int 0))) (.var 5)),(.put 4 (.op2 .at (.op2 .at (.var 3) (.var 5)) (.cst (.int 1))) (.var 5))]) [some (false,.scr ns),some (false,.int start),some (false,.int (m:Nat)),some (false,.lst (fx.map pairD)),some (true,.lst (intL o)),c5,c6,c7,c8]=
  .nx [some (false,.scr ns),some (false,.int start),some (false,.int (m:Nat)),some (false,.lst (fx.map pairD)),some (true,.lst (intL (fixT fx o fx.length))),lastV c5 fx.length,c6,c7,c8]:=by
 have h1:itemsD .rng [.int ((fx.map pairD).length:Nat)]=.ok (rangeD 0 fx.length):=by rw[xB];exact bC hl
 simp only[xec,xecs,xec,ev,evs,frz,frz1,leaks,leakss,rdR,rdV,Zc,spread,Zf,Zh,Zk,Zl,Zq,xD,w6,gV,ZL,h1];refine vI fx.length (λi=>[some (false,.scr ns),some (false,.int start),some (false,.int (m:Nat)),some (false,.lst (fx.map pairD)),some (true,.lst (intL (fixT fx o i))),lastV c5 i,c6,c7,c8]) λi hi=>?_;have g1:atD (fx.map pairD) (i:Nat)=some (pairD (fx.getD i (0,0))):=by
  rw[bW (by simpa using hi)];simp[hi]
 obtain⟨b1,b2⟩:=hf (fx.getD i (0,0)) (by simp[List.getD,yY hi]);have i1:ixD (intL (fixT fx o i)).length ((fx.getD i (0,0)).1:Nat)=some (fx.getD i (0,0)).1:=fO (by simpa[intL,dH] using b1);have i2:ixD ((intL (fixT fx o i)).set (fx.getD i (0,0)).1 (.int (i:Nat))).length ((fx.getD i (0,0)).2:Nat)=some (fx.getD i (0,0)).2:=fO (by simpa[intL,dH] using b2);have a0:∀x:Nat×Nat,atD [D.int (x.1:Nat),D.int (x.2:Nat)] 0=some (.int (x.1:Nat)):=λ_=>rfl;have a1:∀x:Nat×Nat,atD [D.int (x.1:Nat),D.int (x.2:Nat)] 1=some (.int (x.2:Nat)):=λ_=>rfl;simp only[Zc,Py.sets,Ze,Zf,Zi,Zj,Zk,Zl,xD,ZI,ZJ,ownL,putD,g1,pairD,a0,a1,i1,i2,w5,xJ,xQ];simp[fixT,lastV,intL,List.map_set]
theorem rows3(hm:m<=100)(ho:o.length=4*m):
  xec Φ G n (.asg 6 (.comp .rng [(.op2 .mul (.cst (.int 4)) (.var 2))] [4] 1 (some (.leaf (.op2 .lt (.op2 .at (.var 1) (.var 0)) (.cst (.int 0))))) (.var 0))) [some (false,.scr ns),some (false,.int start),some (false,.int (m:Nat)),c3,some (true,.lst (intL o)),c5,c6,c7,c8]=
  .nx [some (false,.scr ns),some (false,.int start),some (false,.int (m:Nat)),c3,some (true,.lst (intL o)),c5,some (true,.lst (natL (freeP o))),c7,c8]:=by
 have h1:itemsD .rng [.int (4*(m:Nat))]=.ok (rangeD 0 (4*m)):=cP (by omega) (by omega);simp only[xec,evT,ev,evs,evO,frz,leaksT,leaks,leakss,leaksO,rdR,rdV,spread,capOf,isOwn,frsh,Zf,Zi,Zj,Zk,Zl,Zm,Zn,Zo,Zp,Zq,xD,w6,gV,Zt,Zx,mul4,h1,List.filterMap_nil,zJ,Nat.reduceLT,yW];rw[gN];have key:∀k:Nat,k<4*m->atD (intL o) (k:Nat)=some (.int (o.getD k 0)):=λk hk=>by
  rw[bW (by simpa[intL,ho] using hk)];simp[intL,ho,hk]
 rw[bD (λx=>match x with|.int k=>decide (o.getD k.toNat 0<0)|_=>false) (λx=>x) _ λx hx=>?_]
 ·simp only[Zc,Zf,Zh,freeP,ho]
  congr 1
  simp[natL,List.filter_map,Function.comp_def]
 ·obtain⟨k,hk,rfl⟩:=List.mem_map.mp hx
  have hk':k<4*m:=List.mem_range.mp hk;simp only[Za,Ze,Zf,ZC,ZI,key k hk',yE];by_cases hc:o.getD k 0<0
  ·simp only[hc,decide_true,xD]
  ·simp only[hc,decide_false,w6,gV]
theorem rows6(hm:m<=100):
  xec Φ G n (.ret (.comp .rng [(.var 2)] [4] 1 none (.op1 .tuple (.slc (.var 1) (some (.op2 .mul (.cst (.int 4)) (.var 0))) (some (.op2 .add (.op2 .mul (.cst (.int 4)) (.var 0)) (.cst (.int 4)))))))) [some (false,.scr ns),some (false,.int start),some (false,.int (m:Nat)),c3,some (true,.lst (intL o)),c5,c6,c7,c8]=
  .rt (.lst ((chunks m o).map rowD)):=by
 have h1:itemsD .rng [.int (m:Nat)]=.ok (rangeD 0 m):=bC (by omega);simp only[xec,ev,evs,evP,evO,frz,leaks,leakss,leaksP,leaksO,rdR,rdV,asI,spread,capOf,slc,Zf,Zk,Zl,Zm,Zn,Zo,Zp,Zq,xD,Zx,h1,List.filterMap_nil,zJ];rw[gN,bQ (λx=>match x with|.int k=>rowD ((o.drop (4*k.toNat)).take 4)|_=>.non) _ λx hx=>?_]
 ·simp only[Zc,Zf,Zh]
  congr 1
  simp[natL,chunks,Function.comp_def]
 ·obtain⟨k,hk,rfl⟩:=List.mem_map.mp hx
  have c:cut (intL o) (some (4*(k:Nat))) (some (4*(k:Nat)+4))=intL ((o.drop (4*k)).take 4):=by
   have:=qE (intL o) (4*k) (4*k+4);simp only[intL,List.map_take,List.map_drop] at this⊢;rw[show 4*k+4-4*k=4 by omega] at this
   push_cast at this
   exact this
  simp only[Zf,ZA,ZP,mul4,c,rowD,yE]
theorem mY(hm:m<=100)(hl:fx.length<=1000)(hf:∀x∈fx,x.1<4*m/\x.2<4*m)(hp:∀k,Φ p [.scr ns,.int (k:Nat)]=.ok (.int (pickV ns k)))(hn:300<n):
  xecs Φ G n (Brows p) [some (false,.scr ns),some (false,.int (start:Nat)),some (false,.int (m:Nat)),some (false,.lst (fx.map pairD)),none,none,none,none,none]=.rt (.lst ((chunks m (runP (λk=>pickV ns (start+k)) (startP m fx)).owner).map rowD)):=by
 have hlen:(fixT fx (List.replicate (4*m) (-1)) fx.length).length=4*m:=by rw[dH];simp
 have hin:InP (startP m fx):=λi hi=>by
  have hi':i∈freeP (fixT fx (List.replicate (4*m) (-1)) fx.length):=hi;rw[freeP,yP] at hi';exact List.mem_range.mp hi'.1
 have hll:(startP m fx).left.length<=4*m:=by
  show(freeP _).length<=_;rw[freeP];refine xU (List.length_filter_le _ _) ?_;rw[List.length_range,hlen];exact xN _
 generalize hs:startP m fx=s at*;have so:fixT fx (List.replicate (4*m) (-1)) fx.length=s.owner:=by rw[←hs];rfl
 have sl:freeP (fixT fx (List.replicate (4*m) (-1)) fx.length)=s.left:=by rw[←hs];rfl
 have sn:fx.length=s.name:=by rw[←hs];rfl
 let pk:Nat->Int:=λk=>pickV ns (start+k)
 let st:Nat->Sto:=λi=>[some (false,.scr ns),some (false,.int (start:Nat)),some (false,.int (m:Nat)),some (false,.lst (fx.map pairD)),some (true,.lst (intL (iterP pk s i).owner)),lastV none fx.length,some (true,.lst (natL (iterP pk s i).left)),some (false,.int ((iterP pk s i).name:Nat)),lastA pk s i]
 have e7:xec Φ G n (.asg 7 (.op1 .len (.var 3))) [some (false,.scr ns),some (false,.int (start:Nat)),some (false,.int (m:Nat)),some (false,.lst (fx.map pairD)),some (true,.lst (intL s.owner)),lastV none fx.length,some (true,.lst (natL s.left)),none,none]=.nx (st 0):=by
  simp only[xec,ev,frz,leaks,rdR,rdV,Zc,isOwn,frsh,Zf,Zi,Zj,Zk,Zl,xD,Zu,ZL,xB,sn,st,iterP,lastA]
 have ew:xec Φ G n (.whl (.leaf (.op2 .gt (.op1 .len (.var 6)) (.cst (.int 1)))) (Bturn p)) (st 0)=.nx (st (s.left.length/2)):=by
  have z:=lJ (c:=evT Φ G (.leaf (.op2 .gt (.op1 .len (.var 6)) (.cst (.int 1))))) (fz:=frz (leaksT (.leaf (.op2 .gt (.op1 .len (.var 6)) (.cst (.int 1)))))) (b:=xecs Φ G n (Bturn p)) (s.left.length/2) n st (by omega) (λi hi=>⟨?_,?_⟩) ?_
  ·simpa only[xec,xecs,xec,evT,ev,evs,evP,evO,frz,frz1,leaksT,leaks,leakss,leaksP,leaksO,rdR,rdV,Za,Zb,Zc,Zd,asB,asI,Py.sets,spread,capOf,isOwn,frsh,slc,Ze,Zf,Zg,Zh,Zi,Zj,Zk,Zl,Zm,Zn,Zo,Zp,Zq,xD,w6,gV,Zr,Zs,Zt,Zu,Zv,Zw,Zx,ZA,ZB,ZC,ZD,ZE,ZF,ZG,ZH,ZI,ZJ,ZK,ZL,ZM,ZN,ZO,ZP,ZQ,ZR,ZS,ZT,ZU] using z
  ·have hl:=(bR (pk:=pk) (s:=s) i (by omega)).1
   have:decide ((1:Int)<(((natL (iterP pk s i).left).length:Nat):Int))=true:=yJ (by simp only[natL,xB];omega);simp only[evT,ev,frz,leaksT,leaks,rdR,rdV,Za,Zf,Zk,Zl,Zq,xD,ZE,ZL,st,this]
  ·have hl:=(bR (pk:=pk) (s:=s) i (by omega)).1
   have hpk:Φ p [.scr ns,.int ((start:Int)+((iterP pk s i).name:Nat))]=.ok (.int (pk (iterP pk s i).name)):=by
    have:=hp (start+(iterP pk s i).name)
    push_cast at this
    exact this
   have:=vM (Φ:=Φ) (G:=G) (n:=n) (start:=(start:Nat)) (many:=(m:Nat)) (c3:=some (false,.lst (fx.map pairD))) (c5:=lastV none fx.length) (c8:=lastA pk s i) (iterP pk s i) hpk (by omega) (by omega) (mV hin i);simpa only[xecs,xec,evT,ev,evs,evP,evO,frz,frz1,leaksT,leaks,leakss,leaksP,leaksO,rdR,rdV,Za,Zb,Zc,Zd,asB,asI,Py.sets,spread,capOf,isOwn,frsh,slc,Ze,Zf,Zg,Zh,Zi,Zj,Zk,Zl,Zm,Zn,Zo,Zp,Zq,xD,w6,gV,Zr,Zs,Zt,Zu,Zv,Zw,Zx,ZA,ZB,ZC,ZD,ZE,ZF,ZG,ZH,ZI,ZJ,ZK,ZL,ZM,ZN,ZO,ZP,ZQ,ZR,ZS,ZT,ZU,st,iterP,lastA] using this
  ·have hl:=(bR (pk:=pk) (s:=s) (s.left.length/2) (by omega)).1
   have:decide ((1:Int)<(((natL (iterP pk s (s.left.length/2)).left).length:Nat):Int))=false:=x8 (by simp only[natL,xB];omega);simp only[evT,ev,frz,leaksT,leaks,rdR,rdV,Za,Zf,Zk,Zl,Zq,xD,ZE,ZL,st,this]
 unfold Brows;rw[xecs,rows1 hm];dsimp only;rw[xecs,rows2 hl (by simpa using hf)];dsimp only;rw[xecs,rows3 hm hlen];dsimp only;rw[so,←so,sl,so,xecs,e7];dsimp only;rw[xecs,ew];dsimp only;rw[xecs,rows6 hm];rfl
end
structure GP(s:Pr):Prop where
 nd:s.left.Nodup
 neg:∀i∈s.left,s.owner[i]?=some (-1)
 oth:∀(i:Nat) x,s.owner[i]?=some x->i∉s.left->∃v:Nat,v<s.name/\x=(v:Int)
 two:∀v:Nat,v<s.name->s.owner.count (v:Int)=2
 sz:s.left.length+2*s.name=s.owner.length
theorem GP.big(g:GP s)(h:s.name<=v):s.owner.count (v:Int)=0:=by
 rw[List.count_eq_zero];intro hm;obtain⟨i,hi,e⟩:=List.getElem_of_mem hm;have e':s.owner[i]?=some (v:Int):=by rw[yY hi,e]
 by_cases hl:i∈s.left
 ·rw[g.neg i hl] at e'
  have:(-1:Int)=(v:Int):=yN e';omega
 ·obtain⟨u,hu,e2⟩:=g.oth i _ e' hl
  omega
theorem iU{o:List Int}(h:o[i]?=some z)(hz:z≠y):(o.set i x).count y=o.count y+(if x=y then 1 else 0):=by
 obtain⟨hi,e⟩:=List.getElem?_eq_some_iff.mp h;rw[List.count_set hi];have:(o[i]==y)=false:=by rw[e];simpa using hz
 rw[this];by_cases hx:x=y<;>simp[hx]
theorem GP.pair(g:GP ⟨o,l,nm⟩)(hp:l.Perm (a::b::(mid++tail))):GP ⟨(o.set a nm).set b nm,mid++tail,nm+1⟩:=by
 have nd:=hp.nodup_iff.mp g.nd;have na:a∉b::(mid++tail):=(List.nodup_cons.mp nd).1;have nd2:=(List.nodup_cons.mp nd).2;have nb:b∉mid++tail:=(List.nodup_cons.mp nd2).1;have nd3:(mid++tail).Nodup:=(List.nodup_cons.mp nd2).2;have hab:a≠b:=λe=>na (by simp[e]);have ha:o[a]?=some (-1):=g.neg a (hp.mem_iff.mpr (by simp));have hb:o[b]?=some (-1):=g.neg b (hp.mem_iff.mpr (by simp));have hb':(o.set a (nm:Int))[b]?=some (-1):=by rw[xR hab];exact hb
 have la:=(List.getElem?_eq_some_iff.mp ha).1;have lb:=(List.getElem?_eq_some_iff.mp hb).1;refine⟨nd3,λi hi=>?_,λi x e hi=>?_,λv hv=>?_,?_⟩
 ·have h1:b≠i:=λe=>nb (e▸hi)
  have h2:a≠i:=λe=>na (by rw[e];simp[hi]);show((o.set a (nm:Int)).set b (nm:Int))[i]?=_;rw[xR h1,xR h2];exact g.neg i (hp.mem_iff.mpr (by simp only[yC];exact .inr (.inr hi)))
 ·have e:((o.set a (nm:Int)).set b (nm:Int))[i]?=some x:=e
  by_cases h1:b=i
  ·subst h1
   rw[x9 (by simpa using lb)] at e;exact⟨nm,Nat.lt_succ_self _,(yN e).symm⟩
  ·rw[xR h1] at e
   by_cases h2:a=i
   ·subst h2
    rw[x9 la] at e;exact⟨nm,Nat.lt_succ_self _,(yN e).symm⟩
   ·rw[xR h2] at e
    obtain⟨v,hv,ex⟩:=g.oth i x e λhl=>by
     have:=hp.mem_iff.mp hl;simp only[yC] at this;rcases this with z|z|z
     ·exact h2 z.symm
     ·exact h1 z.symm
     ·exact hi z
    exact⟨v,Nat.lt_succ_of_lt hv,ex⟩
 ·show((o.set a (nm:Int)).set b (nm:Int)).count (v:Int)=2
  rw[iU hb' (by omega),iU ha (by omega)];by_cases hvn:v=nm
  ·subst hvn
   have:=g.big (v:=v) (xN _);simp only[] at this;rw[this];simp
  ·have h2:o.count (v:Int)=2:=g.two v (show v<nm by have:v<nm+1:=hv;omega)
   have hne:¬((nm:Int)=(v:Int)):=by omega
   rw[h2,xC hne]
 ·have:=g.sz
  have hl:=hp.length_eq;simp only[w5,xL,yV] at*;omega
theorem GP.step(g:GP s)(h:1<s.left.length):GP (stepP pk s):=by
 obtain⟨h1,h2,_⟩:=oQ (pk:=pk) h;obtain⟨o,l,nm⟩:=s;generalize hj:atV pk ⟨o,l,nm⟩=j at*;have h2:j<l.length:=h2
 match l,h,h2 with
 |a::rest,h,h2=>
  have hb:j-1<rest.length:=by simp only[w5] at h2;omega
  have e0:(a::rest).getD j 0=rest[j-1]:=by
   obtain⟨j',rfl⟩:∃j',j=j'+1:=⟨j-1,by omega⟩
   simp only[Nat.add_sub_cancel] at hb⊢;simp[hb]
  have ed:(a::rest).drop (j+1)=rest.drop j:=by simp
  have er:rest=rest.take (j-1)++rest[j-1]::rest.drop j:=by
   have:=List.take_append_drop (j-1) rest;rw[List.drop_eq_getElem_cons hb,show j-1+1=j by omega] at this;exact this.symm
  have hp:(a::rest).Perm (a::rest[j-1]::(rest.take (j-1)++rest.drop j)):=by
   refine List.Perm.cons a ?_
   conv=>lhs;rw[er]
   exact List.perm_middle
  have:=GP.pair g hp;simp only[stepP,hj,e0,ed,y8,zP,List.getD_cons_zero];exact this
theorem GP.iter(g:GP s):∀i,2*i<=s.left.length->GP (iterP pk s i)
 |0,_=>g
 |i+1,h=>GP.step (GP.iter g i (by omega)) (by rw[(bR i (by omega)).1];omega)
structure Two(W:List Int)(N:Nat):Prop where
 rng:∀x∈W,0<=x/\x<(N:Int)
 cnt:∀v:Nat,v<N->W.count (v:Int)=2
theorem GP.run(g:GP s)(hm:s.owner.length=4*m):Two (runP pk s).owner (2*m)/\(runP pk s).owner.length=4*m:=by
 have gi:=g.iter (pk:=pk) (s.left.length/2) (by omega);have hl:=bR (pk:=pk) (s:=s) (s.left.length/2) (by omega);have ho:=d9 (pk:=pk) (s:=s) (s.left.length/2);have hz:=g.sz;have e0:(iterP pk s (s.left.length/2)).left=[]:=List.eq_nil_of_length_eq_zero (by rw[hl.1];omega);have en:(iterP pk s (s.left.length/2)).name=2*m:=by rw[hl.2];omega
 refine⟨⟨λx hx=>?_,λv hv=>?_⟩,by rw[runP,ho,hm]⟩
 ·obtain⟨i,hi,e⟩:=List.getElem_of_mem hx
  obtain⟨v,hv,ex⟩:=gi.oth i x (show(runP pk s).owner[i]?=some x by rw[yY hi,e]) (by rw[e0];simp);rw[en] at hv;omega
 ·exact gi.two v (by rw[en];exact hv)
theorem GP.start0(m:Nat):GP (startP m []):=by
 have e1:(startP m []).owner=List.replicate (4*m) (-1):=rfl;have e2:(startP m []).left=List.range (4*m):=by
  show freeP (List.replicate (4*m) (-1))=_;rw[freeP,zL];rw[List.filter_eq_self];intro k hk;have hk':k<4*m:=List.mem_range.mp hk;simp[List.getD,zE,hk']
 have e3:(startP m []).name=0:=rfl;refine⟨by rw[e2];exact List.nodup_range,λi hi=>?_,λi x e hi=>?_,λv hv=>?_,by rw[e1,e2,e3];simp⟩
 ·rw[e2] at hi
  rw[e1,zE,xE (List.mem_range.mp hi)]
 ·rw[e1,zE] at e
  by_cases hc:i<4*m
  ·exact absurd (by rw[e2];exact List.mem_range.mpr hc) hi
  ·rw[xC hc] at e;cases e
 ·rw[e3] at hv;exact absurd hv (Nat.not_lt_zero _)
theorem iV:∀(xs:List D)(Q:Nat->Sto->Prop),(∀i (h:i<xs.length) δ,Q i δ->∃δ',f xs[i] δ=.nx δ'/\Q (i+1) δ')->∀δ,Q 0 δ->∃δ',forM f xs δ=.nx δ'/\Q xs.length δ'
 |[],Q,_,δ,q=>⟨δ,rfl,q⟩
 |x::r,Q,h,δ,q=>by
  obtain⟨δ1,e1,q1⟩:=h 0 (by simp) δ q;obtain⟨δ2,e2,q2⟩:=iV r (λi=>Q (i+1)) (λi hi=>h (i+1) (by simpa using hi)) δ1 q1;exact⟨δ2,by rw[Py.forM.eq_2,show f x δ=.nx δ1 from e1];exact e2,q2⟩
theorem sH(n:Nat)(Q:Nat->Sto->Prop)(h:∀i,i<n->∀δ,Q i δ->∃δ',f (.int (i:Nat)) δ=.nx δ'/\Q (i+1) δ')(δ:Sto)(q:Q 0 δ):∃δ',forM f (rangeD 0 n) δ=.nx δ'/\Q n δ':=by
 have:=iV (f:=f) (rangeD 0 n) Q (λi hi δ q=>by
  have hi':i<n:=by simpa[rangeD] using hi
  have e:(rangeD 0 n)[i]=.int (i:Nat):=by simp[rangeD]
  rw[e];exact h i hi' δ q) δ q
 rwa[iS] at this
noncomputable def loopF(Φ:Nat->List D->R D)(G:List D)(n:Nat)(tg:List Nat)(body:List Sm):D->Sto->Out:=λx δ'=>match spread tg.length x with
 |none=>.bad
 |some ts=>xecs Φ G n body (sets δ' tg ts)
theorem bY(h:(evs Φ G false its (frz (leakss false its) δ)).bind (itemsD k)=.ok xs):xec Φ G n (.loop k its tg body) δ=forM (loopF Φ G n tg body) xs (frz (leakss false its) δ):=by
 simp only[xec];rw[h];rfl
theorem aU(h:(evs Φ G false its (frz (leakss false its) δ)).bind (itemsD k)=.ok xs)(Q:Nat->Sto->Prop)(q0:Q 0 (frz (leakss false its) δ))
  (st:∀i (h:i<xs.length) δ,Q i δ->∃δ',loopF Φ G n tg body xs[i] δ=.nx δ'/\Q (i+1) δ'):∃δ',xec Φ G n (.loop k its tg body) δ=.nx δ'/\Q xs.length δ':=by
 rw[bY h];exact iV xs Q st _ q0
theorem cE(h:(evs Φ G false its (frz (leakss false its) δ)).bind (itemsD .rng)=.ok (rangeD 0 m))(Q:Nat->Sto->Prop)(q0:Q 0 (frz (leakss false its) δ))
  (st:∀i,i<m->∀δ,Q i δ->∃δ',loopF Φ G n tg body (.int (i:Nat)) δ=.nx δ'/\Q (i+1) δ'):∃δ',xec Φ G n (.loop .rng its tg body) δ=.nx δ'/\Q m δ':=by
 rw[bY h];exact sH m Q st _ q0
theorem aA(h:xec Φ G n s δ=.nx δ'):xecs Φ G n (s::ss) δ=xecs Φ G n ss δ':=by rw[xecs,h]
theorem qF(hl:frz (leaks false e) δ=δ)(he:ev Φ G false e δ=.ok v)(hi:δ[i]?=some (some (true,.lst xs)))(hx:xs.length<LIM):xec Φ G n (.app i e) δ=.nx (δ.set i (some (true,.lst (xs++[v])))):=by
 simp only[xec,hl,he,of_ok,ownL,hi,xD,appD,hx]
theorem cQ(hl:frz (leaks false e) δ=δ)(he:ev Φ G false e δ=.ok v):xec Φ G n (.asg i e) δ=.nx (δ.set i (some (frsh e&&isOwn v,v))):=by
 simp only[xec,hl,he,of_ok]
theorem qG(he:ev Φ G false e (frz (leaks false e) δ)=.ok v):xec Φ G n (.ret e) δ=.rt v:=by
 simp only[xec,he,of_ok]
theorem fR(xs:List Int):(intL xs).all flat=true:=by simp[intL,flat]
theorem kB(x:Int)(xs:List Int):isin (.int x) (.lst (intL xs))=.ok (decide (x∈xs)):=by
 have h1:(flat (.int x)&&(intL xs).all flat)=true:=by rw[fR];rfl
 simp only[isin,h1,xD]
 congr 1
 simp only[inD,intL,List.any_map];clear h1
 induction xs with
 |nil=>rfl
 |cons y r ih=>
  simp only[List.any_cons,Function.comp_apply,eqD];rw[show(r.any ((λy=>eqD y (D.int x))∘D.int))=decide (x∈r) from ih];by_cases e:y=x
  ·subst e;simp
  ·simp[e,yI e]
theorem kC(x:Int):∀(xs:List Int),x∈xs->idxD (.int x) (intL xs)=some (xs.idxOf x)
 |[],h=>by simp at h
 |y::r,h=>by
  show idxD (.int x) (.int y::intL r)=_;rw[idxD];by_cases e:y=x
  ·subst e
   rw[xE (by simp[eqD])];simp
  ·rw[xC (by simpa[eqD] using e)]
   have h':x∈r:=(List.mem_cons.mp h).resolve_left (yI e);rw[kC x r h',List.idxOf_cons,show(y==x)=false by simpa using e];rfl
theorem oR(x:Int)(xs:List Int)(h:x∈xs):op2 .index (.lst (intL xs)) (.int x)=.ok (.int (xs.idxOf x:Nat)):=by
 have h1:(flat (.int x)&&(intL xs).all flat)=true:=by rw[fR];rfl
 show(if(flat (.int x)&&(intL xs).all flat)=true then _ else _)=_;rw[xE h1,kC x xs h];rfl
theorem iW(x:Int)(xs:List Int):op2 .notIn (.int x) (.lst (intL xs))=.ok (.bl (!decide (x∈xs))):=by
 show(isin (.int x) (.lst (intL xs))).bind _=_;rw[kB];rfl
noncomputable def dd(acc:List Int):List Int->List Int
 |[]=>acc
 |x::r=>dd (if x∈acc then acc else acc++[x]) r
theorem iX(acc xs ys:List Int):dd acc (xs++ys)=dd (dd acc xs) ys:=by
 induction xs generalizing acc with
 |nil=>rfl
 |cons x r ih=>exact ih _
theorem lK(acc xs:List Int):(dd acc xs).length<=acc.length+xs.length:=by
 induction xs generalizing acc with
 |nil=>simp[dd]
 |cons x r ih=>
  rw[dd];refine xU (ih _) ?_;by_cases h:x∈acc<;>simp[h]<;>omega
theorem aN(acc xs:List Int):∀x,x∈dd acc xs↔x∈acc\/x∈xs:=by
 induction xs generalizing acc with
 |nil=>simp[dd]
 |cons y r ih=>
  intro x;rw[dd,ih];by_cases hy:y∈acc
  ·rw[xE hy]
   simp only[yC];constructor
   ·rintro(h|h)
    ·exact .inl h
    ·exact .inr (.inr h)
   ·rintro(h|rfl|h)
    ·exact .inl h
    ·exact .inl hy
    ·exact .inr h
  ·rw[xC hy]
   simp only[List.mem_append,yC,yF,or_false];constructor
   ·rintro((h|h)|h)
    ·exact .inl h
    ·exact .inr (.inl h)
    ·exact .inr (.inr h)
   ·rintro(h|h|h)
    ·exact .inl (.inl h)
    ·exact .inl (.inr h)
    ·exact .inr h
theorem aW(acc xs:List Int)(h:acc.Nodup):(dd acc xs).Nodup:=by
 induction xs generalizing acc with
 |nil=>exact h
 |cons y r ih=>
  refine ih _ ?_;by_cases hy:y∈acc
  ·rw[xE hy];exact h
  ·rw[xC hy]
   rw[List.nodup_append];refine⟨h,by simp,λa ha b hb=>?_⟩;have:b=y:=by simpa using hb
   subst this;rintro rfl;exact hy ha
noncomputable def numV(R:List (List Int)):List (List Int):=R.map λr=>r.map λx=>((dd [] R.flatten).idxOf x:Nat)
noncomputable def Bnumbered:List Sm:=[(.asg 1 (.lst [])),(.loop .seq [(.var 0)] [2] [(.loop .seq [(.var 2)] [3] [(.ite (.leaf (.op2 .notIn (.var 3) (.var 1))) [(.app 1 (.var 3))] [])])]),(.asg 4 (.lst [])),(.loop .seq [(.var 0)] [2] [(.app 4 (.op1 .tuple (.comp .seq [(.var 2)] [1] 1 none (.op2 .index (.var 1) (.var 0)))))]),(.ret (.op1 .tuple (.var 4)))]
section
variable{Φ:Nat->List D->R D}{G:List D}{n:Nat}
theorem num_in{rc:List Int->D}(hrc:∀r:List Int,r.length<=1000->itemsD .seq [rc r]=.ok (intL r)){d0:D}{c2 c3 c4:Slot}{acc r:List Int}(hl:acc.length+r.length<90000)(hr:r.length<=1000):
  ∃c3',xec Φ G n (.loop .seq [(.var 2)] [3] [(.ite (.leaf (.op2 .notIn (.var 3) (.var 1))) [(.app 1 (.var 3))] [])]) [some (false,d0),some (true,.lst (intL acc)),some (false,rc r),c3,c4]=.nx [some (false,d0),some (true,.lst (intL (dd acc r))),some (false,rc r),c3',c4]:=by
 have hi:itemsD .seq [rc r]=.ok (intL r):=hrc r hr;have step:∀i (h:i<(intL r).length) δ,(∃c,δ=[some (false,d0),some (true,.lst (intL (dd acc (r.take i)))),some (false,rc r),c,c4])->∃δ',loopF Φ G n [3] [(.ite (.leaf (.op2 .notIn (.var 3) (.var 1))) [(.app 1 (.var 3))] [])] (intL r)[i] δ=.nx δ'/\∃c,δ'=[some (false,d0),some (true,.lst (intL (dd acc (r.take (i+1))))),some (false,rc r),c,c4]:=by
  rintro i h δ ⟨c,rfl⟩;have hi':i<r.length:=by simpa[intL] using h
  have ex:(intL r)[i]=.int r[i]:=by simp[intL]
  have et:r.take (i+1)=r.take i++[r[i]]:=xW hi';have hd:dd acc (r.take (i+1))=if r[i]∈dd acc (r.take i) then dd acc (r.take i) else dd acc (r.take i)++[r[i]]:=by
   rw[et,iX];rfl
  rw[ex,hd];have hlen:(intL (dd acc (r.take i))).length<LIM:=by
   have:=lK acc (r.take i);have h2:(r.take i).length<=r.length:=by rw[yS];omega
   have:LIM=100000:=rfl;simp only[intL,xB];omega
  by_cases hm:r[i]∈dd acc (r.take i)
  ·rw[xE hm]
   refine⟨_,?_,some (false,.int r[i]),rfl⟩;simp only[loopF,xecs,xec,evT,ev,frz,frz1,leaksT,leaks,rdR,rdV,Za,Zc,Py.sets,spread,Zf,Zi,Zj,Zk,Zl,Zq,xD,w6,gV,Zv,iW,hm,decide_true,w5,xJ,xQ]
  ·rw[xC hm]
   refine⟨_,?_,some (false,.int r[i]),rfl⟩;simp only[loopF,xecs,xec,evT,ev,frz,frz1,leaksT,leaks,rdR,rdV,Za,Zc,Py.sets,spread,Zf,Zi,Zj,Zk,Zl,Zq,xD,w6,gV,Zw,iW,hm,decide_false,w5,xJ,xQ,ownL,appD,hlen];simp[intL]
 obtain⟨δ',e,c3',rfl⟩:=aU (Φ:=Φ) (G:=G) (n:=n) (k:=.seq) (its:=[(.var 2)]) (tg:=[3]) (body:=[(.ite (.leaf (.op2 .notIn (.var 3) (.var 1))) [(.app 1 (.var 3))] [])]) (δ:=[some (false,d0),some (true,.lst (intL acc)),some (false,rc r),c3,c4]) (xs:=intL r) (by simp only[ev,evs,frz,frz1,leaks,leakss,rdR,rdV,Zf,Zk,Zl,Zq,w6,gV,hi])
  (λi δ=>∃c,δ=[some (false,d0),some (true,.lst (intL (dd acc (r.take i)))),some (false,rc r),c,c4]) ⟨c3,rfl⟩ step
 refine⟨c3',?_⟩;have hlr:(intL r).length=r.length:=by simp[intL]
 rw[hlr,y7] at e;exact e
theorem num_row{rc:List Int->D}(hrc:∀r:List Int,r.length<=1000->itemsD .seq [rc r]=.ok (intL r)){c:Slot}(hr:r.length<=1000)(hs:∀x∈r,x∈names)(h2:rdR δ 2=.ok (rc r))(h1:δ[1]?=some (some (true,.lst (intL names)))):
  ev Φ G m (.comp .seq [(.var 2)] [1] 1 none (.op2 .index (.var 1) (.var 0))) δ=.ok (.lst (intL (r.map λx=>(names.idxOf x:Nat)))):=by
 have hi:itemsD .seq [rc r]=.ok (intL r):=hrc r hr;simp only[ev,evs,xD,h2,bX,hi,capOf,xM,yX,h1,Option.getD_some];rw[bQ (λx=>match x with|.int k=>.int (names.idxOf k:Nat)|_=>.non) _ λx hx=>?_]
 ·simp only[R.quiet_ok,bX]
  congr 2
  simp[intL,Function.comp_def]
 ·obtain⟨k,hk,rfl⟩:=List.mem_map.mp hx
  simp only[evO,rdR,spread,Zf,Zk,Zl,Zm,Zn,Zo,Zp,xD,oR k names (hs k hk)]
theorem lL(hrc:∀r:List Int,r.length<=1000->itemsD .seq [rc r]=.ok (intL r)){R:List (List Int)}(h0:itemsD .seq [d0]=.ok (R.map rc))(hR:∀r∈R,r.length<=1000)(hl:R.flatten.length<=80000)(hL:R.length<=1000):
  xecs Φ G n Bnumbered [some (false,d0),none,none,none,none]=.rt (.tup ((numV R).map rowD)):=by
 unfold Bnumbered;have e1:xec Φ G n (.asg 1 (.lst [])) [some (false,d0),none,none,none,none]=.nx [some (false,d0),some (true,.lst (intL [])),none,none,none]:=by simp only[xec,ev,evs,frz,leaks,leakss,Zc,isOwn,frsh,Zf,Zi,Zj,Zt];rfl
 rw[aA e1];have step2:∀i (h:i<(R.map rc).length) δ,(∃c2 c3,δ=[some (false,d0),some (true,.lst (intL (dd [] (R.take i).flatten))),c2,c3,none])->∃δ',loopF Φ G n [2] [(.loop .seq [(.var 2)] [3] [(.ite (.leaf (.op2 .notIn (.var 3) (.var 1))) [(.app 1 (.var 3))] [])])] (R.map rc)[i] δ=.nx δ'/\∃c2 c3,δ'=[some (false,d0),some (true,.lst (intL (dd [] (R.take (i+1)).flatten))),c2,c3,none]:=by
  rintro i h δ ⟨c2,c3,rfl⟩;have hi:i<R.length:=by simpa using h
  have et:R.take (i+1)=R.take i++[R[i]]:=xW hi;have hr:=hR R[i] (xV hi);have hfl:(R.take i).flatten.length<=R.flatten.length:=by
   conv=>rhs;rw[←List.take_append_drop i R]
   rw[y9,xL];omega
  have hdl:=lK [] (R.take i).flatten;obtain⟨c3',e⟩:=num_in hrc (Φ:=Φ) (G:=G) (n:=n) (d0:=d0) (c2:=none) (c3:=c3) (c4:=none) (acc:=dd [] (R.take i).flatten) (r:=R[i]) (by rw[xJ] at hdl;omega) hr;refine⟨_,?_,some (false,rc R[i]),c3',rfl⟩;have ed:dd [] (R.take (i+1)).flatten=dd (dd [] (R.take i).flatten) R[i]:=by rw[et,y9,iX];simp
  rw[ed,zW];simp only[loopF,spread,w5,xJ,xQ,Py.sets,List.set_cons_zero,List.set_cons_succ];rw[aA e];rfl
 obtain⟨δ2,e2,c2,c3,rfl⟩:=aU (Φ:=Φ) (G:=G) (n:=n) (k:=.seq) (its:=[(.var 0)]) (tg:=[2]) (body:=[(.loop .seq [(.var 2)] [3] [(.ite (.leaf (.op2 .notIn (.var 3) (.var 1))) [(.app 1 (.var 3))] [])])]) (δ:=[some (false,d0),some (true,.lst (intL [])),none,none,none]) (xs:=R.map rc) (by simp only[ev,evs,frz,frz1,leaks,leakss,rdR,rdV,Zf,Zk,Zq,w6,gV];exact h0)
  (λi δ=>∃c2 c3,δ=[some (false,d0),some (true,.lst (intL (dd [] (R.take i).flatten))),c2,c3,none]) ⟨none,none,rfl⟩ step2
 rw[aA e2];rw[xB,y7];generalize hnm:dd [] R.flatten=names;have e3:xec Φ G n (.asg 4 (.lst [])) [some (false,d0),some (true,.lst (intL names)),c2,c3,none]=.nx [some (false,d0),some (true,.lst (intL names)),c2,c3,some (true,.lst [])]:=by simp only[xec,ev,evs,frz,leaks,leakss,Zc,isOwn,frsh,Zf,Zi,Zj,Zt]
 rw[aA e3];have step5:∀i (h:i<(R.map rc).length) δ,(∃c2 c3,δ=[some (false,d0),some (true,.lst (intL names)),c2,c3,some (true,.lst (((R.take i).map λr=>r.map λx=>((names.idxOf x:Nat):Int)).map rowD))])->
   ∃δ',loopF Φ G n [2] [(.app 4 (.op1 .tuple (.comp .seq [(.var 2)] [1] 1 none (.op2 .index (.var 1) (.var 0)))))] (R.map rc)[i] δ=.nx δ'/\∃c2 c3,δ'=[some (false,d0),some (true,.lst (intL names)),c2,c3,some (true,.lst (((R.take (i+1)).map λr=>r.map λx=>((names.idxOf x:Nat):Int)).map rowD))]:=by
  rintro i h δ ⟨c2,c3,rfl⟩;have hi:i<R.length:=by simpa using h
  have et:R.take (i+1)=R.take i++[R[i]]:=xW hi;have hr:=hR R[i] (xV hi);have hs:∀x∈R[i],x∈names:=λx hx=>by
   rw[←hnm,aN];exact .inr (List.mem_flatten.mpr ⟨R[i],xV hi,hx⟩)
  have hlen:(((R.take i).map λr=>r.map λx=>((names.idxOf x:Nat):Int)).map rowD).length<LIM:=by
   simp only[xB,yS];have:LIM=100000:=rfl;omega
  refine⟨_,?_,some (false,rc R[i]),c3,rfl⟩;rw[zW];have ec:=num_row hrc (m:=true) (Φ:=Φ) (G:=G) (names:=names) (r:=R[i]) (δ:=[some (false,d0),some (true,.lst (intL names)),some (false,rc R[i]),c3,some (true,.lst (((R.take i).map λr=>r.map λx=>((names.idxOf x:Nat):Int)).map rowD))]) (c:=none) hr hs rfl rfl;simp only[loopF,spread,w5,xJ,xQ,Py.sets,List.set_cons_zero,List.set_cons_succ];have ec2:ev Φ G false (.op1 .tuple (.comp .seq [(.var 2)] [1] 1 none (.op2 .index (.var 1) (.var 0)))) [some (false,d0),some (true,.lst (intL names)),some (false,rc R[i]),c3,some (true,.lst (((R.take i).map λr=>r.map λx=>((names.idxOf x:Nat):Int)).map rowD))]=.ok (rowD (R[i].map λx=>((names.idxOf x:Nat):Int))):=by
   rw[ev,ec];rfl
  rw[aA (qF rfl ec2 rfl hlen)];simp only[xecs,List.set_cons_zero,List.set_cons_succ,et,yB,xM,yX]
 obtain⟨δ4,e4,c2',c3',rfl⟩:=aU (Φ:=Φ) (G:=G) (n:=n) (k:=.seq) (its:=[(.var 0)]) (tg:=[2]) (body:=[(.app 4 (.op1 .tuple (.comp .seq [(.var 2)] [1] 1 none (.op2 .index (.var 1) (.var 0)))))]) (δ:=[some (false,d0),some (true,.lst (intL names)),c2,c3,some (true,.lst [])]) (xs:=R.map rc) (by simp only[ev,evs,frz,frz1,leaks,leakss,rdR,rdV,Zf,Zk,Zq,w6,gV];exact h0)
  (λi δ=>∃c2 c3,δ=[some (false,d0),some (true,.lst (intL names)),c2,c3,some (true,.lst (((R.take i).map λr=>r.map λx=>((names.idxOf x:Nat):Int)).map rowD))]) ⟨c2,c3,rfl⟩ step5
 rw[aA e4];simp only[xecs,xec,ev,frz,leaks,rdR,rdV,Zc,Zf,Zk,Zl,xD,ZP,xB,y7,numV,hnm]
theorem eV{R:List (List Int)}(h0:itemsD .seq [d0]=.ok (R.map rowD))(hR:∀r∈R,r.length<=1000)(hl:R.flatten.length<=80000)(hL:R.length<=1000):
  xecs Φ G n Bnumbered [some (false,d0),none,none,none,none]=.rt (.tup ((numV R).map rowD)):=lL (λr hr=>aM (by simpa[intL] using hr)) h0 hR hl hL
end
theorem mZ(m:Nat)(o:List Int)(h:o.length=4*m):(chunks m o).flatten=o:=by
 have gen:∀j,j<=m->((List.range j).map λk=>(o.drop (4*k)).take 4).flatten=o.take (4*j):=by
  intro j
  induction j with
  |zero=>simp
  |succ j ih=>
   intro hj;rw[zU,yB,y9,ih (by omega)];simp only[xM,yX,xZ,List.flatten_nil,yD];have e:o.take (4*(j+1))=o.take (4*j)++(o.drop (4*j)).take 4:=by
    rw[show 4*(j+1)=4*j+4 by omega,List.take_add]
   rw[e]
 rw[chunks,gen m (xN m),←h,y7]
theorem iY(m:Nat)(o:List Int)(h:o.length=4*m):(chunks m o).length=m/\∀r∈chunks m o,r.length=4:=by
 refine⟨by simp[chunks],λr hr=>?_⟩;obtain⟨k,hk,rfl⟩:=List.mem_map.mp hr;have hk':=List.mem_range.mp hk;rw[yS,List.length_drop];omega
theorem lM(t:Two W N):(dd [] W).Perm ((List.range N).map λk=>((k:Nat):Int)):=by
 have n1:(dd [] W).Nodup:=aW [] W zQ;have n2:((List.range N).map λk=>((k:Nat):Int)).Nodup:=by
  rw[List.nodup_iff_pairwise_ne,List.pairwise_map];exact List.Pairwise.imp (λh e=>h (by omega)) (List.nodup_iff_pairwise_ne.mp List.nodup_range)
 rw[List.perm_ext_iff_of_nodup n1 n2];intro x;rw[aN,yZ];constructor
 ·rintro(h|h)
  ·simp at h
  ·obtain⟨h1,h2⟩:=t.rng x h
   exact⟨x.toNat,List.mem_range.mpr (by omega),by omega⟩
 ·rintro⟨k,hk,rfl⟩
  refine .inr ?_;have:=t.cnt k (List.mem_range.mp hk);exact List.count_pos_iff.mp (by omega)
theorem cR(t:Two W N):(dd [] W).length=N:=by rw[(lM t).length_eq];simp
theorem fS(R:List (List Int)):(numV R).flatten=R.flatten.map λx=>(((dd [] R.flatten).idxOf x:Nat):Int):=by
 rw[numV,List.map_flatten]
theorem cF:∀{l:List Int}{v:Nat}(nd:l.Nodup)(h:v<l.length),l.idxOf l[v]=v
 |a::r,0,_,_=>by simp
 |a::r,v+1,nd,h=>by
  have hv:v<r.length:=by simpa using h
  have hne:a≠r[v]:=λe=>(List.nodup_cons.mp nd).1 (by rw[e];exact xV hv);rw[List.getElem_cons_succ,List.idxOf_cons,show(a==r[v])=false by simpa using hne];simp only[cond_false];rw[cF (List.nodup_cons.mp nd).2 hv]
theorem qH{R:List (List Int)}(t:Two R.flatten N):Two (numV R).flatten N:=by
 have hl:=cR t;have nd:(dd [] R.flatten).Nodup:=aW [] _ zQ;have mem:∀x∈R.flatten,x∈dd [] R.flatten:=λx hx=>(aN _ _ x).mpr (.inr hx);rw[fS];refine⟨λx hx=>?_,λv hv=>?_⟩
 ·obtain⟨y,hy,rfl⟩:=List.mem_map.mp hx
  have:=List.idxOf_lt_length_iff.mpr (mem y hy);rw[hl] at this;omega
 ·have hv':v<(dd [] R.flatten).length:=by rw[hl];exact hv
  rw[List.count,List.countP_map];have e:R.flatten.countP ((λx=>x==(v:Int))∘λx=>(((dd [] R.flatten).idxOf x:Nat):Int))=R.flatten.countP (λx=>x==(dd [] R.flatten)[v]):=by
   refine List.countP_congr λx hx=>?_;simp only[Function.comp_apply,zB];constructor
   ·intro e
    have e':(dd [] R.flatten).idxOf x=v:=by omega
    have:=List.getElem_idxOf (List.idxOf_lt_length_iff.mpr (mem x hx));simp only[e'] at this;exact this.symm
   ·intro e
    rw[e,cF nd]
  rw[e];have hx:(dd [] R.flatten)[v]∈R.flatten:=by
   have:=(aN [] R.flatten _).mp (xV hv');rcases this with h|h
   ·simp at h
   ·exact h
  obtain⟨h1,h2⟩:=t.rng _ hx;have:=t.cnt ((dd [] R.flatten)[v]).toNat (by omega);rw[show((((dd [] R.flatten)[v]).toNat:Nat):Int)=(dd [] R.flatten)[v] by omega] at this;exact this
theorem iZ(R:List (List Int)):(numV R).length=R.length:=by simp[numV]
theorem fT{R:List (List Int)}(h:∀r∈R,r.length=k):∀r∈numV R,r.length=k:=by
 intro r hr;obtain⟨q,hq,rfl⟩:=List.mem_map.mp hr;simpa using h q hq
structure Sheet(Q:List (List Int))(m:Nat):Prop where
 len:Q.length=m
 four:∀r∈Q,r.length=4
 two:Two Q.flatten (2*m)
noncomputable def placesR(r:List Int)(k:Nat)(line:Int)(j:Nat):List (Nat×Nat):=((List.range j).filter λe=>r.getD e 0==line).map λe=>(k,e)
noncomputable def placesN(Q:List (List Int))(line:Int)(i:Nat):List (Nat×Nat):=(List.range i).flatMap λk=>placesR (Q.getD k []) k line 4
noncomputable def placesV(Q:List (List Int))(line:Int):List (Nat×Nat):=placesN Q line Q.length
theorem m6(r:List Int)(k:Nat)(line:Int)(h:r.length=4):(placesR r k line 4).length=r.count line:=by
 rw[placesR,xB,←List.countP_eq_length_filter,List.count]
 conv=>rhs;rw[show r=(List.range 4).map λe=>r.getD e 0 from List.ext_getElem (by simp[h]) λi h1 h2=>by simp[h1]]
 rw[List.countP_map];rfl
theorem gO(line:Int)(h:∀r∈Q,r.length=4):(placesV Q line).length=Q.flatten.count line:=by
 have gen:∀i,i<=Q.length->(placesN Q line i).length=(Q.take i).flatten.count line:=by
  intro i
  induction i with
  |zero=>simp[placesN]
  |succ i ih=>
   intro hi;have hi':i<Q.length:=by omega
   have e1:placesN Q line (i+1)=placesN Q line i++placesR (Q.getD i []) i line 4:=by
    simp[placesN,zU,List.flatMap_append]
   have e2:Q.take (i+1)=Q.take i++[Q[i]]:=xW hi';rw[e1,e2,xL,ih (by omega),y9,y4];have:Q.getD i []=Q[i]:=by simp[hi']
   rw[this,m6 _ _ _ (h _ (xV hi'))];simp
 rw[placesV,gen Q.length (xN _),y7]
theorem Sheet.places(s:Sheet Q m)(h:v<2*m):(placesV Q (v:Int)).length=2:=by
 rw[gO _ s.four];exact s.two.cnt v h
theorem Sheet.none(s:Sheet Q m){x:Int}(h:x<0\/(2*m:Nat)<=x):placesV Q x=[]:=by
 refine List.eq_nil_of_length_eq_zero ?_;rw[gO _ s.four,List.count_eq_zero];intro hm;have:=s.two.rng x hm;omega
section
variable{Φ:Nat->List D->R D}{G:List D}{n:Nat}
theorem m7(h:e<r.length):atD (intL r) (e:Nat)=some (.int (r.getD e 0)):=by
 rw[bW (by simpa[intL] using h)];simp[intL,h]
theorem fU{Q:List (List Int)}(h:k<Q.length):atD (Q.map rowD) (k:Nat)=some (rowD (Q.getD k [])):=by
 rw[bW (by simpa using h)];simp[h]
theorem lN(r:List Int)(k:Nat)(line:Int)(j:Nat):placesR r k line (j+1)=if r.getD j 0==line then placesR r k line j++[(k,j)] else placesR r k line j:=by
 simp only[placesR,zU,List.filter_append,yB];by_cases h:(r.getD j 0==line)=true
 ·rw[xE h];simp only[zI,h,xD,List.filter_nil,xM,yX]
 ·rw[xC h];simp only[zI,h,w6,List.filter_nil,yX,yD,gV]
theorem eZ(Q:List (List Int))(line:Int)(i:Nat):placesN Q line (i+1)=placesN Q line i++placesR (Q.getD i []) i line 4:=by
 simp[placesN,zU,List.flatMap_append]
theorem oS(Q:List (List Int))(line:Int)(i:Nat):(placesN Q line i).length<=4*i:=by
 induction i with
 |zero=>simp[placesN]
 |succ i ih=>
  rw[eZ,xL];have:(placesR (Q.getD i []) i line 4).length<=4:=by
   rw[placesR,xB];exact xU (List.length_filter_le _ _) (by simp)
  omega
theorem oU(r:List Int)(k:Nat)(line:Int)(j:Nat):(placesR r k line j).length<=j:=by
 rw[placesR,xB];exact xU (List.length_filter_le _ _) (by simp)
noncomputable def Bends(c:Nat):List Sm:=[(.asg 2 (.lst [])),(.loop .enum [(.op2 .at (.var 0) (.cst (.int 0)))] [3,4] [(.loop .rng [(.cst (.int 4))] [5] [(.ite (.leaf (.op2 .eq (.op2 .at (.var 4) (.var 5)) (.var 1))) [(.app 2 (.tup [(.var 3),(.var 5)]))] [])])]),(.ite (.not (.leaf (.var 2))) [(.rai c)] []),(.ret (.op1 .tuple (.var 2)))]
theorem ends_in(hr:r.length=4)(hl:acc.length<90000):
  ∃c5',xec Φ G n (.loop .rng [(.cst (.int 4))] [5] [(.ite (.leaf (.op2 .eq (.op2 .at (.var 4) (.var 5)) (.var 1))) [(.app 2 (.tup [(.var 3),(.var 5)]))] [])]) [some (false,d0),some (false,.int line),some (true,.lst (acc.map pairD)),some (false,.int (k:Nat)),some (false,rowD r),c5]=
   .nx [some (false,d0),some (false,.int line),some (true,.lst ((acc++placesR r k line 4).map pairD)),some (false,.int (k:Nat)),some (false,rowD r),c5']:=by
 have step:∀i,i<4->∀δ,(∃c,δ=[some (false,d0),some (false,.int line),some (true,.lst ((acc++placesR r k line i).map pairD)),some (false,.int (k:Nat)),some (false,rowD r),c])->
   ∃δ',loopF Φ G n [5] [(.ite (.leaf (.op2 .eq (.op2 .at (.var 4) (.var 5)) (.var 1))) [(.app 2 (.tup [(.var 3),(.var 5)]))] [])] (.int (i:Nat)) δ=.nx δ'/\∃c,δ'=[some (false,d0),some (false,.int line),some (true,.lst ((acc++placesR r k line (i+1)).map pairD)),some (false,.int (k:Nat)),some (false,rowD r),c]:=by
  rintro i hi δ ⟨c,rfl⟩;have ha:=m7 (r:=r) (e:=i) (by omega);have hlen:((acc++placesR r k line i).map pairD).length<LIM:=by
   have:=oU r k line i;have:LIM=100000:=rfl;simp only[xB,xL];omega
  rw[lN];by_cases hm:(r.getD i 0==line)=true
  ·rw[xE hm]
   refine⟨_,?_,some (false,.int (i:Nat)),rfl⟩;simp only[loopF,rowD,xecs,xec,evT,ev,evs,frz,frz1,leaksT,leaks,leakss,rdR,rdV,Za,Zc,Py.sets,spread,Ze,Zf,Zi,Zj,Zk,Zl,Zo,Zp,Zq,xD,w6,gV,ZG,ZJ,ha,hm,w5,xJ,xQ,ownL,appD,hlen];simp[pairD]
  ·rw[xC hm]
   refine⟨_,?_,some (false,.int (i:Nat)),rfl⟩;simp only[loopF,rowD,xecs,xec,evT,ev,evs,frz,frz1,leaksT,leaks,leakss,rdR,rdV,Za,Zc,Py.sets,spread,Ze,Zf,Zi,Zj,Zk,Zl,Zo,Zp,Zq,xD,w6,gV,ZG,ZJ,ha,hm,w5,xJ,xQ]
 obtain⟨δ',e,c,rfl⟩:=cE (Φ:=Φ) (G:=G) (n:=n) (its:=[(.cst (.int 4))]) (tg:=[5]) (body:=[(.ite (.leaf (.op2 .eq (.op2 .at (.var 4) (.var 5)) (.var 1))) [(.app 2 (.tup [(.var 3),(.var 5)]))] [])]) (δ:=[some (false,d0),some (false,.int line),some (true,.lst (acc.map pairD)),some (false,.int (k:Nat)),some (false,rowD r),c5]) (m:=4) (by simp only[ev,evs,Zf];exact bC (n:=4) (by decide))
  (λi δ=>∃c,δ=[some (false,d0),some (false,.int line),some (true,.lst ((acc++placesR r k line i).map pairD)),some (false,.int (k:Nat)),some (false,rowD r),c]) ⟨c5,by simp[placesR,frz,frz1,leakss,leaks]⟩ step
 exact⟨c,e⟩
theorem i6:∀(xs:List D)(n i:Nat)(h:i<(enumD n xs).length)(h':i<xs.length),(enumD n xs)[i]=.tup [.int ((n+i:Nat):Int),xs[i]]
 |x::r,n,0,_,_=>rfl
 |x::r,n,i+1,h,h'=>by
  have:=i6 r (n+1) i (by simpa[enumD] using h) (by simpa using h');rw[show n+1+i=n+(i+1) by omega] at this;exact this
theorem aT:∀(xs:List D)(n:Nat),(enumD n xs).length=xs.length
 |[],_=>rfl
 |x::r,n=>by simp[enumD,aT r (n+1)]
theorem vN{rings line:Int}(h4:∀r∈Q,r.length=4)(hQ:Q.length<=1000):
  (xecs Φ G n (Bends c) [some (false,.tup [.tup (Q.map rowD),.int rings]),some (false,.int line),none,none,none,none]).val=if placesV Q line=[] then .exc c else .ok (.tup ((placesV Q line).map pairD)):=by
 generalize hd:D.tup [.tup (Q.map rowD),.int rings]=d0;unfold Bends;have e1:xec Φ G n (.asg 2 (.lst [])) [some (false,d0),some (false,.int line),none,none,none,none]=.nx [some (false,d0),some (false,.int line),some (true,.lst (([]:List (Nat×Nat)).map pairD)),none,none,none]:=by simp only[xec,ev,evs,frz,leaks,leakss,Zc,isOwn,frsh,Zf,Zi,Zj,Zn,Zt]
 rw[aA e1];have hit:itemsD .enum [.tup (Q.map rowD)]=.ok (enumD 0 (Q.map rowD)):=by
  show(if(enumD 0 (Q.map rowD)).length<=LIM then R.ok (enumD 0 (Q.map rowD)) else R.bad)=_;rw[aT,xB,xE (xU hQ (by decide))]
 have a0:atD [D.tup (Q.map rowD),.int rings] 0=some (.tup (Q.map rowD)):=rfl;have step:∀i (h:i<(enumD 0 (Q.map rowD)).length) δ,(∃x3 x4 x5,δ=[some (false,d0),some (false,.int line),some (true,.lst ((placesN Q line i).map pairD)),x3,x4,x5])->
   ∃δ',loopF Φ G n [3,4] [(.loop .rng [(.cst (.int 4))] [5] [(.ite (.leaf (.op2 .eq (.op2 .at (.var 4) (.var 5)) (.var 1))) [(.app 2 (.tup [(.var 3),(.var 5)]))] [])])] (enumD 0 (Q.map rowD))[i] δ=.nx δ'/\∃x3 x4 x5,δ'=[some (false,d0),some (false,.int line),some (true,.lst ((placesN Q line (i+1)).map pairD)),x3,x4,x5]:=by
  rintro i h δ ⟨x3,x4,x5,rfl⟩;have hi:i<Q.length:=by simpa[aT] using h
  have hq:Q.getD i []=Q[i]:=by simp[hi]
  have hr:Q[i].length=4:=h4 _ (xV hi);have hl:=oS Q line i;obtain⟨c5',e⟩:=ends_in (Φ:=Φ) (G:=G) (n:=n) (d0:=d0) (c5:=x5) (acc:=placesN Q line i) (r:=Q[i]) (k:=i) (line:=line) hr (by omega);refine⟨_,?_,some (false,.int (i:Nat)),some (false,rowD Q[i]),c5',rfl⟩;rw[i6 _ 0 i h (by simpa using hi),zW,eZ,hq];simp only[loopF,spread,w5,xJ,xQ,xD,Py.sets,List.set_cons_zero,List.set_cons_succ];rw[aA e];rfl
 obtain⟨δ',e2,x3,x4,x5,rfl⟩:=aU (Φ:=Φ) (G:=G) (n:=n) (k:=.enum) (its:=[(.op2 .at (.var 0) (.cst (.int 0)))]) (tg:=[3,4]) (body:=[(.loop .rng [(.cst (.int 4))] [5] [(.ite (.leaf (.op2 .eq (.op2 .at (.var 4) (.var 5)) (.var 1))) [(.app 2 (.tup [(.var 3),(.var 5)]))] [])])]) (δ:=[some (false,d0),some (false,.int line),some (true,.lst (([]:List (Nat×Nat)).map pairD)),none,none,none]) (xs:=enumD 0 (Q.map rowD))
  (by rw[←hd];simp only[ev,evs,frz,leaks,leakss,rdR,rdV,Ze,Zf,Zk,Zn,Zq,xD,ZJ,a0];exact hit) (λi δ=>∃x3 x4 x5,δ=[some (false,d0),some (false,.int line),some (true,.lst ((placesN Q line i).map pairD)),x3,x4,x5]) ⟨none,none,none,rfl⟩ step
 rw[aA e2,aT,xB];show(xecs Φ G n _ [some (false,d0),some (false,.int line),some (true,.lst ((placesV Q line).map pairD)),x3,x4,x5]).val=_;by_cases hp:placesV Q line=[]
 ·rw[xE hp,hp]
  simp only[xecs,xec,evT,ev,frz,leaksT,leaks,rdR,rdV,Zb,Zc,Zf,Zk,Zl,Zn,xD,Zv,Zw,List.isEmpty_nil];rfl
 ·rw[xC hp]
  have:((placesV Q line).map pairD).isEmpty=false:=by
   cases e:placesV Q line with
   |nil=>exact absurd e hp
   |cons _ _=>rfl
  simp only[xecs,xec,evT,ev,frz,leaksT,leaks,rdR,rdV,Zb,Zc,Zf,Zk,Zl,xD,w6,gV,Zv,Zw,ZP,this];rfl
end
section
variable{Φ:Nat->List D->R D}{G:List D}{n:Nat}
noncomputable def Bwhole:List Sm:=[(.ret (.and (.op1 .isInt (.var 0)) (.not (.op1 .isBool (.var 0)))))]
theorem sI(x:Int):xecs Φ G n Bwhole [some (false,.int x)]=.rt (.bl true):=by
 simp only[Bwhole,xecs,xec,ev,frz,leaks,rdR,rdV,Zc,asB,Zf,Zk,Zq,xD,Zw,ZT,ZU]
end
noncomputable def numD(ks:List Int):D:=.dic ks (natL (List.range ks.length))
theorem kD:∀(ks:List Int)(vs:List D)(x:Int),x∈ks->vs.length=ks.length->lookD ks vs x=vs[ks.idxOf x]?
 |[],_,x,h,_=>by simp at h
 |k::ks,[],x,_,hl=>by simp at hl
 |k::ks,v::vs,x,h,hl=>by
  rw[lookD];by_cases e:k=x
  ·subst e;simp
  ·rw[xC e]
   have h':x∈ks:=(List.mem_cons.mp h).resolve_left (yI e);rw[kD ks vs x h' (by simpa using hl),List.idxOf_cons,show(k==x)=false by simpa using e];simp
theorem vO(h:x∈ks):lookD ks (natL (List.range ks.length)) x=some (.int (ks.idxOf x:Nat)):=by
 rw[kD ks _ x h (by simp[natL])];have:=List.idxOf_lt_length_iff.mpr h;simp[natL,this]
theorem dd_pre(acc xs:List Int):∃more,dd acc xs=acc++more:=by
 induction xs generalizing acc with
 |nil=>exact⟨[],by simp[dd]⟩
 |cons x r ih=>
  rw[dd];obtain⟨m,e⟩:=ih (if x∈acc then acc else acc++[x]);by_cases h:x∈acc
  ·rw[xE h] at e⊢;exact⟨m,e⟩
  ·rw[xC h] at e⊢;exact⟨x::m,by rw[e];simp⟩
theorem qI:∀{a b:List Int}{x:Int},x∈a->(a++b).idxOf x=a.idxOf x
 |[],_,_,h=>by simp at h
 |y::a,b,x,h=>by
  rw[List.cons_append,List.idxOf_cons,List.idxOf_cons];by_cases e:y=x
  ·subst e;simp
  ·rw[show(y==x)=false by simpa using e]
   simp only[cond_false];rw[qI ((List.mem_cons.mp h).resolve_left (yI e))]
theorem vQ(h:x∈acc):(dd acc xs).idxOf x=acc.idxOf x:=by
 obtain⟨m,e⟩:=dd_pre acc xs;rw[e,qI h]
noncomputable def Bnum:List Sm:=[(.new 2),(.asg 3 (.lst [])),(.loop .seq [(.var 0)] [4] [(.loop .seq [(.var 4)] [5] [(.ite (.leaf (.din true (.var 5) (.var 2))) [(.dput 2 (.var 5) (.dlen (.var 2)))] [])]),(.app 3 (.op1 .tuple (.comp .seq [(.var 4)] [2] 1 none (.dget (.var 1) (.var 0)))))]),(.ret (.tup [(.op1 .tuple (.var 3)),(.var 1)]))]
section
variable{Φ:Nat->List D->R D}{G:List D}{n:Nat}
theorem sJ(k:Nat):natL (List.range k)++[.int (k:Nat)]=natL (List.range (k+1)):=by simp[natL,zU]
theorem nm_in(hl:acc.length+r.length<90000)(hr:r.length<=1000):
  ∃c5',xec Φ G n (.loop .seq [(.var 4)] [5] [(.ite (.leaf (.din true (.var 5) (.var 2))) [(.dput 2 (.var 5) (.dlen (.var 2)))] [])]) [some (false,d0),some (false,d1),some (true,numD acc),c3,some (false,rowD r),c5]=.nx [some (false,d0),some (false,d1),some (true,numD (dd acc r)),c3,some (false,rowD r),c5']:=by
 have hi:itemsD .seq [rowD r]=.ok (intL r):=aM (by simpa[intL] using hr);have step:∀i (h:i<(intL r).length) δ,(∃c,δ=[some (false,d0),some (false,d1),some (true,numD (dd acc (r.take i))),c3,some (false,rowD r),c])->∃δ',loopF Φ G n [5] [(.ite (.leaf (.din true (.var 5) (.var 2))) [(.dput 2 (.var 5) (.dlen (.var 2)))] [])] (intL r)[i] δ=.nx δ'/\∃c,δ'=[some (false,d0),some (false,d1),some (true,numD (dd acc (r.take (i+1)))),c3,some (false,rowD r),c]:=by
  rintro i h δ ⟨c,rfl⟩;have hi':i<r.length:=by simpa[intL] using h
  have ex:(intL r)[i]=.int r[i]:=by simp[intL]
  have et:r.take (i+1)=r.take i++[r[i]]:=xW hi';have hd:dd acc (r.take (i+1))=if r[i]∈dd acc (r.take i) then dd acc (r.take i) else dd acc (r.take i)++[r[i]]:=by
   rw[et,iX];rfl
  rw[ex,hd];have hlen:(dd acc (r.take i)).length<LIM:=by
   have:=lK acc (r.take i);have h2:(r.take i).length<=r.length:=by rw[yS];omega
   have:LIM=100000:=rfl;omega
  generalize dd acc (r.take i)=ks at*;by_cases hm:r[i]∈ks
  ·rw[xE hm]
   refine⟨_,?_,some (false,.int r[i]),rfl⟩;simp only[loopF,numD,xecs,xec,evT,ev,frz,leaksT,leaks,rdR,rdV,Za,Zc,Py.sets,spread,Zf,Zi,Zj,Zk,Zl,Zq,xD,w6,gV,Zv,hm,decide_true,w5,xJ,xQ]
  ·rw[xC hm]
   refine⟨_,?_,some (false,.int r[i]),rfl⟩;simp only[loopF,numD,xecs,xec,evT,ev,frz,leaksT,leaks,rdR,rdV,Za,Zc,Py.sets,spread,Zf,Zi,Zj,Zk,Zl,Zq,xD,w6,Zw,hm,decide_false,w5,xJ,xQ,ownM,dputD,hlen,sJ,xL]
 obtain⟨δ',e,c,rfl⟩:=aU (Φ:=Φ) (G:=G) (n:=n) (k:=.seq) (its:=[(.var 4)]) (tg:=[5]) (body:=[(.ite (.leaf (.din true (.var 5) (.var 2))) [(.dput 2 (.var 5) (.dlen (.var 2)))] [])]) (δ:=[some (false,d0),some (false,d1),some (true,numD acc),c3,some (false,rowD r),c5]) (xs:=intL r) (by simp only[ev,evs,frz,frz1,leaks,leakss,rdR,rdV,Zf,Zk,Zl,Zq,w6,gV,hi])
  (λi δ=>∃c,δ=[some (false,d0),some (false,d1),some (true,numD (dd acc (r.take i))),c3,some (false,rowD r),c]) ⟨c5,rfl⟩ step
 refine⟨c,?_⟩;have hlr:(intL r).length=r.length:=by simp[intL]
 rw[hlr,y7] at e;exact e
theorem nm_row(hr:r.length<=1000)(hs:∀x∈r,x∈names)(h2:rdR δ 4=.ok (rowD r))(h1:δ[2]?=some (some (true,numD names))):
  ev Φ G m (.comp .seq [(.var 4)] [2] 1 none (.dget (.var 1) (.var 0))) δ=.ok (.lst (intL (r.map λx=>(names.idxOf x:Nat)))):=by
 have hi:itemsD .seq [rowD r]=.ok (intL r):=aM (by simpa[intL] using hr);simp only[ev,evs,xD,h2,bX,hi,capOf,xM,yX,h1,Option.getD_some];rw[bQ (λx=>match x with|.int k=>.int (names.idxOf k:Nat)|_=>.non) _ λx hx=>?_]
 ·simp only[R.quiet_ok,bX]
  congr 2
  simp[intL,Function.comp_def]
 ·obtain⟨k,hk,rfl⟩:=List.mem_map.mp hx
  simp only[evO,rdR,spread,Ze,Zf,Zk,Zl,Zm,Zn,Zo,Zp,xD,numD,vO (hs k hk)]
theorem vR{rings:Int}{R:List (List Int)}(h0:itemsD .seq [d0]=.ok (R.map rowD))(hR:∀r∈R,r.length<=1000)(hl:R.flatten.length<=80000)(hL:R.length<=1000):
  xecs Φ G n Bnum [some (false,d0),some (false,.int rings),none,none,none,none]=.rt (.tup [.tup ((numV R).map rowD),.int rings]):=by
 unfold Bnum;have e1:xec Φ G n (.new 2) [some (false,d0),some (false,.int rings),none,none,none,none]=.nx [some (false,d0),some (false,.int rings),some (true,numD []),none,none,none]:=by simp only[xec,Zi,Zj];rfl
 have e2:xec Φ G n (.asg 3 (.lst [])) [some (false,d0),some (false,.int rings),some (true,numD []),none,none,none]=.nx [some (false,d0),some (false,.int rings),some (true,numD []),some (true,.lst []),none,none]:=by simp only[xec,ev,evs,frz,leaks,leakss,Zc,isOwn,frsh,Zf,Zi,Zj,Zt]
 rw[aA e1,aA e2];have step:∀i (h:i<(R.map rowD).length) δ,(∃c4 c5,δ=[some (false,d0),some (false,.int rings),some (true,numD (dd [] (R.take i).flatten)),some (true,.lst (((R.take i).map λr=>r.map λx=>(((dd [] R.flatten).idxOf x:Nat):Int)).map rowD)),c4,c5])->
   ∃δ',loopF Φ G n [4] [(.loop .seq [(.var 4)] [5] [(.ite (.leaf (.din true (.var 5) (.var 2))) [(.dput 2 (.var 5) (.dlen (.var 2)))] [])]),(.app 3 (.op1 .tuple (.comp .seq [(.var 4)] [2] 1 none (.dget (.var 1) (.var 0)))))] (R.map rowD)[i] δ=.nx δ'/\∃c4 c5,δ'=[some (false,d0),some (false,.int rings),some (true,numD (dd [] (R.take (i+1)).flatten)),some (true,.lst (((R.take (i+1)).map λr=>r.map λx=>(((dd [] R.flatten).idxOf x:Nat):Int)).map rowD)),c4,c5]:=by
  rintro i h δ ⟨c4,c5,rfl⟩;have hi:i<R.length:=by simpa using h
  have et:R.take (i+1)=R.take i++[R[i]]:=xW hi;have hr:=hR R[i] (xV hi);have hfl:(R.take i).flatten.length<=R.flatten.length:=by
   conv=>rhs;rw[←List.take_append_drop i R]
   rw[y9,xL];omega
  have hdl:=lK [] (R.take i).flatten;have ed:dd [] (R.take (i+1)).flatten=dd (dd [] (R.take i).flatten) R[i]:=by rw[et,y9,iX];simp
  have efull:dd [] R.flatten=dd (dd [] (R.take (i+1)).flatten) (R.drop (i+1)).flatten:=by
   rw[←iX,←y9,List.take_append_drop]
  have hs:∀x∈R[i],x∈dd [] (R.take (i+1)).flatten:=λx hx=>by
   rw[ed,aN];exact .inr hx
  have hrow:(R[i].map λx=>((dd [] (R.take (i+1)).flatten).idxOf x:Nat))=(R[i].map λx=>((dd [] R.flatten).idxOf x:Nat)):=by
   refine List.map_congr_left λx hx=>?_;rw[efull,vQ (hs x hx)]
  obtain⟨c5',e⟩:=nm_in (Φ:=Φ) (G:=G) (n:=n) (d0:=d0) (d1:=.int rings) (c3:=some (true,.lst (((R.take i).map λr=>r.map λx=>(((dd [] R.flatten).idxOf x:Nat):Int)).map rowD))) (c5:=c5) (acc:=dd [] (R.take i).flatten) (r:=R[i]) (by rw[xJ] at hdl;omega) hr;have hlen:(((R.take i).map λr=>r.map λx=>(((dd [] R.flatten).idxOf x:Nat):Int)).map rowD).length<LIM:=by
   simp only[xB,yS];have:LIM=100000:=rfl;omega
  rw[←ed] at e;have ec:=nm_row (m:=true) (Φ:=Φ) (G:=G) (names:=dd [] (R.take (i+1)).flatten) (r:=R[i]) (δ:=[some (false,d0),some (false,.int rings),some (true,numD (dd [] (R.take (i+1)).flatten)),some (true,.lst (((R.take i).map λr=>r.map λx=>(((dd [] R.flatten).idxOf x:Nat):Int)).map rowD)),some (false,rowD R[i]),c5']) hr hs rfl rfl;have ec2:ev Φ G false (.op1 .tuple (.comp .seq [(.var 4)] [2] 1 none (.dget (.var 1) (.var 0)))) [some (false,d0),some (false,.int rings),some (true,numD (dd [] (R.take (i+1)).flatten)),some (true,.lst (((R.take i).map λr=>r.map λx=>(((dd [] R.flatten).idxOf x:Nat):Int)).map rowD)),some (false,rowD R[i]),c5']=.ok (rowD (R[i].map λx=>(((dd [] R.flatten).idxOf x:Nat):Int))):=by
   rw[ev,ec];have:(R[i].map λx=>(((dd [] (R.take (i+1)).flatten).idxOf x:Nat):Int))=(R[i].map λx=>(((dd [] R.flatten).idxOf x:Nat):Int)):=by
    refine List.map_congr_left λx hx=>?_;rw[efull,vQ (hs x hx)]
   rw[this];rfl
  refine⟨_,?_,some (false,rowD R[i]),c5',rfl⟩;rw[zW];simp only[loopF,spread,w5,xJ,xQ,Py.sets,List.set_cons_zero,List.set_cons_succ];rw[aA e,aA (qF rfl ec2 rfl hlen)];simp only[xecs,List.set_cons_zero,List.set_cons_succ,et,yB,xM,yX]
 obtain⟨δ',e3,c4,c5,rfl⟩:=aU (Φ:=Φ) (G:=G) (n:=n) (k:=.seq) (its:=[(.var 0)]) (tg:=[4]) (body:=[(.loop .seq [(.var 4)] [5] [(.ite (.leaf (.din true (.var 5) (.var 2))) [(.dput 2 (.var 5) (.dlen (.var 2)))] [])]),(.app 3 (.op1 .tuple (.comp .seq [(.var 4)] [2] 1 none (.dget (.var 1) (.var 0)))))]) (δ:=[some (false,d0),some (false,.int rings),some (true,numD []),some (true,.lst []),none,none]) (xs:=R.map rowD) (by simp only[ev,evs,frz,frz1,leaks,leakss,rdR,rdV,Zf,Zk,Zq,w6,gV];exact h0)
  (λi δ=>∃c4 c5,δ=[some (false,d0),some (false,.int rings),some (true,numD (dd [] (R.take i).flatten)),some (true,.lst (((R.take i).map λr=>r.map λx=>(((dd [] R.flatten).idxOf x:Nat):Int)).map rowD)),c4,c5]) ⟨none,none,rfl⟩ step
 rw[aA e3];simp only[xecs,xec,ev,evs,frz,frz1,leaks,leakss,rdR,rdV,Zc,Zf,Zk,Zl,Zo,Zq,xD,w6,gV,ZP,xB,y7,numV]
theorem m8(n:Nat)(r:List Int):plns n (intL r)=true:=by
 induction r with
 |nil=>rfl
 |cons x r ih=>exact ih
theorem cG(n:Nat)(Q:List (List Int)):plns (n+1) (Q.map rowD)=true:=by
 induction Q with
 |nil=>rfl
 |cons r Q ih=>
  show(pln (n+1) (rowD r)&&plns (n+1) (Q.map rowD))=true;rw[ih];show((decide (0<n+1)&&plns n (intL r))&&true)=true;rw[m8];simp
theorem sK(r:List Int):op1 .isTup (rowD r)=.ok (.bl true):=oP _ (m8 999 r)
theorem oV(Q:List (List Int)):op1 .isTup (.tup (Q.map rowD))=.ok (.bl true):=oP _ (cG 998 Q)
theorem gQ(Q:List (List Int))(g:Int):op1 .isTup (.tup [.tup (Q.map rowD),.int g])=.ok (.bl true):=by
 refine oP _ ?_;show(pln 999 (.tup (Q.map rowD))&&true)=true;show((decide (0<999)&&plns 998 (Q.map rowD))&&true)=true;rw[cG 997];rfl
end
noncomputable def shD(Q:List (List Int))(g:Int):D:=.tup [.tup (Q.map rowD),.int g]
theorem g8{R:List (List Int)}(h4:∀r∈R,r.length=4):R.flatten.length<=4*R.length:=by
 induction R with
 |nil=>simp
 |cons r R ih=>
  have:=ih λx hx=>h4 x (xK _ hx);have h:=h4 r xT;simp only[xZ,xL,w5];omega
theorem row4{r:List Int}(h:r.length=4):∃a b c d,r=[a,b,c,d]:=by
 match r,h with
 |[a,b,c,d],_=>exact⟨a,b,c,d,rfl⟩
section
variable{Φ:Nat->List D->R D}{G:List D}{n:Nat}
theorem m9{α:Type}{a:α->D}{xs:List α}(f:α->D)(h:(evs Φ G true its δ).bind (itemsD k)=.ok (xs.map a))(hf:∀x∈xs,ev Φ G false elt (some (false,a x)::capOf δ caps)=.ok (f x)):
  ev Φ G m (.comp k its caps 1 none elt) δ=.ok (.lst (xs.map f)):=by
 rw[ev]
 cases e:evs Φ G true its δ with
 |ok ss=>
  rw[e] at h;have h:itemsD k ss=.ok (xs.map a):=h;rw[bX,h,bX];have key:∀ys:List α,(∀x∈ys,x∈xs)->compM (λx=>match spread 1 x with
    |none=>.bad
    |some ts=>(evO Φ G none (ts.map (λt=>some (false,t))++capOf δ caps)).bind λb=>if b then(ev Φ G false elt (ts.map (λt=>some (false,t))++capOf δ caps)).bind λy=>.ok (some y) else .ok none) (ys.map a)=.ok (ys.map f):=by
   intro ys
   induction ys with
   |nil=>intro _;rfl
   |cons y ys ih=>
    intro hs;have e1:=hf y (hs y xT);rw[xM,compM,ih λx hx=>hs x (xK _ hx)];simp only[spread,evO,bX,xM,yX,List.cons_append,List.nil_append,xD,e1]
  exact congrArg (λz:R (List D)=>(R.quiet z).bind λys=>R.ok (D.lst ys)) (key xs λ_ h=>h)
 |exc c=>rw[e] at h;cases h
 |bad=>rw[e] at h;cases h
theorem aH(h:xec Φ G n s δ=.rt d):xecs Φ G n (s::ss) δ=.rt d:=by rw[xecs,h]
theorem g9(h:xec Φ G n s δ=.xc c δ'):xecs Φ G n (s::ss) δ=.xc c δ':=by rw[xecs,h]
end
theorem nA(a b:α):atD [a,b] 0=some a:=rfl
theorem kE(a b:α):atD [a,b] 1=some b:=rfl
noncomputable def lastP(l:List (Nat×Nat)):Nat×Nat:=l.getLastD (0,0)
noncomputable def secondV(Q:List (List Int))(line:Int):Nat×Nat:=lastP (placesV Q line)
theorem i7(h:p∈placesV Q line):p.1<Q.length/\p.2<4/\(Q.getD p.1 []).getD p.2 0=line:=by
 simp only[placesV,placesN,placesR,List.mem_flatMap,List.mem_range,yZ,yP] at h;obtain⟨k,hk,e,⟨he,hv⟩,rfl⟩:=h;exact⟨hk,he,by simpa using hv⟩
theorem Sheet.two_of(s:Sheet Q m)(h:placesV Q x≠[]):(0<=x/\x<(2*m:Nat))/\∃a b,placesV Q x=[a,b]:=by
 by_cases hr:x<0\/(2*m:Nat)<=x
 ·exact absurd (s.none hr) h
 ·refine⟨by omega,?_⟩
  have:=s.places (v:=x.toNat) (by omega);rw[show((x.toNat:Nat):Int)=x by omega] at this
  match placesV Q x,this with
  |[a,b],_=>exact⟨a,b,rfl⟩
theorem Sheet.in_of(s:Sheet Q m){x:Int}(h:0<=x/\x<(2*m:Nat)):placesV Q x≠[]:=λe=>by
 have:=s.places (v:=x.toNat) (by omega);rw[show((x.toNat:Nat):Int)=x by omega,e] at this;cases this
theorem aY(h:placesV Q x≠[]):(secondV Q x).1<Q.length/\(secondV Q x).2<4:=by
 have:secondV Q x∈placesV Q x:=by
  rw[secondV,lastP]
  cases e:placesV Q x with
  |nil=>exact absurd e h
  |cons a l=>
   rw[List.getLastD_cons]
   cases l with
   |nil=>simp
   |cons b l=>rw[List.getLastD_cons,List.getLastD_eq_getLast?];cases e:l.getLast? with
    |none=>simp
    |some y=>simp;exact .inr (.inr (List.mem_of_getLast? e))
 exact⟨(i7 this).1,(i7 this).2.1⟩
noncomputable def setP(Q:List (List Int))(p:Nat×Nat)(v:Int):List (List Int):=Q.set p.1 ((Q.getD p.1 []).set p.2 v)
theorem aF(Q:List (List Int))(p:Nat×Nat)(v:Int):(setP Q p v).length=Q.length:=by simp[setP]
theorem aC(h4:∀r∈Q,r.length=4):∀r∈setP Q p v,r.length=4:=by
 intro r hr;by_cases hp:p.1<Q.length
 ·rcases List.mem_or_eq_of_mem_set hr with h|h
  ·exact h4 r h
  ·rw[h,yV]
   have:Q.getD p.1 []=Q[p.1]:=by simp[hp]
   rw[this];exact h4 _ (xV hp)
 ·rw[setP,List.set_eq_of_length_le (by omega)] at hr
  exact h4 r hr
section
variable{Φ:Nat->List D->R D}{G:List D}{n:Nat}
noncomputable def Brelined:List Sm:=[(.asg 3 (.op1 .list (.var 0))),(.asg 4 (.op2 .at (.var 3) (.op2 .at (.var 1) (.cst (.int 0))))),(.put 3 (.op2 .at (.var 1) (.cst (.int 0))) (.op2 .add (.op2 .add (.slc (.var 4) none (some (.op2 .at (.var 1) (.cst (.int 1))))) (.tup [(.var 2)])) (.slc (.var 4) (some (.op2 .add (.op2 .at (.var 1) (.cst (.int 1))) (.cst (.int 1)))) none))),(.ret (.var 3))]
theorem nB(hl:op1 .list d0=.ok (.lst (Q.map rowD)))(h4:∀r∈Q,r.length=4)(h1:p.1<Q.length)(h2:p.2<4):
  xecs Φ G n Brelined [some (false,d0),some (false,pairD p),some (false,.int v),none,none]=.rt (.lst ((setP Q p v).map rowD)):=by
 have a0:op2 .at (pairD p) (.int 0)=.ok (.int (p.1:Nat)):=rfl;have hq:Q.getD p.1 []=Q[p.1]:=by simp[h1]
 have hr:(Q.getD p.1 []).length=4:=by rw[hq];exact h4 _ (xV h1)
 have hrow:=fU h1;have hset:(setP Q p v).map rowD=(Q.map rowD).set p.1 (rowD ((Q.getD p.1 []).set p.2 v)):=by rw[setP,List.map_set]
 have i1:ixD (Q.map rowD).length (p.1:Nat)=some p.1:=fO (by simpa using h1);rw[hset];generalize Q.getD p.1 []=r at*;generalize Q.map rowD=X at*;unfold Brelined;have e1:xec Φ G n (.asg 3 (.op1 .list (.var 0))) [some (false,d0),some (false,pairD p),some (false,.int v),none,none]=.nx [some (false,d0),some (false,pairD p),some (false,.int v),some (true,.lst X),none]:=by
  simp only[xec,ev,frz,leaks,rdR,rdV,Zc,isOwn,frsh,Zf,Zi,Zj,Zk,xD,Zt,hl]
 have e2:xec Φ G n (.asg 4 (.op2 .at (.var 3) (.op2 .at (.var 1) (.cst (.int 0))))) [some (false,d0),some (false,pairD p),some (false,.int v),some (true,.lst X),none]=.nx [some (false,d0),some (false,pairD p),some (false,.int v),some (true,.lst X),some (false,rowD r)]:=by
  simp only[xec,ev,frz,leaks,rdR,rdV,Zc,isOwn,frsh,Ze,Zf,Zi,Zj,Zk,Zl,Zq,xD,Zu,ZI,a0,hrow]
 have c3:ev Φ G false (.op2 .add (.op2 .add (.slc (.var 4) none (some (.op2 .at (.var 1) (.cst (.int 1))))) (.tup [(.var 2)])) (.slc (.var 4) (some (.op2 .add (.op2 .at (.var 1) (.cst (.int 1))) (.cst (.int 1)))) none)) [some (false,d0),some (false,pairD p),some (false,.int v),some (true,.lst X),some (false,rowD r)]=.ok (rowD (r.set p.2 v)):=by
  obtain⟨a,b,c,d,rfl⟩:=row4 hr;obtain⟨p1,p2⟩:=p;have:p2=0\/p2=1\/p2=2\/p2=3:=by simp only at h2;omega
  rcases this with rfl|rfl|rfl|rfl<;>rfl
 have e3:xec Φ G n (.put 3 (.op2 .at (.var 1) (.cst (.int 0))) (.op2 .add (.op2 .add (.slc (.var 4) none (some (.op2 .at (.var 1) (.cst (.int 1))))) (.tup [(.var 2)])) (.slc (.var 4) (some (.op2 .add (.op2 .at (.var 1) (.cst (.int 1))) (.cst (.int 1)))) none))) [some (false,d0),some (false,pairD p),some (false,.int v),some (true,.lst X),some (false,rowD r)]=.nx [some (false,d0),some (false,pairD p),some (false,.int v),some (true,.lst (X.set p.1 (rowD (r.set p.2 v)))),some (false,rowD r)]:=by
  rw[xec];show(Out.of (ev Φ G false _ [some (false,d0),some (false,pairD p),some (false,.int v),some (true,.lst X),some (false,rowD r)]) _ λx=>_)=_;rw[c3,of_ok];simp only[ev,frz,frz1,leaks,leakss,leaksP,rdR,rdV,Zc,Zf,Zi,Zj,Zk,Zl,Zo,Zq,xD,w6,gV,a0,putD,ownL,i1]
 rw[aA e1,aA e2,aA e3];simp only[xecs,xec,ev,frz,frz1,leaks,rdR,rdV,Zc,Zi,Zj,Zk,Zl,w6,gV]
end
noncomputable def okP(m:Nat)(p:Nat×Nat):Prop:=p.1<m/\p.2<4
noncomputable def lineV(Q:List (List Int))(p:Nat×Nat):Int:=(Q.getD p.1 []).getD p.2 0
noncomputable def oppV(p:Nat×Nat):Nat×Nat:=(p.1,(p.2+2)%4)
theorem vS(h:okP m p):okP m (oppV p):=⟨h.1,Nat.mod_lt _ (by decide)⟩
section
variable{Q:List (List Int)}{m:Nat}(s:Sheet Q m)
include s
end
theorem fV{α:Type}[DecidableEq α]:∀{l l':List α},l.Nodup->(∀x∈l,x∈l')->l.length<=l'.length
 |[],_,_,_=>Nat.zero_le _
 |a::t,l',nd,h=>by
  have nd':=List.nodup_cons.mp nd;have ha:=h a (by simp);have:=fV (l:=t) (l':=l'.erase a) nd'.2 λx hx=>(List.mem_erase_of_ne (λe=>nd'.1 (by rw[←show x=a from e];exact hx))).mpr (h x (by simp[hx]));rw[List.length_erase_of_mem ha] at this;have:0<l'.length:=List.length_pos_of_mem ha;simp only[w5];omega
structure JS where
 left:List (List Int)
 g:Int
 w:List (List Int)
noncomputable def stpJ(s:JS):JS:=match s.w with
 |(a::b::_)::ps=>⟨s.left.map (ren b a),if a=b then s.g+1 else s.g,ps.map (ren b a)⟩
 |_=>s
noncomputable def iterJ(s:JS):Nat->JS
 |0=>s
 |k+1=>stpJ (iterJ s k)
noncomputable def joinV(L:List (List Int))(g:Int)(P:List (List Int)):List (List Int)×Int:=((iterJ ⟨L,g,P⟩ P.length).left,(iterJ ⟨L,g,P⟩ P.length).g)
theorem cS(old new:Int)(r:List Int):(ren old new r).length=r.length:=by simp[ren]
structure JOk(c np k:Nat)(s:JS):Prop where
 len:s.left.length=c
 four:∀r∈s.left,r.length=4
 wl:s.w.length=np-k
 two:∀r∈s.w,r.length=2
theorem JOk.head(h:JOk c np k s)(hk:k<np):∃a b ps,s.w=[a,b]::ps/\stpJ s=⟨s.left.map (ren b a),if a=b then s.g+1 else s.g,ps.map (ren b a)⟩/\JOk c np (k+1) (stpJ s):=by
 match hw:s.w with
 |[]=>have:=h.wl;rw[hw] at this;simp at this;omega
 |q::ps=>
  have h2:=h.two q (by rw[hw];simp)
  match q,h2 with
  |[a,b],_=>
   have e:stpJ s=⟨s.left.map (ren b a),if a=b then s.g+1 else s.g,ps.map (ren b a)⟩:=by unfold stpJ;rw[hw]
   refine⟨a,b,ps,rfl,e,?_⟩;rw[e];refine⟨by simp[h.len],λr hr=>?_,?_,λr hr=>?_⟩
   ·obtain⟨q,hq,rfl⟩:=List.mem_map.mp hr
    rw[cS];exact h.four q hq
   ·have:=h.wl
    rw[hw] at this;simp only[w5,xB] at this⊢;omega
   ·obtain⟨q,hq,rfl⟩:=List.mem_map.mp hr
    rw[cS];exact h.two q (by rw[hw];exact xK _ hq)
theorem JOk.iter(h:JOk c np 0 s):∀k,k<=np->JOk c np k (iterJ s k)
 |0,_=>h
 |k+1,hk=>by
  obtain⟨_,_,_,_,_,z⟩:=(JOk.iter h k (by omega)).head (by omega);exact z
theorem JOk.start(g:Int)(h4:∀r∈L,r.length=4)(h2:∀r∈P,r.length=2):JOk L.length P.length 0 ⟨L,g,P⟩:=⟨rfl,h4,rfl,h2⟩
theorem vT(h4:∀r∈L,r.length=4)(h2:∀r∈P,r.length=2):(joinV L g P).1.length=L.length/\∀r∈(joinV L g P).1,r.length=4:=by
 have:=(JOk.start g h4 h2).iter P.length (xN _);exact⟨this.len,this.four⟩
section
variable{Φ:Nat->List D->R D}{G:List D}{n:Nat}
noncomputable def Brenamed:List Sm:=[(.ret (.comp .seq [(.var 0)] [2,1] 1 none (.op1 .tuple (.comp .seq [(.var 0)] [1,2] 1 none (.ite (.leaf (.op2 .eq (.var 0) (.var 2))) (.var 1) (.var 0))))))]
theorem nC{R:List (List Int)}(hR:R.length<=1000)(hr:∀r∈R,r.length<=1000):xecs Φ G n Brenamed [some (false,.lst (R.map rowD)),some (false,.int old),some (false,.int new)]=.rt (.lst ((R.map (ren old new)).map rowD)):=by
 unfold Brenamed;refine aH (qG ?_);have e:=m9 (Φ:=Φ) (G:=G) (m:=false) (k:=.seq) (its:=[(.var 0)]) (caps:=[2,1]) (elt:=(.op1 .tuple (.comp .seq [(.var 0)] [1,2] 1 none (.ite (.leaf (.op2 .eq (.var 0) (.var 2))) (.var 1) (.var 0))))) (δ:=[some (false,.lst (R.map rowD)),some (false,.int old),some (false,.int new)]) (a:=rowD) (xs:=R) (λr=>rowD (ren old new r))
  (by simp only[ev,evs,rdR,rdV,Zf,Zk,xD];exact bH (by simpa using hR)) λr h=>?_
 ·rw[List.map_map];exact e
 ·have e2:=m9 (Φ:=Φ) (G:=G) (m:=true) (k:=.seq) (its:=[(.var 0)]) (caps:=[1,2]) (elt:=(.ite (.leaf (.op2 .eq (.var 0) (.var 2))) (.var 1) (.var 0))) (δ:=[some (false,rowD r),some (false,.int new),some (false,.int old)]) (a:=D.int) (xs:=r) (λx=>.int (if x=old then new else x))
   (by simp only[ev,evs,rdR,rdV,Zf,Zk,xD];exact aM (by simpa[intL] using hr r h)) λx _=>?_
  ·rw[ev]
   show(ev Φ G true _ [some (false,rowD r),some (false,.int new),some (false,.int old)]).bind _=_;rw[e2];show Py.R.ok _=_;rw[rowD,ren,intL,List.map_map];rfl
  ·by_cases hc:x=old
   ·have q:(x==old)=true:=by simpa using hc
    simp only[evT,ev,rdR,rdV,Za,capOf,Zf,Zk,Zl,Zm,Zn,xD,w6,gV,Zx,ZG,q,xE hc]
   ·have q:(x==old)=false:=by simpa using hc
    simp only[evT,ev,rdR,rdV,Za,capOf,Zf,Zk,Zl,Zm,Zn,xD,w6,gV,Zx,ZG,q,xC hc]
noncomputable def BjoinT(r:Nat):List Sm:=[(.asg 5 (.op2 .at (.op2 .at (.var 4) (.cst (.int 0))) (.cst (.int 0)))),(.asg 6 (.op2 .at (.op2 .at (.var 4) (.cst (.int 0))) (.cst (.int 1)))),(.ite (.leaf (.op2 .eq (.var 5) (.var 6))) [(.asg 1 (.op2 .add (.var 1) (.cst (.int 1))))] []),(.asg 3 (.call r [(.var 3),(.var 6),(.var 5)])),(.asg 4 (.call r [(.slc (.var 4) (some (.cst (.int 1))) none),(.var 6),(.var 5)]))]
noncomputable def Bjoined(r q:Nat):List Sm:=[(.asg 3 (.op1 .list (.var 0))),(.asg 4 (.op1 .list (.var 2))),(.whl (.leaf (.var 4)) (BjoinT r)),(.ret (.call q [(.var 3),(.var 1)]))]
theorem sL{lf ps:List (List Int)}(hr:∀(R:List (List Int))(old new:Int),R.length<=1000->(∀x∈R,x.length<=1000)->Φ r [.lst (R.map rowD),.int old,.int new]=.ok (.lst ((R.map (ren old new)).map rowD)))
  (l1:lf.length<=1000) (l2:∀x∈lf,x.length<=1000) (l3:ps.length<=1000) (l4:∀x∈ps,x.length<=1000):
  xecs Φ G n (BjoinT r) [some (false,d0),some (false,.int g),some (false,d2),some (o3,.lst (lf.map rowD)),some (o4,.lst (([a,b]::ps).map rowD)),c5,c6]=
  .nx [some (false,d0),some (false,.int (if a=b then g+1 else g)),some (false,d2),some (false,.lst ((lf.map (ren b a)).map rowD)),some (false,.lst ((ps.map (ren b a)).map rowD)),some (false,.int a),some (false,.int b)]:=by
 have h1:=hr lf b a l1 l2;have h2:=hr ps b a l3 l4;have a0:∀(x:D)(y:List D),atD (x::y) 0=some x:=λx y=>bW (xs:=x::y) (i:=0) (by simp);have a1:∀(x y:D),atD [x,y] 1=some y:=λx y=>rfl;have c1:∀(x:D)(y:List D),cut (x::y) (some 1) none=y:=λx y=>iT (x::y) 1;generalize lf.map rowD=X at*;generalize (lf.map (ren b a)).map rowD=X' at*;rw[xM];generalize ps.map rowD=Y at*;generalize (ps.map (ren b a)).map rowD=Y' at*;have er:rowD [a,b]=.tup [.int a,.int b]:=rfl;unfold BjoinT;by_cases hc:a=b
 ·have q:(a==b)=true:=by simpa using hc
  cases o3<;>cases o4<;>simp only[xecs,xec,evT,ev,evs,evP,frz,frz1,leaksT,leaks,leakss,leaksP,rdR,rdV,Za,Zc,asI,isOwn,frsh,slc,Ze,Zf,Zi,Zj,Zk,Zl,Zo,Zp,Zq,xD,w6,gV,Zt,Zu,ZA,ZG,ZI,ZJ,er,a0,a1,q,h1,h2,c1,xE hc]
 ·have q:(a==b)=false:=by simpa using hc
  cases o3<;>cases o4<;>simp only[xecs,xec,evT,ev,evs,evP,frz,frz1,leaksT,leaks,leakss,leaksP,rdR,rdV,Za,Zc,asI,isOwn,frsh,slc,Ze,Zf,Zi,Zj,Zk,Zl,Zo,Zp,Zq,xD,w6,gV,Zt,Zu,ZA,ZG,ZI,ZJ,er,a0,a1,q,h1,h2,c1,xC hc]
noncomputable def hdJ(f:Nat)(s:JS):Nat->Slot
 |0=>none
 |i+1=>some (false,.int (((iterJ s i).w.getD 0 []).getD f 0))
theorem oW(hr:∀(R:List (List Int))(old new:Int),R.length<=1000->(∀x∈R,x.length<=1000)->Φ r [.lst (R.map rowD),.int old,.int new]=.ok (.lst ((R.map (ren old new)).map rowD)))
  (hq:∀(R:List (List Int))(g:Int),(∀x∈R,x.length=4)->R.length<=50->Φ q [.lst (R.map rowD),.int g]=.ok (shD (numV R) g)) (h4:∀r∈L,r.length=4) (h2:∀r∈P,r.length=2) (hL:L.length<=50) (hP:P.length<=50) (hn:100<n):
  xecs Φ G n (Bjoined r q) [some (false,.lst (L.map rowD)),some (false,.int g),some (false,.lst (P.map rowD)),none,none,none,none]=.rt (shD (numV (joinV L g P).1) (joinV L g P).2):=by
 obtain⟨j1,j2⟩:=vT h4 h2 (g:=g);have st:=JOk.start g h4 h2;unfold Bjoined;have e1:xec Φ G n (.asg 3 (.op1 .list (.var 0))) [some (false,.lst (L.map rowD)),some (false,.int g),some (false,.lst (P.map rowD)),none,none,none,none]=.nx [some (false,.lst (L.map rowD)),some (false,.int g),some (false,.lst (P.map rowD)),some (true,.lst (L.map rowD)),none,none,none]:=by simp only[xec,ev,frz,leaks,rdR,rdV,Zc,isOwn,frsh,Zf,Zi,Zj,Zk,xD,Zt,ZR]
 have e2:xec Φ G n (.asg 4 (.op1 .list (.var 2))) [some (false,.lst (L.map rowD)),some (false,.int g),some (false,.lst (P.map rowD)),some (true,.lst (L.map rowD)),none,none,none]=.nx [some (false,.lst (L.map rowD)),some (false,.int g),some (false,.lst (P.map rowD)),some (true,.lst (L.map rowD)),some (true,.lst (P.map rowD)),none,none]:=by simp only[xec,ev,frz,leaks,rdR,rdV,Zc,isOwn,frsh,Zf,Zi,Zj,Zk,Zl,xD,Zt,ZR]
 let d:Nat->Sto:=λi=>[some (false,.lst (L.map rowD)),some (false,.int (iterJ ⟨L,g,P⟩ i).g),some (false,.lst (P.map rowD)),some (decide (i=0),.lst ((iterJ ⟨L,g,P⟩ i).left.map rowD)),some (decide (i=0),.lst ((iterJ ⟨L,g,P⟩ i).w.map rowD)),hdJ 0 ⟨L,g,P⟩ i,hdJ 1 ⟨L,g,P⟩ i]
 have ew:xec Φ G n (.whl (.leaf (.var 4)) (BjoinT r)) (d 0)=.nx (d P.length):=by
  have z:=lJ (c:=evT Φ G (.leaf (.var 4))) (fz:=frz (leaksT (.leaf (.var 4)))) (b:=xecs Φ G n (BjoinT r)) P.length n d (by omega) (λi hi=>?_) ?_
  ·simpa only[xec,leaksT,leaks,frz,xD] using z
  ·have ok:=st.iter i (by omega)
   obtain⟨a,b,ps,hw,es,ok'⟩:=ok.head hi;refine⟨?_,?_⟩
   ·simp only[evT,ev,frz,leaksT,leaks,rdR,rdV,Zb,Zf,Zk,Zl,Zm,xD,d,hw]
    rfl
   ·have hps:ps.length<=50:=by have:=ok.wl;rw[hw] at this;simp only[w5] at this;omega
    have t:=sL (Φ:=Φ) (G:=G) (n:=n) (r:=r) (d0:=.lst (L.map rowD)) (d2:=.lst (P.map rowD)) (lf:=(iterJ ⟨L,g,P⟩ i).left) (ps:=ps) (a:=a) (b:=b) (g:=(iterJ ⟨L,g,P⟩ i).g) (o3:=decide (i=0)) (o4:=decide (i=0)) (c5:=hdJ 0 ⟨L,g,P⟩ i) (c6:=hdJ 1 ⟨L,g,P⟩ i) hr
     (by rw[ok.len];omega) (λx hx=>by rw[ok.four x hx];decide) (by omega) (λx hx=>by rw[ok.two x (by rw[hw];exact xK _ hx)];decide)
    have ed:d (i+1)=[some (false,.lst (L.map rowD)),some (false,.int (if a=b then(iterJ ⟨L,g,P⟩ i).g+1 else(iterJ ⟨L,g,P⟩ i).g)),some (false,.lst (P.map rowD)),some (false,.lst (((iterJ ⟨L,g,P⟩ i).left.map (ren b a)).map rowD)),some (false,.lst ((ps.map (ren b a)).map rowD)),some (false,.int a),some (false,.int b)]:=by
     show[_,some (false,.int (stpJ (iterJ ⟨L,g,P⟩ i)).g),_,some (decide (i+1=0),.lst ((stpJ (iterJ ⟨L,g,P⟩ i)).left.map rowD)),some (decide (i+1=0),.lst ((stpJ (iterJ ⟨L,g,P⟩ i)).w.map rowD)),hdJ 0 ⟨L,g,P⟩ (i+1),hdJ 1 ⟨L,g,P⟩ (i+1)]=_;rw[es];simp only[hdJ,hw];rfl
    rw[ed,←t];show xecs Φ G n (BjoinT r) (d i)=_;simp only[d,hw]
  ·have ok:=st.iter P.length (xN _)
   have e0:(iterJ ⟨L,g,P⟩ P.length).w=[]:=List.eq_nil_of_length_eq_zero (by rw[ok.wl];omega);simp only[evT,ev,frz,leaksT,leaks,rdR,rdV,Zb,Zf,Zk,Zl,Zn,xD,d,e0];rfl
 rw[aA e1,aA e2];show xecs Φ G n _ (d 0)=_;rw[aA ew];have hq':=hq (joinV L g P).1 (joinV L g P).2 j2 (by omega);have ef:d P.length=[some (false,.lst (L.map rowD)),some (false,.int (joinV L g P).2),some (false,.lst (P.map rowD)),some (decide (P.length=0),.lst ((joinV L g P).1.map rowD)),some (decide (P.length=0),.lst ((iterJ ⟨L,g,P⟩ P.length).w.map rowD)),hdJ 0 ⟨L,g,P⟩ P.length,hdJ 1 ⟨L,g,P⟩ P.length]:=rfl;rw[ef];generalize decide (P.length=0)=o;cases o<;>simp only[xecs,xec,ev,evs,frz,frz1,leaks,leakss,rdR,rdV,Zc,Zf,Zi,Zj,Zk,Zl,Zo,Zp,Zq,w6,gV,hq']
end
noncomputable def withoutV(Q:List (List Int))(ks:List Int):List (List Int):=((List.range Q.length).filter λ(k:Nat)=>!decide (((k:Nat):Int)∈ks)).map λ(k:Nat)=>Q.getD k []
theorem sM(xs:List D):enumD 0 xs=(List.range xs.length).map λk=>.tup [.int (k:Nat),xs.getD k .non]:=by
 refine List.ext_getElem (by simp[aT]) λi h1 h2=>?_;have h:i<xs.length:=by simpa[aT] using h1
 rw[i6 xs 0 i h1 h];simp[h]
theorem vU(x:Int)(xs:List Int):isin (.int x) (.tup (intL xs))=.ok (decide (x∈xs)):=kB x xs
theorem sN(x:Int)(xs:List Int):op2 .notIn (.int x) (.tup (intL xs))=.ok (.bl (!decide (x∈xs))):=by
 show(isin (.int x) (.tup (intL xs))).bind _=_;rw[vU];rfl
theorem gR(Q:List (List Int))(ks:List Int):(withoutV Q ks).length<=Q.length:=by
 unfold withoutV;rw[xB];exact xU (List.length_filter_le _ _) (by simp)
theorem aJ(h4:∀r∈Q,r.length=4):∀r∈withoutV Q ks,r.length=4:=by
 intro r hr;obtain⟨k,hk,rfl⟩:=List.mem_map.mp hr;have hk':k<Q.length:=List.mem_range.mp (List.mem_filter.mp hk).1;have:Q.getD k []=Q[k]:=by simp[hk']
 rw[this];exact h4 _ (xV hk')
theorem nD{k:Nat}(h:k<Q.length):withoutV Q [(k:Int)]=Q.take k++Q.drop (k+1):=by
 have er:List.range Q.length=List.range k++k::(List.range (Q.length-(k+1))).map (k+1+·):=by
  rw[show Q.length=(k+1)+(Q.length-(k+1)) by omega,List.range_add,zU,List.append_assoc,show k+1+(Q.length-(k+1))-(k+1)=Q.length-(k+1) by omega];rfl
 unfold withoutV;rw[er,List.filter_append,zI,yB];have f1:(List.range k).filter (λ(j:Nat)=>!decide (((j:Nat):Int)∈[((k:Nat):Int)]))=List.range k:=List.filter_eq_self.mpr λj hj=>by
  have:=List.mem_range.mp hj;simp;omega
 have f2:((List.range (Q.length-(k+1))).map (k+1+·)).filter (λ(j:Nat)=>!decide (((j:Nat):Int)∈[((k:Nat):Int)]))=(List.range (Q.length-(k+1))).map (k+1+·):=List.filter_eq_self.mpr λj hj=>by
  obtain⟨i,_,rfl⟩:=List.mem_map.mp hj;simp;omega
 rw[f1,f2,xC (by simp)]
 congr 1
 ·refine List.ext_getElem (by simp;omega) λi h1 h2=>?_
  have hi:i<Q.length:=by simp at h2;omega
  simp[hi]
 ·refine List.ext_getElem (by simp) λi h1 h2=>?_
  have hi:k+1+i<Q.length:=by simp at h1;omega
  simp[hi]
section
variable{Φ:Nat->List D->R D}{G:List D}{n:Nat}
noncomputable def Bwithout:List Sm:=[(.ret (.comp .enum [(.var 0)] [1] 2 (some (.leaf (.op2 .notIn (.var 0) (.var 2)))) (.var 1)))]
theorem nG(hQ:Q.length<=1000):xecs Φ G n Bwithout [some (false,.tup (Q.map rowD)),some (false,.tup (intL ks))]=.rt (.lst ((withoutV Q ks).map rowD)):=by
 unfold Bwithout;have hit:itemsD .enum [.tup (Q.map rowD)]=.ok (enumD 0 (Q.map rowD)):=by
  show(if(enumD 0 (Q.map rowD)).length<=LIM then R.ok (enumD 0 (Q.map rowD)) else R.bad)=_;rw[aT,xB,xE (xU hQ (by decide))]
 have e:ev Φ G false (.comp .enum [(.var 0)] [1] 2 (some (.leaf (.op2 .notIn (.var 0) (.var 2)))) (.var 1)) [some (false,.tup (Q.map rowD)),some (false,.tup (intL ks))]=.ok (.lst ((withoutV Q ks).map rowD)):=by
  rw[ev];simp only[evs,ev,xD,rdR,List.getElem?_cons_zero,bX,hit];rw[sM,xB,bD (λx=>match x with|.tup [.int k,_]=>!decide (k∈ks)|_=>false) (λx=>match x with|.tup [_,d]=>d|_=>.non) _ λx hx=>?_]
  ·simp only[Py.R.quiet_ok,bX]
   congr 2
   unfold withoutV;rw[List.filter_map,List.map_map,List.map_map];refine List.map_congr_left λk hk=>?_;have hk':k<Q.length:=List.mem_range.mp (List.mem_filter.mp hk).1;simp[hk']
  ·obtain⟨k,hk,rfl⟩:=List.mem_map.mp hx
   have ni:=sN (k:Nat) ks;simp only[evT,ev,evO,rdR,rdV,Za,spread,capOf,Zf,Zk,Zl,Zm,Zn,Zo,Zp,xD,w6,gV,Zx,w5,xJ,Nat.reduceAdd,xQ,ni];by_cases hc:((k:Nat):Int)∈ks
   ·simp[hc]
   ·simp[hc]
 exact aH (qG e)
noncomputable def Bat(c:Nat):List Sm:=[(.ite (.or (.leaf (.op2 .lt (.var 1) (.cst (.int 0)))) (.leaf (.op2 .ge (.var 1) (.op1 .len (.op2 .at (.var 0) (.cst (.int 0))))))) [(.rai c)] []),(.ret (.op2 .at (.op2 .at (.var 0) (.cst (.int 0))) (.var 1)))]
theorem at_run:(xecs Φ G n (Bat c) [some (false,shD Q g),some (false,.int x)]).val=if x<0\/(Q.length:Int)<=x then .exc c else .ok (rowD (Q.getD x.toNat [])):=by
 have a0:op2 .at (shD Q g) (.int 0)=.ok (.tup (Q.map rowD)):=rfl;unfold Bat;by_cases h1:x<0
 ·have q:decide (x<0)=true:=yJ h1
  rw[xE (.inl h1)];simp only[xecs,xec,evT,ev,frz,leaksT,leaks,rdR,rdV,Za,Zc,Zf,Zk,Zl,Zq,xD,ZC,q];rfl
 ·have q:decide (x<0)=false:=x8 h1
  by_cases h2:(Q.length:Int)<=x
  ·have q2:decide ((Q.length:Int)<=x)=true:=yJ h2
   rw[xE (.inr h2)];simp only[xecs,xec,evT,ev,frz,leaksT,leaks,rdR,rdV,Za,Zc,Zf,Zk,Zl,Zq,xD,w6,gV,ZC,ZF,ZM,q,a0,xB,q2];rfl
  ·have q2:decide ((Q.length:Int)<=x)=false:=x8 h2
   rw[xC (by omega)];have ha:=fU (Q:=Q) (k:=x.toNat) (by omega);rw[show((x.toNat:Nat):Int)=x by omega] at ha;simp only[xecs,xec,evT,ev,frz,leaksT,leaks,rdR,rdV,Za,Zc,Ze,Zf,Zk,Zl,Zq,xD,w6,gV,ZC,ZF,ZJ,ZM,q,a0,xB,q2,ha];rfl
end
theorem gS(m:Nat)(fx:List (Nat×Nat)):(startP m fx).owner.length=4*m:=by
 show(fixT fx (List.replicate (4*m) (-1)) fx.length).length=_;rw[dH];simp
theorem sO(pk:Nat->Int)(m:Nat)(fx:List (Nat×Nat)):(runP pk (startP m fx)).owner.length=4*m:=by
 rw[runP,d9,gS]
theorem oX:∀(xs acc:List Int),(∀u∈acc++xs,∀v∈acc++xs,f u=f v->u=v)->dd (acc.map f) (xs.map f)=(dd acc xs).map f
 |[],acc,_=>rfl
 |x::r,acc,h=>by
  have e:f x∈acc.map f↔x∈acc:=by
   constructor
   ·intro hm
    obtain⟨u,hu,e⟩:=List.mem_map.mp hm;rw[←h u (by simp[hu]) x (by simp) e];exact hu
   ·exact λhm=>List.mem_map.mpr ⟨x,hm,rfl⟩
  rw[xM,dd,dd];by_cases hx:x∈acc
  ·rw[xE hx,xE (e.mpr hx)]
   exact oX r acc λu hu v hv=>h u (by
    rcases List.mem_append.mp hu with z|z<;>simp[z]) v (by
    rcases List.mem_append.mp hv with z|z<;>simp[z])
  ·rw[xC hx,xC λz=>hx (e.mp z)]
   have:=oX (f:=f) r (acc++[x]) λu hu v hv=>h u (by simpa using hu) v (by simpa using hv);rw[yB] at this;exact this
theorem kF{f:Int->Int}:∀{l:List Int},(∀u∈l,f u=f x->u=x)->(l.map f).idxOf (f x)=l.idxOf x
 |[],_=>rfl
 |y::l,h=>by
  rw[xM,List.idxOf_cons,List.idxOf_cons];by_cases e:y=x
  ·subst e;simp
  ·have:(f y==f x)=false:=by simpa using λz=>e (h y (by simp) z)
   rw[this,show(y==x)=false by simpa using e];simp only[cond_false];rw[kF λu hu=>h u (xK _ hu)]
theorem vV{R:List (List Int)}(h:∀u∈R.flatten,∀v∈R.flatten,f u=f v->u=v):numV (R.map λr=>r.map f)=numV R:=by
 have ef:(R.map λr=>r.map f).flatten=R.flatten.map f:=by rw[List.map_flatten]
 have ed:dd [] (R.flatten.map f)=(dd [] R.flatten).map f:=oX R.flatten [] (by simpa using h);unfold numV;rw[ef,ed,List.map_map];refine List.map_congr_left λr hr=>?_;show(r.map f).map _=_;rw[List.map_map];refine List.map_congr_left λx hx=>?_;have hxR:x∈R.flatten:=List.mem_flatten.mpr ⟨r,hr,hx⟩;show(((((dd [] R.flatten).map f).idxOf (f x):Nat)):Int)=_;rw[kF λu hu e=>h u (((aN _ _ u).mp hu).resolve_left (by simp)) x hxR e]
theorem idx_inj{l:List Int}(hu:u∈l)(hv:v∈l)(e:l.idxOf u=l.idxOf v):u=v:=by
 have h1:=List.getElem_idxOf (List.idxOf_lt_length_iff.mpr hu);have h2:=List.getElem_idxOf (List.idxOf_lt_length_iff.mpr hv);rw[←h1,←h2]
 congr 1
theorem bZ(R:List (List Int)):numV (numV R)=numV R:=by
 have:numV R=R.map λr=>r.map λx=>(((dd [] R.flatten).idxOf x:Nat):Int):=rfl
 conv=>lhs;rw[this]
 refine vV λu hu v hv e=>?_;exact idx_inj ((aN [] _ u).mpr (.inr hu)) ((aN [] _ v).mpr (.inr hv)) (by omega)
theorem GP.free(g:GP ⟨o,l,nm⟩):GP ⟨o,freeP o,nm⟩:=by
 have hmem:∀i,i∈freeP o↔i∈l:=by
  intro i;rw[freeP,yP,List.mem_range];constructor
  ·rintro⟨hi,hn⟩
   have hn:o.getD i 0<0:=of_decide_eq_true hn;by_cases hl:i∈l
   ·exact hl
   ·have hs:o[i]?=some o[i]:=yY hi
    obtain⟨v,_,ev⟩:=g.oth i o[i] hs hl;have:o.getD i 0=o[i]:=by simp[hi]
    omega
  ·intro hl
   have:=g.neg i hl;have hi:i<o.length:=(List.getElem?_eq_some_iff.mp this).1;refine⟨hi,yJ ?_⟩;have e:o.getD i 0= -1:=by
    have e2:o[i]?=some (-1):=this;simp[List.getD,e2]
   omega
 have hnd:(freeP o).Nodup:=List.Pairwise.filter _ List.nodup_range;have hp:(freeP o).Perm l:=(List.perm_ext_iff_of_nodup hnd g.nd).mpr hmem;refine⟨hnd,λi hi=>g.neg i ((hmem i).mp hi),λi x e hi=>g.oth i x e λz=>hi ((hmem i).mpr z),g.two,?_⟩;have:=g.sz;show(freeP o).length+_=_;rw[hp.length_eq];exact this
theorem GP.pairF(g:GP ⟨o,freeP o,nm⟩)(ha:o[a]?=some (-1))(hb:o[b]?=some (-1))(hab:a≠b):GP ⟨(o.set a nm).set b nm,freeP ((o.set a nm).set b nm),nm+1⟩:=by
 have inF:∀i,o[i]?=some (-1)->i∈freeP o:=λi h=>by
  rw[freeP,yP,List.mem_range];exact⟨(List.getElem?_eq_some_iff.mp h).1,yJ (by simp[List.getD,h])⟩
 have h1:(freeP o).Perm (a::(freeP o).erase a):=List.perm_cons_erase (inF a ha);have hb':b∈(freeP o).erase a:=(List.mem_erase_of_ne (yI hab)).mpr (inF b hb);have h2:((freeP o).erase a).Perm (b::((freeP o).erase a).erase b):=List.perm_cons_erase hb';have hp:(freeP o).Perm (a::b::(((freeP o).erase a).erase b++[])):=by
  rw[yD];exact h1.trans (List.Perm.cons a h2)
 exact(g.pair hp).free
theorem lO:∀i,(∀j,j<i->(fx.getD j (0,0)).1≠c/\(fx.getD j (0,0)).2≠c)->(fixT fx o i)[c]?=o[c]?
 |0,_=>rfl
 |i+1,h=>by
  rw[fixT,xR (h i (by omega)).2,xR (h i (by omega)).1];exact lO i λj hj=>h j (by omega)
theorem GP.startF(hr:∀x∈fx,x.1<4*m/\x.2<4*m)(hne:∀x∈fx,x.1≠x.2)(hd:∀i j,i<j->j<fx.length->((fx.getD i (0,0)).1≠(fx.getD j (0,0)).1/\(fx.getD i (0,0)).2≠(fx.getD j (0,0)).1)/\((fx.getD i (0,0)).1≠(fx.getD j (0,0)).2/\(fx.getD i (0,0)).2≠(fx.getD j (0,0)).2)):GP (startP m fx):=by
 have key:∀i,i<=fx.length->GP ⟨fixT fx (List.replicate (4*m) (-1)) i,freeP (fixT fx (List.replicate (4*m) (-1)) i),i⟩:=by
  intro i
  induction i with
  |zero=>intro _;exact GP.start0 m
  |succ i ih=>
   intro hi;have hl:i<fx.length:=by omega
   have hm:fx.getD i (0,0)∈fx:=by simp[List.getD,yY hl]
   have r:=hr _ hm;have g:=ih (by omega);exact g.pairF (by rw[lO i λj hj=>(hd j i hj hl).1,zE,xE r.1]) (by rw[lO i λj hj=>(hd j i hj hl).2,zE,xE r.2]) (hne _ hm)
 exact key fx.length (xN _)
theorem nH(g:GP (startP m fx)):Sheet (numV (chunks m (runP pk (startP m fx)).owner)) m:=by
 have g:=g.run (pk:=pk) (m:=m) (gS m fx);obtain⟨c1,c2⟩:=iY m _ g.2;refine⟨by rw[iZ,c1],fT c2,qH ?_⟩;rw[mZ m _ g.2];exact g.1
noncomputable def sumF:Nat->(Nat->Nat)->Nat
 |0,_=>0
 |n+1,g=>sumF n g+g n
theorem bB:∀(n:Nat),(∀x,x<n->f x=g x)->sumF n f=sumF n g
 |0,_=>rfl
 |n+1,h=>by rw[sumF,sumF,bB n λx hx=>h x (by omega),h n (by omega)]
theorem oY(n c:Nat):sumF n (λ_=>c)=n*c:=by
 induction n with
 |zero=>simp[sumF]
 |succ n ih=>rw[sumF,ih,Nat.succ_mul]
theorem e8(c:Nat)(g:Nat->Nat):∀n,sumF n (λx=>c*g x)=c*sumF n g
 |0=>rfl
 |n+1=>by rw[sumF,e8 c g n,sumF,Nat.mul_add]
noncomputable def totW(p:Nat):Nat->(List Int->Nat)->Nat
 |0,g=>g []
 |L+1,g=>totW p L λt=>sumF p λx=>g ((x:Int)::t)
noncomputable def Paint(p L:Nat)(t:List Int):Prop:=t.length=L/\∀x∈t,0<=x/\x<(p:Int)
theorem aX:∀(L:Nat){f g:List Int->Nat},(∀t,Paint p L t->f t=g t)->totW p L f=totW p L g
 |0,f,g,h=>h [] ⟨rfl,by simp⟩
 | L+1,f,g,h=>aX L λt ht=>bB p λx hx=>h _ ⟨by rw[w5,ht.1],λy hy=>by
   rcases yC.1 hy with rfl|hy
   ·omega
   ·exact ht.2 y hy⟩
theorem e9(c:Nat):∀(L:Nat)(g:List Int->Nat),totW p L (λt=>c*g t)=c*totW p L g
 |0,g=>rfl
 |L+1,g=>by
  show totW p L (λt=>sumF p λx=>c*g ((x:Int)::t))=_;rw[aX L (g:=λt=>c*sumF p λx=>g ((x:Int)::t)) λt _=>e8 c _ p,e9 c L];rfl
theorem nI(f g:Nat->Nat):∀n,sumF n (λx=>f x+g x)=sumF n f+sumF n g
 |0=>rfl
 |n+1=>by simp only[sumF];rw[nI f g n];omega
theorem nJ:∀(L:Nat)(f g:List Int->Nat),totW p L (λt=>f t+g t)=totW p L f+totW p L g
 |0,f,g=>rfl
 |L+1,f,g=>by
  show totW p L (λt=>sumF p λx=>f ((x:Int)::t)+g ((x:Int)::t))=_;rw[aX L λt _=>nI _ _ p,nJ L];rfl
theorem sP(L:Nat):totW p L (λ_=>0)=0:=by
 have:=e9 (p:=p) 0 L (λ_=>0);simpa using this
theorem nK(L:Nat)(h:Nat->List Int->Nat):∀n,totW p L (λt=>sumF n λx=>h x t)=sumF n λx=>totW p L (h x)
 |0=>sP L
 |n+1=>by
  show totW p L (λt=>(sumF n λx=>h x t)+h n t)=_;rw[nJ,nK L h n];rfl
noncomputable def paintsV(p:Nat):Nat->List (List Int)
 |0=>[[]]
 |L+1=>(paintsV p L).flatMap λt=>(List.range p).map λ(x:Nat)=>t++[(x:Int)]
theorem bM(p:Nat):∀L,paintsV p (L+1)=(List.range p).flatMap λ(x:Nat)=>(paintsV p L).map λt=>(x:Int)::t
 |0=>by
  show([[]]:List (List Int)).flatMap (λt=>(List.range p).map λ(x:Nat)=>t++[(x:Int)])=_;rw[List.flatMap_cons,List.flatMap_nil,yD,List.map_eq_flatMap];rfl
 |L+1=>by
  show(paintsV p (L+1)).flatMap _=_
  conv=>lhs;rw[bM p L,List.flatMap_assoc]
  congr 1
  funext x;rw[List.flatMap_map];show _=((paintsV p L).flatMap λt=>(List.range p).map λ(x:Nat)=>t++[(x:Int)]).map _;rw[List.map_flatMap]
  congr 1
  funext t;rw[List.map_map];rfl
theorem gT{α:Type}(f:α->List Nat):∀(xs:List α),(xs.flatMap f).sum=(xs.map λx=>(f x).sum).sum
 |[]=>rfl
 |x::r=>by rw[List.flatMap_cons,List.sum_append,gT f r];rfl
theorem kG(g:Nat->Nat):∀n,((List.range n).map g).sum=sumF n g
 |0=>rfl
 |n+1=>by rw[zU,yB,List.sum_append,kG g n];simp[sumF]
theorem b6(p:Nat):∀(L:Nat)(g:List Int->Nat),((paintsV p L).map g).sum=totW p L g
 |0,g=>by simp[paintsV,totW]
 |L+1,g=>by
  rw[bM,List.map_flatMap,gT];show((List.range p).map λ(x:Nat)=>(((paintsV p L).map λt=>(x:Int)::t).map g).sum).sum=_;rw[kG];show _=totW p L λt=>sumF p λx=>g ((x:Int)::t);rw[nK L (λx t=>g ((x:Int)::t)) p];refine bB p λx _=>?_;rw[List.map_map,←b6 p L];rfl
theorem cT(p:Nat):∀L,(paintsV p L).length=p^L
 |0=>rfl
 |L+1=>by
  show((paintsV p L).flatMap _).length=_;rw[List.length_flatMap,Nat.pow_succ,←cT p L];simp[List.map_const',List.sum_replicate_nat]
theorem aO:∀{L:Nat}{t:List Int},t∈paintsV p L->Paint p L t
 |0,t,h=>by simp[paintsV] at h;subst h;exact⟨rfl,by simp⟩
 |L+1,t,h=>by
  simp only[paintsV,List.mem_flatMap,yZ,List.mem_range] at h;obtain⟨s,hs,x,hx,rfl⟩:=h;obtain⟨h1,h2⟩:=aO hs;refine⟨by simp[h1],λy hy=>?_⟩;rcases List.mem_append.1 hy with hy|hy
  ·exact h2 y hy
  ·simp at hy;subst hy;omega
noncomputable def dotI:List Int->List Int->Int
 |a::r,x::t=>a*x+dotI r t
 |_,_=>0
noncomputable def okR(p:Int)(rows:List (List Int))(t:List Int):Bool:=rows.all λr=>decide (dotI r t%p=0)
noncomputable def clrV(p:Int)(k:Nat)(r l:List Int):List Int:=(r.zip l).map λy=>(y.1*l.getD k 0-y.2*r.getD k 0)%p
noncomputable def elimV(p:Int)(k:Nat)(s:List (List Int)×Nat):List (List Int)×Nat:=
 match s.1.filter λr=>decide (r.getD k 0%p≠0) with
 |[]=>s
 |l::ls=>((s.1.filter λr=>decide (r.getD k 0%p=0))++ls.map λr=>clrV p k r l,s.2+1)
noncomputable def elimsV(p:Int)(rows:List (List Int)):Nat->List (List Int)×Nat
 |0=>(rows,0)
 |k+1=>elimV p k (elimsV p rows k)
noncomputable def cntK(p L k:Nat)(rows:List (List Int)):Nat:=totW p (L-k) λt=>(okR p (rows.map (·.drop k)) t).toNat
structure Prm(p:Nat):Prop where
 pos:0<p
 one:∀a c:Int,a%p≠0->sumF p (λx=>(decide ((a*x+c)%p=0)).toNat)=1
 can:∀a b:Int,a%p≠0->(a*b)%p=0->b%p=0
theorem oZ(hp:0<p)(h1:∀a,a<p->a≠0->∀c,c<p->sumF p (λx=>(decide ((a*x+c)%p=0)).toNat)=1)(h2:∀a,a<p->a≠0->∀b,b<p->(a*b)%p=0->b=0):Prm p:=by
 have red:∀a:Int,∃n:Nat,n<p/\a%p=n:=λa=>by
  have q:(p:Int)≠0:=by omega
  have:=Int.emod_nonneg a q;have:=zR a (show(0:Int)<p by omega);exact⟨(a%p).toNat,by omega,by omega⟩
 have spl:∀(a:Int)(n:Nat),a%p=n->∃u:Int,a=n+(p:Int)*u:=λa n h=>⟨a/p,by rw[←h];exact(Int.emod_add_mul_ediv a p).symm⟩
 refine⟨hp,λa c ha=>?_,λa b ha h=>?_⟩
 ·obtain⟨n,hn,en⟩:=red a
  obtain⟨m,hm,em⟩:=red c;rw[←h1 n hn (by intro y;subst y;exact ha (by rw[en];rfl)) m hm];refine bB p λx _=>?_;have e:(a*(x:Int)+c)%(p:Int)=(((n*x+m)%p:Nat):Int):=by
   obtain⟨u,hu⟩:=spl a n en;obtain⟨v,hv⟩:=spl c m em;have:a*(x:Int)+c=((n*x+m:Nat):Int)+(p:Int)*(u*x+v):=by
    rw[hu,hv,Int.add_mul,Int.mul_add,Int.mul_assoc,Int.natCast_add,Int.natCast_mul];omega
   rw[this,Int.add_mul_emod_self_left,Int.natCast_emod]
  rw[e]
  congr 1
  exact decide_eq_decide.2 (by omega)
 ·obtain⟨n,hn,en⟩:=red a
  obtain⟨m,hm,em⟩:=red b;rw[Int.mul_emod,en,em] at h;have hz:n*m%p=0:=by
   have:((n*m%p:Nat):Int)=0:=by rw[Int.natCast_emod,Int.natCast_mul];exact h
   omega
  rw[em,h2 n hn (by intro y;subst y;exact ha (by rw[en];rfl)) m hm hz];rfl
theorem prm2:Prm 2:=oZ (by decide) (by decide+kernel) (by decide+kernel)
theorem prm3:Prm 3:=oZ (by decide) (by decide+kernel) (by decide+kernel)
theorem prm5:Prm 5:=oZ (by decide) (by decide+kernel) (by decide+kernel)
theorem bI{r:List Int}(h:k<r.length):r.drop k=r.getD k 0::r.drop (k+1):=by
 rw[List.drop_eq_getElem_cons h,xY,yY h];rfl
theorem fA:okR p rows t=true↔∀r∈rows,dotI r t%p=0:=by
 simp[okR]
theorem cH{r t:List Int}(h:k<r.length):dotI (r.drop k) (x::t)=r.getD k 0*x+dotI (r.drop (k+1)) t:=by
 rw[bI h];rfl
theorem qJ{k:Nat}(a b:Int):∀(r l t:List Int),r.length=l.length->dotI ((r.zip l).map λy=>(y.1*a-y.2*b)%p) t%p=(a*dotI r t-b*dotI l t)%p
 |[],[],t,_=>by simp[dotI]
 |x::r,y::l,[],_=>by simp[dotI]
 |x::r,y::l,z::t,h=>by
  have ih:=qJ (p:=p) (k:=k) a b r l t (by simpa using h);show((x*a-y*b)%p*z+dotI ((r.zip l).map λy=>(y.1*a-y.2*b)%p) t)%p=(a*(x*z+dotI r t)-b*(y*z+dotI l t))%p;rw[Int.add_emod,Int.mul_emod ((x*a-y*b)%p),Int.emod_emod,←Int.mul_emod,ih,←Int.add_emod]
  congr 1
  rw[Int.sub_mul,Int.mul_add,Int.mul_add];have e1:x*a*z=a*(x*z):=by rw[Int.mul_comm x a,Int.mul_assoc]
  have e2:y*b*z=b*(y*z):=by rw[Int.mul_comm y b,Int.mul_assoc]
  omega
theorem vW:(clrV p k r l).drop j=((r.drop j).zip (l.drop j)).map λy=>(y.1*l.getD k 0-y.2*r.getD k 0)%p:=by
 rw[clrV,←List.map_drop,List.zip_eq_zipWith,List.zip_eq_zipWith,List.drop_zipWith]
theorem vX{p L k:Nat}(hk:k<L)(hl:∀r∈rows,r.length=L)(hz:∀r∈rows,r.getD k 0%(p:Int)=0):cntK p L k rows=p*cntK p L (k+1) rows:=by
 unfold cntK;rw[←e9,show L-k=(L-(k+1))+1 by omega,totW];refine aX _ λt _=>?_;rw[←oY];refine bB p λx _=>?_
 congr 1
 rw[zH,fA,fA];simp only[yZ,forall_exists_index,and_imp,forall_apply_eq_imp_iff₂];refine forall_congr' λr=>forall_congr' λhr=>?_;rw[cH (by rw[hl r hr];exact hk),Int.add_emod,Int.mul_emod,hz r hr,Int.zero_mul,zY,Int.zero_add,Int.emod_emod]
theorem vY(P:Prm p)(hk:k<L)(hl:∀r∈rows,r.length=L)(e:(rows.filter λr=>decide (r.getD k 0%(p:Int)≠0))=l::ls):
  cntK p L k rows=cntK p L (k+1) ((rows.filter λr=>decide (r.getD k 0%(p:Int)=0))++ls.map λr=>clrV p k r l):=by
 have hm:∀r,r∈l::ls↔r∈rows/\r.getD k 0%(p:Int)≠0:=λr=>by rw[←e,yP,decide_eq_true_iff]
 obtain⟨l1,l2⟩:=(hm l).1 xT;unfold cntK;rw[show L-k=(L-(k+1))+1 by omega,totW];refine aX _ λt _=>?_;refine Eq.trans (b:=_*sumF p (λx=>(decide ((l.getD k 0*x+dotI (l.drop (k+1)) t)%p=0)).toNat)) ?_ (by rw[P.one (l.getD k 0) (dotI (l.drop (k+1)) t) l2,Nat.mul_one]);rw[←e8];refine bB p λx _=>?_;rw[show∀a b:Bool,a.toNat*b.toNat=(a&&b).toNat from by decide]
 congr 1
 rw[zH,xG,fA,fA,decide_eq_true_iff];simp only[yZ,List.mem_append,yP,forall_exists_index,and_imp,forall_apply_eq_imp_iff₂,decide_eq_true_iff];have key:∀r,r∈ls->(l.getD k 0*(x:Int)+dotI (l.drop (k+1)) t)%p=0->(dotI (r.drop k) ((x:Int)::t)%p=0↔dotI ((clrV p k r l).drop (k+1)) t%p=0):=λr hr hx=>by
  obtain⟨r1,_⟩:=(hm r).1 (xK _ hr);rw[cH (by rw[hl r r1];exact hk),vW,qJ (k:=k) _ _ _ _ _ (by simp[hl r r1,hl l l1])];generalize dotI (r.drop (k+1)) t=d at*;generalize dotI (l.drop (k+1)) t=g at*;generalize r.getD k 0=c at*;generalize hL:l.getD k 0=a at*;have id:a*(c*(x:Int)+d)=c*(a*x+g)+(a*d-c*g):=by
   rw[Int.mul_add,Int.mul_add];have:a*(c*(x:Int))=c*(a*x):=by rw[←Int.mul_assoc,Int.mul_comm a c,Int.mul_assoc]
   omega
  have hs:(c*(a*x+g)+(a*d-c*g))%(p:Int)=(a*d-c*g)%p:=by
   rw[Int.add_emod,Int.mul_emod,hx,Int.mul_zero,zY,Int.zero_add,Int.emod_emod]
  constructor
  ·intro h
   rw[←hs,←id,Int.mul_emod,h,Int.mul_zero,zY]
  ·intro h
   exact P.can a _ l2 (by rw[id,hs,h])
 constructor
 ·intro h
  have hx:(l.getD k 0*(x:Int)+dotI (l.drop (k+1)) t)%p=0:=by
   have:=h l l1;rwa[cH (by rw[hl l l1];exact hk)] at this
  refine⟨λr hr=>?_,hx⟩;rcases hr with⟨s1,s2⟩|⟨s,s1,rfl⟩
  ·have:=h r s1
   rw[cH (by rw[hl r s1];exact hk),Int.add_emod,Int.mul_emod,s2,Int.zero_mul,zY,Int.zero_add,Int.emod_emod] at this;exact this
  ·exact(key s s1 hx).1 (h s ((hm s).1 (xK _ s1)).1)
 ·rintro⟨h,hx⟩ r hr
  by_cases hc:r.getD k 0%(p:Int)=0
  ·rw[cH (by rw[hl r hr];exact hk),Int.add_emod,Int.mul_emod,hc,Int.zero_mul,zY,Int.zero_add,Int.emod_emod]
   exact h _ (.inl ⟨hr,hc⟩)
  ·rcases yC.1 ((hm r).2 ⟨hr,hc⟩) with rfl|hs
   ·rw[cH (by rw[hl r hr];exact hk)];exact hx
   ·exact(key r hs hx).2 (h _ (.inr ⟨r,hs,rfl⟩))
structure Rws(L:Nat)(rows:List (List Int)):Prop where
 len:∀r∈rows,r.length=L
 sml:∀r∈rows,∀x∈r,-100<=x/\x<=100
theorem clr_len(h:r.length=l.length):(clrV p k r l).length=r.length:=by
 simp[clrV,h]
theorem Rws.elim{p L k:Nat}(hp:0<p/\p<=100)(h:Rws L s.1):Rws L (elimV p k s).1:=by
 unfold elimV;split
 ·exact h
 ·rename_i l ls e
  have hm:∀r,r∈l::ls->r∈s.1:=λr hr=>by rw[←e] at hr;exact(yP.1 hr).1
  have ll:=h.len l (hm l xT);refine⟨λr hr=>?_,λr hr x hx=>?_⟩
  ·rcases List.mem_append.1 hr with hr|hr
   ·exact h.len r (yP.1 hr).1
   ·obtain⟨q,hq,rfl⟩:=yZ.1 hr
    have:=h.len q (hm q (xK _ hq));rw[clr_len (by rw[this,ll]),this]
  ·rcases List.mem_append.1 hr with hr|hr
   ·exact h.sml r (yP.1 hr).1 x hx
   ·obtain⟨q,hq,rfl⟩:=yZ.1 hr
    obtain⟨y,_,rfl⟩:=yZ.1 hx;have h1:=Int.emod_nonneg (y.1*l.getD k 0-y.2*q.getD k 0) (show(p:Int)≠0 by omega);have h2:=zR (y.1*l.getD k 0-y.2*q.getD k 0) (show(0:Int)<p by omega);omega
theorem Rws.elims{p L:Nat}(hp:0<p/\p<=100)(h:Rws L rows):∀k,Rws L (elimsV p rows k).1
 |0=>h
 |k+1=>(Rws.elims hp h k).elim hp
theorem vZ(p:Int)(k:Nat)(s:List (List Int)×Nat):(elimV p k s).1.length<=s.1.length:=by
 unfold elimV;split
 ·exact xN _
 ·rename_i l ls e
  rw[xL,xB];have h:∀xs:List (List Int),(xs.filter λr=>decide (r.getD k 0%p=0)).length+(xs.filter λr=>decide (r.getD k 0%p≠0)).length=xs.length:=λxs=>by
   induction xs with
   |nil=>rfl
   |cons a xs ih=>
    simp only[ne_eq] at ih⊢;by_cases hc:a.getD k 0%p=0
    ·simp only[zI,hc,decide_true,xD,ne_eq,not_true_eq_false,decide_false,gV,w6,w5]
     omega
    ·simp only[zI,hc,decide_true,xD,ne_eq,not_false_eq_true,decide_false,gV,w6,w5]
     omega
  have:=h s.1;rw[e] at this;simp only[w5] at this;omega
theorem kH(p:Int)(rows:List (List Int)):∀k,(elimsV p rows k).1.length<=rows.length
 |0=>xN _
 |k+1=>xU (vZ p k _) (kH p rows k)
theorem kI(P:Prm p)(hp:p<=100)(h:Rws L rows):∀k,k<=L->(elimsV p rows k).2<=k/\cntK p L 0 rows=p^(k-(elimsV p rows k).2)*cntK p L k (elimsV p rows k).1
 |0,_=>⟨xN _,by simp[elimsV]⟩
 |k+1,hk=>by
  obtain⟨h1,h2⟩:=kI P hp h k (by omega);have hr:=h.elims ⟨P.pos,hp⟩ k;generalize hs:elimsV p rows k=s at*;have e:elimsV p rows (k+1)=elimV p k s:=by rw[elimsV,hs]
  rw[e];unfold elimV;split
  ·rename_i e0
   refine⟨by omega,?_⟩;rw[h2,vX (by omega) hr.len λr hr'=>by
    have:=List.filter_eq_nil_iff.1 e0 r hr';simpa using this,←Nat.mul_assoc,show k+1-s.2=(k-s.2)+1 by omega,Nat.pow_succ]
  ·rename_i l ls e0
   refine⟨by show s.2+1<=k+1;omega,?_⟩;rw[h2,vY P (by omega) hr.len e0,show k+1-(s.2+1)=k-s.2 by omega]
theorem o0(P:Prm p)(hp:p<=100)(h:Rws L rows):(elimsV p rows L).2<=L/\totW p L (λt=>(okR p rows t).toNat)=p^(L-(elimsV p rows L).2):=by
 obtain⟨h1,h2⟩:=kI P hp h L (xN _);refine⟨h1,?_⟩;have e0:cntK p L 0 rows=totW p L (λt=>(okR p rows t).toNat):=by
  unfold cntK;rw[Nat.sub_zero]
  congr 1
  funext t
  congr 2
  simp
 have e1:cntK p L L (elimsV p rows L).1=1:=by
  unfold cntK;rw[Nat.sub_self,totW];have:okR p ((elimsV p rows L).1.map (·.drop L)) []=true:=by
   rw[fA];intro r hr;have:dotI r []=0:=by cases r<;>rfl
   rw[this,zY]
  rw[this];rfl
 rw[←e0,h2,e1,Nat.mul_one]
noncomputable def addAt(r:List Int)(i:Nat)(w:Int):List Int:=r.set i (r.getD i 0+w)
theorem qK:∀(r t:List Int)(i:Nat),i<r.length->r.length=t.length->dotI (addAt r i w) t=dotI r t+w*t.getD i 0
 |[],_,i,h,_=>by simp at h
 |a::r,[],i,_,h=>by simp at h
 |a::r,x::t,0,_,_=>by
  show(a+w)*x+dotI r t=a*x+dotI r t+w*x;rw[Int.add_mul];omega
 |a::r,x::t,i+1,h,hl=>by
  have ih:=qK (w:=w) r t i (by simpa using h) (by simpa using hl);show a*x+dotI (addAt r i w) t=a*x+dotI r t+w*t.getD i 0;rw[ih];omega
theorem nL:∀(n:Nat)(t:List Int),dotI (List.replicate n 0) t=0
 |0,t=>by cases t<;>rfl
 |n+1,[]=>rfl
 |n+1,x::t=>by
  show 0*x+dotI (List.replicate n 0) t=0;rw[nL n t,Int.zero_mul];rfl
theorem dP:(addAt r i w).length=r.length:=by simp[addAt]
noncomputable def weighV(L:Nat)(ws:List (Nat×Int)):List Int:=ws.foldl (λr y=>addAt r y.1 y.2) (List.replicate L 0)
theorem fW:∀(ws:List (Nat×Int))(r:List Int),r.length=t.length->(∀y∈ws,y.1<t.length)->dotI (ws.foldl (λr y=>addAt r y.1 y.2) r) t=dotI r t+(ws.map λy=>y.2*t.getD y.1 0).sum
 |[],r,_,_=>by simp
 |y::ws,r,h,hy=>by
  rw[List.foldl_cons,fW ws _ (by rw[dP,h]) λz hz=>hy z (xK _ hz),qK r t y.1 (by rw[h];exact hy y xT) h,xM,List.sum_cons];omega
theorem bS{r:List Int}(h:j<r.length):r.getD j 0∈r:=by
 simp[h]
noncomputable def condR(L:Nat)(r:List Int):List (List Int):=[weighV L [((r.getD 1 0).toNat,1),((r.getD 3 0).toNat,-1)],weighV L [((r.getD 1 0).toNat,2),((r.getD 0 0).toNat,-1),((r.getD 2 0).toNat,-1)]]
noncomputable def condV(L:Nat)(Q:List (List Int)):List (List Int):=Q.flatMap (condR L)
theorem nM(L:Nat)(Q:List (List Int)):(condV L Q).length=2*Q.length:=by
 induction Q with
 |nil=>rfl
 |cons r Q ih=>
  show(condR L r++condV L Q).length=_;rw[xL,ih,w5];show 2+_=_;omega
structure In4(L:Nat)(Q:List (List Int)):Prop where
 four:∀r∈Q,r.length=4
 low:∀r∈Q,∀x∈r,0<=x/\x<(L:Int)
theorem a9{L:Nat}{r:List Int}(h:r.length=4)(hb:∀x∈r,0<=x/\x<(L:Int))(hj:j<4):0<=r.getD j 0/\r.getD j 0<(L:Int):=hb _ (bS (by omega))
noncomputable def fitV(p:Int)(t r:List Int):Bool:=t.getD (r.getD 1 0).toNat 0==t.getD (r.getD 3 0).toNat 0&&(2*t.getD (r.getD 1 0).toNat 0-t.getD (r.getD 0 0).toNat 0-t.getD (r.getD 2 0).toNat 0)%p==0
noncomputable def cntV(p L:Nat)(Q:List (List Int)):Nat:=((paintsV p L).map λt=>(Q.all (fitV p t)).toNat).sum
theorem cI(h:∀x∈r,-B<=x/\x<=B)(hB:0<=B)(hw: -2<=w/\w<=2):∀x∈addAt r i w,-(B+2)<=x/\x<=B+2:=λx hx=>by
 rcases List.mem_or_eq_of_mem_set hx with hx|rfl
 ·have:=h x hx;omega
 ·have: -B<=r.getD i 0/\r.getD i 0<=B:=by
   by_cases hc:i<r.length
   ·exact h _ (bS hc)
   ·rw[xY,zC (by omega)]
    show-B<=(0:Int)/\(0:Int)<=B;omega
  omega
theorem nN(L:Nat):∀x∈List.replicate L (0:Int),-0<=x/\x<=0:=λx hx=>by
 rw[(List.mem_replicate.1 hx).2];decide
theorem nO(L:Nat)(Q:List (List Int)):Rws L (condV L Q):=by
 have key:∀r∈condV L Q,r.length=L/\∀x∈r,-100<=x/\x<=100:=λr hr=>by
  obtain⟨q,_,hq⟩:=List.mem_flatMap.1 hr;simp only[condR,yC,yF,or_false] at hq;rcases hq with rfl|rfl
  ·refine⟨by simp[weighV,dP],λx hx=>?_⟩
   have:=cI (cI (nN L) (by decide) (i:=(q.getD 1 0).toNat) (w:=1) (by decide)) (by decide) (i:=(q.getD 3 0).toNat) (w:= -1) (by decide) x hx;omega
  ·refine⟨by simp[weighV,dP],λx hx=>?_⟩
   have:=cI (cI (cI (nN L) (by decide) (i:=(q.getD 1 0).toNat) (w:=2) (by decide)) (by decide) (i:=(q.getD 0 0).toNat) (w:= -1) (by decide)) (by decide) (i:=(q.getD 2 0).toNat) (w:= -1) (by decide) x hx;omega
 exact⟨λr hr=>(key r hr).1,λr hr=>(key r hr).2⟩
theorem fit_ok{p L:Nat}(h4:r.length=4)(hb:∀x∈r,0<=x/\x<(L:Int))(ht:Paint p L t):fitV p t r=okR p (condR L r) t:=by
 have g0:=a9 h4 hb (j:=0) (by omega);have g1:=a9 h4 hb (j:=1) (by omega);have g2:=a9 h4 hb (j:=2) (by omega);have g3:=a9 h4 hb (j:=3) (by omega);have hl:=ht.1;have w1:dotI (weighV L [((r.getD 1 0).toNat,1),((r.getD 3 0).toNat,-1)]) t=_:=fW _ (List.replicate L 0) (by simp[hl]) (by
  intro y hy;simp only[yC,yF,or_false] at hy;rcases hy with rfl|rfl<;>dsimp only<;>omega)
 have w2:dotI (weighV L [((r.getD 1 0).toNat,2),((r.getD 0 0).toNat,-1),((r.getD 2 0).toNat,-1)]) t=_:=fW _ (List.replicate L 0) (by simp[hl]) (by
  intro y hy;simp only[yC,yF,or_false] at hy;rcases hy with rfl|rfl|rfl<;>dsimp only<;>omega)
 rw[nL] at w1 w2;simp only[xM,yX,List.sum_cons,List.sum_nil] at w1 w2;have hx:∀i:Nat,i<L->0<=t.getD i 0/\t.getD i 0<(p:Int):=λi hi=>ht.2 _ (bS (by omega));have b1:=hx (r.getD 1 0).toNat (by omega);have b3:=hx (r.getD 3 0).toNat (by omega);unfold fitV okR condR;simp only[zT,List.all_nil,Bool.and_true];rw[w1,w2];generalize t.getD (r.getD 0 0).toNat 0=y0 at*;generalize t.getD (r.getD 1 0).toNat 0=y1 at*;generalize t.getD (r.getD 2 0).toNat 0=y2 at*;generalize t.getD (r.getD 3 0).toNat 0=y3 at*;have e2:(0:Int)+(2*y1+(-1*y0+(-1*y2+0)))=2*y1-y0-y2:=by omega
 have e1:(0:Int)+(1*y1+(-1*y3+0))=y1-y3:=by omega
 rw[e1,e2]
 congr 1
 rw[zH,zB,decide_eq_true_iff,←Int.emod_eq_emod_iff_emod_sub_eq_zero,zX b1.1 b1.2,zX b3.1 b3.2]
theorem cnt_eq(P:Prm p)(hp:p<=100)(h:In4 L Q):(elimsV p (condV L Q) L).2<=L/\cntV p L Q=p^(L-(elimsV p (condV L Q) L).2):=by
 obtain⟨h1,h2⟩:=o0 P hp (nO L Q);refine⟨h1,?_⟩;rw[←h2,cntV,b6];refine aX L λt ht=>?_
 congr 1
 have:∀Q':List (List Int),(∀r∈Q',r∈Q)->Q'.all (fitV p t)=okR p (condV L Q') t:=λQ'=>by
  induction Q' with
  |nil=>intro _;rfl
  |cons r Q' ih=>
   intro hs;have hr:=hs r xT;rw[zT,ih λx hx=>hs x (xK _ hx),fit_ok (h.four r hr) (h.low r hr) ht];show _=okR p (condR L r++condV L Q') t;unfold okR;rw[List.all_append]
 exact this Q λ_ h=>h
theorem eC:∀{L:Nat}{t:List Int},Paint p L t->t∈paintsV p L
 |0,t,h=>by
  have:t=[]:=List.eq_nil_of_length_eq_zero h.1;subst this;simp[paintsV]
 |L+1,[],h=>by have:=h.1;simp at this
 |L+1,y::s,h=>by
  rw[bM,List.mem_flatMap];have hy:=h.2 y xT;refine⟨y.toNat,List.mem_range.2 (by omega),yZ.2 ⟨s,eC ⟨by simpa using h.1,λx hx=>h.2 x (xK _ hx)⟩,?_⟩⟩;rw[show((y.toNat:Nat):Int)=y by omega]
theorem cU(p:Nat):∀L,(paintsV p L).Nodup
 |0=>by simp[paintsV]
 |L+1=>by
  rw[bM];unfold List.Nodup;rw[List.pairwise_flatMap];refine⟨λx _=>?_,?_⟩
  ·rw[List.pairwise_map]
   exact List.Pairwise.imp (λh e=>h (by simpa using e)) (cU p L)
  ·refine List.Pairwise.imp (λ{a b} h u hu v hv e=>?_) (show(List.range p).Pairwise (· ≠·) from List.nodup_range)
   obtain⟨u',_,rfl⟩:=yZ.1 hu;obtain⟨v',_,rfl⟩:=yZ.1 hv;have:=(List.cons.inj e).1;exact h (by omega)
theorem dQ(q:List Int->Bool):∀xs:List (List Int),(xs.map λt=>(q t).toNat).sum=(xs.filter q).length
 |[]=>rfl
 |a::r=>by
  rw[xM,List.sum_cons,dQ q r,zI];cases q a
  ·simp
  ·simp;omega
theorem lR{R R':List (List Int)}(F:List Int->List Int)(h1:∀t,Paint p L t->R.all (fitV p t)=true->Paint p L' (F t)/\R'.all (fitV p (F t))=true)
  (h2:∀t s,Paint p L t->R.all (fitV p t)=true->Paint p L s->R.all (fitV p s)=true->F t=F s->t=s):cntV p L R<=cntV p L' R':=by
 unfold cntV;rw[dQ,dQ,←xB F];refine fV ?_ λx hx=>?_
 ·unfold List.Nodup
  rw[List.pairwise_map];refine List.Pairwise.imp_of_mem (λ{a b} ha hb h e=>?_) (List.Pairwise.filter _ (cU p L));obtain⟨a1,a2⟩:=yP.1 ha;obtain⟨b1,b2⟩:=yP.1 hb;exact h (h2 a b (aO a1) a2 (aO b1) b2 e)
 ·obtain⟨t,ht,rfl⟩:=yZ.1 hx
  obtain⟨a1,a2⟩:=yP.1 ht;obtain⟨q1,q2⟩:=h1 t (aO a1) a2;exact yP.2 ⟨eC q1,q2⟩
theorem qM{f:Int->Nat}(h4:r.length=4)(h:∀x∈r,t.getD (f x) 0=s.getD x.toNat 0):fitV p t (r.map λx=>((f x:Nat):Int))=fitV p s r:=by
 obtain⟨a,b,c,d,rfl⟩:=row4 h4;have ha:=h a (by simp);have hb:=h b (by simp);have hc:=h c (by simp);have hd:=h d (by simp);show(t.getD (f b:Int).toNat 0==t.getD (f d:Int).toNat 0&&(2*t.getD (f b:Int).toNat 0-t.getD (f a:Int).toNat 0-t.getD (f c:Int).toNat 0)%p==0)=_;simp only[yE];rw[ha,hb,hc,hd];rfl
theorem sQ(h4:r.length=4)(h:∀x∈r,t.getD x.toNat 0=s.getD x.toNat 0):fitV p t r=fitV p s r:=by
 obtain⟨a,b,c,d,rfl⟩:=row4 h4;have ha:=h a (by simp);have hb:=h b (by simp);have hc:=h c (by simp);have hd:=h d (by simp);show(t.getD b.toNat 0==t.getD d.toNat 0&&(2*t.getD b.toNat 0-t.getD a.toNat 0-t.getD c.toNat 0)%p==0)=_;rw[ha,hb,hc,hd];rfl
theorem aL{Q:List (List Int)}(h:∀r∈Q,q r=q' r):Q.all q=Q.all q':=by
 rw[zH,List.all_eq_true,List.all_eq_true];exact⟨λk r hr=>by rw[←h r hr];exact k r hr,λk r hr=>by rw[h r hr];exact k r hr⟩
theorem cJ(h:In4 L Q)(e:∀j,j<L->t.getD j 0=s.getD j 0):Q.all (fitV p t)=Q.all (fitV p s):=
 aL λr hr=>sQ (h.four r hr) λx hx=>e _ (by have:=h.low r hr x hx;omega)
theorem aG(h:Paint p L t)(hj:j<L):0<=t.getD j 0/\t.getD j 0<(p:Int):=h.2 _ (bS (by rw[h.1];exact hj))
theorem fX(h:Paint p L t)(k:Paint p L s)(e:∀j,j<L->t.getD j 0=s.getD j 0):t=s:=by
 refine List.ext_getElem (by rw[h.1,k.1]) λj h1 h2=>?_;have:=e j (by rw[←h.1];exact h1);simpa[h1,h2] using this
theorem two_in4(h4:∀r∈Q,r.length=4)(t:Two Q.flatten N):In4 N Q:=⟨h4,λr hr x hx=>t.rng x (zF.2 ⟨r,hr,hx⟩)⟩
theorem fB{R:List (List Int)}(h4:∀r∈R,r.length=4)(t2:Two R.flatten N):cntV p N (numV R)=cntV p N R:=by
 have hl:=cR t2;have nd:(dd [] R.flatten).Nodup:=aW [] _ zQ;have mem:∀j,j<N->((j:Nat):Int)∈dd [] R.flatten:=λj hj=>(lM t2).mem_iff.2 (yZ.2 ⟨j,List.mem_range.2 hj,rfl⟩);have low:∀x∈dd [] R.flatten,0<=x/\x<(N:Int):=λx hx=>by
  obtain⟨j,hj,rfl⟩:=yZ.1 ((lM t2).mem_iff.1 hx);have:=List.mem_range.1 hj;omega
 have inn:∀r∈R,∀x∈r,x∈dd [] R.flatten:=λr hr x hx=>(aN _ _ x).2 (.inr (zF.2 ⟨r,hr,hx⟩));have e0:∀t s:List Int,(∀x∈dd [] R.flatten,t.getD ((dd [] R.flatten).idxOf x) 0=s.getD x.toNat 0)->(numV R).all (fitV p t)=R.all (fitV p s):=λt s h=>by
  unfold numV;rw[List.all_map];exact aL λr hr=>qM (h4 r hr) λx hx=>h x (inn r hr x hx)
 generalize dd [] R.flatten=ks at*;have f1:∀(t:List Int)(x:Int),x∈ks->((List.range N).map λ(x:Nat)=>t.getD (ks.idxOf (x:Int)) 0).getD x.toNat 0=t.getD (ks.idxOf x) 0:=λt x hx=>by
  have:=low x hx;have hj:x.toNat<N:=by omega
  simp[hj,show((x.toNat:Nat):Int)=x by omega]
 have f2:∀(t:List Int) x,x∈ks->(ks.map λx=>t.getD x.toNat 0).getD (ks.idxOf x) 0=t.getD x.toNat 0:=λt x hx=>by
  have hi:=List.idxOf_lt_length_iff.2 hx;simp[hi]
 refine Nat.le_antisymm (lR (λt=>(List.range N).map λ(x:Nat)=>t.getD (ks.idxOf (x:Int)) 0) (λt ht ok=>⟨⟨by simp,λx hx=>?_⟩,?_⟩) λt s ht _ hs _ e=>?_) (lR (λt=>ks.map λx=>t.getD x.toNat 0) (λt ht ok=>⟨⟨by simp[hl],λx hx=>?_⟩,?_⟩) λt s ht _ hs _ e=>?_)
 ·obtain⟨j,hj,rfl⟩:=yZ.1 hx
  exact aG ht (by have:=List.idxOf_lt_length_iff.2 (mem j (List.mem_range.1 hj));rw[hl] at this;exact this)
 ·rw[←e0 t _ λx hx=>(f1 t x hx).symm];exact ok
 ·refine fX ht hs λj hj=>?_
  have hj':j<ks.length:=by rw[hl];exact hj
  have hm:=xV hj';have a:=f1 t _ hm;have b:=f1 s _ hm;rw[cF nd hj'] at a b;rw[←a,←b,e]
 ·obtain⟨y,hy,rfl⟩:=yZ.1 hx
  exact aG ht (by have:=low y hy;omega)
 ·rw[e0 _ t λx hx=>f2 t x hx];exact ok
 ·refine fX ht hs λj hj=>?_
  have a:=f2 t _ (mem j hj);have b:=f2 s _ (mem j hj);rw[yE] at a b;rw[←a,←b,e]
theorem nP{Q R:List (List Int)}(ext:List Int->List Int)(h1:∀t,Paint p L t->Q.all (fitV p t)=true->Paint p k (ext t)/\R.all (fitV p (t++ext t))=true)
  (h2:∀t,Paint p (L+k) t->R.all (fitV p t)=true->Q.all (fitV p (t.take L))=true/\t.drop L=ext (t.take L)):cntV p L Q=cntV p (L+k) R:=by
 have tk:∀t,Paint p (L+k) t->Paint p L (t.take L):=λt h=>⟨by rw[yS,h.1];omega,λx hx=>h.2 x (List.mem_of_mem_take hx)⟩
 refine Nat.le_antisymm (lR (λt=>t++ext t) (λt ht ok=>?_) λt s ht _ hs _ e=>?_) (lR (λt=>t.take L) (λt ht ok=>⟨tk t ht,(h2 t ht ok).1⟩) λt s ht ok hs ok' e=>?_)
 ·obtain⟨q1,q2⟩:=h1 t ht ok
  refine⟨⟨by rw[xL,ht.1,q1.1],λx hx=>?_⟩,q2⟩;rcases List.mem_append.1 hx with hx|hx
  ·exact ht.2 x hx
  ·exact q1.2 x hx
 ·exact(List.append_inj e (by rw[ht.1,hs.1])).1
 ·rw[←List.take_append_drop L t,←List.take_append_drop L s,(h2 t ht ok).2,(h2 s hs ok').2,e]
theorem fY{t e:List Int}(h:t.length=L)(hj:j<L):(t++e).getD j 0=t.getD j 0:=by
 simp[zG (show j<t.length by omega)]
theorem cK{t e:List Int}(h:t.length=L):(t++e).getD (L+j) 0=e.getD j 0:=by
 subst h;rw[xY,xY,zD (by omega),Nat.add_sub_cancel_left]
theorem bT{t:List Int}(hj:j<L):(t.take L).getD j 0=t.getD j 0:=by
 simp[hj]
theorem drop2{t:List Int}(h:t.length=L+2):t.drop L=[t.getD L 0,t.getD (L+1) 0]:=by
 rw[bI (by omega),bI (by omega),List.drop_of_length_le (by omega)]
theorem drop4{t:List Int}(h:t.length=L+4):t.drop L=[t.getD L 0,t.getD (L+1) 0,t.getD (L+2) 0,t.getD (L+3) 0]:=by
 rw[bI (by omega),bI (by omega),bI (by omega),bI (by omega),List.drop_of_length_le (by omega)]
theorem hJ(h4:∀r∈Q,r.length=4)(hp:pl.1<Q.length/\pl.2<4)(e:s.getD v.toNat 0=s.getD (lineV Q pl).toNat 0):(setP Q pl v).all (fitV p s)=Q.all (fitV p s):=by
 have hq:Q.getD pl.1 []=Q[pl.1]:=by simp[hp.1]
 have hr:=h4 _ (xV hp.1);unfold lineV at e;unfold setP;rw[hq] at e⊢;have ef:fitV p s (Q[pl.1].set pl.2 v)=fitV p s Q[pl.1]:=by
  generalize Q[pl.1]=r at*;obtain⟨a,b,c,d,rfl⟩:=row4 hr;obtain⟨p1,p2⟩:=pl;have:p2=0\/p2=1\/p2=2\/p2=3:=by simp only at hp;omega
  unfold fitV;rcases this with rfl|rfl|rfl|rfl
  ·have e':s.getD v.toNat 0=s.getD a.toNat 0:=e
   show(s.getD b.toNat 0==s.getD d.toNat 0&&(2*s.getD b.toNat 0-s.getD v.toNat 0-s.getD c.toNat 0)%p==0)=_;rw[e'];rfl
  ·have e':s.getD v.toNat 0=s.getD b.toNat 0:=e
   show(s.getD v.toNat 0==s.getD d.toNat 0&&(2*s.getD v.toNat 0-s.getD a.toNat 0-s.getD c.toNat 0)%p==0)=_;rw[e'];rfl
  ·have e':s.getD v.toNat 0=s.getD c.toNat 0:=e
   show(s.getD b.toNat 0==s.getD d.toNat 0&&(2*s.getD b.toNat 0-s.getD a.toNat 0-s.getD v.toNat 0)%p==0)=_;rw[e'];rfl
  ·have e':s.getD v.toNat 0=s.getD d.toNat 0:=e
   show(s.getD b.toNat 0==s.getD v.toNat 0&&(2*s.getD b.toNat 0-s.getD a.toNat 0-s.getD c.toNat 0)%p==0)=_;rw[e'];rfl
 clear e;obtain⟨i,e⟩:=pl;have hi:=hp.1;have h:∀(l:List (List Int))(j:Nat)(hj:j<l.length),fitV p s (l[j].set e v)=fitV p s l[j]->(l.set j (l[j].set e v)).all (fitV p s)=l.all (fitV p s):=λl=>by
  induction l with
  |nil=>intro j hj;simp at hj
  |cons a l ih=>
   intro j hj h
   cases j with
   |zero=>
    show(fitV p s (a.set e v)&&l.all (fitV p s))=_;rw[show fitV p s (a.set e v)=fitV p s a from h];rfl
   |succ j=>
    have hj':j<l.length:=by simpa using hj
    show(fitV p s a&&(l.set j (l[j].set e v)).all (fitV p s))=_;rw[ih j hj' h];rfl
 exact h Q i hi ef
theorem bE{p:Nat}(ha:0<=a/\a<(p:Int))(hb:0<=b/\b<(p:Int))(h:(a-b)%(p:Int)=0):a=b:=by
 have:=Int.emod_eq_emod_iff_emod_sub_eq_zero.2 h;rwa[zX ha.1 ha.2,zX hb.1 hb.2] at this
theorem b9{p s:List Int}{P a b c d:Int}:fitV P s [a,b,c,d]=true↔s.getD b.toNat 0=s.getD d.toNat 0/\(2*s.getD b.toNat 0-s.getD a.toNat 0-s.getD c.toNat 0)%P=0:=by
 show(s.getD b.toNat 0==s.getD d.toNat 0&&(2*s.getD b.toNat 0-s.getD a.toNat 0-s.getD c.toNat 0)%P==0)=true↔_;rw[xG,zB,zB]
noncomputable def curlV(kept new loop:Int)(w:Nat):List Int:=if w=0 then[loop,loop,kept,new] else if w=1 then[kept,loop,loop,new] else if w=2 then[loop,loop,new,kept] else[new,loop,loop,kept]
theorem kJ(a b c:Int)(w:Nat):(curlV a b c w).length=4:=by
 unfold curlV;split
 ·rfl
 split
 ·rfl
 split<;>rfl
theorem nQ{p:Nat}(ha:0<=s.getD a.toNat 0/\s.getD a.toNat 0<(p:Int))(hb:0<=s.getD b.toNat 0/\s.getD b.toNat 0<(p:Int))(hc:0<=s.getD c.toNat 0/\s.getD c.toNat 0<(p:Int)):fitV p s (curlV a b c w)=true↔s.getD b.toNat 0=s.getD a.toNat 0/\s.getD c.toNat 0=s.getD a.toNat 0:=by
 unfold curlV;split
 ·rw[b9 (p:=[])]
  generalize s.getD a.toNat 0=x at*;generalize s.getD b.toNat 0=y at*;generalize s.getD c.toNat 0=z at*;constructor
  ·rintro⟨h1,h2⟩
   have:=bE hc ha (by rw[←h2];congr 1;omega);exact⟨by omega,this⟩
  ·rintro⟨rfl,rfl⟩
   exact⟨rfl,by rw[show 2*z-z-z=0 by omega,zY]⟩
 split
 ·rw[b9 (p:=[])]
  generalize s.getD a.toNat 0=x at*;generalize s.getD b.toNat 0=y at*;generalize s.getD c.toNat 0=z at*;constructor
  ·rintro⟨h1,h2⟩
   have:=bE hc ha (by rw[←h2];congr 1;omega);exact⟨by omega,this⟩
  ·rintro⟨rfl,rfl⟩
   exact⟨rfl,by rw[show 2*z-z-z=0 by omega,zY]⟩
 split
 ·rw[b9 (p:=[])]
  generalize s.getD a.toNat 0=x at*;generalize s.getD b.toNat 0=y at*;generalize s.getD c.toNat 0=z at*;constructor
  ·rintro⟨h1,h2⟩
   have:=bE hc hb (by rw[←h2];congr 1;omega);exact⟨by omega,h1⟩
  ·rintro⟨rfl,rfl⟩
   exact⟨rfl,by rw[show 2*z-z-z=0 by omega,zY]⟩
 ·rw[b9 (p:=[])]
  generalize s.getD a.toNat 0=x at*;generalize s.getD b.toNat 0=y at*;generalize s.getD c.toNat 0=z at*;constructor
  ·rintro⟨h1,h2⟩
   have:=bE hc hb (by rw[←h2];congr 1;omega);exact⟨by omega,h1⟩
  ·rintro⟨rfl,rfl⟩
   exact⟨rfl,by rw[show 2*z-z-z=0 by omega,zY]⟩
theorem hU{A B:List (List Int)}:(A++B).all q=true↔A.all q=true/\B.all q=true:=by
 rw[List.all_append,xG]
theorem qN{r:List Int}:[r].all q=true↔q r=true:=by simp
theorem v5(h:In4 L Q)(hp:pl.1<Q.length/\pl.2<4)(hx:lineV Q pl=x)(hb:0<=x/\x<(L:Int)):
  cntV p L Q=cntV p (L+2) (setP Q pl (L:Nat)++[curlV x (L:Nat) ((L:Nat)+1) w]):=by
 have n0:((L:Nat):Int).toNat=L+0:=by omega
 have n1:(((L:Nat):Int)+1).toNat=L+1:=by omega
 have hj:x.toNat<L:=by omega
 refine nP (λt=>[t.getD x.toNat 0,t.getD x.toNat 0]) (λt ht ok=>?_) λt ht ok=>?_
 ·have b:=aG ht hj
  refine⟨⟨rfl,λy hy=>?_⟩,?_⟩
  ·simp only[yC,yF,or_false,or_self] at hy
   subst hy;exact b
  have s0:=cK (e:=[t.getD x.toNat 0,t.getD x.toNat 0]) (j:=0) ht.1;have s1:=cK (e:=[t.getD x.toNat 0,t.getD x.toNat 0]) (j:=1) ht.1;have sx:=fY (e:=[t.getD x.toNat 0,t.getD x.toNat 0]) ht.1 hj;have sa:∀j,j<L->(t++[t.getD x.toNat 0,t.getD x.toNat 0]).getD j 0=t.getD j 0:=λj hj=>fY ht.1 hj;rw[←n0] at s0;rw[←n1] at s1;change _=t.getD x.toNat 0 at s0;change _=t.getD x.toNat 0 at s1;generalize t++[t.getD x.toNat 0,t.getD x.toNat 0]=s at*;rw[hU,qN,hJ h.four hp (by rw[hx,s0,sx]),nQ (by rw[sx];exact b) (by rw[s0];exact b) (by rw[s1];exact b),cJ h sa];exact⟨ok,by rw[s0,sx],by rw[s1,sx]⟩
 ·rw[hU,qN] at ok
  obtain⟨o1,o2⟩:=ok;rw[nQ (aG ht (by omega)) (aG ht (by omega)) (aG ht (by omega))] at o2;rw[hJ h.four hp (by rw[hx];exact o2.1),cJ (t:=t) (s:=t.take L) h λj hj=>(bT hj).symm] at o1;refine⟨o1,?_⟩;rw[drop2 ht.1,bT hj,←n1,o2.2];have:=o2.1;rw[n0,Nat.add_zero] at this;rw[this]
noncomputable def ovl(s0 s1 l x f:Int)(w:Nat):List (List Int):=if w<2 then[[l,f,f+1,s0],[f+1,f,x,s1]] else[[l,s0,f+1,f],[f+1,s1,x,f]]
noncomputable def sd0(u N:Int)(w:Nat):Int:=if w%2=0 then u else N
noncomputable def sd1(u N:Int)(w:Nat):Int:=if w%2=0 then N else u
theorem v7(s0 s1 l x f:Int)(w:Nat):∀r∈ovl s0 s1 l x f w,r.length=4:=by
 intro r hr;unfold ovl at hr;split at hr<;>simp at hr<;>rcases hr with rfl|rfl<;>rfl
theorem qO(s0 s1 l x f:Int)(w:Nat):(ovl s0 s1 l x f w).length=2:=by
 unfold ovl;split<;>rfl
theorem qP{p:Nat}:(ovl (sd0 u N w) (sd1 u N w) l x f w).all (fitV p s)=true↔s.getD f.toNat 0=s.getD u.toNat 0/\s.getD N.toNat 0=s.getD u.toNat 0/\(2*s.getD u.toNat 0-s.getD l.toNat 0-s.getD (f+1).toNat 0)%(p:Int)=0/\(2*s.getD u.toNat 0-s.getD (f+1).toNat 0-s.getD x.toNat 0)%(p:Int)=0:=by
 have two:∀a b:List Int,[a,b].all (fitV p s)=true↔fitV p s a=true/\fitV p s b=true:=λa b=>by simp
 unfold ovl sd0 sd1;by_cases hw:w<2
 ·rw[xE hw,two,b9 (p:=[]),b9 (p:=[])]
  by_cases ho:w%2=0
  ·rw[xE ho,xE ho]
   generalize s.getD u.toNat 0=a;generalize s.getD N.toNat 0=b;generalize s.getD f.toNat 0=c;constructor
   ·rintro⟨⟨rfl,h2⟩,h3,h4⟩;exact⟨rfl,h3.symm,h2,h4⟩
   ·rintro⟨rfl,rfl,h3,h4⟩;exact⟨⟨rfl,h3⟩,rfl,h4⟩
  ·rw[xC ho,xC ho]
   generalize s.getD u.toNat 0=a;generalize s.getD N.toNat 0=b;generalize s.getD f.toNat 0=c;constructor
   ·rintro⟨⟨rfl,h2⟩,rfl,h4⟩;exact⟨rfl,rfl,h2,h4⟩
   ·rintro⟨rfl,rfl,h3,h4⟩;exact⟨⟨rfl,h3⟩,rfl,h4⟩
 ·rw[xC hw,two,b9 (p:=[]),b9 (p:=[])]
  by_cases ho:w%2=0
  ·rw[xE ho,xE ho]
   generalize s.getD u.toNat 0=a;generalize s.getD N.toNat 0=b;generalize s.getD f.toNat 0=c;constructor
   ·rintro⟨⟨rfl,h2⟩,rfl,h4⟩;exact⟨rfl,rfl,h2,h4⟩
   ·rintro⟨rfl,rfl,h3,h4⟩;exact⟨⟨rfl,h3⟩,rfl,h4⟩
  ·rw[xC ho,xC ho]
   generalize s.getD u.toNat 0=a;generalize s.getD N.toNat 0=b;generalize s.getD f.toNat 0=c;constructor
   ·rintro⟨⟨rfl,h2⟩,rfl,h4⟩;exact⟨rfl,rfl,h2,h4⟩
   ·rintro⟨rfl,rfl,h3,h4⟩;exact⟨⟨rfl,h3⟩,rfl,h4⟩
theorem v8(P:0<p)(h:In4 L Q)(hu:pu.1<Q.length/\pu.2<4)(hl:pl.1<Q.length/\pl.2<4)(hn:pl≠pu)(eu:lineV Q pu=u)(el:lineV Q pl=l)(bu:0<=u/\u<(L:Int))(bl:0<=l/\l<(L:Int)):
  cntV p L Q=cntV p (L+4) (setP (setP Q pu (L:Nat)) pl ((L:Nat)+1)++ovl (sd0 u (L:Nat) w) (sd1 u (L:Nat) w) l ((L:Nat)+1) ((L:Nat)+2) w):=by
 have n0:((L:Nat):Int).toNat=L+0:=by omega
 have n1:(((L:Nat):Int)+1).toNat=L+1:=by omega
 have n2:(((L:Nat):Int)+2).toNat=L+2:=by omega
 have n3:(((L:Nat):Int)+2+1).toNat=L+3:=by omega
 have ju:u.toNat<L:=by omega
 have jl:l.toNat<L:=by omega
 have el':lineV (setP Q pu (L:Nat)) pl=l:=by
  rw[←el];unfold lineV setP;obtain⟨a,b⟩:=pu;obtain⟨c,d⟩:=pl;dsimp only at*;by_cases hc:a=c
  ·subst hc
   have hd:b≠d:=λe=>hn (by rw[e]);simp only[xY,List.getElem?_set,hu.1,xD,Option.getD_some];rw[xC hd]
  ·simp only[xY,List.getElem?_set,hc,w6]
 have h':=aC (p:=pu) (v:=(L:Nat)) h.four;have hl':pl.1<(setP Q pu (L:Nat)).length/\pl.2<4:=by rw[aF];exact hl
 have sat:∀s:List Int,s.getD ((L:Nat):Int).toNat 0=s.getD u.toNat 0->s.getD (((L:Nat):Int)+1).toNat 0=s.getD l.toNat 0->(setP (setP Q pu (L:Nat)) pl ((L:Nat)+1)).all (fitV p s)=Q.all (fitV p s):=λs e1 e2=>by
  rw[hJ h' hl' (by rw[el',e2]),hJ h.four hu (by rw[eu,e1])]
 refine nP (λt=>[t.getD u.toNat 0,t.getD l.toNat 0,t.getD u.toNat 0,(2*t.getD u.toNat 0-t.getD l.toNat 0)%(p:Int)]) (λt ht ok=>?_) λt ht ok=>?_
 ·have b1:=aG ht ju
  have b2:=aG ht jl;have b3:=Int.emod_nonneg (2*t.getD u.toNat 0-t.getD l.toNat 0) (show(p:Int)≠0 by omega);have b4:=zR (2*t.getD u.toNat 0-t.getD l.toNat 0) (show(0:Int)<p by omega);refine⟨⟨rfl,λy hy=>?_⟩,?_⟩
  ·simp only[yC,yF,or_false] at hy
   rcases hy with rfl|rfl|rfl|rfl
   ·exact b1
   ·exact b2
   ·exact b1
   ·exact⟨b3,b4⟩
  have sa:∀(e:List Int) j,j<L->(t++e).getD j 0=t.getD j 0:=λe j hj=>fY ht.1 hj;generalize ee:[t.getD u.toNat 0,t.getD l.toNat 0,t.getD u.toNat 0,(2*t.getD u.toNat 0-t.getD l.toNat 0)%(p:Int)]=e;have su:=sa e _ ju;have sl:=sa e _ jl;have s0:(t++e).getD ((L:Nat):Int).toNat 0=t.getD u.toNat 0:=by rw[n0,cK ht.1,←ee];rfl
  have s1:(t++e).getD (((L:Nat):Int)+1).toNat 0=t.getD l.toNat 0:=by rw[n1,cK ht.1,←ee];rfl
  have s2:(t++e).getD (((L:Nat):Int)+2).toNat 0=t.getD u.toNat 0:=by rw[n2,cK ht.1,←ee];rfl
  have s3:(t++e).getD (((L:Nat):Int)+2+1).toNat 0=(2*t.getD u.toNat 0-t.getD l.toNat 0)%(p:Int):=by rw[n3,cK ht.1,←ee];rfl
  rw[hU,qP,sat _ (by rw[s0,su]) (by rw[s1,sl]),cJ h (sa e),s0,s1,s2,s3,su,sl];refine⟨ok,rfl,rfl,?_,?_⟩
  ·rw[Int.sub_emod,Int.emod_emod,Int.sub_self,zY]
  ·generalize t.getD u.toNat 0=a
   generalize t.getD l.toNat 0=b;rw[show 2*a-(2*a-b)%(p:Int)-b=(2*a-b)-(2*a-b)%(p:Int) by omega,Int.sub_emod,Int.emod_emod,Int.sub_self,zY]
 ·rw[hU,qP] at ok
  obtain⟨o1,o2,o3,o4,o5⟩:=ok;have b1:0<=t.getD u.toNat 0/\_:=aG ht (show u.toNat<L+4 by omega);have b2:0<=t.getD l.toNat 0/\_:=aG ht (show l.toNat<L+4 by omega);have b3:0<=t.getD (((L:Nat):Int)+2+1).toNat 0/\_:=aG ht (show(((L:Nat):Int)+2+1).toNat<L+4 by omega);have b4:0<=t.getD (((L:Nat):Int)+1).toNat 0/\_:=aG ht (show(((L:Nat):Int)+1).toNat<L+4 by omega);have q1:t.getD (((L:Nat):Int)+1).toNat 0=t.getD l.toNat 0:=by
   refine bE b4 b2 ?_;have:t.getD (((L:Nat):Int)+1).toNat 0-t.getD l.toNat 0=(2*t.getD u.toNat 0-t.getD l.toNat 0-t.getD (((L:Nat):Int)+2+1).toNat 0)-(2*t.getD u.toNat 0-t.getD (((L:Nat):Int)+2+1).toNat 0-t.getD (((L:Nat):Int)+1).toNat 0):=by omega
   rw[this,Int.sub_emod,o4,o5];rfl
  have q2:t.getD (((L:Nat):Int)+2+1).toNat 0=(2*t.getD u.toNat 0-t.getD l.toNat 0)%(p:Int):=by
   rw[Int.emod_eq_emod_iff_emod_sub_eq_zero.2 o4,zX b3.1 b3.2]
  rw[sat t o3 q1,cJ (t:=t) (s:=t.take L) h λj hj=>(bT hj).symm] at o1;refine⟨o1,?_⟩;rw[n0,Nat.add_zero] at o3;rw[n1] at q1;rw[n2] at o2;rw[n3] at q2;rw[drop4 ht.1,bT ju,bT jl,o3,q1,o2,q2]
theorem kK(g2:List Int->Nat):∀(L1:Nat)(g1:List Int->Nat),totW p (L1+L2) (λt=>g1 (t.take L1)*g2 (t.drop L1))=totW p L1 g1*totW p L2 g2
 |0,g1=>by
  rw[xQ];show totW p L2 (λt=>g1 []*g2 t)=g1 []*totW p L2 g2;rw[e9]
 |L1+1,g1=>by
  rw[show L1+1+L2=(L1+L2)+1 by omega];show totW p (L1+L2) (λt=>sumF p λx=>g1 ((x:Int)::t.take L1)*g2 (t.drop L1))=totW p L1 (λt=>sumF p λx=>g1 ((x:Int)::t))*totW p L2 g2;rw[←kK g2 L1];refine aX _ λt _=>?_;rw[Nat.mul_comm (sumF p _),←e8];exact bB p λx _=>Nat.mul_comm _ _
noncomputable def raised(by':Int)(r:List Int):List Int:=r.map (· +by')
theorem o6(h:r.length=4):(raised by' r).length=4:=by simpa[raised] using h
theorem o7(h:In4 L1 Q)(k:In4 L2 P):cntV p (L1+L2) (Q++P.map (raised (L1:Nat)))=cntV p L1 Q*cntV p L2 P:=by
 unfold cntV;rw[b6,b6,b6,←kK];refine aX _ λt ht=>?_;rw[show∀a b:Bool,a.toNat*b.toNat=(a&&b).toNat from by decide,List.all_append,List.all_map]
 congr 2
 ·exact cJ h λj hj=>(bT hj).symm
 ·refine aL λr hr=>?_
  have:=qM (p:=p) (f:=λx=>L1+x.toNat) (t:=t) (s:=t.drop L1) (k.four r hr) λx hx=>by simp[xY,List.getElem?_drop]
  rw[←this];show fitV p t (r.map (· +((L1:Nat):Int)))=_
  congr 1
  refine List.map_congr_left λx hx=>?_;have:=k.low r hr x hx;omega
theorem v9{Q:List (List Int)}(h4:∀r∈Q,r.length=4):Q.flatten.length=4*Q.length:=by
 induction Q with
 |nil=>rfl
 |cons r Q ih=>
  have:=ih λx hx=>h4 x (xK _ hx);have:=h4 r xT;rw[xZ,xL,w5];omega
theorem dI(he:e<4):∀{Q:List (List Int)}{k:Nat},(∀r∈Q,r.length=4)->k<Q.length->(setP Q (k,e) v).flatten=Q.flatten.set (4*k+e) v/\Q.flatten[4*k+e]?=some (lineV Q (k,e))
 |[],k,_,hk=>by simp at hk
 |r::Q,0,h4,_=>by
  have hr:=h4 r xT;refine⟨?_,?_⟩
  ·show r.set e v++Q.flatten=(r++Q.flatten).set (4*0+e) v
   rw[List.set_append,xE (by omega),show 4*0+e=e by omega]
  ·show(r++Q.flatten)[4*0+e]?=some (r.getD e 0)
   rw[zG (by omega),show 4*0+e=e by omega];simp[show e<r.length by omega]
 |r::Q,k+1,h4,hk=>by
  have hr:=h4 r xT;obtain⟨i1,i2⟩:=dI he (Q:=Q) (k:=k) (λx hx=>h4 x (xK _ hx)) (by simpa using hk);refine⟨?_,?_⟩
  ·show r++(setP Q (k,e) v).flatten=(r++Q.flatten).set (4*(k+1)+e) v
   rw[List.set_append,xC (by omega),i1,show 4*(k+1)+e-r.length=4*k+e by omega]
  ·show(r++Q.flatten)[4*(k+1)+e]?=some (lineV Q (k,e))
   rw[zD (by omega),show 4*(k+1)+e-r.length=4*k+e by omega,i2]
theorem i8(t:Two W N)(h:(N:Int)<=v):W.count v=0:=List.count_eq_zero.2 λhm=>by have:=t.rng v hm;omega
theorem fC:∀{o:List Int}{i:Nat}{x z:Int},o[i]?=some z->(z::o.set i x).Perm (x::o)
 |a::o,0,x,z,h=>by cases h;exact .swap _ _ _
 |a::o,i+1,x,z,h=>(List.Perm.swap _ _ _).trans (((fC (o:=o) h).cons a).trans (.swap _ _ _))
theorem i9(t:Two W N)(h:W'.Perm ([(N:Int),N,N+1,N+1]++W)):Two W' (N+2):=by
 refine⟨λv hv=>?_,λv hv=>?_⟩
 ·rcases List.mem_append.1 (h.mem_iff.1 hv) with c|c
  ·simp only[yC,yF,or_false] at c
   omega
  ·have:=t.rng v c;omega
 ·rw[h.count_eq,y4]
  rcases(by omega:v<N\/v=N\/v=N+1) with c|rfl|rfl
  ·rw[t.cnt v c,List.count_eq_zero.2 (by simp only[yC,yF,or_false];omega)]
  ·rw[i8 t (by omega),List.count_cons_self,List.count_cons_self,List.count_eq_zero.2 (by simp only[yC,yF,or_false];omega)]
  ·have e:((N:Nat):Int)≠((N+1:Nat):Int):=by omega
   rw[i8 t (by omega),List.count_cons_of_ne e,List.count_cons_of_ne e,Int.natCast_add];show List.count ((N:Int)+1) [(N:Int)+1,(N:Int)+1]+0=2;rw[List.count_cons_self,List.count_cons_self];rfl
theorem wA(h4:∀r∈Q,r.length=4)(t:Two Q.flatten N)(hp:pl.1<Q.length/\pl.2<4)(hx:lineV Q pl=x):Two (setP Q pl (N:Nat)++[curlV x (N:Nat) ((N:Nat)+1) w]).flatten (N+2):=by
 obtain⟨a,b⟩:=pl;obtain⟨s1,s2⟩:=dI (v:=(N:Nat)) hp.2 h4 hp.1;rw[hx] at s2;have c:(curlV x (N:Nat) ((N:Nat)+1) w).Perm [x,N,N+1,N+1]:=by
  unfold curlV;generalize ((N:Nat):Int)=n;generalize n+1=q;split
  ·exact List.perm_append_comm (l₁:=[q,q])
  split
  ·exact(List.perm_append_comm (l₁:=[q,q]) (l₂:=[n])).cons x
  split
  ·exact(List.perm_append_comm (l₁:=[q,q]) (l₂:=[n,x])).trans (.swap _ _ _)
  ·exact(List.perm_append_comm (l₁:=[n,q,q]) (l₂:=[x]))
 refine i9 t ?_;rw[y9,xZ,List.flatten_nil,yD,s1];exact(c.append_left _).trans ((List.perm_middle.trans ((fC s2).append_right _)).trans List.perm_append_comm|>.trans List.perm_middle)
theorem wB(h4:∀r∈Q,r.length=4)(t:Two Q.flatten N)(hu:pu.1<Q.length/\pu.2<4)(hl:pl.1<Q.length/\pl.2<4)(hn:pl≠pu)(eu:lineV Q pu=u)(el:lineV Q pl=l):Two (setP (setP Q pu (N:Nat)) pl ((N:Nat)+1)++ovl (sd0 u (N:Nat) w) (sd1 u (N:Nat) w) l ((N:Nat)+1) ((N:Nat)+2) w).flatten (N+4):=by
 obtain⟨a,b⟩:=pu;obtain⟨c,d⟩:=pl;obtain⟨s1,s2⟩:=dI (v:=(N:Nat)) hu.2 h4 hu.1;obtain⟨q1,_⟩:=dI (v:=((N:Nat):Int)+1) hl.2 (aC (p:=(a,b)) (v:=(N:Nat)) h4) (k:=c) (by rw[aF];exact hl.1);obtain⟨_,q2⟩:=dI (v:=(N:Nat)) hl.2 h4 hl.1;rw[eu] at s2;rw[el] at q2;have hne:4*a+b≠4*c+d:=λe=>hn (by
  have h1:b<4:=hu.2;have h2:d<4:=hl.2;have:a=c/\b=d:=by omega
  rw[this.1,this.2])
 have o:(ovl (sd0 u (N:Nat) w) (sd1 u (N:Nat) w) l ((N:Nat)+1) ((N:Nat)+2) w).flatten.Perm (l::u::[(N:Int),N+1,N+2,N+2,N+2+1,N+2+1]):=by
  unfold ovl sd0 sd1;generalize ((N:Nat):Int)=n;generalize n+2+1=r;generalize n+2=q;generalize n+1=p;refine List.perm_iff_count.2 λz=>?_;split<;>split<;>· simp only[xZ,List.flatten_nil,yD,List.cons_append,List.nil_append,xS];generalize (if(l==z)=true then 1 else 0)=a1;generalize (if(u==z)=true then 1 else 0)=a2;generalize (if(n==z)=true then 1 else 0)=a3;generalize (if(p==z)=true then 1 else 0)=a4;generalize (if(q==z)=true then 1 else 0)=a5;generalize (if(r==z)=true then 1 else 0)=a6;omega
 refine i9 (N:=N+2) (W:=[(N:Int),N,N+1,N+1]++Q.flatten) (i9 t (.refl _)) ?_;rw[y9,q1,s1];have g:=fC (x:=((N:Nat):Int)+1) (show(Q.flatten.set (4*a+b) (N:Nat))[4*c+d]?=some l by rw[xR hne];exact q2);have f:=fC (x:=((N:Nat):Int)) s2;generalize Q.flatten=W at*;generalize (W.set (4*a+b) (N:Nat))=V at*;generalize V.set (4*c+d) ((N:Nat)+1)=U at*;refine(o.append_left U).trans (List.perm_middle.trans ((g.append_right _).trans ((List.perm_middle.cons _).trans (((f.append_right _).cons _).trans ?_))));rw[show((N+2:Nat):Int)=N+2 by omega];generalize ((N:Nat):Int)=n;generalize n+2+1=r;generalize n+2=q;generalize n+1=p;refine List.perm_iff_count.2 λz=>?_;simp only[List.cons_append,List.nil_append,y4,xS,yL];generalize (if(n==z)=true then 1 else 0)=a3;generalize (if(p==z)=true then 1 else 0)=a4;generalize (if(q==z)=true then 1 else 0)=a5;generalize (if(r==z)=true then 1 else 0)=a6;omega
theorem o8{Q P:List (List Int)}(t:Two Q.flatten N)(k:Two P.flatten M):Two (Q++P.map (raised (N:Nat))).flatten (N+M):=by
 have e:(Q++P.map (raised (N:Nat))).flatten=Q.flatten++P.flatten.map (· +(N:Int)):=by
  rw[y9,List.map_flatten];rfl
 rw[e];refine⟨λv hv=>?_,λv hv=>?_⟩
 ·rcases List.mem_append.1 hv with h|h
  ·have:=t.rng v h;omega
  ·obtain⟨y,hy,rfl⟩:=yZ.1 h
   have:=k.rng y hy;omega
 ·rw[y4]
  by_cases c:v<N
  ·rw[t.cnt v c,List.count_eq_zero.2]
   intro h;obtain⟨y,hy,hv⟩:=yZ.1 h;have:=k.rng y hy;omega
  ·rw[i8 t (by omega)]
   have:=k.cnt (v-N) (by omega);rw[←this,xQ,List.count,List.count,List.countP_map];refine List.countP_congr λx _=>?_;simp only[Function.comp_apply,zB];omega
theorem jA{R:List (List Int)}(hl:R.length=m)(h4:∀r∈R,r.length=4)(t:Two R.flatten (2*m)):Sheet (numV R) m:=⟨by rw[iZ,hl],fT h4,qH t⟩
theorem Sheet.in4(s:Sheet Q m):In4 (2*m) Q:=two_in4 s.four s.two
theorem aP(h:placesV Q x≠[]):lineV Q (secondV Q x)=x:=by
 have:secondV Q x∈placesV Q x:=by
  rw[secondV,lastP]
  cases e:placesV Q x with
  |nil=>exact absurd e h
  |cons a l=>
   rw[List.getLastD_cons]
   cases l with
   |nil=>simp
   |cons b l=>rw[List.getLastD_cons,List.getLastD_eq_getLast?];cases e:l.getLast? with
    |none=>simp
    |some y=>simp;exact .inr (.inr (List.mem_of_getLast? e))
 exact(i7 this).2.2
noncomputable def laidV(Q:List (List Int))(u l:Int)(w:Nat):List (List Int):=setP (setP Q (secondV Q u) (2*Q.length:Nat)) (secondV Q l) ((2*Q.length:Nat)+1)++ovl (sd0 u (2*Q.length:Nat) w) (sd1 u (2*Q.length:Nat) w) l ((2*Q.length:Nat)+1) ((2*Q.length:Nat)+2) w
theorem fZ(h4:∀r∈Q,r.length=4):∀r∈laidV Q u l w,r.length=4:=by
 intro r hr;rcases List.mem_append.mp hr with h|h
 ·exact aC (aC h4) r h
 ·exact v7 _ _ _ _ _ _ r h
theorem nR(Q:List (List Int))(u l:Int)(w:Nat):(laidV Q u l w).length=Q.length+2:=by
 rw[laidV,xL,aF,aF,qO]
noncomputable def addC(Q:List (List Int))(x:Int)(w:Nat):List (List Int):=setP Q (secondV Q x) (2*Q.length:Nat)++[curlV x (2*Q.length:Nat) ((2*Q.length:Nat)+1) w]
theorem kL(h4:∀r∈Q,r.length=4):∀r∈addC Q x w,r.length=4:=by
 intro r hr;rcases List.mem_append.mp hr with h|h
 ·exact aC h4 r h
 ·simp only[yC,yF,or_false] at h
  subst h;exact kJ _ _ _ _
theorem wC(Q:List (List Int))(x:Int)(w:Nat):(addC Q x w).length=Q.length+1:=by
 rw[addC,xL,aF];rfl
theorem Sheet.addC(s:Sheet Q m){x:Int}(hx:0<=x/\x<(2*m:Nat)):Sheet (numV (addC Q x w)) (m+1)/\∀p,cntV p (2*(m+1)) (numV (addC Q x w))=cntV p (2*m) Q:=by
 have h:=s.in_of hx;have t:Two (Py.addC Q x w).flatten (2*(m+1)):=by
  unfold Py.addC;rw[s.len];exact wA s.four s.two (aY h) (aP h)
 refine⟨jA (by rw[wC,s.len]) (kL s.four) t,λp=>?_⟩;rw[fB (kL s.four) t,v5 (p:=p) (w:=w) s.in4 (aY h) (aP h) hx];unfold Py.addC;rw[s.len];rfl
theorem Sheet.laid(s:Sheet Q m){u l:Int}(hu:0<=u/\u<(2*m:Nat))(hl:0<=l/\l<(2*m:Nat))(hn:l≠u):Sheet (numV (laidV Q u l w)) (m+2)/\∀p,0<p->cntV p (2*(m+2)) (numV (laidV Q u l w))=cntV p (2*m) Q:=by
 have h:=s.in_of hu;have k:=s.in_of hl;have ne:secondV Q l≠secondV Q u:=λe=>hn (by rw[←aP h,←aP k,e]);have t:Two (laidV Q u l w).flatten (2*(m+2)):=by
  unfold laidV;rw[s.len];exact wB s.four s.two (aY h) (aY k) ne (aP h) (aP k)
 refine⟨jA (by rw[nR,s.len]) (fZ s.four) t,λp hp=>?_⟩;rw[fB (fZ s.four) t,v8 (p:=p) (w:=w) hp s.in4 (aY h) (aY k) ne (aP h) (aP k) hu hl];unfold laidV;rw[s.len];rfl
theorem Sheet.beside(s:Sheet Q m)(r:Sheet P n):Sheet (numV (Q++P.map (raised (2*m:Nat)))) (m+n)/\∀p,cntV p (2*(m+n)) (numV (Q++P.map (raised (2*m:Nat))))=cntV p (2*m) Q*cntV p (2*n) P:=by
 have t:Two (Q++P.map (raised (2*m:Nat))).flatten (2*(m+n)):=by
  rw[show 2*(m+n)=2*m+2*n by omega];exact o8 s.two r.two
 have h4:∀x∈Q++P.map (raised (2*m:Nat)),x.length=4:=λx hx=>by
  rcases List.mem_append.mp hx with h|h
  ·exact s.four x h
  ·obtain⟨q,hq,rfl⟩:=List.mem_map.mp h;exact o6 (r.four q hq)
 refine⟨jA (by simp[s.len,r.len]) h4 t,λp=>?_⟩;rw[fB h4 t,show 2*(m+n)=2*m+2*n by omega,o7 s.in4 r.in4]
section
variable{Φ:Nat->List D->R D}{G:List D}{n:Nat}{s:Sm}{ss:List Sm}{δ δ':Sto}{v:R D}
theorem nS(h:xec Φ G n s δ=.nx δ')(k:(xecs Φ G n ss δ').val=v):(xecs Φ G n (s::ss) δ).val=v:=by rw[aA h];exact k
theorem jB(h:xec Φ G n s δ=.nx δ')(k:xecs Φ G n ss δ'=o):xecs Φ G n (s::ss) δ=o:=by rw[aA h];exact k
theorem lf1(h:xecs Φ G n body (δ.set i (some (false,d)))=o):loopF Φ G n [i] body d δ=o:=h
theorem wE(ha:ev Φ G true a δ=.ok x)(hb:ev Φ G true b δ=.ok y)(h:op2 o x y=v):ev Φ G m (.op2 o a b) δ=v:=by rw[ev,ha,bX,hb,bX,h]
theorem o_addK(a b:List D)(h:a.length+b.length<=5000):op2 .add (.lst a) (.lst b)=.ok (.lst (a++b)):=fP a b (xU h (by decide))
theorem wF(h:(evs Φ G false its (frz (leakss false its) δ)).bind (itemsD .rng)=.ok (rangeD 0 m))(Q:Nat->Sto->Prop)(q0:Q 0 (frz (leakss false its) δ))
  (st:∀i,i<m->∀δ,Q i δ->∃δ',loopF Φ G n tg body (.int (i:Nat)) δ=.nx δ'/\Q (i+1) δ') (k:∀δ',Q m δ'->(xecs Φ G n ss δ').val=v):(xecs Φ G n (.loop .rng its tg body::ss) δ).val=v:=by
 obtain⟨δ',e,q⟩:=cE h Q q0 st;exact nS e (k δ' q)
theorem hV(h:evT Φ G c (frz (leaksT c) δ)=.ok t)(k:xecs Φ G n (if t then a else b) (frz (leaksT c) δ)=o):xec Φ G n (.ite c a b) δ=o:=by
 rw[xec,h,of_ok,←k];cases t<;>rfl
end
noncomputable def col(S t:List Int)(n:Int):Int:=t.getD (S.idxOf n) 0
noncomputable def Vl(p:Nat)(S:List Int)(c:Int->Int):Prop:=∀n∈S,0<=c n/\c n<(p:Int)
noncomputable def cntS(p:Nat)(S:List Int)(q:(Int->Int)->Bool):Nat:=((paintsV p S.length).filter λt=>q (col S t)).length
noncomputable def Loc(S:List Int)(q:(Int->Int)->Bool):Prop:=∀c d,(∀n∈S,c n=d n)->q c=q d
theorem col_map(h:n∈S):col S (S.map d) n=d n:=by
 have hl:=List.idxOf_lt_length_iff.mpr h;unfold col;rw[xY,zN,yY hl,Option.map_some,Option.getD_some,List.getElem_idxOf]
theorem o9(h:Paint p S.length t):Vl p S (col S t):=λn hn=>by
 have hl:=List.idxOf_lt_length_iff.mpr hn;exact aG h hl
theorem sR(h:Vl p S d):Paint p S.length (S.map d):=⟨by simp,λx hx=>by
 obtain⟨n,hn,rfl⟩:=List.mem_map.mp hx;exact h n hn⟩
theorem col_ext(nd:S.Nodup)(h:Paint p S.length t)(k:Paint p S.length s)(e:∀n∈S,col S t n=col S s n):t=s:=by
 refine fX h k λj hj=>?_;have:=e S[j] (xV hj);unfold col at this;rwa[cF nd hj] at this
theorem qR(nd:S.Nodup)(l':Loc S' q')(F G:(Int->Int)->Int->Int)(hF:∀c,Vl p S c->q c=true->Vl p S' (F c)/\q' (F c)=true/\∀n∈S,G (F c) n=c n)
  (lG:∀c d,(∀n∈S',c n=d n)->∀n∈S,G c n=G d n):cntS p S q<=cntS p S' q':=by
 unfold cntS;rw[←xB λt=>S'.map (F (col S t))];refine fV ?_ λx hx=>?_
 ·unfold List.Nodup
  rw[List.pairwise_map];refine List.Pairwise.imp_of_mem (λ{a b} ha hb h e=>?_) (List.Pairwise.filter _ (cU p S.length));obtain⟨a1,a2⟩:=yP.1 ha;obtain⟨b1,b2⟩:=yP.1 hb;refine h (col_ext nd (aO a1) (aO b1) λn hn=>?_);have ea:=(hF _ (o9 (aO a1)) a2).2.2 n hn;have eb:=(hF _ (o9 (aO b1)) b2).2.2 n hn;rw[←ea,←eb];exact lG _ _ (λm hm=>List.map_inj_left.mp e m hm) n hn
 ·obtain⟨t,ht,rfl⟩:=yZ.1 hx
  obtain⟨a1,a2⟩:=yP.1 ht;obtain⟨v,k,_⟩:=hF _ (o9 (aO a1)) a2;refine yP.2 ⟨eC (sR v),?_⟩;rw[l' _ (F (col S t)) λn hn=>col_map hn];exact k
theorem hZ(nd:S.Nodup)(nd':S'.Nodup)(l:Loc S q)(l':Loc S' q')(F G:(Int->Int)->Int->Int)(hF:∀c,Vl p S c->q c=true->Vl p S' (F c)/\q' (F c)=true/\∀n∈S,G (F c) n=c n)
  (hG:∀c,Vl p S' c->q' c=true->Vl p S (G c)/\q (G c)=true/\∀n∈S',F (G c) n=c n) (lF:∀c d,(∀n∈S,c n=d n)->∀n∈S',F c n=F d n) (lG:∀c d,(∀n∈S',c n=d n)->∀n∈S,G c n=G d n):cntS p S q=cntS p S' q':=
 Nat.le_antisymm (qR nd l' F G hF lG) (qR nd' l G F hG lF)
theorem sS(ha:a∉S)(l:Loc S q):cntS p (a::S) q=p*cntS p S q:=by
 have e:∀(x:Int)(t:List Int),q (col (a::S) (x::t))=q (col S t):=λx t=>l _ _ λn hn=>by
  unfold col;rw[List.idxOf_cons,show(a==n)=false by simpa using λh:a=n=>ha (h▸hn)];rfl
 unfold cntS;rw[w5,bM];have:∀xs:List Nat,((xs.flatMap λ(x:Nat)=>(paintsV p S.length).map λt=>(x:Int)::t).filter λt=>q (col (a::S) t)).length=xs.length*((paintsV p S.length).filter λt=>q (col S t)).length:=by
  intro xs
  induction xs with
  |nil=>simp
  |cons x xs ih=>
   rw[List.flatMap_cons,List.filter_append,xL,ih,List.filter_map,xB,w5,Nat.add_mul];have:((λt=>q (col (a::S) t))∘λt=>(x:Int)::t)=λt=>q (col S t):=funext λt=>e x t;rw[this];omega
 rw[this,List.length_range]
theorem dR(nd:S.Nodup)(nd':S'.Nodup)(l:Loc S q)(h:∀n,n∈S↔n∈S'):cntS p S q=cntS p S' q:=
 hZ nd nd' l (λc d e=>l c d λn hn=>e n ((h n).mp hn)) (λc=>c) (λc=>c) (λc v k=>⟨λn hn=>v n ((h n).mpr hn),k,λ_ _=>rfl⟩) (λc v k=>⟨λn hn=>v n ((h n).mp hn),k,λ_ _=>rfl⟩) (λc d e n hn=>e n ((h n).mpr hn)) λc d e n hn=>e n ((h n).mp hn)
noncomputable def fitC(p:Int)(c:Int->Int)(r:List Int):Bool:=c (r.getD 1 0)==c (r.getD 3 0)&&(2*c (r.getD 1 0)-c (r.getD 0 0)-c (r.getD 2 0))%p==0
noncomputable def eqC(c:Int->Int)(P:List Int):Bool:=c (P.getD 0 0)==c (P.getD 1 0)
noncomputable def LP(p:Int)(L P:List (List Int))(c:Int->Int):Bool:=L.all (fitC p c)&&P.all (eqC c)
theorem jC(h4:r.length=4)(h:∀x∈r,c x=d x):fitC p c r=fitC p d r:=by
 obtain⟨a,b,e,f,rfl⟩:=row4 h4;simp only[fitC,List.getD_cons_zero,List.getD_cons_succ,h a (by simp),h b (by simp),h e (by simp),h f (by simp)]
theorem b7(h4:∀r∈L,r.length=4)(h2:∀r∈P,r.length=2)(hS:∀x∈L.flatten++P.flatten,x∈S):Loc S (LP p L P):=λc d e=>by
 unfold LP;rw[aL (Q:=L) (q':=fitC p d) λr hr=>jC (h4 r hr) λx hx=>e x (hS x (List.mem_append_left _ (zF.2 ⟨r,hr,hx⟩))),aL (Q:=P) (q':=eqC d) λr hr=>by
  have:=h2 r hr
  match r,this with
  |[a,b],_=>
   have ha:=e a (hS a (xP _ (zF.2 ⟨_,hr,by simp⟩)));have hb:=e b (hS b (xP _ (zF.2 ⟨_,hr,by simp⟩)));show(c a==c b)=(d a==d b)
   rw[ha,hb]]
theorem dS{R:List (List Int)}(h4:∀r∈R,r.length=4)(hN:(dd [] R.flatten).length=N):cntV p N (numV R)=cntS p (dd [] R.flatten) (LP p R []):=by
 subst hN;unfold cntV cntS;rw[dQ]
 congr 2
 funext t;show(numV R).all _=(R.all _&&true)
 rw[Bool.and_true,numV,List.all_map];refine aL λr hr=>?_;obtain⟨a,b,c,d,rfl⟩:=row4 (h4 r hr);rfl
noncomputable def tw(W:List Int):Prop:=∀v∈W,W.count v=2
theorem kM:∀(W ns:List Int),ns.Nodup->(∀x∈W,x∈ns)->W.length=(ns.map λv=>W.count v).sum
 |[],ns,_,_=>by
  have:∀ns:List Int,(ns.map λv=>([]:List Int).count v).sum=0:=by intro ns;induction ns<;>simp_all
  rw[this];rfl
 |x::W,ns,nd,h=>by
  rw[w5,kM W ns nd λy hy=>h y (xK _ hy)];have key:∀ns:List Int,ns.Nodup->(ns.map λv=>(x::W).count v).sum=(ns.map λv=>W.count v).sum+if x∈ns then 1 else 0:=by
   intro ns
   induction ns with
   |nil=>intro _;simp
   |cons y ns ih=>
    intro nd;rw[List.nodup_cons] at nd;rw[xM,xM,List.sum_cons,List.sum_cons,ih nd.2,xS];by_cases e:x=y
    ·subst e
     rw[xC nd.1,xE (by simp),xE (by simp)];omega
    ·have:(x∈y::ns)↔x∈ns:=by simp[e]
     simp only[this,show(x==y)=false by simpa using e,gV,w6];omega
  rw[key ns nd,xE (h x xT)]
theorem wG(h:tw W):W.length=2*(dd [] W).length:=by
 rw[kM W (dd [] W) (aW [] W zQ) λx hx=>(aN _ _ _).mpr (.inr hx)];have:∀ns:List Int,(∀v∈ns,W.count v=2)->(ns.map λv=>W.count v).sum=2*ns.length:=by
  intro ns
  induction ns with
  |nil=>intro _;rfl
  |cons y ns ih=>
   intro k;rw[xM,List.sum_cons,ih λv hv=>k v (xK _ hv),k y xT,w5];omega
 exact this _ λv hv=>h v (((aN _ _ _).mp hv).resolve_left (by simp))
theorem idx_eq{l:List Int}(hx:x∈l)(hy:y∈l)(e:l.idxOf x=l.idxOf y):x=y:=by
 rw[←List.getElem_idxOf (List.idxOf_lt_length_iff.mpr hx),←List.getElem_idxOf (List.idxOf_lt_length_iff.mpr hy)];simp only[e]
theorem nU{R:List (List Int)}(h4:∀r∈R,r.length=4)(h:tw R.flatten):Sheet (numV R) R.length/\(dd [] R.flatten).length=2*R.length:=by
 have l:=wG h;have fl:=v9 h4;have N:(dd [] R.flatten).length=2*R.length:=by omega
 refine⟨⟨iZ R,fT h4,?_,?_⟩,N⟩
 ·intro x hx
  rw[fS] at hx;obtain⟨y,hy,rfl⟩:=List.mem_map.mp hx;have:=List.idxOf_lt_length_iff.mpr ((aN [] R.flatten y).mpr (.inr hy));omega
 ·intro v hv
  have hd:v<(dd [] R.flatten).length:=by omega
  have hm:(dd [] R.flatten)[v]∈R.flatten:=((aN _ _ _).mp (xV hd)).resolve_left (by simp);rw[fS];have ev:((v:Nat):Int)=(((dd [] R.flatten).idxOf (dd [] R.flatten)[v]:Nat):Int):=by rw[cF (aW [] _ zQ) hd]
  rw[ev,←h _ hm];have key:∀(W:List Int)(y:Int),y∈R.flatten->(∀x∈W,x∈R.flatten)->(W.map λx=>(((dd [] R.flatten).idxOf x:Nat):Int)).count (((dd [] R.flatten).idxOf y:Nat):Int)=W.count y:=by
   intro W y hy
   induction W with
   |nil=>intro _;rfl
   |cons x W ih=>
    intro hW;rw[xM,xS,xS,ih λz hz=>hW z (xK _ hz)]
    congr 1
    by_cases e:x=y
    ·subst e;simp
    ·have:¬(((dd [] R.flatten).idxOf x:Nat):Int)=(((dd [] R.flatten).idxOf y:Nat):Int):=λz=>e (idx_eq (l:=dd [] R.flatten) ((aN _ _ _).mpr (.inr (hW x xT))) ((aN _ _ _).mpr (.inr hy)) (by omega))
     simp[e,this]
  exact key _ _ hm λ_ h=>h
theorem kN(s:JS):∀k,iterJ s (k+1)=iterJ (stpJ s) k
 |0=>rfl
 |k+1=>by show stpJ (iterJ s (k+1))=_;rw[kN s k];rfl
theorem sU(L P:List (List Int))(g a b:Int):joinV L g ([a,b]::P)=joinV (L.map (ren b a)) (if a=b then g+1 else g) (P.map (ren b a)):=by
 unfold joinV;rw[w5,kN,xB];rfl
theorem wH(h:r.length=4):fitC p c (r.map f)=fitC p (c∘f) r:=by
 obtain⟨a,b,d,e,rfl⟩:=row4 h;rfl
theorem two_of{r:List Int}(h:r.length=2):∃a b,r=[a,b]:=by
 match r,h with
 |[a,b],_=>exact⟨a,b,rfl⟩
theorem eqC_map(h:r.length=2):eqC c (r.map f)=eqC (c∘f) r:=by
 obtain⟨a,b,rfl⟩:=two_of h;rfl
theorem LP_ren(h4:∀r∈L,r.length=4)(h2:∀r∈P,r.length=2):LP p (L.map (ren b a)) (P.map (ren b a)) c=LP p L P λx=>c (if x=b then a else x):=by
 unfold LP;rw[List.all_map,List.all_map]
 congr 1
 ·exact aL λr hr=>wH (h4 r hr)
 ·exact aL λr hr=>eqC_map (h2 r hr)
theorem ren_id(a:Int)(r:List Int):ren a a r=r:=by
 unfold ren
 conv=>rhs;rw[←List.map_id r]
 exact List.map_congr_left λx _=>by
  show(if x=a then a else x)=x;split<;>simp_all
theorem nV(f:Int->Int)(L:List (List Int)):(L.map λr=>r.map f).flatten=L.flatten.map f:=by
 induction L with
 |nil=>rfl
 |cons r L ih=>rw[xM,xZ,ih,xZ,yB]
theorem kO(hab:a≠b)(v:Int):∀W:List Int,(W.map λx=>if x=b then a else x).count v=if v=b then 0 else if v=a then W.count a+W.count b else W.count v
 |[]=>by simp
 |x::W=>by
  rw[xM,xS,kO hab v W,xS,xS,xS];simp only[zB];by_cases h1:v=b
  ·subst h1
   rw[xE rfl,xE rfl];split<;>first|rfl|rw[xC (by omega)]
  ·rw[xC h1,xC h1]
   by_cases h2:v=a
   ·subst h2
    rw[xE rfl,xE rfl];by_cases h3:x=b
    ·rw[xE h3,xE rfl,xC (by omega),xE h3];omega
    ·rw[xC h3,xC h3];omega
   ·rw[xC h2,xC h2]
    by_cases h3:x=b
    ·rw[xE h3,xC (by omega),xC (by omega)]
    ·rw[xC h3]
theorem tw_app(v:Int):(W++([a,b]++X)).count v=(W++X).count v+(if a=v then 1 else 0)+if b=v then 1 else 0:=by
 simp only[y4,xS,yL,zB];omega
theorem fD:∀(P L:List (List Int))(g:Int)(S:List Int),(∀r∈L,r.length=4)->(∀r∈P,r.length=2)->tw (L.flatten++P.flatten)->S.Nodup->(∀x,x∈S↔x∈L.flatten++P.flatten)->
  ∃k:Nat,(joinV L g P).2=g+k/\Sheet (numV (joinV L g P).1) L.length/\∀p,cntS p S (LP p L P)=p^k*cntV p (2*L.length) (numV (joinV L g P).1)
 |[],L,g,S,h4,h2,ht,nd,hS=>by
  have ht:tw L.flatten:=by simpa using ht
  obtain⟨s,hN⟩:=nU h4 ht;refine⟨0,by simp[joinV,iterJ],s,λp=>?_⟩;show _=p^0*cntV p _ (numV L);rw[dS h4 hN,Nat.pow_zero,Nat.one_mul];exact dR nd (aW [] _ zQ) (b7 h4 h2 λx hx=>(hS x).mpr hx) λn=>by rw[hS,aN];simp
 |r::P,L,g,S,h4,h2,ht,nd,hS=>by
  obtain⟨a,b,rfl⟩:=two_of (h2 r xT);have h2':∀r∈P,r.length=2:=λq hq=>h2 q (xK _ hq);have hc:∀v,(L.flatten++([a,b]::P).flatten).count v=(L.flatten++P.flatten).count v+(if a=v then 1 else 0)+if b=v then 1 else 0:=λv=>by
   rw[xZ];exact tw_app v
  have ma:a∈L.flatten++([a,b]::P).flatten:=by simp
  have mb:b∈L.flatten++([a,b]::P).flatten:=by simp
  have mem:∀x,x∈L.flatten++([a,b]::P).flatten↔x∈L.flatten++P.flatten\/x=a\/x=b:=λx=>by
   simp only[xZ,List.mem_append,yC,yF,or_false];constructor
   ·rintro(h|(h|h)|h)<;>simp[h]
   ·rintro((h|h)|h|h)<;>simp[h]
  have lS:=λp:Int=>b7 (p:=p) (S:=S) h4 h2 (λx hx=>(hS x).mpr hx);rw[sU];by_cases hab:a=b
  ·subst hab
   have eL:L.map (ren a a)=L:=by rw[show ren a a=id from funext (ren_id a),List.map_id]
   have eP:P.map (ren a a)=P:=by rw[show ren a a=id from funext (ren_id a),List.map_id]
   rw[eL,eP,xE rfl];have ca:=hc a;rw[ht a ma,xE rfl] at ca;have na:a∉L.flatten++P.flatten:=λh=>by have:=List.count_pos_iff.mpr h;omega
   have mS:∀x,x∈S.erase a↔x∈L.flatten++P.flatten:=λx=>by
    rw[nd.mem_erase_iff,hS,mem];constructor
    ·rintro⟨h1,h|h|h⟩
     ·exact h
     ·exact absurd h h1
     ·exact absurd h h1
    ·intro h
     exact⟨λe=>na (e▸h),.inl h⟩
   obtain⟨k,e1,e2,e3⟩:=fD P L (g+1) (S.erase a) h4 h2' (λv hv=>by
    have:=hc v;rw[ht v ((mem v).mpr (.inl hv)),xC (show¬a=v from λe=>na (by rw[e];exact hv))] at this;omega) (nd.erase a) mS
   refine⟨k+1,by rw[e1];omega,e2,λp=>?_⟩;have eq:LP p L ([a,a]::P)=LP p L P:=funext λc=>by
    show(_&&((c a==c a)&&_))=_;rw[zV,Bool.true_and];rfl
   have l':=b7 (p:=p) (S:=S.erase a) h4 h2' (λx hx=>(mS x).mpr hx);have na':a∉S.erase a:=λh=>na ((mS a).mp h);rw[dR (S':=a::S.erase a) nd (List.nodup_cons.mpr ⟨na',nd.erase a⟩) (lS p) λn=>by
    rw[yC,mS,hS,mem];constructor
    ·rintro(h|h|h)
     ·exact .inr h
     ·exact .inl h
     ·exact .inl h
    ·rintro(h|h)
     ·exact .inr (.inl h)
     ·exact .inl h,eq,sS na' l',e3,Nat.pow_succ]
   rw[Nat.mul_comm (p^k) p,Nat.mul_assoc]
  ·rw[xC hab]
   have h4':∀r∈L.map (ren b a),r.length=4:=λr hr=>by
    obtain⟨q,hq,rfl⟩:=List.mem_map.mp hr;rw[cS];exact h4 q hq
   have h2'':∀r∈P.map (ren b a),r.length=2:=λr hr=>by
    obtain⟨q,hq,rfl⟩:=List.mem_map.mp hr;rw[cS];exact h2' q hq
   have ef:(L.map (ren b a)).flatten++(P.map (ren b a)).flatten=(L.flatten++P.flatten).map λx=>if x=b then a else x:=by
    rw[yB,←nV,←nV];rfl
   have ca:=hc a;have cb:=hc b;rw[ht a ma,xE rfl,xC λe=>hab e.symm] at ca;rw[ht b mb,xC hab,xE rfl] at cb;have cv:∀v,v≠a->v≠b->v∈L.flatten++P.flatten->(L.flatten++P.flatten).count v=2:=λv h1 h2 hv=>by
    have:=hc v;rw[ht v ((mem v).mpr (.inl hv)),xC λe=>h1 e.symm,xC λe=>h2 e.symm] at this;omega
   have ct:=λv=>kO hab v (L.flatten++P.flatten);have mW:∀x,x∈(L.map (ren b a)).flatten++(P.map (ren b a)).flatten↔x≠b/\(x∈L.flatten++P.flatten\/x=a\/x=b):=λx=>by
    rw[ef,←List.count_pos_iff,ct x];by_cases h1:x=b
    ·simp[h1]
    ·rw[xC h1]
     by_cases h2:x=a
     ·rw[xE h2]
      exact⟨λ_=>⟨h1,.inr (.inl h2)⟩,λ_=>by omega⟩
     ·rw[xC h2,List.count_pos_iff]
      constructor
      ·exact λh=>⟨h1,.inl h⟩
      ·rintro⟨_,h|h|h⟩
       ·exact h
       ·exact absurd h h2
       ·exact absurd h h1
   have mS:∀x,x∈S.erase b↔x∈(L.map (ren b a)).flatten++(P.map (ren b a)).flatten:=λx=>by
    rw[nd.mem_erase_iff,hS,mem,mW]
   obtain⟨k,e1,e2,e3⟩:=fD (P.map (ren b a)) (L.map (ren b a)) g (S.erase b) h4' h2'' (λv hv=>by
    obtain⟨h1,h⟩:=(mW v).mp hv;rw[ef,ct v,xC h1];by_cases h2:v=a
    ·rw[xE h2];omega
    ·rw[xC h2]
     exact cv v h2 h1 (h.resolve_right λh=>h.elim h2 h1)) (nd.erase b) mS
   rw[xB] at e2 e3;refine⟨k,e1,e2,λp=>?_⟩;rw[←e3];have aS:a∈S.erase b:=(mS a).mpr ((mW a).mpr ⟨hab,.inr (.inl rfl)⟩);have sub:∀n∈S.erase b,n∈S/\n≠b:=λn hn=>by rw[nd.mem_erase_iff] at hn;exact⟨hn.2,hn.1⟩
   have back:∀n∈S,n≠b->n∈S.erase b:=λn hn h=>nd.mem_erase_iff.mpr ⟨h,hn⟩;have le:=b7 (p:=p) (S:=S.erase b) h4' h2'' (λx hx=>(mS x).mpr hx);have lr:∀c,LP p (L.map (ren b a)) (P.map (ren b a)) c=LP p L P λx=>c (if x=b then a else x):=λc=>LP_ren h4 h2';have lc:∀c,LP p L ([a,b]::P) c=((c a==c b)&&LP p L P c):=λc=>by
    show(L.all _&&((c a==c b)&&P.all _))=_;unfold LP;cases L.all (fitC p c)<;>cases (c a==c b)<;>rfl
   have lP:=b7 (p:=p) (S:=S) h4 h2' λx hx=>(hS x).mpr ((mem x).mpr (.inl hx));refine hZ nd (nd.erase b) (lS p) le (λc=>c) (λc n=>c (if n=b then a else n)) (λc v k=>?_) (λc v k=>?_) (λc d e n hn=>e n (sub n hn).1) λc d e n hn=>?_
   ·rw[lc,xG,zB] at k
    have g:∀n,c (if n=b then a else n)=c n:=λn=>by
     split
     ·rename_i h;rw[h];exact k.1
     ·rfl
    refine⟨λn hn=>v n (sub n hn).1,?_,λn _=>g n⟩;rw[lr];simp only[g];exact k.2
   ·rw[lr] at k
    refine⟨λn hn=>?_,?_,λn hn=>?_⟩
    ·show 0<=c (if n=b then a else n)/\c (if n=b then a else n)<p
     split
     ·exact v a aS
     ·rename_i h;exact v n (back n hn h)
    ·rw[lc,xG]
     refine⟨?_,k⟩;rw[xC hab,xE rfl,zB]
    ·show c (if n=b then a else n)=c n
     rw[xC (sub n hn).2]
   ·show c (if n=b then a else n)=d (if n=b then a else n)
    split
    ·exact e a aS
    ·rename_i h;exact e n (back n hn h)
 termination_by P=>P.length
theorem nW{p m:Nat}{Q L rs P:List (List Int)}{E:List Int}(s:Sheet Q m)(h:(Int->Int)->Int->Int)(hQ:∀c,Q.all (fitC p c)=(L.all (fitC p c)&&rs.all (fitC p c)))
  (hc:∀v,Q.flatten.count v=L.flatten.count v+P.flatten.count v+2*E.count v) (h4:∀r∈L,r.length=4) (h2:∀r∈P,r.length=2)
  (hf:∀c,Vl p Q.flatten c->(rs.all (fitC p c)=true↔(P.all (eqC c)=true/\∀n∈E,c n=h c n))) (hv:∀c,Vl p P.flatten c->∀n∈E,0<=h c n/\h c n<(p:Int)) (hl:∀c d,(∀n∈P.flatten,c n=d n)->∀n∈E,h c n=h d n):
  tw (L.flatten++P.flatten)/\∃S:List Int,S.Nodup/\(∀x,x∈S↔x∈L.flatten++P.flatten)/\cntV p (2*m) Q=cntS p S (LP p L P):=by
 have c2:∀v∈Q.flatten,Q.flatten.count v=2:=λv hv=>by
  obtain⟨h1,h2⟩:=s.two.rng v hv;have:=s.two.cnt v.toNat (by omega);rwa[show((v.toNat:Nat):Int)=v by omega] at this
 have mQ:∀v,v∈Q.flatten↔v∈L.flatten++P.flatten\/v∈E:=λv=>by
  rw[←List.count_pos_iff,hc v,←List.count_pos_iff,←List.count_pos_iff,y4];omega
 have nE:∀v∈E,v∉L.flatten++P.flatten:=λv hv hm=>by
  have:=c2 v ((mQ v).mpr (.inr hv));have h1:=List.count_pos_iff.mpr hv;have h2:=List.count_pos_iff.mpr hm;rw[y4] at h2;rw[hc v] at this;omega
 have ht:tw (L.flatten++P.flatten):=λv hv=>by
  have:=c2 v ((mQ v).mpr (.inl hv));have h0:E.count v=0:=List.count_eq_zero.mpr λh=>nE v h hv;rw[hc v,h0] at this;rw[y4];omega
 have mS:∀x,x∈dd [] (L.flatten++P.flatten)↔x∈L.flatten++P.flatten:=λx=>by rw[aN];simp
 have m0:∀x,x∈dd [] Q.flatten↔x∈Q.flatten:=λx=>by rw[aN];simp
 refine⟨ht,dd [] (L.flatten++P.flatten),aW [] _ zQ,mS,?_⟩;rw[←fB s.four s.two,dS s.four (cR s.two)];have lQ:∀c,LP p Q [] c=(L.all (fitC p c)&&rs.all (fitC p c)):=λc=>by
  show(Q.all _&&true)=_;rw[Bool.and_true,hQ]
 have l1:=b7 (p:=(p:Int)) (S:=dd [] Q.flatten) (P:=[]) s.four (λr hr=>by cases hr) (λx hx=>(m0 x).mpr (by simpa using hx));have l2:=b7 (p:=(p:Int)) (S:=dd [] (L.flatten++P.flatten)) h4 h2 λx hx=>(mS x).mpr hx;have la:∀c d:Int->Int,(∀n∈L.flatten,c n=d n)->L.all (fitC p c)=L.all (fitC p d):=λc d e=>aL λr hr=>jC (h4 r hr) λx hx=>e x (zF.2 ⟨r,hr,hx⟩);have lp:∀c d:Int->Int,(∀n∈P.flatten,c n=d n)->P.all (eqC c)=P.all (eqC d):=λc d e=>aL λr hr=>by
  obtain⟨a,b,rfl⟩:=two_of (h2 r hr);show(c a==c b)=(d a==d b)
  rw[e a (zF.2 ⟨_,hr,by simp⟩),e b (zF.2 ⟨_,hr,by simp⟩)]
 have gL:∀(c:Int->Int),∀n∈L.flatten,(if n∈E then h c n else c n)=c n:=λc n hn=>xC λe=>nE n e (List.mem_append_left _ hn);have gP:∀(c:Int->Int),∀n∈P.flatten,(if n∈E then h c n else c n)=c n:=λc n hn=>xC λe=>nE n e (xP _ hn);refine hZ (aW [] _ zQ) (aW [] _ zQ) l1 l2 (λc=>c) (λc n=>if n∈E then h c n else c n) (λc v k=>?_) (λc v k=>?_) (λc d e n hn=>e n ((m0 n).mpr ((mQ n).mpr (.inl ((mS n).mp hn))))) λc d e n hn=>?_
 ·rw[lQ,xG] at k
  obtain⟨k1,k2⟩:=(hf c λn hn=>v n ((m0 n).mpr hn)).mp k.2;refine⟨λn hn=>v n ((m0 n).mpr ((mQ n).mpr (.inl ((mS n).mp hn)))),?_,λn hn=>?_⟩
  ·show(_&&_)=true
   rw[k.1,k1];rfl
  ·show(if n∈E then h c n else c n)=c n
   split
   ·rename_i hn;exact(k2 n hn).symm
   ·rfl
 ·have k':(L.all (fitC p c)&&P.all (eqC c))=true:=k
  rw[xG] at k';have vP:Vl p P.flatten c:=λn hn=>v n ((mS n).mpr (xP _ hn));have v':Vl p Q.flatten λn=>if n∈E then h c n else c n:=λn hn=>by
   show 0<=(if n∈E then h c n else c n)/\(if n∈E then h c n else c n)<(p:Int);split
   ·rename_i hE;exact hv c vP n hE
   ·rename_i hE;exact v n ((mS n).mpr (((mQ n).mp hn).resolve_right hE))
  refine⟨λn hn=>v' n ((m0 n).mp hn),?_,λn hn=>?_⟩
  ·rw[lQ,la _ c (gL c),k'.1,Bool.true_and]
   refine(hf _ v').mpr ⟨by rw[lp _ c (gP c)];exact k'.2,λn hn=>?_⟩;show(if n∈E then h c n else c n)=_;rw[xE hn];exact(hl _ _ (gP c) n hn).symm
  ·show(if n∈E then h c n else c n)=c n
   exact xC λe=>nE n e ((mS n).mp hn)
 ·show(if n∈E then h c n else c n)=if n∈E then h d n else d n
  split
  ·rename_i hE;exact hl c d (λx hx=>e x ((mS x).mpr (xP _ hx))) n hE
  ·rename_i hE;exact e n ((mS n).mpr (((mQ n).mp ((m0 n).mp hn)).resolve_right hE))
noncomputable def goneR(Q:List (List Int))(ks:List Int):List (List Int):=((List.range Q.length).filter λ(k:Nat)=>decide ((k:Int)∈ks)).map λ(k:Nat)=>Q.getD k []
theorem kP{α:Type}(f:α->Bool)(q:α->Bool):∀I:List α,I.all q=((I.filter λk=>!f k).all q&&(I.filter f).all q)
 |[]=>rfl
 |x::I=>by
  rw[zT,kP f q I];generalize hA:(I.filter λk=>!f k).all q=A;generalize hB:(I.filter f).all q=B;by_cases h:f x=true
  ·rw[List.filter_cons_of_neg (by simp[h]),List.filter_cons_of_pos h,zT,hA,hB]
   cases q x<;>cases A<;>cases B<;>rfl
  ·rw[List.filter_cons_of_pos (by simp[h]),List.filter_cons_of_neg h,zT,hA,hB]
   cases q x<;>cases A<;>cases B<;>rfl
theorem eD(Q:List (List Int)):(List.range Q.length).map (λk=>Q.getD k [])=Q:=by
 refine List.ext_getElem (by simp) λi h1 h2=>?_;simp[h2]
theorem nX(Q:List (List Int))(ks:List Int)(q:List Int->Bool):Q.all q=((withoutV Q ks).all q&&(goneR Q ks).all q):=by
 conv=>lhs;rw[←eD Q]
 unfold withoutV goneR;rw[List.all_map,List.all_map,List.all_map];exact kP _ _ _
theorem fE(v:Int):∀(I:List Nat)(f:Nat->List Int),(I.map f).flatten.count v=(I.map λk=>(f k).count v).sum
 |[],f=>rfl
 |x::I,f=>by rw[xM,xZ,y4,fE v I,xM,List.sum_cons]
theorem kQ(f:Nat->Bool)(g:Nat->Nat):∀I:List Nat,(I.map g).sum=((I.filter λk=>!f k).map g).sum+((I.filter f).map g).sum
 |[]=>rfl
 |x::I=>by
  rw[xM,List.sum_cons,kQ f g I,zI,zI];cases f x<;>simp<;>omega
theorem jD(Q:List (List Int))(ks:List Int)(v:Int):Q.flatten.count v=(withoutV Q ks).flatten.count v+(goneR Q ks).flatten.count v:=by
 conv=>lhs;rw[←eD Q]
 unfold withoutV goneR;rw[fE,fE,fE];exact kQ _ _ _
theorem jE(hx:x<n):(List.range n).filter (λ(k:Nat)=>decide ((k:Int)∈[(x:Int)]))=[x]:=by
 have:(λ(k:Nat)=>decide ((k:Int)∈[(x:Int)]))=λk=>k==x:=funext λk=>by
  rw[zH];simp;omega
 rw[this]
 induction n with
 |zero=>omega
 |succ n ih=>
  rw[zU,List.filter_append];by_cases h:x<n
  ·rw[ih h]
   have:(n==x)=false:=by simp;omega
   simp[this]
  ·have e:x=n:=by omega
   subst e;have:(List.range x).filter (λk=>k==x)=[]:=by
    rw[List.filter_eq_nil_iff];intro a ha;have:=List.mem_range.mp ha;simp;omega
   rw[this];simp
theorem jF(hx:x<n)(hy:y<n)(hxy:x≠y):(List.range n).filter (λ(k:Nat)=>decide ((k:Int)∈[(x:Int),(y:Int)]))=if x<y then[x,y] else[y,x]:=by
 have key:∀(a b:Nat),a<b->∀n,b<n->(List.range n).filter (λ(k:Nat)=>decide ((k:Int)∈[(a:Int),(b:Int)]))=[a,b]:=by
  intro a b hab n hb;have h1:=jE (show a<b from hab)
  induction n with
  |zero=>omega
  |succ n ih=>
   rw[zU,List.filter_append];by_cases h:b<n
   ·rw[ih h]
    have:¬((n:Int)∈[(a:Int),(b:Int)]):=by simp;omega
    simp only[zI,this,decide_false,gV,w6,List.filter_nil,yD]
   ·have e:b=n:=by omega
    subst e;have:(List.range b).filter (λ(k:Nat)=>decide ((k:Int)∈[(a:Int),(b:Int)]))=(List.range b).filter (λ(k:Nat)=>decide ((k:Int)∈[(a:Int)])):=List.filter_congr λk hk=>by
     have:=List.mem_range.mp hk;rw[zH];simp;omega
    rw[this,h1];simp
 by_cases h:x<y
 ·rw[xE h];exact key x y h n hy
 ·rw[xC h]
  have:=key y x (by omega) n hx;rw[←this];exact List.filter_congr λk _=>by rw[zH];simp[or_comm]
noncomputable def twinV(r:List Int):Option Nat:=if r.getD 0 0=r.getD 1 0 then some 0 else if r.getD 1 0=r.getD 2 0 then some 1 else if r.getD 2 0=r.getD 3 0 then some 2 else if r.getD 3 0=r.getD 0 0 then some 3 else none
noncomputable def othV(r:List Int)(e:Nat):List Int:=[r.getD ((e+2)%4) 0,r.getD ((e+3)%4) 0]
theorem bJ{Q:List (List Int)}(h:x<Q.length):Q.getD x []∈Q:=by
 rw[show Q.getD x []=Q[x] by simp[h]];exact xV h
theorem lT{x:Nat}(hx:x<Q.length):(withoutV Q [(x:Int)]).length=Q.length-1:=by
 rw[nD hx,xL,yS,List.length_drop];omega
theorem h8(s:Sheet Q m)(hx:x<m)(g:Int)(hc:∀v,(Q.getD x []).count v=2*[x0].count v+[y,z].count v)
  (hr:∀(p:Nat)(c:Int->Int),(0<=c x0/\c x0<(p:Int))->(0<=c y/\c y<(p:Int))->(0<=c z/\c z<(p:Int))->(fitC p c (Q.getD x [])=true↔c y=c z/\c x0=c y)):
  ∃k:Nat,(joinV (withoutV Q [(x:Int)]) g [[y,z]]).2=g+k/\Sheet (numV (joinV (withoutV Q [(x:Int)]) g [[y,z]]).1) (m-1)/\∀p,cntV p (2*m) Q=p^k*cntV p (2*(m-1)) (numV (joinV (withoutV Q [(x:Int)]) g [[y,z]]).1):=by
 have hl:x<Q.length:=by rw[s.len];exact hx
 have gr:goneR Q [(x:Int)]=[Q.getD x []]:=by unfold goneR;rw[jE hl];rfl
 have inQ:∀v,0<(Q.getD x []).count v->v∈Q.flatten:=λv h=>zF.2 ⟨_,bJ hl,List.count_pos_iff.mp h⟩;have core:=λp:Nat=>nW (p:=p) (L:=withoutV Q [(x:Int)]) (rs:=[Q.getD x []]) (P:=[[y,z]]) (E:=[x0]) s (λc _=>c y) (λc=>by rw[nX Q [(x:Int)],gr]) (λv=>by
   rw[jD Q [(x:Int)] v,gr];show _+([Q.getD x []].flatten).count v=_;rw[xZ,List.flatten_nil,yD,hc v,xZ,List.flatten_nil,yD];omega)
  (aJ s.four) (λr hr=>by rw[List.mem_singleton.mp hr];rfl) (λc vl=>by
   have v1:=vl x0 (inQ x0 (by rw[hc];have:0<[x0].count x0:=List.count_pos_iff.mpr (by simp);omega));have v2:=vl y (inQ y (by rw[hc];have:0<[y,z].count y:=List.count_pos_iff.mpr (by simp);omega));have v3:=vl z (inQ z (by rw[hc];have:0<[y,z].count z:=List.count_pos_iff.mpr (by simp);omega));have:=hr p c v1 v2 v3;show(fitC p c (Q.getD x [])&&true)=true↔((c y==c z)&&true)=true/\_;rw[Bool.and_true,Bool.and_true,this,zB];simp) (λc vl n _=>vl y (by simp)) λc d e n _=>e y (by simp)
 obtain⟨ht,S,nd,mS,_⟩:=core 0;obtain⟨k,e1,e2,e3⟩:=fD [[y,z]] (withoutV Q [(x:Int)]) g S (aJ s.four) (λr hr=>by rw[List.mem_singleton.mp hr];rfl) ht nd mS;rw[lT hl,s.len] at e2 e3;refine⟨k,e1,e2,λp=>?_⟩;obtain⟨_,S',nd',mS',q⟩:=core p;rw[q,←e3];exact dR nd' nd (b7 (aJ s.four) (λr hr=>by rw[List.mem_singleton.mp hr];rfl) λx hx=>(mS' x).mpr hx) λn=>by rw[mS,mS']
theorem Sheet.un(s:Sheet Q m)(hx:x<m)(g:Int)(he:twinV (Q.getD x [])=some e):
  ∃k:Nat,(joinV (withoutV Q [(x:Int)]) g [othV (Q.getD x []) e]).2=g+k/\Sheet (numV (joinV (withoutV Q [(x:Int)]) g [othV (Q.getD x []) e]).1) (m-1)/\∀p,cntV p (2*m) Q=p^k*cntV p (2*(m-1)) (numV (joinV (withoutV Q [(x:Int)]) g [othV (Q.getD x []) e]).1):=by
 have hl:x<Q.length:=by rw[s.len];exact hx
 obtain⟨a,b,c,d,er⟩:=row4 (s.four _ (bJ hl));have tw4:twinV [a,b,c,d]=if a=b then some 0 else if b=c then some 1 else if c=d then some 2 else if d=a then some 3 else Option.none:=rfl;have fc:∀(p:Nat)(f:Int->Int)(a b c d:Int),fitC p f [a,b,c,d]=true↔f b=f d/\(2*f b-f a-f c)%(p:Int)=0:=λp f a b c d=>by
  show((f b==f d)&&((2*f b-f a-f c)%(p:Int)==0))=true↔_;rw[xG,zB,zB]
 have z0:∀(p:Nat)(u v:Int),u=v->(u-v)%(p:Int)=0:=λp u v h=>by rw[h];simp
 rw[er,tw4] at he;by_cases h1:a=b
 ·subst h1
  rw[xE rfl] at he;cases he;have:=h8 (x0:=a) (y:=c) (z:=d) s hx g (λv=>by rw[er];simp only[xS,yL];omega) λp f va vc vd=>by
   rw[er,fc];constructor
   ·rintro⟨q1,q2⟩
    have:=bE va vc (by rw[←q2];congr 1;omega);exact⟨by rw[←this];exact q1,this⟩
   ·rintro⟨q1,q2⟩
    exact⟨by rw[q2];exact q1,by rw[show 2*f a-f a-f c=f a-f c by omega];exact z0 p _ _ q2⟩
  rw[er];exact this
 ·rw[xC h1] at he
  by_cases h2:b=c
  ·subst h2
   rw[xE rfl] at he;cases he;have:=h8 (x0:=b) (y:=d) (z:=a) s hx g (λv=>by rw[er];simp only[xS,yL];omega) λp f vb vd va=>by
    rw[er,fc];constructor
    ·rintro⟨q1,q2⟩
     have:=bE vb va (by rw[←q2];congr 1;omega);exact⟨by rw[←q1];exact this,q1⟩
    ·rintro⟨q1,q2⟩
     exact⟨q2,by rw[show 2*f b-f a-f b=f b-f a by omega];exact z0 p _ _ (q2.trans q1)⟩
   rw[er];exact this
  ·rw[xC h2] at he
   by_cases h3:c=d
   ·subst h3
    rw[xE rfl] at he;cases he;have:=h8 (x0:=c) (y:=a) (z:=b) s hx g (λv=>by rw[er];simp only[xS,yL];omega) λp f vc va vb=>by
     rw[er,fc];constructor
     ·rintro⟨q1,q2⟩
      have:=bE vb va (by rw[←q2,←q1];congr 1;omega);exact⟨this.symm,by rw[←q1];exact this⟩
     ·rintro⟨q1,q2⟩
      exact⟨by rw[q2];exact q1.symm,by rw[q2,show 2*f b-f a-f a=(f b-f a)+(f b-f a) by omega,q1];simp⟩
    rw[er];exact this
   ·rw[xC h3] at he
    by_cases h4:d=a
    ·subst h4
     rw[xE rfl] at he;cases he;have:=h8 (x0:=d) (y:=b) (z:=c) s hx g (λv=>by rw[er];simp only[xS,yL];omega) λp f vd vb vc=>by
      rw[er,fc];constructor
      ·rintro⟨q1,q2⟩
       have:=bE vb vc (by rw[←q2,←q1];congr 1;omega);exact⟨this,q1.symm⟩
      ·rintro⟨q1,q2⟩
       exact⟨q2.symm,by rw[q2,q1,show 2*f c-f c-f c=0 by omega];simp⟩
     rw[er];exact this
    ·rw[xC h4] at he;cases he
theorem kR{α:Type}(f:α->Bool):∀I:List α,I.length=(I.filter λk=>!f k).length+(I.filter f).length
 |[]=>rfl
 |x::I=>by
  rw[w5,kR f I,zI,zI];cases f x<;>simp<;>omega
theorem wI(Q:List (List Int))(ks:List Int):Q.length=(withoutV Q ks).length+(goneR Q ks).length:=by
 unfold withoutV goneR;rw[xB,xB];exact(List.length_range (n:=Q.length)).symm.trans (kR _ _)
theorem jG(s:Sheet Q m)(hi:i<m)(hj:j<m)(hij:i≠j)(g:Int)(huw:u≠w)
  (hc:∀v,(Q.getD i []).count v+(Q.getD j []).count v=[x,y,o,q].count v+2*[u,w].count v)
  (hr:∀(p:Nat)(c:Int->Int),(∀n∈[x,y,o,q,u,w],0<=c n/\c n<(p:Int))->(fitC p c (Q.getD i [])=true/\fitC p c (Q.getD j [])=true↔c x=c y/\c o=c q/\c w=c o/\c u=(2*c o-c x)%p)):
  ∃k:Nat,(joinV (withoutV Q [(i:Int),(j:Int)]) g [[x,y],[o,q]]).2=g+k/\Sheet (numV (joinV (withoutV Q [(i:Int),(j:Int)]) g [[x,y],[o,q]]).1) (m-2)/\∀p,cntV p (2*m) Q=p^k*cntV p (2*(m-2)) (numV (joinV (withoutV Q [(i:Int),(j:Int)]) g [[x,y],[o,q]]).1):=by
 have li:i<Q.length:=by rw[s.len];exact hi
 have lj:j<Q.length:=by rw[s.len];exact hj
 have gr:goneR Q [(i:Int),(j:Int)]=[Q.getD i [],Q.getD j []]\/goneR Q [(i:Int),(j:Int)]=[Q.getD j [],Q.getD i []]:=by
  unfold goneR;rw[jF li lj hij];split
  ·exact .inl rfl
  ·exact .inr rfl
 have gl:(goneR Q [(i:Int),(j:Int)]).length=2:=by rcases gr with h|h<;>rw[h]<;>rfl
 have ga:∀f:List Int->Bool,(goneR Q [(i:Int),(j:Int)]).all f=true↔f (Q.getD i [])=true/\f (Q.getD j [])=true:=λf=>by
  rcases gr with h|h<;>rw[h]<;>simp[and_comm]
 have gc:∀v,(goneR Q [(i:Int),(j:Int)]).flatten.count v=(Q.getD i []).count v+(Q.getD j []).count v:=λv=>by
  rcases gr with h|h<;>rw[h]<;>simp[y4]<;>omega
 have h2:∀r∈[[x,y],[o,q]],r.length=2:=λr hr=>by
  rcases List.mem_cons.mp hr with h|h
  ·rw[h];rfl
  ·rw[List.mem_singleton.mp h];rfl
 have inQ:∀v∈[x,y,o,q,u,w],v∈Q.flatten:=λv h=>by
  have h0:0<[x,y,o,q].count v+2*[u,w].count v:=by
   have:v∈[x,y,o,q]\/v∈[u,w]:=by simpa[or_assoc] using h
   rcases this with h|h
   ·have:=List.count_pos_iff.mpr h;omega
   ·have:=List.count_pos_iff.mpr h;omega
  rw[←hc v] at h0;have:0<(Q.getD i []).count v\/0<(Q.getD j []).count v:=by omega
  rcases this with h|h
  ·exact zF.2 ⟨_,bJ li,List.count_pos_iff.mp h⟩
  ·exact zF.2 ⟨_,bJ lj,List.count_pos_iff.mp h⟩
 have core:=λp:Nat=>nW (p:=p) (L:=withoutV Q [(i:Int),(j:Int)]) (rs:=goneR Q [(i:Int),(j:Int)]) (P:=[[x,y],[o,q]]) (E:=[u,w]) s (λc n=>if n=w then c o else(2*c o-c x)%p) (λc=>nX Q _ _) (λv=>by
   rw[jD Q [(i:Int),(j:Int)] v,gc,hc v];show _=_+([x,y]++([o,q]++[])).count v+_;simp only[y4,xS,yL];omega)
  (aJ s.four) h2 (λc vl=>by
   rw[ga,hr p c λn hn=>vl n (inQ n hn)];show _↔((c x==c y)&&((c o==c q)&&true))=true/\_;rw[xG,Bool.and_true,zB,zB];constructor
   ·rintro⟨a1,a2,a3,a4⟩
    refine⟨⟨a1,a2⟩,λn hn=>?_⟩;rcases List.mem_cons.mp hn with rfl|hn
    ·rw[xC huw];exact a4
    ·rw[List.mem_singleton.mp hn,xE rfl];exact a3
   ·rintro⟨⟨a1,a2⟩,a3⟩
    have b1:=a3 u (by simp);have b2:=a3 w (by simp);rw[xC huw] at b1;rw[xE rfl] at b2;exact⟨a1,a2,b2,b1⟩) (λc vl n _=>by
   have v1:=vl o (by simp);show 0<=(if n=w then c o else(2*c o-c x)%p)/\(if n=w then c o else(2*c o-c x)%p)<(p:Int);have pp:(0:Int)<p:=by omega
   split
   ·exact v1
   ·exact⟨Int.emod_nonneg _ (by omega),zR _ pp⟩) λc d e n _=>by
   show(if n=w then c o else(2*c o-c x)%p)=if n=w then d o else(2*d o-d x)%p;rw[e o (by simp),e x (by simp)]
 obtain⟨ht,S,nd,mS,_⟩:=core 0;obtain⟨k,e1,e2,e3⟩:=fD [[x,y],[o,q]] (withoutV Q [(i:Int),(j:Int)]) g S (aJ s.four) h2 ht nd mS;have wl:(withoutV Q [(i:Int),(j:Int)]).length=m-2:=by
  have:=wI Q [(i:Int),(j:Int)];rw[gl,s.len] at this;omega
 rw[wl] at e2 e3;refine⟨k,e1,e2,λp=>?_⟩;obtain⟨_,S',nd',mS',z⟩:=core p;rw[z,←e3];exact dR nd' nd (b7 (aJ s.four) h2 λx hx=>(mS' x).mpr hx) λn=>by rw[mS,mS']
noncomputable def r2(r:List Int):List Int:=r.drop 2++r.take 2
noncomputable def loosV(x y:List Int):Option (List (List Int)):=if x.getD 2 0=y.getD 0 0 then(if x.getD 1 0=y.getD 1 0 then some [[x.getD 0 0,y.getD 2 0],[x.getD 3 0,y.getD 3 0]] else if x.getD 3 0=y.getD 3 0 then some [[x.getD 0 0,y.getD 2 0],[x.getD 1 0,y.getD 1 0]] else none) else none
noncomputable def lensV(r s:List Int):Option (List (List Int)):=match loosV r s with
 |some P=>some P
 |none=>match loosV r (r2 s) with
  |some P=>some P
  |none=>match loosV (r2 r) s with
   |some P=>some P
   |none=>loosV (r2 r) (r2 s)
theorem bN{p:Nat}(h:0<=B/\B<(p:Int)):(A-B)%(p:Int)=0↔B=A%p:=by
 rw[←Int.emod_eq_emod_iff_emod_sub_eq_zero,zX h.1 h.2];exact⟨λe=>e.symm,λe=>e.symm⟩
theorem fc4{p:Nat}:fitC p f [a,b,c,d]=true↔f b=f d/\(2*f b-f a-f c)%(p:Int)=0:=by
 show((f b==f d)&&((2*f b-f a-f c)%(p:Int)==0))=true↔_;rw[xG,zB,zB]
theorem rows_le{Q:List (List Int)}(hi:i<Q.length)(hj:j<Q.length)(hij:i≠j)(v:Int):(Q.getD i []).count v+(Q.getD j []).count v<=Q.flatten.count v:=by
 have h:=jD Q [(i:Int),(j:Int)] v;have:(goneR Q [(i:Int),(j:Int)]).flatten.count v=(Q.getD i []).count v+(Q.getD j []).count v:=by
  unfold goneR;rw[jF hi hj hij];split<;>simp[y4]<;>omega
 omega
noncomputable def KeepC(Q:List (List Int))(m:Nat)(g:Int)(ks:List Int)(P:List (List Int)):Prop:=∃k:Nat,(joinV (withoutV Q ks) g P).2=g+k/\Sheet (numV (joinV (withoutV Q ks) g P).1) (m-ks.length)/\∀p,cntV p (2*m) Q=p^k*cntV p (2*(m-ks.length)) (numV (joinV (withoutV Q ks) g P).1)
theorem cV(s:Sheet Q m)(hi:i<m)(hj:j<m)(hij:i≠j)(g:Int)(hX:X.length=4)(hY:Y.length=4)(eX:∀(p:Nat) c,fitC p c X=true↔fitC p c (Q.getD i [])=true)(eY:∀(p:Nat) c,fitC p c Y=true↔fitC p c (Q.getD j [])=true)
  (cX:∀v,X.count v=(Q.getD i []).count v) (cY:∀v,Y.count v=(Q.getD j []).count v) (hP:loosV X Y=some P):KeepC Q m g [(i:Int),(j:Int)] P:=by
 obtain⟨a,b,c,d,rfl⟩:=row4 hX;obtain⟨a',b',c',d',rfl⟩:=row4 hY;have lo:loosV [a,b,c,d] [a',b',c',d']=if c=a' then(if b=b' then some [[a,c'],[d,d']] else if d=d' then some [[a,c'],[b,b']] else Option.none) else Option.none:=rfl;rw[lo] at hP;have le:=λv=>rows_le (Q:=Q) (i:=i) (j:=j) (by rw[s.len];exact hi) (by rw[s.len];exact hj) hij v;have two:∀v,Q.flatten.count v<=2:=λv=>by
  by_cases h:v∈Q.flatten
  ·obtain⟨h1,h2⟩:=s.two.rng v h
   have:=s.two.cnt v.toNat (by omega);rw[show((v.toNat:Nat):Int)=v by omega] at this;omega
  ·rw[List.count_eq_zero.mpr h];omega
 have tot:∀v,[a,b,c,d].count v+[a',b',c',d'].count v<=2:=λv=>by
  have h1:=le v;have h2:=two v;rw[←cX,←cY] at h1;omega
 by_cases h1:c=a'
 ·subst h1
  rw[xE rfl] at hP;by_cases h2:b=b'
  ·subst h2
   rw[xE rfl] at hP;cases hP;refine jG (x:=a) (y:=c') (o:=d) (q:=d') (u:=c) (w:=b) s hi hj hij g (λe=>?_) (λv=>?_) λp f vl=>?_
   ·subst e
    have:=tot c;simp only[xS,yL,zV,xD] at this;omega
   ·rw[←cX,←cY]
    simp only[xS,yL];omega
   ·rw[←eX,←eY,fc4,fc4]
    have va:=vl a (by simp);have vc:=vl c (by simp);have vc':=vl c' (by simp);constructor
    ·rintro⟨⟨q1,q2⟩,q3,q4⟩
     have r1:=(bN va (A:=2*f b-f c)).mp (by rw[←q2];congr 1;omega);have r2:=(bN vc' (A:=2*f b-f c)).mp q4;have r3:=(bN vc (A:=2*f b-f a)).mp q2;exact⟨r1.trans r2.symm,q1.symm.trans q3,q1,by rw[←q1];exact r3⟩
    ·rintro⟨q1,q2,q3,q4⟩
     rw[←q3] at q4;have r:=(bN vc (A:=2*f b-f a)).mpr q4;exact⟨⟨q3,r⟩,q3.trans q2,by rw[←q1,←r];congr 1;omega⟩
  ·rw[xC h2] at hP
   by_cases h3:d=d'
   ·subst h3
    rw[xE rfl] at hP;cases hP;refine jG (x:=a) (y:=c') (o:=b) (q:=b') (u:=c) (w:=d) s hi hj hij g (λe=>?_) (λv=>?_) λp f vl=>?_
    ·subst e
     have:=tot c;simp only[xS,yL,zV,xD] at this;omega
    ·rw[←cX,←cY]
     simp only[xS,yL];omega
    ·rw[←eX,←eY,fc4,fc4]
     have va:=vl a (by simp);have vc:=vl c (by simp);have vc':=vl c' (by simp);constructor
     ·rintro⟨⟨q1,q2⟩,q3,q4⟩
      have e:f b=f b':=q1.trans q3.symm;rw[←e] at q4;have r1:=(bN va (A:=2*f b-f c)).mp (by rw[←q2];congr 1;omega);have r2:=(bN vc' (A:=2*f b-f c)).mp q4;have r3:=(bN vc (A:=2*f b-f a)).mp q2;exact⟨r1.trans r2.symm,e,q1.symm,r3⟩
     ·rintro⟨q1,q2,q3,q4⟩
      have r:=(bN vc (A:=2*f b-f a)).mpr q4;exact⟨⟨q3.symm,r⟩,q2.symm.trans q3.symm,by rw[←q1,←q2,←r];congr 1;omega⟩
   ·rw[xC h3] at hP;cases hP
 ·rw[xC h1] at hP;cases hP
theorem Sheet.apart(s:Sheet Q m)(hi:i<m)(hj:j<m)(hij:i≠j)(g:Int)(hP:lensV (Q.getD i []) (Q.getD j [])=some P):KeepC Q m g [(i:Int),(j:Int)] P:=by
 have fi:=s.four _ (bJ (by rw[s.len];exact hi));have fj:=s.four _ (bJ (by rw[s.len];exact hj));have r2l:∀{r:List Int},r.length=4->(r2 r).length=4:=λh=>by
  obtain⟨a,b,c,d,rfl⟩:=row4 h;rfl
 have r2c:∀{r:List Int},r.length=4->∀v,(r2 r).count v=r.count v:=λh v=>by
  obtain⟨a,b,c,d,rfl⟩:=row4 h;show[c,d,a,b].count v=_;simp only[xS,yL];omega
 have r2f:∀{r:List Int},r.length=4->∀(p:Nat) f,fitC p f (r2 r)=true↔fitC p f r=true:=λh p f=>by
  obtain⟨a,b,c,d,rfl⟩:=row4 h;show fitC p f [c,d,a,b]=true↔_;rw[fc4,fc4];constructor
  ·rintro⟨q1,q2⟩
   exact⟨q1.symm,by rw[←q1,←q2];congr 1;omega⟩
  ·rintro⟨q1,q2⟩
   exact⟨q1.symm,by rw[←q1,←q2];congr 1;omega⟩
 unfold lensV at hP
 cases e1:loosV (Q.getD i []) (Q.getD j []) with
 |some P'=>
  rw[e1] at hP;cases hP;exact cV s hi hj hij g fi fj (λ_ _=>.rfl) (λ_ _=>.rfl) (λ_=>rfl) (λ_=>rfl) e1
 |none=>
  rw[e1] at hP;dsimp only at hP
  cases e2:loosV (Q.getD i []) (r2 (Q.getD j [])) with
  |some P'=>
   rw[e2] at hP;cases hP;exact cV s hi hj hij g fi (r2l fj) (λ_ _=>.rfl) (r2f fj) (λ_=>rfl) (r2c fj) e2
  |none=>
   rw[e2] at hP;dsimp only at hP
   cases e3:loosV (r2 (Q.getD i [])) (Q.getD j []) with
   |some P'=>
    rw[e3] at hP;cases hP;exact cV s hi hj hij g (r2l fi) fj (r2f fi) (λ_ _=>.rfl) (r2c fi) (λ_=>rfl) e3
   |none=>
    rw[e3] at hP;exact cV s hi hj hij g (r2l fi) (r2l fj) (r2f fi) (r2f fj) (r2c fi) (r2c fj) hP
noncomputable def put3(Q:List (List Int))(x y z:Nat)(a b c:List Int):List (List Int):=((Q.set x a).set y b).set z c
theorem dU(v:Int):∀{Q:List (List Int)}{k:Nat},k<Q.length->(Q.set k r').flatten.count v+(Q.getD k []).count v=Q.flatten.count v+r'.count v
 |q::Q,0,_=>by
  simp only[List.set_cons_zero,xZ,y4,List.getD_cons_zero];omega
 |q::Q,k+1,h=>by
  have:=dU (r':=r') v (Q:=Q) (k:=k) (by simpa using h);simp only[List.set_cons_succ,xZ,y4,List.getD_cons_succ];omega
 |[],_,h=>by simp at h
theorem aK{Q:List (List Int)}(h:k≠l):(Q.set k r).getD l []=Q.getD l []:=by
 rw[xY,xY,xR h]
theorem dJ{Q:List (List Int)}(h:k<Q.length):(Q.set k r).getD k []=r:=by
 rw[xY,x9 h];rfl
section
variable{Q:List (List Int)}{x y z:Nat}{a b c:List Int}(hx:x<Q.length)(hy:y<Q.length)(hz:z<Q.length)(hxy:x≠y)(hxz:x≠z)(hyz:y≠z)
include hx hy hz hxy hxz hyz
theorem jH(v:Int):(put3 Q x y z a b c).flatten.count v+((Q.getD x []).count v+(Q.getD y []).count v+(Q.getD z []).count v)=Q.flatten.count v+(a.count v+b.count v+c.count v):=by
 have h1:=dU (r':=a) v hx;have h2:=dU (r':=b) v (Q:=Q.set x a) (k:=y) (by rw[yV];exact hy);have h3:=dU (r':=c) v (Q:=(Q.set x a).set y b) (k:=z) (by rw[yV,yV];exact hz);rw[aK hxy] at h2;rw[aK hyz,aK hxz] at h3;unfold put3;omega
theorem jI(f:List Int->Bool):(put3 Q x y z a b c).all f=true↔(f a=true/\f b=true/\f c=true)/\∀k,k<Q.length->k≠x->k≠y->k≠z->f (Q.getD k [])=true:=by
 have hl:(put3 Q x y z a b c).length=Q.length:=by simp[put3]
 have gx:(put3 Q x y z a b c).getD x []=a:=by
  unfold put3;rw[aK hxz.symm,aK hxy.symm,dJ hx]
 have gy:(put3 Q x y z a b c).getD y []=b:=by
  unfold put3;rw[aK hyz.symm,dJ (by rw[yV];exact hy)]
 have gz:(put3 Q x y z a b c).getD z []=c:=by
  unfold put3;rw[dJ (by rw[yV,yV];exact hz)]
 have go:∀k,k≠x->k≠y->k≠z->(put3 Q x y z a b c).getD k []=Q.getD k []:=λk h1 h2 h3=>by
  unfold put3;rw[aK h3.symm,aK h2.symm,aK h1.symm]
 rw[←eD (put3 Q x y z a b c),List.all_map,List.all_eq_true,hl];constructor
 ·intro h
  have h':∀k,k<Q.length->f ((put3 Q x y z a b c).getD k [])=true:=λk hk=>h k (List.mem_range.mpr hk);refine⟨⟨by rw[←gx];exact h' x hx,by rw[←gy];exact h' y hy,by rw[←gz];exact h' z hz⟩,λk hk h1 h2 h3=>by rw[←go k h1 h2 h3];exact h' k hk⟩
 ·rintro⟨⟨ha,hb,hc⟩,h⟩ k hk
  have hk:=List.mem_range.mp hk;show f ((put3 Q x y z a b c).getD k [])=true;by_cases h1:k=x
  ·rw[h1,gx];exact ha
  ·by_cases h2:k=y
   ·rw[h2,gy];exact hb
   ·by_cases h3:k=z
    ·rw[h3,gz];exact hc
    ·rw[go k h1 h2 h3];exact h k hk h1 h2 h3
end
theorem h9(A B:Int)(p:Int):(A-B%p)%p=(A-B)%p:=by rw[Int.sub_emod,Int.emod_emod,←Int.sub_emod]
theorem two_mod(A B:Int)(p:Int):(2*(A%p)-B%p)%p=(2*A-B)%p:=by
 rw[h9,Int.sub_emod,Int.mul_emod,Int.emod_emod,←Int.mul_emod,←Int.sub_emod]
noncomputable def SC(p:Int)(f:Int->Int)(T U M N B C l1 l2 l3:Int):Prop:=f T=f l1/\f U=f l1/\f N=f l2/\f M=(2*f l1-f l2)%p/\f B=(2*f l1-f l3)%p/\f C=(2*f l2-f l3)%p
noncomputable def flp(p:Int)(l1 l2 l3:Int)(f:Int->Int)(n:Int):Int:=if n=l2 then(2*f l1-f l2)%p else if n=l3 then(2*f l1-2*f l2+f l3)%p else f n
section
variable{p:Nat}{f:Int->Int}{T U M N B C l1 l2 l3:Int}(h12:l1≠l2)(h13:l1≠l3)(h23:l2≠l3)
include h12 h13 h23
theorem wJ:flp p l1 l2 l3 f l1=f l1:=by unfold flp;rw[xC h12,xC h13]
theorem qS:flp p l1 l2 l3 f l2=(2*f l1-f l2)%p:=by unfold flp;rw[xE rfl]
theorem wK:flp p l1 l2 l3 f l3=(2*f l1-2*f l2+f l3)%p:=by unfold flp;rw[xC h23.symm,xE rfl]
theorem qT(h2:n≠l2)(h3:n≠l3):flp p l1 l2 l3 f n=f n:=by unfold flp;rw[xC h2,xC h3]
theorem qU(v2:0<=f l2/\f l2<(p:Int))(v3:0<=f l3/\f l3<(p:Int))(n:Int):flp p l1 l2 l3 (flp p l1 l2 l3 f) n=f n:=by
 by_cases e2:n=l2
 ·rw[e2,qS h12 h13 h23,wJ h12 h13 h23,qS h12 h13 h23,h9,show 2*f l1-(2*f l1-f l2)=f l2 by omega]
  exact zX v2.1 v2.2
 ·by_cases e3:n=l3
  ·rw[e3,wK h12 h13 h23,wJ h12 h13 h23,qS h12 h13 h23,wK h12 h13 h23]
   have:(2*f l1-2*((2*f l1-f l2)%(p:Int))+(2*f l1-2*f l2+f l3)%(p:Int))%(p:Int)=f l3%(p:Int):=by
    have e1:=Int.emod_def (2*f l1-f l2) p;have e2:=Int.emod_def (2*f l1-2*f l2+f l3) p;generalize (2*f l1-f l2)/(p:Int)=a at e1;generalize (2*f l1-2*f l2+f l3)/(p:Int)=b at e2;rw[e1,e2,show 2*f l1-2*(2*f l1-f l2-(p:Int)*a)+(2*f l1-2*f l2+f l3-(p:Int)*b)=f l3+((p:Int)*a+(p:Int)*a-(p:Int)*b) by omega,←Int.mul_add,←Int.mul_sub,Int.add_mul_emod_self_left]
   rw[this];exact zX v3.1 v3.2
  ·rw[qT h12 h13 h23 e2 e3,qT h12 h13 h23 e2 e3]
theorem wL(v2:0<=f l2/\f l2<(p:Int))(ho:∀n∈[T,U,M,N,B,C],n≠l2/\n≠l3)(h:SC p f T U M N B C l1 l2 l3):SC p (flp p l1 l2 l3 f) T U N M C B l1 l2 l3:=by
 obtain⟨a1,a2,a3,a4,a5,a6⟩:=h;have o:=λn hn=>qT (p:=p) (f:=f) h12 h13 h23 (ho n hn).1 (ho n hn).2;unfold SC;rw[o T (by simp),o U (by simp),o M (by simp),o N (by simp),o B (by simp),o C (by simp),wJ h12 h13 h23,qS h12 h13 h23,wK h12 h13 h23];refine⟨a1,a2,a4,?_,?_,?_⟩
 ·rw[h9,show 2*f l1-(2*f l1-f l2)=f l2 by omega,zX v2.1 v2.2];exact a3
 ·rw[h9,a6];congr 1;omega
 ·rw[two_mod,a5];congr 1;omega
end
theorem sV(s:Sheet Q m)(hx:x<m)(hy:y<m)(hz:z<m)(hxy:x≠y)(hxz:x≠z)(hyz:y≠z)(c4:c.length=4)(g4:g.length=4)(h4:h.length=4)
  (ho:∀v,(Q.getD x []).count v+(Q.getD y []).count v+(Q.getD z []).count v=[T,U,M,N,B,C].count v+2*[l1,l2,l3].count v) (hn:∀v,c.count v+g.count v+h.count v=[T,U,M,N,B,C].count v+2*[l1,l2,l3].count v)
  (fo:∀(p:Nat) f,(∀n∈[T,U,M,N,B,C,l1,l2,l3],0<=f n/\f n<(p:Int))->(fitC p f (Q.getD x [])=true/\fitC p f (Q.getD y [])=true/\fitC p f (Q.getD z [])=true↔SC p f T U M N B C l1 l2 l3))
  (fn:∀(p:Nat) f,(∀n∈[T,U,M,N,B,C,l1,l2,l3],0<=f n/\f n<(p:Int))->(fitC p f c=true/\fitC p f g=true/\fitC p f h=true↔SC p f T U N M C B l1 l2 l3)):
  Sheet (numV (put3 Q x y z c g h)) m/\∀p,cntV p (2*m) (numV (put3 Q x y z c g h))=cntV p (2*m) Q:=by
 have lx:x<Q.length:=by rw[s.len];exact hx
 have ly:y<Q.length:=by rw[s.len];exact hy
 have lz:z<Q.length:=by rw[s.len];exact hz
 have ce:∀v,(put3 Q x y z c g h).flatten.count v=Q.flatten.count v:=λv=>by
  have:=jH (a:=c) (b:=g) (c:=h) lx ly lz hxy hxz hyz v;rw[ho v,hn v] at this;omega
 have c2:∀v∈Q.flatten,Q.flatten.count v=2:=λv hv=>by
  obtain⟨h1,h2⟩:=s.two.rng v hv;have:=s.two.cnt v.toNat (by omega);rwa[show((v.toNat:Nat):Int)=v by omega] at this
 have me:∀v,v∈(put3 Q x y z c g h).flatten↔v∈Q.flatten:=λv=>by rw[←List.count_pos_iff,ce,List.count_pos_iff]
 have n4:∀r∈put3 Q x y z c g h,r.length=4:=λr hr=>by
  rcases List.mem_or_eq_of_mem_set hr with hr|rfl
  ·rcases List.mem_or_eq_of_mem_set hr with hr|rfl
   ·rcases List.mem_or_eq_of_mem_set hr with hr|rfl
    ·exact s.four r hr
    ·exact c4
   ·exact g4
  ·exact h4
 have hl:(put3 Q x y z c g h).length=m:=by simp[put3,s.len]
 obtain⟨sh,hN⟩:=nU n4 λv hv=>by rw[ce];exact c2 v ((me v).mp hv)
 rw[hl] at sh hN;refine⟨sh,λp=>?_⟩;have tot:∀v,[T,U,M,N,B,C].count v+2*[l1,l2,l3].count v<=Q.flatten.count v:=λv=>by
  have:=jH (a:=[]) (b:=[]) (c:=[]) lx ly lz hxy hxz hyz v;rw[ho v] at this;simp only[yL] at this;omega
 have inQ:∀n∈[T,U,M,N,B,C,l1,l2,l3],n∈Q.flatten:=λn hn=>by
  have:n∈[T,U,M,N,B,C]\/n∈[l1,l2,l3]:=by simpa[or_assoc] using hn
  have:=tot n;rw[←List.count_pos_iff];rename_i h0;rcases h0 with h|h
  ·have:=List.count_pos_iff.mpr h;omega
  ·have:=List.count_pos_iff.mpr h;omega
 have le2:∀v∈[l1,l2,l3],[T,U,M,N,B,C].count v=0/\[l1,l2,l3].count v=1:=λv hv=>by
  have h1:=tot v;rw[c2 v (inQ v (by simp at hv⊢;omega))] at h1;have:=List.count_pos_iff.mpr hv;omega
 have e2:=le2 l2 (by simp);have e3:=le2 l3 (by simp);have n0:∀n∈[T,U,M,N,B,C],n≠l2/\n≠l3:=λn hn=>⟨λe=>List.count_eq_zero.mp e2.1 (e▸hn),λe=>List.count_eq_zero.mp e3.1 (e▸hn)⟩
 have h12:l1≠l2:=λe=>by have:=e2.2;rw[e] at this;simp[xS] at this
 have h13:l1≠l3:=λe=>by have:=e3.2;rw[e] at this;simp[xS] at this
 have h23:l2≠l3:=λe=>by have:=e3.2;rw[e] at this;simp[xS] at this;split at this<;>omega
 have fr:∀k,k<Q.length->k≠x->k≠y->k≠z->∀v∈Q.getD k [],v≠l2/\v≠l3:=λk hk k1 k2 k3 v hv=>by
  have z0:∀l∈[l1,l2,l3],(put3 Q x y z [] [] []).flatten.count l=0:=λl hm=>by
   have:=jH (a:=[]) (b:=[]) (c:=[]) lx ly lz hxy hxz hyz l;have e:=le2 l hm;have q:=c2 l (inQ l (by simp at hm⊢;omega));rw[ho l,e.1,e.2,q] at this;simp only[yL] at this;omega
  have al:=(jI (a:=[]) (b:=[]) (c:=[]) lx ly lz hxy hxz hyz λr=>r.all λu=>decide (u≠l2/\u≠l3)).mp (by
   rw[List.all_eq_true];intro r hr;rw[List.all_eq_true];intro u hu;have hm:=zF.2 ⟨r,hr,hu⟩;exact yJ ⟨λe=>List.count_eq_zero.mp (z0 l2 (by simp)) (e▸hm),λe=>List.count_eq_zero.mp (z0 l3 (by simp)) (e▸hm)⟩)
  have:=List.all_eq_true.mp (al.2 k hk k1 k2 k3) v hv;exact of_decide_eq_true this
 have ps:put3 Q x y z (Q.getD x []) (Q.getD y []) (Q.getD z [])=Q:=by
  have h:∀{R:List (List Int)}{k:Nat},k<R.length->R.set k (R.getD k [])=R:=λ{R k} hk=>by
   have:R.getD k []=R[k]:=by simp[hk]
   rw[this,List.set_getElem_self]
  unfold put3;rw[h lx,h ly,h lz]
 have aQ:∀f:List Int->Bool,Q.all f=true↔(f (Q.getD x [])=true/\f (Q.getD y [])=true/\f (Q.getD z [])=true)/\∀k,k<Q.length->k≠x->k≠y->k≠z->f (Q.getD k [])=true:=λf=>by
  have:=jI (a:=Q.getD x []) (b:=Q.getD y []) (c:=Q.getD z []) lx ly lz hxy hxz hyz f;rw[ps] at this;exact this
 have aR:=λf:List Int->Bool=>jI (a:=c) (b:=g) (c:=h) lx ly lz hxy hxz hyz f;have keep:∀(f:Int->Int) k,k<Q.length->k≠x->k≠y->k≠z->fitC p (flp p l1 l2 l3 f) (Q.getD k [])=fitC p f (Q.getD k []):=λf k hk k1 k2 k3=>
  jC (s.four _ (bJ hk)) λv hv=>qT h12 h13 h23 (fr k hk k1 k2 k3 v hv).1 (fr k hk k1 k2 k3 v hv).2
 have m1:∀v,v∈dd [] (put3 Q x y z c g h).flatten↔v∈Q.flatten:=λv=>by rw[aN];simp[me]
 have m0:∀v,v∈dd [] Q.flatten↔v∈Q.flatten:=λv=>by rw[aN];simp
 have vf:∀f:Int->Int,(∀n∈Q.flatten,0<=f n/\f n<(p:Int))->∀n∈Q.flatten,0<=flp p l1 l2 l3 f n/\flp p l1 l2 l3 f n<(p:Int):=λf hf n hn=>by
  have pp:(0:Int)<p:=by have:=hf n hn;omega
  unfold flp;split
  ·exact⟨Int.emod_nonneg _ (by omega),zR _ pp⟩
  ·split
   ·exact⟨Int.emod_nonneg _ (by omega),zR _ pp⟩
   ·exact hf n hn
 have i2:=inQ l2 (by simp);have i3:=inQ l3 (by simp);have lf:∀(S:List Int),(∀v,v∈S↔v∈Q.flatten)->∀u w:Int->Int,(∀n∈S,u n=w n)->∀n∈Q.flatten,flp p l1 l2 l3 u n=flp p l1 l2 l3 w n:=λS hS u w e n hn=>by
  unfold flp;rw[e l1 ((hS _).mpr (inQ l1 (by simp))),e l2 ((hS _).mpr i2),e l3 ((hS _).mpr i3),e n ((hS _).mpr hn)]
 have nn:∀n∈[T,U,N,M,C,B],n≠l2/\n≠l3:=λn hn=>n0 n (by simp at hn⊢;omega);rw[dS n4 hN,←fB s.four s.two,dS s.four (cR s.two)];have eL:∀(R:List (List Int)) f,LP p R [] f=R.all (fitC p f):=λR f=>by show(_&&true)=_;rw[Bool.and_true]
 refine hZ (aW [] _ zQ) (aW [] _ zQ) (b7 n4 (λr hr=>by cases hr) λv hv=>(m1 v).mpr ((me v).mp (by simpa using hv))) (b7 s.four (λr hr=>by cases hr) λv hv=>(m0 v).mpr (by simpa using hv)) (flp p l1 l2 l3) (flp p l1 l2 l3) (λf v k=>?_) (λf v k=>?_) (λu w e n hn=>lf _ m1 u w e n ((m0 n).mp hn)) λu w e n hn=>lf _ m0 u w e n ((m1 n).mp hn)
 ·rw[eL,aR] at k
  have v:∀n∈Q.flatten,0<=f n/\f n<(p:Int):=λn hn=>v n ((m1 n).mpr hn);refine⟨λn hn=>vf f v n ((m0 n).mp hn),?_,λn _=>qU h12 h13 h23 (v l2 i2) (v l3 i3) n⟩;rw[eL,aQ];refine⟨(fo p _ λn hn=>vf f v n (inQ n hn)).mpr (wL h12 h13 h23 (v l2 i2) nn ((fn p f λn hn=>v n (inQ n hn)).mp k.1)),λj hj j1 j2 j3=>?_⟩;rw[keep f j hj j1 j2 j3];exact k.2 j hj j1 j2 j3
 ·rw[eL,aQ] at k
  have v:∀n∈Q.flatten,0<=f n/\f n<(p:Int):=λn hn=>v n ((m0 n).mpr hn);refine⟨λn hn=>vf f v n ((m1 n).mp hn),?_,λn _=>qU h12 h13 h23 (v l2 i2) (v l3 i3) n⟩;rw[eL,aR];refine⟨(fn p _ λn hn=>vf f v n (inQ n hn)).mpr (wL h12 h13 h23 (v l2 i2) n0 ((fo p f λn hn=>v n (inQ n hn)).mp k.1)),λj hj j1 j2 j3=>?_⟩;rw[keep f j hj j1 j2 j3];exact k.2 j hj j1 j2 j3
theorem cL{P:Nat}(r4:r.length=4)(hi:i=1\/i=3)(he:e=0\/e=2)(v:0<=f (r.getD ((e+2)%4) 0)/\f (r.getD ((e+2)%4) 0)<(P:Int)):
  fitC P f r=true↔f (r.getD ((i+2)%4) 0)=f (r.getD i 0)/\f (r.getD ((e+2)%4) 0)=(2*f (r.getD i 0)-f (r.getD e 0))%P:=by
 obtain⟨a,b,c,d,rfl⟩:=row4 r4;rw[fc4];rcases hi with rfl|rfl<;>rcases he with rfl|rfl
 ·show _↔f d=f b/\f c=(2*f b-f a)%P
  rw[←bN (show 0<=f c/\f c<(P:Int) from v)];exact⟨λh=>⟨h.1.symm,h.2⟩,λh=>⟨h.1.symm,h.2⟩⟩
 ·show _↔f d=f b/\f a=(2*f b-f c)%P
  rw[←bN (show 0<=f a/\f a<(P:Int) from v),show 2*f b-f c-f a=2*f b-f a-f c by omega];exact⟨λh=>⟨h.1.symm,h.2⟩,λh=>⟨h.1.symm,h.2⟩⟩
 ·show _↔f b=f d/\f c=(2*f d-f a)%P
  rw[←bN (show 0<=f c/\f c<(P:Int) from v)];exact⟨λh=>⟨h.1,by rw[←h.1];exact h.2⟩,λh=>⟨h.1,by rw[h.1];exact h.2⟩⟩
 ·show _↔f b=f d/\f a=(2*f d-f c)%P
  rw[←bN (show 0<=f a/\f a<(P:Int) from v)];exact⟨λh=>⟨h.1,by rw[←h.1,←h.2];congr 1;omega⟩,λh=>⟨h.1,by rw[h.1,←h.2];congr 1;omega⟩⟩
theorem cM{r:List Int}(r4:r.length=4)(hi:i=1\/i=3)(he:e=0\/e=2)(v:Int):r.count v=[r.getD i 0,r.getD ((i+2)%4) 0,r.getD e 0,r.getD ((e+2)%4) 0].count v:=by
 obtain⟨a,b,c,d,rfl⟩:=row4 r4;rcases hi with rfl|rfl<;>rcases he with rfl|rfl
 ·show _=[b,d,a,c].count v
  simp only[xS,yL];omega
 ·show _=[b,d,c,a].count v
  simp only[xS,yL];omega
 ·show _=[d,b,a,c].count v
  simp only[xS,yL];omega
 ·show _=[d,b,c,a].count v
  simp only[xS,yL];omega
noncomputable def endsR(i e:Nat)(a b c d:Int):List Int:=(((List.replicate 4 (0:Int)).set i a).set ((i+2)%4) b|>.set e c).set ((e+2)%4) d
theorem pA(hi:i=1\/i=3)(he:e=0\/e=2)(a b c d:Int):(endsR i e a b c d).length=4/\(endsR i e a b c d).getD i 0=a/\(endsR i e a b c d).getD ((i+2)%4) 0=b/\(endsR i e a b c d).getD e 0=c/\(endsR i e a b c d).getD ((e+2)%4) 0=d:=by
 rcases hi with rfl|rfl<;>rcases he with rfl|rfl<;>exact⟨rfl,rfl,rfl,rfl,rfl⟩
theorem op13(h:i=1\/i=3):((i+2)%4=1\/(i+2)%4=3)/\((i+2)%4+2)%4=i:=by rcases h with rfl|rfl<;>decide
theorem op02(h:i=0\/i=2):((i+2)%4=0\/(i+2)%4=2)/\((i+2)%4+2)%4=i:=by rcases h with rfl|rfl<;>decide
theorem sW(s:Sheet Q m)(hx:x<m)(hy:y<m)(hz:z<m)(hxy:x≠y)(hxz:x≠z)(hyz:y≠z)(hi:i=1\/i=3)(hp:p=0\/p=2)(hj:j=1\/j=3)(hr:r=0\/r=2)(ho:o=1\/o=3)(hq:q=0\/q=2)
  (e1:(Q.getD y []).getD j 0=(Q.getD x []).getD i 0) (e2:(Q.getD z []).getD q 0=(Q.getD y []).getD r 0) (e3:(Q.getD z []).getD o 0=(Q.getD x []).getD p 0)
  (ec:c=endsR i p ((Q.getD y []).getD ((j+2)%4) 0) ((Q.getD x []).getD i 0) ((Q.getD z []).getD ((o+2)%4) 0) ((Q.getD x []).getD p 0)) (eg:g=endsR j r ((Q.getD x []).getD ((i+2)%4) 0) ((Q.getD x []).getD i 0) ((Q.getD z []).getD ((q+2)%4) 0) ((Q.getD y []).getD r 0)) (eh:h=endsR o q ((Q.getD x []).getD ((p+2)%4) 0) ((Q.getD x []).getD p 0) ((Q.getD y []).getD ((r+2)%4) 0) ((Q.getD y []).getD r 0)):
  Sheet (numV (put3 Q x y z c g h)) m/\∀p,cntV p (2*m) (numV (put3 Q x y z c g h))=cntV p (2*m) Q:=by
 have fx:=s.four _ (bJ (by rw[s.len];exact hx));have fy:=s.four _ (bJ (by rw[s.len];exact hy));have fz:=s.four _ (bJ (by rw[s.len];exact hz));have cx:=cM fx hi hp;have cy:=cM fy hj hr;have cz:=cM fz ho hq;have tx:=λ(P:Nat) f v=>cL (P:=P) (f:=f) fx hi hp v;have ty:=λ(P:Nat) f v=>cL (P:=P) (f:=f) fy hj hr v;have tz:=λ(P:Nat) f v=>cL (P:=P) (f:=f) fz ho hq v;have opi:=op13 hi;have opj:=op13 hj;have opo:=op13 ho;have opp:=op02 hp;have opr:=op02 hr;have opq:=op02 hq;rw[e1] at cy ty;rw[e2,e3] at cz tz;generalize (Q.getD x []).getD i 0=l1 at*;generalize (Q.getD x []).getD p 0=l2 at*;generalize (Q.getD y []).getD r 0=l3 at*;generalize (Q.getD x []).getD ((i+2)%4) 0=T at*;generalize (Q.getD x []).getD ((p+2)%4) 0=M at*;generalize (Q.getD y []).getD ((j+2)%4) 0=U at*;generalize (Q.getD y []).getD ((r+2)%4) 0=B at*;generalize (Q.getD z []).getD ((o+2)%4) 0=N at*;generalize (Q.getD z []).getD ((q+2)%4) 0=C at*;obtain⟨a4,a1,a2,a3,a5⟩:=pA hi hp U l1 N l2;obtain⟨b4,b1,b2,b3,b5⟩:=pA hj hr T l1 C l3;obtain⟨d4,d1,d2,d3,d5⟩:=pA ho hq M l2 B l3;rw[←ec] at a4 a1 a2 a3 a5;rw[←eg] at b4 b1 b2 b3 b5;rw[←eh] at d4 d1 d2 d3 d5;have uc:=cM a4 hi hp;have ug:=cM b4 hj hr;have uh:=cM d4 ho hq;rw[a1,a2,a3,a5] at uc;rw[b1,b2,b3,b5] at ug;rw[d1,d2,d3,d5] at uh;refine sV (T:=T) (U:=U) (M:=M) (N:=N) (B:=B) (C:=C) (l1:=l1) (l2:=l2) (l3:=l3) s hx hy hz hxy hxz hyz a4 b4 d4 (λv=>?_) (λv=>?_) (λP f vl=>?_) λP f vl=>?_
 ·rw[cx,cy,cz]
  simp only[xS,yL];omega
 ·rw[uc,ug,uh]
  simp only[xS,yL];omega
 ·rw[tx P f (vl M (by simp)),ty P f (vl B (by simp)),tz P f (vl C (by simp))]
  unfold SC;exact⟨λ⟨⟨p1,p2⟩,⟨p3,p4⟩,p5,p6⟩=>⟨p1,p3,p5,p2,p4,p6⟩,λ⟨p1,p3,p5,p2,p4,p6⟩=>⟨⟨p1,p2⟩,⟨p3,p4⟩,p5,p6⟩⟩
 ·have sx:=cL (P:=P) (f:=f) a4 opi.1 opp.1 (by rw[opp.2,a3];exact vl N (by simp))
  have sy:=cL (P:=P) (f:=f) b4 opj.1 opr.1 (by rw[opr.2,b3];exact vl C (by simp));have sz:=cL (P:=P) (f:=f) d4 opo.1 opq.1 (by rw[opq.2,d3];exact vl B (by simp));rw[opi.2,opp.2,a1,a2,a3,a5] at sx;rw[opj.2,opr.2,b1,b2,b3,b5] at sy;rw[opo.2,opq.2,d1,d2,d3,d5] at sz;rw[sx,sy,sz];unfold SC;exact⟨λ⟨⟨p1,p2⟩,⟨p3,p4⟩,p5,p6⟩=>⟨p3,p1,p5,p2,p4,p6⟩,λ⟨p3,p1,p5,p2,p4,p6⟩=>⟨⟨p1,p2⟩,⟨p3,p4⟩,p5,p6⟩⟩
noncomputable def endV(r:List Int)(a b:Nat)(t:Int):Option Nat:=if r.getD a 0=t then some a else if r.getD b 0=t then some b else none
noncomputable def slideV(c g h:List Int)(low step:Nat):Option (List Nat):=match endV g 1 3 (c.getD ((low+step)%4) 0) with
 |none=>none
 |some j=>match endV h 0 2 (g.getD ((j+step)%4) 0) with
  |none=>none
  |some q=>if h.getD ((q+step)%4) 0=c.getD low 0 then some [low,(low+step)%4,j,(j+step)%4,q,(q+step)%4] else none
noncomputable def pass1(Q L:List (List Int))(a b:Nat×Nat):List (List Int):=setP (setP (setP (setP L a (lineV Q (oppV b))) b (lineV Q (oppV a))) (oppV a) (lineV Q a)) (oppV b) (lineV Q a)
noncomputable def passV(Q:List (List Int))(x y z p i j r q o:Nat):List (List Int):=pass1 Q (pass1 Q (pass1 Q Q (x,i) (y,j)) (x,p) (z,o)) (y,r) (z,q)
noncomputable def firstS:List (Option (List Nat))->Option (List Nat)
 |[]=>none
 |some f::_=>some f
 |none::r=>firstS r
noncomputable def slidesV(c g h:List Int):Option (List Nat):=firstS [slideV c g h 0 1,slideV c g h 2 1,slideV c g h 0 3,slideV c g h 2 3]
noncomputable def passF(Q:List (List Int))(x y z:Nat):List Nat->List (List Int)
 |[p,i,j,r,q,o]=>passV Q x y z p i j r q o
 |_=>[]
section
variable{Q:List (List Int)}{x y z:Nat}{a b c:List Int}
theorem put3_x(hx:x<Q.length)(hxy:x≠y)(hxz:x≠z)(e:Nat)(v:Int):setP (put3 Q x y z a b c) (x,e) v=put3 Q x y z (a.set e v) b c:=by
 unfold setP put3;have g1:(((Q.set x a).set y b).set z c).getD x []=a:=by
  rw[xY,xR (yI hxz),xR (yI hxy),x9 hx];rfl
 show(((Q.set x a).set y b).set z c).set x (((((Q.set x a).set y b).set z c).getD x []).set e v)=_;rw[g1,List.set_comm _ _ hxz.symm,List.set_comm _ _ hxy.symm,List.set_set]
theorem put3_y(hy:y<Q.length)(hyz:y≠z)(e:Nat)(v:Int):setP (put3 Q x y z a b c) (y,e) v=put3 Q x y z a (b.set e v) c:=by
 unfold setP put3;have g1:(((Q.set x a).set y b).set z c).getD y []=b:=by
  rw[xY,xR (yI hyz),x9 (by rw[yV];exact hy)];rfl
 show(((Q.set x a).set y b).set z c).set y (((((Q.set x a).set y b).set z c).getD y []).set e v)=_;rw[g1,List.set_comm _ _ hyz.symm,List.set_set]
theorem put3_z(hz:z<Q.length)(e:Nat)(v:Int):setP (put3 Q x y z a b c) (z,e) v=put3 Q x y z a b (c.set e v):=by
 unfold setP put3;have g1:(((Q.set x a).set y b).set z c).getD z []=c:=by
  rw[xY,x9 (by rw[yV,yV];exact hz)];rfl
 show(((Q.set x a).set y b).set z c).set z (((((Q.set x a).set y b).set z c).getD z []).set e v)=_;rw[g1,List.set_set]
theorem sX(hx:x<Q.length)(hy:y<Q.length)(hz:z<Q.length):put3 Q x y z (Q.getD x []) (Q.getD y []) (Q.getD z [])=Q:=by
 have h:∀{R:List (List Int)}{k:Nat},k<R.length->R.set k (R.getD k [])=R:=λ{R k} hk=>by
  have:R.getD k []=R[k]:=by simp[hk]
  rw[this,List.set_getElem_self]
 unfold put3;rw[h hx,h hy,h hz]
end
noncomputable def newC(c g h:List Int):List Nat->List Int
 |[p,i,j,r,q,o]=>(((c.set ((i+2)%4) (c.getD i 0)).set i (g.getD ((j+2)%4) 0)).set ((p+2)%4) (c.getD p 0)).set p (h.getD ((o+2)%4) 0)
 |_=>[]
noncomputable def newG(c g h:List Int):List Nat->List Int
 |[p,i,j,r,q,o]=>(((g.set j (c.getD ((i+2)%4) 0)).set ((j+2)%4) (c.getD i 0)).set ((r+2)%4) (g.getD r 0)).set r (h.getD ((q+2)%4) 0)
 |_=>[]
noncomputable def newH(c g h:List Int):List Nat->List Int
 |[p,i,j,r,q,o]=>(((h.set o (c.getD ((p+2)%4) 0)).set ((o+2)%4) (c.getD p 0)).set q (g.getD ((r+2)%4) 0)).set ((q+2)%4) (g.getD r 0)
 |_=>[]
noncomputable def form(f:List Nat):Prop:=∃s p j q:Nat,(s=1\/s=3)/\(p=0\/p=2)/\(j=1\/j=3)/\(q=0\/q=2)/\f=[p,(p+s)%4,j,(j+s)%4,q,(q+s)%4]
theorem wM(h4:∀r∈Q,r.length=4)(hx:x<Q.length)(hy:y<Q.length)(hz:z<Q.length)(hxy:x≠y)(hxz:x≠z)(hyz:y≠z)(hf:form f):
  passF Q x y z f=put3 Q x y z (newC (Q.getD x []) (Q.getD y []) (Q.getD z []) f) (newG (Q.getD x []) (Q.getD y []) (Q.getD z []) f) (newH (Q.getD x []) (Q.getD y []) (Q.getD z []) f):=by
 have e0:∀A B:Nat×Nat,pass1 Q Q A B=pass1 Q (put3 Q x y z (Q.getD x []) (Q.getD y []) (Q.getD z [])) A B:=λA B=>by rw[sX hx hy hz]
 have r4:∀{k:Nat},k<Q.length->(Q.getD k []).length=4:=λ{k} hk=>by
  have:Q.getD k []=Q[k]:=by simp[hk]
  rw[this];exact h4 _ (xV hk)
 have lx:∀e,lineV Q (x,e)=(Q.getD x []).getD e 0:=λ_=>rfl;have ly:∀e,lineV Q (y,e)=(Q.getD y []).getD e 0:=λ_=>rfl;have lz:∀e,lineV Q (z,e)=(Q.getD z []).getD e 0:=λ_=>rfl;have op:∀a e:Nat,oppV (a,e)=(a,(e+2)%4):=λ_ _=>rfl;have q1:=r4 hx;have q2:=r4 hy;have q3:=r4 hz;obtain⟨s,p,j,q,hs,hp,hj,hq,rfl⟩:=hf;show passV Q x y z p ((p+s)%4) j ((j+s)%4) q ((q+s)%4)=_;unfold passV;rw[e0];simp only[pass1,op,lx,ly,lz];generalize Q.getD x []=c at*;generalize Q.getD y []=g at*;generalize Q.getD z []=h at*;simp only[put3_x hx hxy hxz,put3_y hy hyz,put3_z hz];obtain⟨c0,c1,c2,c3,rfl⟩:=row4 q1;obtain⟨g0,g1,g2,g3,rfl⟩:=row4 q2;obtain⟨h0,h1,h2,h3,rfl⟩:=row4 q3;clear e0;rcases hs with rfl|rfl<;>rcases hp with rfl|rfl<;>rcases hj with rfl|rfl<;>rcases hq with rfl|rfl<;>rfl
theorem fF(h:endV r a b t=some e):(e=a\/e=b)/\r.getD e 0=t:=by
 unfold endV at h;by_cases h1:r.getD a 0=t
 ·rw[xE h1] at h
  cases h;exact⟨.inl rfl,h1⟩
 ·rw[xC h1] at h
  by_cases h2:r.getD b 0=t
  ·rw[xE h2] at h
   cases h;exact⟨.inr rfl,h2⟩
  ·rw[xC h2] at h;cases h
theorem pB(e:slideV c g h low step=some f):∃j q:Nat,(j=1\/j=3)/\(q=0\/q=2)/\f=[low,(low+step)%4,j,(j+step)%4,q,(q+step)%4]/\g.getD j 0=c.getD ((low+step)%4) 0/\h.getD q 0=g.getD ((j+step)%4) 0/\h.getD ((q+step)%4) 0=c.getD low 0:=by
 unfold slideV at e
 cases e1:endV g 1 3 (c.getD ((low+step)%4) 0) with
 |none=>rw[e1] at e;cases e
 |some j=>
  rw[e1] at e;dsimp only at e
  cases e2:endV h 0 2 (g.getD ((j+step)%4) 0) with
  |none=>rw[e2] at e;cases e
  |some q=>
   rw[e2] at e;dsimp only at e;by_cases h3:h.getD ((q+step)%4) 0=c.getD low 0
   ·rw[xE h3] at e
    cases e;exact⟨j,q,(fF e1).1,(fF e2).1,rfl,(fF e1).2,(fF e2).2,h3⟩
   ·rw[xC h3] at e;cases e
theorem nY(e:slidesV c g h=some f):∃low step:Nat,(low=0\/low=2)/\(step=1\/step=3)/\slideV c g h low step=some f:=by
 unfold slidesV at e
 cases e1:slideV c g h 0 1 with
 |some f'=>rw[e1] at e;cases e;exact⟨0,1,.inl rfl,.inl rfl,e1⟩
 |none=>
  rw[e1] at e
  cases e2:slideV c g h 2 1 with
  |some f'=>rw[e2] at e;cases e;exact⟨2,1,.inr rfl,.inl rfl,e2⟩
  |none=>
   rw[e2] at e
   cases e3:slideV c g h 0 3 with
   |some f'=>rw[e3] at e;cases e;exact⟨0,3,.inl rfl,.inr rfl,e3⟩
   |none=>
    rw[e3] at e
    cases e4:slideV c g h 2 3 with
    |some f'=>rw[e4] at e;cases e;exact⟨2,3,.inr rfl,.inr rfl,e4⟩
    |none=>rw[e4] at e;cases e
theorem Sheet.slid(s:Sheet Q m)(hx:x<m)(hy:y<m)(hz:z<m)(hxy:x≠y)(hxz:x≠z)(hyz:y≠z)(e:slidesV (Q.getD x []) (Q.getD y []) (Q.getD z [])=some f):
  Sheet (numV (passF Q x y z f)) m/\∀p,cntV p (2*m) (numV (passF Q x y z f))=cntV p (2*m) Q:=by
 obtain⟨p,t,hp,ht,e⟩:=nY e;obtain⟨j,q,hj,hq,rfl,e1,e2,e3⟩:=pB e;rw[wM s.four (by rw[s.len];exact hx) (by rw[s.len];exact hy) (by rw[s.len];exact hz) hxy hxz hyz ⟨t,p,j,q,ht,hp,hj,hq,rfl⟩];have fx:=s.four _ (bJ (by rw[s.len];exact hx));have fy:=s.four _ (bJ (by rw[s.len];exact hy));have fz:=s.four _ (bJ (by rw[s.len];exact hz));refine sW (i:=(p+t)%4) (p:=p) (j:=j) (r:=(j+t)%4) (o:=(q+t)%4) (q:=q) s hx hy hz hxy hxz hyz (by omega) hp hj (by omega) (by omega) hq e1 e2 e3 ?_ ?_ ?_
 ·clear e1 e2 e3 e
  generalize Q.getD x []=c at*;obtain⟨c0,c1,c2,c3,rfl⟩:=row4 fx;rcases ht with rfl|rfl<;>rcases hp with rfl|rfl<;>rfl
 ·clear e1 e2 e3 e
  generalize Q.getD y []=c at*;obtain⟨c0,c1,c2,c3,rfl⟩:=row4 fy;rcases ht with rfl|rfl<;>rcases hj with rfl|rfl<;>rfl
 ·clear e1 e2 e3 e
  generalize Q.getD z []=c at*;obtain⟨c0,c1,c2,c3,rfl⟩:=row4 fz;rcases ht with rfl|rfl<;>rcases hq with rfl|rfl<;>rfl
theorem Sheet.ring(s:Sheet Q m)(hw:w<4):Sheet (numV (Q++[curlV (2*m:Nat) (2*m:Nat) ((2*m:Nat)+1) w])) (m+1)/\∀p,p=2\/p=3\/p=5->cntV p (2*(m+1)) (numV (Q++[curlV (2*m:Nat) (2*m:Nat) ((2*m:Nat)+1) w]))=cntV p (2*m) Q*p:=by
 have hw':w=0\/w=1\/w=2\/w=3:=by omega
 have e:Q++[curlV (2*m:Nat) (2*m:Nat) ((2*m:Nat)+1) w]=Q++[curlV 0 0 1 w].map (raised (2*m:Nat)):=by
  congr 1
  show[_]=[raised _ _]
  congr 1
  rcases hw' with rfl|rfl|rfl|rfl<;>simp[curlV,raised]<;>omega
 have r:Sheet [curlV 0 0 1 w] 1:=by
  rcases hw' with rfl|rfl|rfl|rfl<;>exact⟨rfl,by decide,by decide,by decide⟩
 have c:∀p,p=2\/p=3\/p=5->cntV p (2*1) [curlV 0 0 1 w]=p:=λp hp=>by
  rcases hw' with rfl|rfl|rfl|rfl<;>rcases hp with rfl|rfl|rfl<;>decide+kernel
 obtain⟨h1,h2⟩:=s.beside r;rw[e];exact⟨h1,λp hp=>by rw[h2,c p hp]⟩
end Py
namespace L
open Py
noncomputable def bP:List Sm:=[(.asg 2 (.op2 .mul (.cst (.int 2)) (.op1 .len (.op2 .at (.var 0) (.cst (.int 0)))))),(.asg 3 (.op2 .add (.op2 .sub (.var 2) (.call 3 [(.call 1 [(.op2 .at (.var 0) (.cst (.int 0))),(.var 2)]),(.var 2),(.var 1)])) (.op2 .at (.var 0) (.cst (.int 1))))),(.asg 4 (.cst (.int 1))),(.loop .rng [(.var 3)] [5] [(.asg 4 (.op2 .mul (.var 4) (.var 1)))]),(.ret (.var 4))]
noncomputable def cW:List Sm:=[(.asg 2 (.lst [])),(.loop .seq [(.var 0)] [3] [(.app 2 (.call 2 [(.tup [(.tup [(.op2 .at (.var 3) (.cst (.int 1))),(.cst (.int 1))]),(.tup [(.op2 .at (.var 3) (.cst (.int 3))),(.op1 .neg (.cst (.int 1)))])]),(.var 1)])),(.app 2 (.call 2 [(.tup [(.tup [(.op2 .at (.var 3) (.cst (.int 1))),(.cst (.int 2))]),(.tup [(.op2 .at (.var 3) (.cst (.int 0))),(.op1 .neg (.cst (.int 1)))]),(.tup [(.op2 .at (.var 3) (.cst (.int 2))),(.op1 .neg (.cst (.int 1)))])]),(.var 1)]))]),(.ret (.var 2))]
noncomputable def gA:List Sm:=[(.asg 2 (.op2 .rep (.lst [(.cst (.int 0))]) (.var 1))),(.loop .seq [(.var 0)] [3,4] [(.put 2 (.var 3) (.op2 .add (.op2 .at (.var 2) (.var 3)) (.var 4)))]),(.ret (.var 2))]
noncomputable def pC:List Sm:=[(.asg 3 (.cst (.int 0))),(.asg 4 (.var 0)),(.loop .rng [(.var 1)] [5] [(.asg 6 (.comp .seq [(.var 4)] [2,5] 1 (some (.leaf (.op2 .ne (.op2 .mod (.op2 .at (.var 0) (.var 2)) (.var 1)) (.cst (.int 0))))) (.var 0))),(.ite (.leaf (.var 6)) [(.asg 3 (.op2 .add (.var 3) (.cst (.int 1)))),(.asg 7 (.comp .seq [(.var 4)] [2,5] 1 (some (.leaf (.op2 .eq (.op2 .mod (.op2 .at (.var 0) (.var 2)) (.var 1)) (.cst (.int 0))))) (.var 0))),(.asg 4 (.op2 .add (.var 7) (.comp .seq [(.slc (.var 6) (some (.cst (.int 1))) none)] [5,2,6] 1 none (.call 4 [(.var 0),(.op2 .at (.var 3) (.cst (.int 0))),(.var 1),(.var 2)]))))] [])]),(.ret (.var 3))]
noncomputable def gB:List Sm:=[(.ret (.comp .zip [(.var 0),(.var 1)] [3,1,2,0] 2 none (.op2 .mod (.op2 .sub (.op2 .mul (.var 0) (.op2 .at (.var 3) (.var 4))) (.op2 .mul (.var 1) (.op2 .at (.var 5) (.var 4)))) (.var 2))))]
noncomputable def b_ends:List Sm:=[(.asg 2 (.lst [])),(.loop .enum [(.op2 .at (.var 0) (.cst (.int 0)))] [3,4] [(.loop .rng [(.cst (.int 4))] [5] [(.ite (.leaf (.op2 .eq (.op2 .at (.var 4) (.var 5)) (.var 1))) [(.app 2 (.tup [(.var 3),(.var 5)]))] [])])]),(.ite (.not (.leaf (.var 2))) [(.rai 1)] []),(.ret (.op1 .tuple (.var 2)))]
noncomputable def jR:List Sm:=[(.ite (.or (.leaf (.op2 .lt (.var 1) (.cst (.int 0)))) (.leaf (.op2 .ge (.var 1) (.op1 .len (.op2 .at (.var 0) (.cst (.int 0))))))) [(.rai 1)] []),(.ret (.op2 .at (.op2 .at (.var 0) (.cst (.int 0))) (.var 1)))]
noncomputable def wN:List Sm:=[(.ret (.op2 .add (.slc (.var 0) (some (.var 1)) none) (.slc (.var 0) none (some (.var 1)))))]
noncomputable def gC:List Sm:=[(.ret (.op2 .at (.op2 .at (.var 0) (.op2 .at (.var 1) (.cst (.int 0)))) (.op2 .at (.var 1) (.cst (.int 1)))))]
noncomputable def eF:List Sm:=[(.ret (.tup [(.op2 .at (.var 0) (.cst (.int 0))),(.op2 .mod (.op2 .add (.op2 .at (.var 0) (.cst (.int 1))) (.cst (.int 2))) (.cst (.int 4)))]))]
noncomputable def pD:List Sm:=[(.new 2),(.asg 3 (.lst [])),(.loop .seq [(.var 0)] [4] [(.loop .seq [(.var 4)] [5] [(.ite (.leaf (.din true (.var 5) (.var 2))) [(.dput 2 (.var 5) (.dlen (.var 2)))] [])]),(.app 3 (.op1 .tuple (.comp .seq [(.var 4)] [2] 1 none (.dget (.var 1) (.var 0)))))]),(.ret (.tup [(.op1 .tuple (.var 3)),(.var 1)]))]
noncomputable def sY:List Sm:=[(.ret (.comp .enum [(.var 0)] [1] 2 (some (.leaf (.op2 .notIn (.var 0) (.var 2)))) (.var 1)))]
noncomputable def wO:List Sm:=[(.asg 3 (.op1 .list (.var 0))),(.asg 4 (.op1 .list (.var 2))),(.whl (.leaf (.var 4)) [(.asg 5 (.op2 .at (.op2 .at (.var 4) (.cst (.int 0))) (.cst (.int 0)))),(.asg 6 (.op2 .at (.op2 .at (.var 4) (.cst (.int 0))) (.cst (.int 1)))),(.ite (.leaf (.op2 .eq (.var 5) (.var 6))) [(.asg 1 (.op2 .add (.var 1) (.cst (.int 1))))] []),(.asg 3 (.call 13 [(.var 3),(.var 6),(.var 5)])),(.asg 4 (.call 13 [(.slc (.var 4) (some (.cst (.int 1))) none),(.var 6),(.var 5)]))]),(.ret (.call 10 [(.var 3),(.var 1)]))]
noncomputable def sZ:List Sm:=[(.ret (.comp .seq [(.var 0)] [2,1] 1 none (.op1 .tuple (.comp .seq [(.var 0)] [1,2] 1 none (.ite (.leaf (.op2 .eq (.var 0) (.var 2))) (.var 1) (.var 0))))))]
noncomputable def jJ:List Sm:=[(.asg 3 (.op1 .list (.op2 .at (.var 0) (.cst (.int 0))))),(.asg 4 (.op2 .mul (.cst (.int 2)) (.op1 .len (.var 3)))),(.asg 5 (.and (.op2 .eq (.var 1) (.var 4)) (.op2 .gt (.op2 .at (.var 0) (.cst (.int 1))) (.cst (.int 0))))),(.ite (.and (.not (.leaf (.var 5))) (.or (.leaf (.op2 .lt (.var 1) (.cst (.int 0)))) (.leaf (.op2 .ge (.var 1) (.var 4))))) [(.rai 1)] []),(.ite (.leaf (.op2 .ge (.op1 .len (.var 3)) (.glob 0))) [(.rai 0)] []),(.ite (.leaf (.var 5)) [(.ret (.call 10 [(.op2 .add (.var 3) (.lst [(.call 15 [(.var 4),(.var 4),(.op2 .add (.var 4) (.cst (.int 1))),(.var 2)])])),(.op2 .sub (.op2 .at (.var 0) (.cst (.int 1))) (.cst (.int 1)))]))] []),(.asg 6 (.call 25 [(.var 3),(.op2 .at (.call 5 [(.var 0),(.var 1)]) (.cst (.int 1))),(.var 4)])),(.ret (.call 10 [(.op2 .add (.var 6) (.lst [(.call 15 [(.var 1),(.var 4),(.op2 .add (.var 4) (.cst (.int 1))),(.var 2)])])),(.op2 .at (.var 0) (.cst (.int 1)))]))]
noncomputable def jK:List Sm:=[(.ite (.leaf (.op2 .ge (.var 3) (.cst (.int 2)))) [(.ret (.call 15 [(.var 1),(.var 0),(.var 2),(.op2 .sub (.var 3) (.cst (.int 2)))]))] []),(.ite (.leaf (.op2 .eq (.var 3) (.cst (.int 0)))) [(.ret (.tup [(.var 2),(.var 2),(.var 0),(.var 1)]))] []),(.ret (.tup [(.var 0),(.var 2),(.var 2),(.var 1)]))]
noncomputable def eG:List Sm:=[(.asg 2 (.call 6 [(.var 0),(.var 1)])),(.loop .rng [(.cst (.int 4))] [3] [(.ite (.leaf (.op2 .eq (.op2 .at (.var 2) (.var 3)) (.op2 .at (.var 2) (.op2 .mod (.op2 .add (.var 3) (.cst (.int 1))) (.cst (.int 4)))))) [(.asg 4 (.tup [(.op2 .at (.var 2) (.op2 .mod (.op2 .add (.var 3) (.cst (.int 2))) (.cst (.int 4)))),(.op2 .at (.var 2) (.op2 .mod (.op2 .add (.var 3) (.cst (.int 3))) (.cst (.int 4))))])),(.ret (.call 12 [(.call 11 [(.op2 .at (.var 0) (.cst (.int 0))),(.tup [(.var 1)])]),(.op2 .at (.var 0) (.cst (.int 1))),(.lst [(.var 4)])]))] [])]),(.rai 2)]
noncomputable def dL:List Sm:=[(.asg 4 (.op2 .at (.call 5 [(.var 0),(.var 1)]) (.cst (.int 1)))),(.asg 5 (.op2 .at (.call 5 [(.var 0),(.var 2)]) (.cst (.int 1)))),(.ite (.leaf (.op2 .eq (.var 1) (.var 2))) [(.rai 2)] []),(.ite (.leaf (.op2 .gt (.op1 .len (.op2 .at (.var 0) (.cst (.int 0)))) (.op2 .sub (.glob 0) (.cst (.int 2))))) [(.rai 0)] []),(.asg 6 (.op2 .mul (.cst (.int 2)) (.op1 .len (.op2 .at (.var 0) (.cst (.int 0)))))),(.asg 7 (.call 25 [(.call 25 [(.op2 .at (.var 0) (.cst (.int 0))),(.var 4),(.var 6)]),(.var 5),(.op2 .add (.var 6) (.cst (.int 1)))])),(.ite (.leaf (.op2 .eq (.op2 .mod (.var 3) (.cst (.int 2))) (.cst (.int 0)))) [(.asg 8 (.tup [(.var 1),(.var 6)]))] [(.asg 8 (.tup [(.var 6),(.var 1)]))]),(.ret (.call 10 [(.op2 .add (.var 7) (.call 18 [(.var 8),(.tup [(.var 2),(.op2 .add (.var 6) (.cst (.int 1)))]),(.op2 .add (.var 6) (.cst (.int 2))),(.var 3)])),(.op2 .at (.var 0) (.cst (.int 1)))]))]
noncomputable def gD:List Sm:=[(.asg 4 (.var 2)),(.asg 5 (.op2 .add (.var 2) (.cst (.int 1)))),(.ite (.leaf (.op2 .lt (.var 3) (.cst (.int 2)))) [(.ret (.lst [(.tup [(.op2 .at (.var 1) (.cst (.int 0))),(.var 4),(.var 5),(.op2 .at (.var 0) (.cst (.int 0)))]),(.tup [(.var 5),(.var 4),(.op2 .at (.var 1) (.cst (.int 1))),(.op2 .at (.var 0) (.cst (.int 1)))])]))] []),(.ret (.lst [(.tup [(.op2 .at (.var 1) (.cst (.int 0))),(.op2 .at (.var 0) (.cst (.int 0))),(.var 5),(.var 4)]),(.tup [(.var 5),(.op2 .at (.var 0) (.cst (.int 1))),(.op2 .at (.var 1) (.cst (.int 1))),(.var 4)])]))]
noncomputable def cB:List Sm:=[(.asg 3 (.call 6 [(.var 0),(.var 1)])),(.asg 4 (.call 6 [(.var 0),(.var 2)])),(.ite (.leaf (.op2 .eq (.var 1) (.var 2))) [(.rai 2)] []),(.loop .seq [(.glob 1)] [5] [(.asg 6 (.call 20 [(.call 7 [(.var 3),(.op2 .at (.var 5) (.cst (.int 0)))]),(.call 7 [(.var 4),(.op2 .at (.var 5) (.cst (.int 1)))])])),(.ite (.leaf (.op1 .isNotNone (.var 6))) [(.ret (.call 12 [(.call 11 [(.op2 .at (.var 0) (.cst (.int 0))),(.tup [(.var 1),(.var 2)])]),(.op2 .at (.var 0) (.cst (.int 1))),(.var 6)]))] [])]),(.rai 2)]
noncomputable def eI:List Sm:=[(.ite (.leaf (.op2 .ne (.op2 .at (.var 0) (.cst (.int 2))) (.op2 .at (.var 1) (.cst (.int 0))))) [(.ret (.cst .non))] []),(.loop .seq [(.tup [(.cst (.int 1)),(.cst (.int 3))])] [2] [(.ite (.leaf (.op2 .eq (.op2 .at (.var 0) (.var 2)) (.op2 .at (.var 1) (.var 2)))) [(.ret (.lst [(.tup [(.op2 .at (.var 0) (.cst (.int 0))),(.op2 .at (.var 1) (.cst (.int 2)))]),(.tup [(.op2 .at (.var 0) (.op2 .sub (.cst (.int 4)) (.var 2))),(.op2 .at (.var 1) (.op2 .sub (.cst (.int 4)) (.var 2)))])]))] [])]),(.ret (.cst .non))]
noncomputable def pE:List Sm:=[(.asg 4 (.mapx (.tup [(.var 1),(.var 2),(.var 3)]) [0] 6 [(.var 1),(.var 0)])),(.ite (.or (.leaf (.op2 .eq (.var 1) (.var 2))) (.or (.leaf (.op2 .eq (.var 1) (.var 3))) (.leaf (.op2 .eq (.var 2) (.var 3))))) [(.rai 2)] []),(.loop .seq [(.tup [(.cst (.int 1)),(.cst (.int 3))])] [5] [(.loop .seq [(.tup [(.cst (.int 0)),(.cst (.int 2))])] [6] [(.asg 7 (.call 22 [(.var 4),(.var 6),(.var 5)])),(.ite (.leaf (.op1 .isNotNone (.var 7))) [(.ret (.call 10 [(.call 24 [(.op2 .at (.var 0) (.cst (.int 0))),(.tup [(.var 1),(.var 2),(.var 3)]),(.var 7)]),(.op2 .at (.var 0) (.cst (.int 1)))]))] [])])]),(.rai 2)]
noncomputable def cZ:List Sm:=[(.asg 3 (.op2 .mod (.op2 .add (.var 1) (.var 2)) (.cst (.int 4)))),(.asg 4 (.call 23 [(.op2 .at (.var 0) (.cst (.int 1))),(.tup [(.cst (.int 1)),(.cst (.int 3))]),(.op2 .at (.op2 .at (.var 0) (.cst (.int 0))) (.var 3))])),(.ite (.leaf (.op1 .isNone (.var 4))) [(.ret (.cst .non))] []),(.asg 5 (.op2 .mod (.op2 .add (.var 4) (.var 2)) (.cst (.int 4)))),(.asg 6 (.call 23 [(.op2 .at (.var 0) (.cst (.int 2))),(.tup [(.cst (.int 0)),(.cst (.int 2))]),(.op2 .at (.op2 .at (.var 0) (.cst (.int 1))) (.var 5))])),(.ite (.leaf (.op1 .isNone (.var 6))) [(.ret (.cst .non))] []),(.asg 7 (.op2 .mod (.op2 .add (.var 6) (.var 2)) (.cst (.int 4)))),(.ite (.leaf (.op2 .ne (.op2 .at (.op2 .at (.var 0) (.cst (.int 2))) (.var 7)) (.op2 .at (.op2 .at (.var 0) (.cst (.int 0))) (.var 1)))) [(.ret (.cst .non))] []),(.ret (.tup [(.tup [(.var 1),(.var 3)]),(.tup [(.var 4),(.var 5)]),(.tup [(.var 6),(.var 7)])]))]
noncomputable def b8:List Sm:=[(.loop .seq [(.var 1)] [3] [(.ite (.leaf (.op2 .eq (.op2 .at (.var 0) (.var 3)) (.var 2))) [(.ret (.var 3))] [])]),(.ret (.cst .non))]
noncomputable def jL:List Sm:=[(.asg 3 (.tup [(.tup [(.tup [(.op2 .at (.var 1) (.cst (.int 0))),(.op2 .at (.op2 .at (.var 2) (.cst (.int 0))) (.cst (.int 1)))]),(.tup [(.op2 .at (.var 1) (.cst (.int 1))),(.op2 .at (.op2 .at (.var 2) (.cst (.int 1))) (.cst (.int 0)))])]),(.tup [(.tup [(.op2 .at (.var 1) (.cst (.int 0))),(.op2 .at (.op2 .at (.var 2) (.cst (.int 0))) (.cst (.int 0)))]),(.tup [(.op2 .at (.var 1) (.cst (.int 2))),(.op2 .at (.op2 .at (.var 2) (.cst (.int 2))) (.cst (.int 1)))])]),(.tup [(.tup [(.op2 .at (.var 1) (.cst (.int 1))),(.op2 .at (.op2 .at (.var 2) (.cst (.int 1))) (.cst (.int 1)))]),(.tup [(.op2 .at (.var 1) (.cst (.int 2))),(.op2 .at (.op2 .at (.var 2) (.cst (.int 2))) (.cst (.int 0)))])])])),(.asg 4 (.op1 .list (.var 0))),(.loop .seq [(.var 3)] [5,6] [(.asg 7 (.call 8 [(.var 0),(.var 5)])),(.asg 4 (.call 25 [(.var 4),(.var 5),(.call 8 [(.var 0),(.call 9 [(.var 6)])])])),(.asg 4 (.call 25 [(.var 4),(.var 6),(.call 8 [(.var 0),(.call 9 [(.var 5)])])])),(.asg 4 (.call 25 [(.var 4),(.call 9 [(.var 5)]),(.var 7)])),(.asg 4 (.call 25 [(.var 4),(.call 9 [(.var 6)]),(.var 7)]))]),(.ret (.var 4))]
noncomputable def tD:List Sm:=[(.asg 3 (.op1 .list (.var 0))),(.asg 4 (.op2 .at (.var 3) (.op2 .at (.var 1) (.cst (.int 0))))),(.put 3 (.op2 .at (.var 1) (.cst (.int 0))) (.op2 .add (.op2 .add (.slc (.var 4) none (some (.op2 .at (.var 1) (.cst (.int 1))))) (.tup [(.var 2)])) (.slc (.var 4) (some (.op2 .add (.op2 .at (.var 1) (.cst (.int 1))) (.cst (.int 1)))) none))),(.ret (.var 3))]
noncomputable def jS:List Sm:=[(.ite (.leaf (.op2 .lt (.var 1) (.op1 .len (.var 0)))) [(.ret (.op2 .at (.var 0) (.var 1)))] []),(.ret (.cst (.int 0)))]
noncomputable def pF:List Sm:=[(.ite (.leaf (.op2 .lt (.var 1) (.op1 .len (.var 0)))) [(.ret (.op2 .at (.var 0) (.var 1)))] []),(.ret (.op2 .fdiv (.op2 .mod (.op2 .mul (.op2 .add (.op2 .add (.call 26 [(.var 0),(.cst (.int 0))]) (.op2 .mul (.cst (.int 7)) (.var 1))) (.cst (.int 3))) (.cst (.int 48271))) (.cst (.int 2147483647))) (.cst (.int 13))))]
noncomputable def pG:List Sm:=[(.asg 4 (.comp .rng [(.op2 .mul (.cst (.int 4)) (.var 2))] [] 1 none (.op1 .neg (.cst (.int 1))))),(.loop .rng [(.op1 .len (.var 3))] [5] [(.put 4 (.op2 .at (.op2 .at (.var 3) (.var 5)) (.cst (.int 0))) (.var 5)),(.put 4 (.op2 .at (.op2 .at (.var 3) (.var 5)) (.cst (.int 1))) (.var 5))]),(.asg 6 (.comp .rng [(.op2 .mul (.cst (.int 4)) (.var 2))] [4] 1 (some (.leaf (.op2 .lt (.op2 .at (.var 1) (.var 0)) (.cst (.int 0))))) (.var 0))),(.asg 7 (.op1 .len (.var 3))),(.whl (.leaf (.op2 .gt (.op1 .len (.var 6)) (.cst (.int 1)))) [(.asg 8 (.op2 .add (.cst (.int 1)) (.op2 .mod (.call 27 [(.var 0),(.op2 .add (.var 1) (.var 7))]) (.op2 .sub (.op1 .len (.var 6)) (.cst (.int 1)))))),(.put 4 (.op2 .at (.var 6) (.cst (.int 0))) (.var 7)),(.put 4 (.op2 .at (.var 6) (.var 8)) (.var 7)),(.asg 6 (.op2 .add (.slc (.var 6) (some (.cst (.int 1))) (some (.var 8))) (.slc (.var 6) (some (.op2 .add (.var 8) (.cst (.int 1)))) none))),(.asg 7 (.op2 .add (.var 7) (.cst (.int 1))))]),(.ret (.comp .rng [(.var 2)] [4] 1 none (.op1 .tuple (.slc (.var 1) (some (.op2 .mul (.cst (.int 4)) (.var 0))) (some (.op2 .add (.op2 .mul (.cst (.int 4)) (.var 0)) (.cst (.int 4))))))))]
noncomputable def jM:List Sm:=[(.asg 1 (.lst [])),(.loop .seq [(.var 0)] [2] [(.loop .seq [(.var 2)] [3] [(.ite (.leaf (.op2 .notIn (.var 3) (.var 1))) [(.app 1 (.var 3))] [])])]),(.asg 4 (.lst [])),(.loop .seq [(.var 0)] [2] [(.app 4 (.op1 .tuple (.comp .seq [(.var 2)] [1] 1 none (.op2 .index (.var 1) (.var 0)))))]),(.ret (.op1 .tuple (.var 4)))]
noncomputable def nZ:List Sm:=[(.ret (.and (.op1 .isInt (.var 0)) (.not (.op1 .isBool (.var 0)))))]
noncomputable def c9:List Sm:=[(.ite (.or (.not (.leaf (.op1 .isTup (.var 0)))) (.or (.leaf (.op2 .ne (.op1 .len (.var 0)) (.cst (.int 2)))) (.not (.leaf (.op1 .isTup (.op2 .at (.var 0) (.cst (.int 0)))))))) [(.ret (.cst (.bl false)))] []),(.ite (.or (.not (.leaf (.call 30 [(.op2 .at (.var 0) (.cst (.int 1)))]))) (.or (.leaf (.op2 .lt (.op2 .at (.var 0) (.cst (.int 1))) (.cst (.int 0)))) (.leaf (.op2 .gt (.op1 .len (.op2 .at (.var 0) (.cst (.int 0)))) (.cst (.int 10)))))) [(.ret (.cst (.bl false)))] []),(.asg 1 (.lst [])),(.loop .seq [(.op2 .at (.var 0) (.cst (.int 0)))] [2] [(.ite (.or (.not (.leaf (.op1 .isTup (.var 2)))) (.leaf (.op2 .ne (.op1 .len (.var 2)) (.cst (.int 4))))) [(.ret (.cst (.bl false)))] []),(.asg 1 (.op2 .add (.var 1) (.op1 .list (.var 2))))]),(.loop .seq [(.var 1)] [3] [(.ite (.or (.not (.leaf (.call 30 [(.var 3)]))) (.leaf (.op2 .ne (.op2 .count (.var 1) (.var 3)) (.cst (.int 2))))) [(.ret (.cst (.bl false)))] [])]),(.ret (.op2 .eq (.op2 .at (.var 0) (.cst (.int 0))) (.call 29 [(.op2 .at (.var 0) (.cst (.int 0)))])))]
noncomputable def cC:List Sm:=[(.asg 4 (.op2 .add (.cst (.int 1)) (.op2 .mul (.cst (.int 2)) (.op2 .mod (.var 3) (.cst (.int 2)))))),(.asg 5 (.op2 .mul (.cst (.int 2)) (.op2 .mod (.op2 .fdiv (.var 3) (.cst (.int 2))) (.cst (.int 2))))),(.asg 6 (.op2 .add (.cst (.int 1)) (.op2 .mul (.cst (.int 2)) (.op2 .mod (.op2 .fdiv (.var 3) (.cst (.int 4))) (.cst (.int 2)))))),(.asg 7 (.op2 .mul (.cst (.int 2)) (.op2 .mod (.op2 .fdiv (.var 3) (.cst (.int 8))) (.cst (.int 2))))),(.asg 8 (.tup [(.op2 .add (.op2 .mul (.cst (.int 4)) (.var 0)) (.op2 .mod (.op2 .add (.var 5) (.var 4)) (.cst (.int 4)))),(.op2 .add (.op2 .mul (.cst (.int 4)) (.var 1)) (.var 6))])),(.asg 9 (.tup [(.op2 .add (.op2 .mul (.cst (.int 4)) (.var 1)) (.op2 .mod (.op2 .add (.var 6) (.var 4)) (.cst (.int 4)))),(.op2 .add (.op2 .mul (.cst (.int 4)) (.var 2)) (.var 7))])),(.ret (.lst [(.var 8),(.var 9),(.tup [(.op2 .add (.op2 .mul (.cst (.int 4)) (.var 2)) (.op2 .mod (.op2 .add (.var 7) (.var 4)) (.cst (.int 4)))),(.op2 .add (.op2 .mul (.cst (.int 4)) (.var 0)) (.var 5))])]))]
noncomputable def b_law_start:List Sm:=[(.asg 2 (.op2 .mod (.call 26 [(.var 0),(.cst (.int 1))]) (.cst (.int 3)))),(.asg 3 (.op2 .mod (.call 26 [(.var 0),(.cst (.int 2))]) (.cst (.int 16)))),(.asg 4 (.op2 .mod (.call 26 [(.var 0),(.cst (.int 0))]) (.op2 .add (.var 1) (.cst (.int 1))))),(.asg 5 (.lst [])),(.ite (.leaf (.op2 .eq (.var 2) (.cst (.int 1)))) [(.asg 4 (.op2 .max (.cst (.int 2)) (.var 4))),(.asg 6 (.op2 .mul (.cst (.int 2)) (.op2 .mod (.var 3) (.cst (.int 2))))),(.asg 7 (.op2 .mul (.cst (.int 2)) (.op2 .mod (.op2 .fdiv (.var 3) (.cst (.int 2))) (.cst (.int 2))))),(.asg 8 (.op2 .add (.cst (.int 1)) (.op2 .mul (.cst (.int 2)) (.op2 .mod (.op2 .fdiv (.var 3) (.cst (.int 4))) (.cst (.int 2)))))),(.asg 5 (.lst [(.tup [(.op2 .mod (.op2 .add (.var 6) (.cst (.int 2))) (.cst (.int 4))),(.op2 .add (.cst (.int 4)) (.var 7))]),(.tup [(.op2 .mod (.op2 .add (.var 6) (.var 8)) (.cst (.int 4))),(.op2 .add (.cst (.int 4)) (.op2 .mod (.op2 .add (.var 7) (.var 8)) (.cst (.int 4))))])]))] []),(.ite (.and (.leaf (.op2 .eq (.var 2) (.cst (.int 2)))) (.leaf (.op2 .gt (.var 1) (.cst (.int 2))))) [(.asg 4 (.cst (.int 3))),(.asg 5 (.call 32 [(.cst (.int 0)),(.cst (.int 1)),(.cst (.int 2)),(.var 3)]))] []),(.ret (.tup [(.call 29 [(.call 28 [(.var 0),(.cst (.int 4)),(.var 4),(.var 5)])]),(.op2 .mod (.call 26 [(.var 0),(.cst (.int 3))]) (.cst (.int 3)))]))]
noncomputable def dA:List Sm:=[(.asg 2 (.lst [(.lst [])])),(.loop .rng [(.var 0)] [3] [(.asg 4 (.lst [])),(.loop .seq [(.var 2)] [5] [(.loop .rng [(.var 1)] [6] [(.app 4 (.op2 .add (.var 5) (.lst [(.var 6)])))])]),(.asg 2 (.var 4))]),(.ret (.var 2))]
noncomputable def dB:List Sm:=[(.ite (.leaf (.op2 .ne (.op2 .at (.var 1) (.op2 .at (.var 0) (.cst (.int 1)))) (.op2 .at (.var 1) (.op2 .at (.var 0) (.cst (.int 3)))))) [(.ret (.cst (.bl false)))] []),(.ret (.op2 .eq (.op2 .mod (.op2 .sub (.op2 .sub (.op2 .mul (.cst (.int 2)) (.op2 .at (.var 1) (.op2 .at (.var 0) (.cst (.int 1))))) (.op2 .at (.var 1) (.op2 .at (.var 0) (.cst (.int 0))))) (.op2 .at (.var 1) (.op2 .at (.var 0) (.cst (.int 2))))) (.var 2)) (.cst (.int 0))))]
noncomputable def dM:List Sm:=[(.asg 2 (.cst (.int 0))),(.loop .seq [(.call 34 [(.op2 .mul (.cst (.int 2)) (.op1 .len (.var 0))),(.var 1)])] [3] [(.asg 4 (.cst (.bl true))),(.loop .seq [(.var 0)] [5] [(.ite (.not (.leaf (.call 35 [(.var 5),(.var 3),(.var 1)]))) [(.asg 4 (.cst (.bl false)))] [])]),(.ite (.leaf (.var 4)) [(.asg 2 (.op2 .add (.var 2) (.cst (.int 1))))] [])]),(.ret (.var 2))]
noncomputable def b_law_deed:List Sm:=[(.asg 3 (.op1 .len (.op2 .at (.var 0) (.cst (.int 0))))),(.asg 4 (.op2 .max (.cst (.int 1)) (.op2 .mul (.cst (.int 2)) (.var 3)))),(.asg 5 (.op2 .fdiv (.var 1) (.cst (.int 10)))),(.asg 6 (.lst [(.op2 .mod (.var 5) (.op2 .add (.var 3) (.cst (.int 1)))),(.op2 .mod (.op2 .fdiv (.var 5) (.cst (.int 31))) (.op2 .add (.var 3) (.cst (.int 1)))),(.op2 .mod (.op2 .fdiv (.var 5) (.cst (.int 961))) (.op2 .add (.var 3) (.cst (.int 1))))])),(.ite (.leaf (.op2 .eq (.op2 .mod (.op2 .fdiv (.var 1) (.cst (.int 5))) (.cst (.int 2))) (.cst (.int 0)))) [(.asg 6 (.lst [(.cst (.int 0)),(.cst (.int 1)),(.cst (.int 2))]))] []),(.asg 7 (.var 0)),(.tryx [(.ite (.and (.leaf (.op2 .eq (.op2 .mod (.var 1) (.cst (.int 5))) (.cst (.int 0)))) (.leaf (.op2 .lt (.var 3) (.var 2)))) [(.asg 7 (.call 14 [(.var 0),(.op2 .mod (.var 5) (.op2 .add (.var 4) (.cst (.int 1)))),(.op2 .mod (.op2 .fdiv (.var 5) (.cst (.int 31))) (.cst (.int 4)))]))] []),(.ite (.leaf (.op2 .eq (.op2 .mod (.var 1) (.cst (.int 5))) (.cst (.int 1)))) [(.asg 7 (.call 16 [(.var 0),(.op2 .mod (.var 5) (.op2 .add (.var 3) (.cst (.int 1))))]))] []),(.ite (.and (.leaf (.op2 .eq (.op2 .mod (.var 1) (.cst (.int 5))) (.cst (.int 2)))) (.leaf (.op2 .lt (.op2 .add (.var 3) (.cst (.int 1))) (.var 2)))) [(.asg 7 (.call 17 [(.var 0),(.op2 .mod (.var 5) (.var 4)),(.op2 .mod (.op2 .fdiv (.var 5) (.cst (.int 31))) (.var 4)),(.op2 .mod (.op2 .fdiv (.var 5) (.cst (.int 961))) (.cst (.int 4)))]))] []),(.ite (.leaf (.op2 .eq (.op2 .mod (.var 1) (.cst (.int 5))) (.cst (.int 3)))) [(.asg 7 (.call 19 [(.var 0),(.op2 .max (.op2 .at (.var 6) (.cst (.int 0))) (.op2 .sub (.var 3) (.cst (.int 2)))),(.op2 .max (.op2 .at (.var 6) (.cst (.int 1))) (.op2 .sub (.var 3) (.cst (.int 1))))]))] []),(.ite (.leaf (.op2 .eq (.op2 .mod (.var 1) (.cst (.int 5))) (.cst (.int 4)))) [(.asg 7 (.call 21 [(.var 0),(.op2 .at (.var 6) (.cst (.int 0))),(.op2 .at (.var 6) (.cst (.int 1))),(.op2 .at (.var 6) (.cst (.int 2)))]))] [])] [0,1,2] none [(.asg 7 (.var 0))]),(.ret (.var 7))]
noncomputable def kS:List Sm:=[(.asg 2 (.call 36 [(.op2 .at (.var 0) (.cst (.int 0))),(.var 1)])),(.loop .rng [(.op2 .at (.var 0) (.cst (.int 1)))] [3] [(.asg 2 (.op2 .mul (.var 2) (.var 1)))]),(.ret (.var 2))]
noncomputable def b_law:List Sm:=[(.asg 1 (.op2 .at (.lst [(.cst (.int 2)),(.cst (.int 3)),(.cst (.int 5))]) (.op2 .mod (.op2 .fdiv (.call 26 [(.var 0),(.cst (.int 1))]) (.cst (.int 12))) (.cst (.int 3))))),(.asg 2 (.op2 .sub (.cst (.int 3)) (.op1 .toInt (.op2 .eq (.var 1) (.cst (.int 5)))))),(.asg 3 (.call 33 [(.var 0),(.var 2)])),(.asg 4 (.call 38 [(.var 3),(.var 1)])),(.loop .rng [(.op2 .add (.cst (.int 1)) (.op2 .mod (.op2 .fdiv (.call 26 [(.var 0),(.cst (.int 1))]) (.cst (.int 3))) (.cst (.int 3))))] [5] [(.asg 6 (.call 37 [(.var 3),(.call 27 [(.var 0),(.op2 .add (.cst (.int 10)) (.var 5))]),(.var 2)])),(.ite (.not (.leaf (.call 31 [(.var 6)]))) [(.ret (.cst (.bl false)))] []),(.ite (.and (.leaf (.op2 .ne (.var 6) (.var 3))) (.leaf (.op2 .ne (.call 38 [(.var 6),(.var 1)]) (.var 4)))) [(.ret (.cst (.bl false)))] []),(.asg 3 (.var 6))]),(.asg 7 (.call 0 [(.var 3),(.var 1)])),(.ret (.and (.call 30 [(.var 7)]) (.op2 .eq (.var 7) (.var 4))))]
noncomputable def prog:Prog:=⟨[⟨2,6,bP⟩,⟨2,4,cW⟩,⟨2,5,gA⟩,⟨3,8,pC⟩,⟨4,4,gB⟩,⟨2,6,b_ends⟩,⟨2,2,jR⟩,⟨2,2,wN⟩,⟨2,2,gC⟩,⟨1,1,eF⟩,⟨2,6,pD⟩,⟨2,2,sY⟩,⟨3,7,wO⟩,⟨3,3,sZ⟩,⟨3,7,jJ⟩,⟨4,4,jK⟩,⟨2,5,eG⟩,⟨4,9,dL⟩,⟨4,6,gD⟩,⟨3,7,cB⟩,⟨2,3,eI⟩,⟨4,8,pE⟩,⟨3,8,cZ⟩,⟨3,4,b8⟩,⟨3,8,jL⟩,⟨3,5,tD⟩,⟨2,2,jS⟩,⟨2,2,pF⟩,⟨4,9,pG⟩,⟨1,5,jM⟩,⟨1,1,nZ⟩,⟨1,4,c9⟩,⟨4,10,cC⟩,⟨2,9,b_law_start⟩,⟨2,7,dA⟩,⟨3,3,dB⟩,⟨2,6,dM⟩,⟨3,8,b_law_deed⟩,⟨2,4,kS⟩,⟨1,8,b_law⟩],[(.int 10),(.tup [(.tup [(.int 0),(.int 0)]),(.tup [(.int 0),(.int 2)]),(.tup [(.int 2),(.int 0)]),(.tup [(.int 2),(.int 2)])])]⟩
noncomputable def lawId:Nat:=39
end L
namespace L
open PySem PySem.Spec PyProof.Rows L2 L2.Snd Py
structure FT(K:W.Frag)(mg:Str->Option Value)(fa:Nat->Addr)(fd:Nat->FuncData)(i:Nat):Prop where
 m:mg (nm i)=some (.ref (fa i))
 b:Binds K (fd i) (Ps i) []
 F:Fun K (nm i) (nm i) (sT i) (fa i) (fd i)
structure Txt(K:W.Frag)(mg:Str->Option Value)(cl fa:Nat->Addr)(fd:Nat->FuncData):Prop where
 n:∀x,bl.contains x=true->mg x=none
 f:∀i,i<40->FT K mg fa fd i
 c_Crowded:mg "Crowded"=some (.ref (cl 0))
 c_NoPlace:mg "NoPlace"=some (.ref (cl 1))
 c_NoMove:mg "NoMove"=some (.ref (cl 2))
 c_CordError:mg "CordError"=some (.ref (cl 3))
 x_0:ExcCls K (cl 0)
 x_1:ExcCls K (cl 1)
 x_2:ExcCls K (cl 2)
 e_CordError:∀c∈([0,1,2]:List Nat),W.exmOne K (.ref (cl c)) (.ref (cl 3))=some true
 h_LIMIT:∃t,mg "LIMIT"=some (.int 10 t)
 h_READINGS:GlobT K mg "READINGS" (.tup [(.tup [(.int 0),(.int 0)]),(.tup [(.int 0),(.int 2)]),(.tup [(.int 2),(.int 0)]),(.tup [(.int 2),(.int 2)])])
theorem Txt.m{K:W.Frag}(T:Txt K mg cl fa fd)(h:i<40)(e:nm i=x):mg x=some (.ref (fa i)):=e▸(T.f i h).m
section
variable{P:Program}{w:World}{K:W.Frag}{mg:Str->Option Value}{base:Heap}{cl fa:Nat->Addr}{fd:Nat->FuncData}{j:Nat}
theorem Txt.g_LIMIT(T:Txt K mg cl fa fd){X:Cx}{XE:Nat->L2.St->Hp->Prop}{Φ:Nat->List D->R D}{m:Bool}{pos:Pos}(hK:X.K=K:=by rfl)(hM:X.mg=mg:=by rfl)(hg:Gl X "LIMIT":=by rfl):OkE X cl XE Φ prog.gls m (.glob 0) (.Name "LIMIT" pos):=by
 obtain⟨t,h⟩:=T.h_LIMIT;exact p8 (v:=.int 10) hg (by rw[hM];exact h) ⟨t,rfl⟩ (by decide) λd e F H=>by cases e;simp[Rep]
theorem Txt.g_READINGS(T:Txt K mg cl fa fd){X:Cx}{XE:Nat->L2.St->Hp->Prop}{Φ:Nat->List D->R D}{m:Bool}{pos:Pos}(hK:X.K=K:=by rfl)(hM:X.mg=mg:=by rfl)(hg:Gl X "READINGS":=by rfl):OkE X cl XE Φ prog.gls m (.glob 1) (.Name "READINGS" pos):=by
 obtain⟨v,u,h,r,hr⟩:=T.h_READINGS;exact p8 (v:=v) hg (by rw[hM];exact h) r (by decide) λd e F H=>by cases e;rw[hK];exact hr cl F H
abbrev xn(i:Nat):Str:=(["Crowded","NoPlace","NoMove"]:List Str).getD i ""
abbrev Cs(P:Program)(w:World)(K:W.Frag)(mg:Str->Option Value)(base:Heap)(cl fa:Nat->Addr)(fd:Nat->FuncData)(j:Nat):Prop:=∀i,i<40->FnOk P w K mg base (CXE P w) (j+1) (fa i) (fd i) (Ps i) (spOf K cl (Phi prog j) i)
set_option maxHeartbeats 0
abbrev ScD(i:Nat):Prop:=(defScope (sT i)).kind=.function/\(defScope (sT i)).isCoroutine=false/\(defScope (sT i)).isGenerator=false/\(Nn i).Nodup/\(∀x∈Ps i,(defScope (sT i)).names.lookup x=some .local\/(defScope (sT i)).names.lookup x=some .cell)/\∀y∈(defScope (sT i)).names,y.2≠.free
theorem sc:∀i,i<40->FnScope (Nn i) (Ps i) (defScope (sT i)):=λi hi=>
 have ⟨a,b,c,d,e,f⟩:=(by decide+kernel:∀i,i<40->ScD i) i hi
 ⟨a,b,c,d,by simp,e,f⟩
theorem wP(T:Txt K mg cl fa fd)(O:∀{c x},c<3->xn c=x->OwnCls x (cl c) bmV "ValueError.__new__" mg base):∀j,Cs P w K mg base cl fa fd j
 |0,i,_=>vC
 |j+1,i,hi=>by
  have C:=wP T O j
  match i,hi with
  |0,h|1,h|2,h|3,h|4,h|5,h|6,h|7,h|8,h|9,h|10,h|11,h|12,h|13,h|14,h|15,h|16,h|17,h|18,h|19,h|20,h|21,h|22,h|23,h|24,h|25,h|26,h|27,h|28,h|29,h|30,h|31,h|32,h|33,h|34,h|35,h|36,h|37,h|38,h|39,h=>
   refine def_ok (T.f _ h).F (sc _ h) rfl rfl rfl λcd A outer s H E hr=>?_;have hu:=room_un hr;have nd:=(sc _ h).nd
   repeat' first
    |exact x_var
    |refine x_cons ?_ ?_
    |exact ok_int
    |refine u9 ?_ ?_
    |exact oks_nil
    |exact cA
    |refine x_at ?_ ?_
    |refine s_asg nd ?_
    |refine x_call (C _ (by decide)) hr (T.m (by decide) (by rfl)) (T.f _ (by decide)).F.kp (T.f _ (by decide)).b (by first|exact λ_=>oM|exact vG rfl pZ|exact vG rfl p0|exact pass_c hE) ?_
    |refine x_add ?_ ?_
    |refine oks_ret ?_
    |refine t_cm ?_
    |refine x_tup ?_
    |refine x_mod ?_ ?_
    |refine oks_if ?_ ?_ ?_
    |refine x_mul ?_ ?_
    |refine s_loop ?_ (by first|exact g_one nd|exact g_two nd) ?_
    |refine c_eq hu ?_ ?_
    |refine ok_seq ?_
    |refine x_lst ?_
    |refine x_len (T.n _ rfl) ?_
    |refine x_fdiv ?_ ?_
    |refine x_sub ?_ ?_
    |refine i_rng (T.n _ rfl) ?_
    |refine uO ?_
    |exact s_raise (by first|exact pZ|exact ToX.never|exact p0) (O (by decide) (by rfl)) PySem.F.excBase_ValueError (by decide) PySem.F.excBase_ValueError
    |refine x_comp ?_ (λ_ _ _ _ _=>?_) λ_ _ _ _ _=>?_
    |refine ok_tor ?_ ?_
    |refine c_ne hu ?_ ?_
    |refine ok_slc ?_ ?_ ?_
    |refine ok_tnot ?_
    |refine c_lt ?_ ?_
    |exact ok_bl
    |exact uX
    |refine s_app ?_
    |exact uN
    |refine x_tuple (T.n _ rfl) ?_
    |refine ok_tor1 ?_
    |refine s_put ?_ ?_
    |refine x_list (T.n _ rfl) ?_
    |refine x_cm ?_
    |exact ok_non
    |refine c_gt ?_ ?_
    |refine ok_tand ?_ ?_
    |refine uW ?_
    |refine x_neg ?_
    |refine uY ?_
    |refine c_ge ?_ ?_
    |refine x_max (T.n _ rfl) ?_ ?_
    |refine ok_and ?_ ?_
    |refine ok_one ?_
    |refine x_isTup (T.n _ rfl) (T.n _ rfl) ?_
    |refine i_enum (T.n _ rfl) ?_
    |refine c_nin ?_ ?_
    |refine sB ?_ ?_
    |exact T.g_LIMIT
    |refine c_isNN ?_
    |refine c_isN ?_
    |refine x_rep ?_ ?_
    |refine i_zip (T.n _ rfl) ?_ ?_
    |exact s_new nd
    |refine c_din true hu ?_ ?_
    |refine s_dput hu ?_ ?_
    |refine x_dlen (T.n _ rfl) ?_
    |refine x_dget hu ?_ ?_
    |refine ok_ite ?_ ?_ ?_
    |exact T.g_READINGS
    |refine x_index ?_ ?_
    |refine x_isInt (T.n _ rfl) (T.n _ rfl) ?_
    |refine ok_not ?_
    |refine vE (T.n _ rfl) (T.n _ rfl) ?_
    |refine x_count ?_ ?_
    |refine s_try T.c_CordError T.e_CordError (λ_ _=>?_) λ_=>?_
    |refine x_toInt (T.n _ rfl) ?_
    |refine t_leaf ?_
    |refine OkW.t ?_
    |refine s_mapx nd tog_def ?_ λ_ _ _ _ _ _ hE=>?_
    |refine s_asgC nd ?_ (λ_ _ _ _ _=>?_) λ_ _ _ _ _=>?_
  |n+40,h=>exact absurd h (by omega)
end
abbrev Bn(i:Nat):Prop:=∀(kV dc pm:Value)(an:Option Addr)(cd ct:Value)(us:List Value),us.length=(Ps i).length->bindArgs (W.fnOf (nm i) (nm i) (defArgs (sT i)) (defBody (sT i)) (defScope (sT i)) .none kV dc pm an cd ct) ⟨us,[]⟩=pure ((Ps i).zip us)
theorem bn:∀i,i<40->Bn i:=λi hi=>by
 match i,hi with
 |0,_|1,_|2,_|3,_|4,_|5,_|6,_|7,_|8,_|9,_|10,_|11,_|12,_|13,_|14,_|15,_|16,_|17,_|18,_|19,_|20,_|21,_|22,_|23,_|24,_|25,_|26,_|27,_|28,_|29,_|30,_|31,_|32,_|33,_|34,_|35,_|36,_|37,_|38,_|39,_=>exact λ_ _ _ _ _ _ us hl=>(by first|(obtain⟨_,rfl⟩:=us1 hl;rfl)|(obtain⟨_,_,rfl⟩:=us2 hl;rfl)|(obtain⟨_,_,_,rfl⟩:=us3 hl;rfl)|(obtain⟨_,_,_,_,rfl⟩:=us4 hl;rfl))
 |n+40,h=>exact absurd h (by omega)
theorem ft_mk{K:W.Frag}(X:K.In h)(G:h.Ns mainGlobals mg)(hF:FH K i)(hb:Bn i):∃(f:Addr)(fd:FuncData),mg (nm i)=some (.ref f)/\Binds K fd (Ps i) []/\Fun K (nm i) (nm i) (sT i) f fd:=by
 obtain⟨f,oc,kV,dc,pm,cd,ct,od,an,sl,a,b,c,k⟩:=hF;have F:=fun_mk b c k;exact⟨f,_,W.mg_of X G a,F.binds hb,F⟩
set_option maxHeartbeats 0 in
theorem all_mk{l:W.OpenLaw}{K:W.Frag}
  (X:K.In h) (Tp:Top qq loose mean mg mb h) (hfa:mg "law"=some (.ref faL)) (fx:Fx K)
  (j:Nat):∃(fdL:FuncData)(cl:Nat->Addr),(∀(s:Shared)(v:Value),BindsTo s fdL ⟨[v],[]⟩ [("script",v)])/\∀base:Heap,K.In base->base.Ns mainGlobals mg->(∀b o,h.get? b=some o->(∀its n,o.data≠.seq its n)->base.get? b=some o)->
   FnOk l.prog w K mg base (CXE l.prog w) (j+1) faL fdL ["script"] (spOf K cl (Phi prog j) lawId):=by
 obtain⟨C0,C1,C2,C3,cd_0,cd_1,cd_2,cd_3,tk_LIMIT,ad_READINGS_0,od_READINGS_0,sl_READINGS_0,nn_READINGS_0,ad_READINGS_1,od_READINGS_1,sl_READINGS_1,nn_READINGS_1,tk_READINGS_2,tk_READINGS_3,ad_READINGS_4,od_READINGS_4,sl_READINGS_4,nn_READINGS_4,tk_READINGS_5,tk_READINGS_6,ad_READINGS_7,od_READINGS_7,sl_READINGS_7,nn_READINGS_7,tk_READINGS_8,tk_READINGS_9,ad_READINGS_10,od_READINGS_10,sl_READINGS_10,nn_READINGS_10,tk_READINGS_11,tk_READINGS_12,sp0,sp1,sp2,hF,hB,n_Crowded,n_NoPlace,n_NoMove,n_CordError,gs,tk,ga0,ga1,ga2,cc0,ct0_,ss0,cc1,ct1_,ss1,cc2,ct2_,ss2,cc3,ct3_,ss3,u0_3,u1_3,u2_3,be_CordError,gl_LIMIT,gl_READINGS,go_READINGS_0,go_READINGS_1,go_READINGS_4,go_READINGS_7,go_READINGS_10⟩:=fx;have G:=Tp.g;have hT:∀i,i<40->∃(f:Addr)(fd:FuncData),mg (nm i)=some (.ref f)/\Binds K fd (Ps i) []/\Fun K (nm i) (nm i) (sT i) f fd:=λi hi=>ft_mk X G (hF i hi) (bn i hi);have hT:∀i,∃(f:Addr)(fd:FuncData),i<40->mg (nm i)=some (.ref f)/\Binds K fd (Ps i) []/\Fun K (nm i) (nm i) (sT i) f fd:=λi=>by
  by_cases h:i<40
  ·obtain⟨f,d,z⟩:=hT i h
   exact⟨f,d,λ_=>z⟩
  ·obtain⟨f,d,_⟩:=hT 0 (by decide)
   exact⟨f,d,λz=>absurd z h⟩
 let fa:Nat->Addr:=λi=>(hT i).choose
 let fd:Nat->FuncData:=λi=>(hT i).choose_spec.choose
 have hf:∀i,i<40->FT K mg fa fd i:=λi hi=>by
  obtain⟨a,b,c⟩:=(hT i).choose_spec.choose_spec hi;exact⟨a,b,c⟩
 have eL:fa 39=faL:=(Value.ref.inj (yN (hfa.symm.trans (hf 39 (by decide)).m))).symm
 let cl:Nat->Addr:=λc=>[C0,C1,C2,C3].getD c C0
 have T:Txt K mg cl fa fd:={
  n:=λx hx=>by
   obtain⟨i,hi,rfl⟩:=List.getElem_of_mem (List.contains_iff_mem.mp hx);have:=hB i hi;rw[List.getD,yY hi] at this;exact W.mg_none_of X G this
  f:=hf
  c_Crowded:=W.mg_of X G n_Crowded
  c_NoPlace:=W.mg_of X G n_NoPlace
  c_NoMove:=W.mg_of X G n_NoMove
  c_CordError:=W.mg_of X G n_CordError
  x_0:=⟨ga0.1.1,ga0.1.2,ga0.2.1,gs,tk,ga0.2.2.1,ga0.2.2.2,⟨_,cc0⟩⟩
  x_1:=⟨ga1.1.1,ga1.1.2,ga1.2.1,gs,tk,ga1.2.2.1,ga1.2.2.2,⟨_,cc1⟩⟩
  x_2:=⟨ga2.1.1,ga2.1.2,ga2.2.1,gs,tk,ga2.2.2.1,ga2.2.2.2,⟨_,cc2⟩⟩
  e_CordError:=λc hc=>by
   simp only[yC,yF,or_false] at hc;rcases hc with rfl|rfl|rfl
   ·exact oN be_CordError cc3 ct3_ u0_3
   ·exact oN be_CordError cc3 ct3_ u1_3
   ·exact oN be_CordError cc3 ct3_ u2_3
  h_LIMIT:=⟨_,W.mg_of X G gl_LIMIT⟩
  h_READINGS:=globT_v (W.mg_of X G gl_READINGS) (iR (vs:=[.ref ad_READINGS_1,.ref ad_READINGS_4,.ref ad_READINGS_7,.ref ad_READINGS_10]) go_READINGS_0 (.cons rfl (.cons rfl (.cons rfl (.cons rfl .nil)))) (.cons (iR (vs:=[.int (0),.int (0)]) go_READINGS_1 (.cons ⟨_,rfl⟩ (.cons ⟨_,rfl⟩ .nil)) (.cons dF (.cons dF .nil)) (show 2<=sizeLine by decide)) (.cons (iR (vs:=[.int (0),.int (2)]) go_READINGS_4 (.cons ⟨_,rfl⟩ (.cons ⟨_,rfl⟩ .nil)) (.cons dF (.cons dF .nil)) (show 2<=sizeLine by decide)) (.cons (iR (vs:=[.int (2),.int (0)]) go_READINGS_7 (.cons ⟨_,rfl⟩ (.cons ⟨_,rfl⟩ .nil)) (.cons dF (.cons dF .nil)) (show 2<=sizeLine by decide)) (.cons (iR (vs:=[.int (2),.int (2)]) go_READINGS_10 (.cons ⟨_,rfl⟩ (.cons ⟨_,rfl⟩ .nil)) (.cons dF (.cons dF .nil)) (show 2<=sizeLine by decide)) .nil)))) (show 4<=sizeLine by decide))
 }
 refine⟨fd 39,cl,λs v=>?_,λbase kb nb hh=>?_⟩
 ·obtain⟨_,_,_,_,_,_,_,_,_,e,_⟩:=(hf 39 (by decide)).F.ex
  rw[e];exact .of_eq rfl
 rw[←eL];refine wP T (λ{c x} hc e=>e▸?_) j 39 (by decide)
 match c,hc with
 |0,_=>
  obtain⟨D,OD,_⟩:=Tp.ownAt sp0;cases OD.bound.symm.trans (W.mg_of X G n_Crowded);exact iQ OD.own hh
 |1,_=>
  obtain⟨D,OD,_⟩:=Tp.ownAt sp1;cases OD.bound.symm.trans (W.mg_of X G n_NoPlace);exact iQ OD.own hh
 |2,_=>
  obtain⟨D,OD,_⟩:=Tp.ownAt sp2;cases OD.bound.symm.trans (W.mg_of X G n_NoMove);exact iQ OD.own hh
 |n+3,h=>exact absurd h (by omega)
end L
namespace L
open Py
noncomputable def depth:Nat:=12
theorem gE(k:Nat)(ns:List Int)(i:Nat):Phi prog (k+1) 26 [.scr ns,.int (i:Nat)]=.ok (.int (cellV ns i)):=by
 show(xecs (Phi prog k) prog.gls 1000 Bcell [some (false,.scr ns),some (false,.int (i:Nat))]).val=_;rw[vK];rfl
theorem pJ(k:Nat)(ns:List Int)(i:Nat):Phi prog (k+2) 27 [.scr ns,.int (i:Nat)]=.ok (.int (pickV ns i)):=by
 show(xecs (Phi prog (k+1)) prog.gls 1000 (Bpick 26) [some (false,.scr ns),some (false,.int (i:Nat))]).val=_;rw[pick_run ns i (gE k ns 0)];rfl
theorem p_rows(k:Nat)(ns:List Int)(start m:Nat)(hm:m<=50):Phi prog (k+3) 28 [.scr ns,.int (start:Nat),.int (m:Nat),.lst []]=.ok (.lst ((chunks m (runP (λk=>pickV ns (start+k)) (startP m [])).owner).map rowD)):=by
 show(xecs (Phi prog (k+2)) prog.gls 1000 (Brows 27) [some (false,.scr ns),some (false,.int (start:Nat)),some (false,.int (m:Nat)),some (false,.lst (([]:List (Nat×Nat)).map pairD)),none,none,none,none,none]).val=_;rw[mY (by omega) (by simp) (by simp) (pJ k ns) (by decide)];rfl
theorem pK(k:Nat){R:List (List Int)}(h4:∀r∈R,r.length=4)(hL:R.length<=50):Phi prog (k+1) 29 [.lst (R.map rowD)]=.ok (.tup ((numV R).map rowD)):=by
 show(xecs (Phi prog k) prog.gls 1000 Bnumbered [some (false,.lst (R.map rowD)),none,none,none,none]).val=_;have hf:=g8 h4;rw[eV (bH (by simp;omega)) (λr hr=>by rw[h4 r hr];decide) (by omega) (by omega)];rfl
theorem qV(k:Nat)(x:Int):Phi prog (k+1) 30 [.int x]=.ok (.bl true):=by
 show(xecs (Phi prog k) prog.gls 1000 Bwhole [some (false,.int x)]).val=_;rw[sI];rfl
theorem qW(k:Nat){R:List (List Int)}(h4:∀r∈R,r.length=4)(hL:R.length<=50):Phi prog (k+1) 10 [.lst (R.map rowD),.int g]=.ok (shD (numV R) g):=by
 show(xecs (Phi prog k) prog.gls 1000 Bnum [some (false,.lst (R.map rowD)),some (false,.int g),none,none,none,none]).val=_;have hf:=g8 h4;rw[vR (bH (by simp;omega)) (λr hr=>by rw[h4 r hr];decide) (by omega) (by omega)];rfl
theorem pL(k:Nat)(h4:∀r∈Q,r.length=4)(hQ:Q.length<=50):Phi prog (k+1) 5 [shD Q g,.int line]=if placesV Q line=[] then .exc 1 else .ok (.tup ((placesV Q line).map pairD)):=by
 show(xecs (Phi prog k) prog.gls 1000 (Bends 1) [some (false,.tup [.tup (Q.map rowD),.int g]),some (false,.int line),none,none,none,none]).val=_;exact vN h4 (by omega)
theorem bK(k:Nat)(hl:op1 .list d0=.ok (.lst (Q.map rowD)))(h4:∀r∈Q,r.length=4)(hp:p.1<Q.length/\p.2<4):Phi prog (k+1) 25 [d0,pairD p,.int v]=.ok (.lst ((setP Q p v).map rowD)):=by
 show(xecs (Phi prog k) prog.gls 1000 Brelined [some (false,d0),some (false,pairD p),some (false,.int v),none,none]).val=_;rw[nB hl h4 hp.1 hp.2];rfl
theorem p_rowsF(k:Nat)(ns:List Int)(start m:Nat)(hm:m<=50)(hl:fx.length<=1000)(hf:∀x∈fx,x.1<4*m/\x.2<4*m):Phi prog (k+3) 28 [.scr ns,.int (start:Nat),.int (m:Nat),.lst (fx.map pairD)]=.ok (.lst ((chunks m (runP (λk=>pickV ns (start+k)) (startP m fx)).owner).map rowD)):=by
 show(xecs (Phi prog (k+2)) prog.gls 1000 (Brows 27) [some (false,.scr ns),some (false,.int (start:Nat)),some (false,.int (m:Nat)),some (false,.lst (fx.map pairD)),none,none,none,none,none]).val=_;rw[mY (by omega) hl hf (pJ k ns) (by decide)];rfl
theorem n5(k:Nat)(h4:∀r∈L,r.length=4)(h2:∀r∈P,r.length=2)(hL:L.length<=50)(hP:P.length<=50):Phi prog (k+2) 12 [.lst (L.map rowD),.int g,.lst (P.map rowD)]=.ok (shD (numV (joinV L g P).1) (joinV L g P).2):=by
 show(xecs (Phi prog (k+1)) prog.gls 1000 (Bjoined 13 10) [some (false,.lst (L.map rowD)),some (false,.int g),some (false,.lst (P.map rowD)),none,none,none,none]).val=_;rw[oW (λR old new hR hr=>by
  show(xecs (Phi prog k) prog.gls 1000 Brenamed [some (false,.lst (R.map rowD)),some (false,.int old),some (false,.int new)]).val=_;rw[nC hR hr];rfl) (λR g h4 hL=>qW k h4 hL) h4 h2 hL hP (by decide)];rfl
theorem kT(k:Nat)(hQ:Q.length<=50):Phi prog (k+1) 11 [.tup (Q.map rowD),.tup (intL ks)]=.ok (.lst ((withoutV Q ks).map rowD)):=by
 show(xecs (Phi prog k) prog.gls 1000 Bwithout [some (false,.tup (Q.map rowD)),some (false,.tup (intL ks))]).val=_;rw[nG (by omega)];rfl
theorem p_at(k:Nat):Phi prog (k+1) 6 [shD Q g,.int x]=if x<0\/(Q.length:Int)<=x then .exc 1 else .ok (rowD (Q.getD x.toNat [])):=by
 show(xecs (Phi prog k) prog.gls 1000 (Bat 1) [some (false,shD Q g),some (false,.int x)]).val=_;exact at_run
noncomputable def vecD(r:List Int):D:=.lst (intL r)
noncomputable def wD(y:Nat×Int):D:=.tup [.int (y.1:Nat),.int y.2]
theorem bF(h:j<r.length):atD (intL r) (j:Nat)=some (.int (r.getD j 0)):=by
 rw[bW (by simpa[intL] using h)];simp[intL,h]
theorem qX:∀(r l:List Int),zipD (intL r) (intL l)=(r.zip l).map λy=>.tup [.int y.1,.int y.2]
 |[],l=>by simp[intL,zipD]
 |a::r,[]=>by simp[intL,zipD]
 |a::r,b::l=>by
  show D.tup [.int a,.int b]::zipD (intL r) (intL l)=_;rw[qX r l];rfl
theorem tF(k:Nat)(hr:r.length=L)(hl:l.length=L)(hj:j<L)(hL:L<=50)(sr:∀x∈r,-100<=x/\x<=100)(sl:∀x∈l,-100<=x/\x<=100)(hp:0<p):
  Phi prog (k+1) 4 [vecD r,vecD l,.int (j:Nat),.int p]=.ok (vecD (clrV p j r l)):=by
 show(xecs (Phi prog k) prog.gls 1000 gB [some (false,vecD r),some (false,vecD l),some (false,.int (j:Nat)),some (false,.int p)]).val=_;have hz:itemsD .zip [vecD r,vecD l]=.ok ((r.zip l).map λy=>.tup [.int y.1,.int y.2]):=by
  show(R.ok (zipD (intL r) (intL l))).bind _=_;rw[R.bind_ok,qX,xE (by simp[hr,hl];exact xU hL (by decide))]
 have a1:op2 .at (vecD r) (.int (j:Nat))=.ok (.int (r.getD j 0)):=by show ofO (atD (intL r) _)=_;rw[bF (by omega)];rfl
 have a2:op2 .at (vecD l) (.int (j:Nat))=.ok (.int (l.getD j 0)):=by show ofO (atD (intL l) _)=_;rw[bF (by omega)];rfl
 have b1:=sr _ (bS (r:=r) (j:=j) (by omega));have b2:=sl _ (bS (r:=l) (j:=j) (by omega));have md:∀x:Int,op2 .mod (.int x) (.int p)=.ok (.int (x%p)):=λx=>cD _ _ hp;unfold clrV;generalize r.getD j 0=c at*;generalize l.getD j 0=a at*;have m1:∀x:Int,op2 .mul (.int x) (.int a)=.ok (.int (x*a)):=λx=>eU _ _ (.inr ⟨by omega,by omega⟩);have m2:∀x:Int,op2 .mul (.int x) (.int c)=.ok (.int (x*c)):=λx=>eU _ _ (.inr ⟨by omega,by omega⟩);generalize ((j:Nat):Int)=J at*;have hv:vecD ((r.zip l).map λy=>(y.1*a-y.2*c)%p)=.lst (((r.zip l).map λy=>D.tup [.int y.1,.int y.2]).map λx=>match x with|.tup [.int u,.int v]=>.int ((u*a-v*c)%p)|_=>.non):=by
  unfold vecD intL;rw[List.map_map,List.map_map];rfl
 rw[hv];generalize hR:vecD r=R at*;generalize hS:vecD l=S at*;simp only[gB,xecs,xec,ev,evs,evO,frz,leaks,leakss,leaksO,rdR,rdV,spread,capOf,Zf,Zk,Zl,Zm,Zn,Zq,xD,Zx,hz,List.filterMap_nil,zJ];rw[bQ (λx=>match x with|.tup [.int u,.int v]=>.int ((u*a-v*c)%p)|_=>.non) _ λx hx=>?_]
 ·rfl
 ·obtain⟨y,_,rfl⟩:=yZ.1 hx
  simp only[Zf,Zk,Zl,Zm,Zn,Zo,Zp,xD,ZB,a1,a2,m1,m2,md,w5,xJ,xQ]
theorem kU(k:Nat)(hL:L<=50)(hw:ws.length<=50)(hi:∀y∈ws,y.1<L):
  Phi prog (k+1) 2 [.tup (ws.map wD),.int (L:Nat)]=.ok (vecD (weighV L ws)):=by
 show(xecs (Phi prog k) prog.gls 1000 gA [some (false,.tup (ws.map wD)),some (false,.int (L:Nat)),none,none,none]).val=_;have hrep:op2 .rep (.lst [.int 0]) (.int (L:Nat))=.ok (vecD (List.replicate L 0)):=by
  show(if _ then R.ok (D.lst ((List.replicate (L:Int).toNat [D.int 0]).flatten)) else _)=_;rw[xE ⟨by omega,by omega,rfl⟩,yE];unfold vecD intL;rw[List.map_replicate]
  congr 2
  clear hi hL
  induction L with
  |zero=>rfl
  |succ n ih=>rw[List.replicate_succ,xZ,ih];rfl
 have e1:xec (Phi prog k) prog.gls 1000 (.asg 2 (.op2 .rep (.lst [(.cst (.int 0))]) (.var 1))) [some (false,.tup (ws.map wD)),some (false,.int (L:Nat)),none,none,none]=.nx [some (false,.tup (ws.map wD)),some (false,.int (L:Nat)),some (true,vecD (List.replicate L 0)),none,none]:=by
  simp only[xec,ev,evs,frz,leaks,leakss,rdR,rdV,Zc,isOwn,frsh,Zf,Zi,Zj,Zk,Zl,Zq,xD,Zt,hrep,vecD]
 unfold gA;rw[aA e1]
 let st:Nat->List Int:=λi=>(ws.take i).foldl (λr y=>addAt r y.1 y.2) (List.replicate L 0)
 have sl:∀i,(st i).length=L:=λi=>by
  have:∀(us:List (Nat×Int))(r:List Int),(us.foldl (λr y=>addAt r y.1 y.2) r).length=r.length:=λus=>by
   induction us with
   |nil=>intro r;rfl
   |cons u us ih=>intro r;rw[List.foldl_cons,ih,dP]
  exact(this _ _).trans zL
 obtain⟨δ',e2,c3,c4,rfl⟩:=aU (Φ:=Phi prog k) (G:=prog.gls) (n:=1000) (k:=.seq) (its:=[(.var 0)]) (tg:=[3,4]) (body:=[(.put 2 (.var 3) (.op2 .add (.op2 .at (.var 2) (.var 3)) (.var 4)))]) (δ:=[some (false,.tup (ws.map wD)),some (false,.int (L:Nat)),some (true,vecD (List.replicate L 0)),none,none]) (xs:=ws.map wD)
  (by simp only[ev,evs,frz,frz1,leaks,leakss,rdR,rdV,Zf,Zk,Zq,w6,gV];exact aM (by simp;omega)) (λi δ=>∃c3 c4,δ=[some (false,.tup (ws.map wD)),some (false,.int (L:Nat)),some (true,vecD (st i)),c3,c4]) ⟨none,none,by simp only[frz,frz1,leaks,leakss,Zk,Zq,w6,gV];rfl⟩ (by
  rintro i hi' δ ⟨c3,c4,rfl⟩;have hi2:i<ws.length:=by simpa using hi'
  have hx:=hi _ (xV hi2);have ex:(ws.map wD)[i]=.tup [.int (ws[i].1:Nat),.int ws[i].2]:=by rw[zW];rfl
  have es:st (i+1)=addAt (st i) ws[i].1 ws[i].2:=by
   show List.foldl _ _ (ws.take (i+1))=_;rw[xW hi2,List.foldl_append];rfl
  have hl:=sl i;rw[ex,es];have a1:atD (intL (st i)) (ws[i].1:Nat)=some (.int ((st i).getD ws[i].1 0)):=bF (by omega);have a2:ixD (intL (st i)).length (ws[i].1:Nat)=some ws[i].1:=fO (by simp[intL,hl];exact hx);have hset:vecD (addAt (st i) ws[i].1 ws[i].2)=.lst ((intL (st i)).set ws[i].1 (.int ((st i).getD ws[i].1 0+ws[i].2))):=by
   unfold vecD intL addAt;rw[List.map_set]
  rw[hset];unfold vecD;generalize st i=r at*;generalize ws[i].1=q at*;generalize hq:((q:Nat):Int)=Q at*;generalize ws[i].2=w at*;refine⟨_,?_,some (false,.int Q),some (false,.int w),rfl⟩;simp only[loopF,xecs,xec,ev,frz,leaks,rdR,rdV,Zc,Py.sets,spread,Ze,Zf,Zi,Zj,Zk,Zl,Zq,xD,ZA,ZI,a1,a2,putD,ownL,w5,xJ,xQ])
 rw[aA e2];simp only[xecs,xec,ev,frz,frz1,leaks,rdR,rdV,Zi,Zj,Zk,Zl,w6,gV,xB];show Out.val (.rt (vecD (st ws.length)))=_;show R.ok (vecD ((ws.take ws.length).foldl _ _))=_;rw[y7];rfl
theorem lU(k:Nat)(hL:L<=50)(hQ:Q.length<=50)(h:In4 L Q):Phi prog (k+2) 1 [.tup (Q.map rowD),.int (L:Nat)]=.ok (.lst ((condV L Q).map vecD)):=by
 show(xecs (Phi prog (k+1)) prog.gls 1000 cW [some (false,.tup (Q.map rowD)),some (false,.int (L:Nat)),none,none]).val=_;have e1:xec (Phi prog (k+1)) prog.gls 1000 (.asg 2 (.lst [])) [some (false,.tup (Q.map rowD)),some (false,.int (L:Nat)),none,none]=.nx [some (false,.tup (Q.map rowD)),some (false,.int (L:Nat)),some (true,.lst []),none]:=by
  simp only[xec,ev,evs,frz,leaks,leakss,Zc,isOwn,frsh,Zf,Zi,Zj,Zt]
 unfold cW;rw[aA e1];obtain⟨δ',e2,c3,rfl⟩:=aU (Φ:=Phi prog (k+1)) (G:=prog.gls) (n:=1000) (k:=.seq) (its:=[(.var 0)]) (tg:=[3]) (body:=[(.app 2 (.call 2 [(.tup [(.tup [(.op2 .at (.var 3) (.cst (.int 1))),(.cst (.int 1))]),(.tup [(.op2 .at (.var 3) (.cst (.int 3))),(.op1 .neg (.cst (.int 1)))])]),(.var 1)])),(.app 2 (.call 2 [(.tup [(.tup [(.op2 .at (.var 3) (.cst (.int 1))),(.cst (.int 2))]),(.tup [(.op2 .at (.var 3) (.cst (.int 0))),(.op1 .neg (.cst (.int 1)))]),(.tup [(.op2 .at (.var 3) (.cst (.int 2))),(.op1 .neg (.cst (.int 1)))])]),(.var 1)]))]) (δ:=[some (false,.tup (Q.map rowD)),some (false,.int (L:Nat)),some (true,.lst []),none]) (xs:=Q.map rowD)
  (by simp only[ev,evs,frz,frz1,leaks,leakss,rdR,rdV,Zf,Zk,Zq,w6,gV];exact aM (by simp;omega)) (λi δ=>∃c3,δ=[some (false,.tup (Q.map rowD)),some (false,.int (L:Nat)),some (true,.lst ((condV L (Q.take i)).map vecD)),c3]) ⟨none,by simp only[frz,frz1,leaks,leakss,Zk,Zq,w6,gV];rfl⟩ (by
  rintro i hi' δ ⟨c3,rfl⟩;have hi:i<Q.length:=by simpa using hi'
  have hm:=xV hi;have h4:=h.four _ hm;have hb:=h.low _ hm;have ec:condV L (Q.take (i+1))=condV L (Q.take i)++condR L Q[i]:=by
   rw[xW hi];unfold condV;rw[List.flatMap_append,List.flatMap_cons,List.flatMap_nil,yD]
  rw[zW,ec,yB];have hlen:(condV L (Q.take i)).length<=100:=by
   rw[nM,yS];omega
  generalize condV L (Q.take i)=C at*;generalize Q[i]=r at*;have g0:=a9 h4 hb (j:=0) (by omega);have g1:=a9 h4 hb (j:=1) (by omega);have g2:=a9 h4 hb (j:=2) (by omega);have g3:=a9 h4 hb (j:=3) (by omega);have a0:op2 .at (rowD r) (.int 0)=.ok (.int (r.getD 0 0)):=by show ofO (atD (intL r) ((0:Nat):Int))=_;rw[bF (by omega)];rfl
  have a1:op2 .at (rowD r) (.int 1)=.ok (.int (r.getD 1 0)):=by show ofO (atD (intL r) ((1:Nat):Int))=_;rw[bF (by omega)];rfl
  have a2:op2 .at (rowD r) (.int 2)=.ok (.int (r.getD 2 0)):=by show ofO (atD (intL r) ((2:Nat):Int))=_;rw[bF (by omega)];rfl
  have a3:op2 .at (rowD r) (.int 3)=.ok (.int (r.getD 3 0)):=by show ofO (atD (intL r) ((3:Nat):Int))=_;rw[bF (by omega)];rfl
  unfold condR;have w1:=kU k (ws:=[((r.getD 1 0).toNat,1),((r.getD 3 0).toNat,-1)]) hL (by simp) (by
   intro y hy;simp only[yC,yF,or_false] at hy;rcases hy with rfl|rfl<;>dsimp only<;>omega)
  have w2:=kU k (ws:=[((r.getD 1 0).toNat,2),((r.getD 0 0).toNat,-1),((r.getD 2 0).toNat,-1)]) hL (by simp) (by
   intro y hy;simp only[yC,yF,or_false] at hy;rcases hy with rfl|rfl|rfl<;>dsimp only<;>omega)
  have n0:(((r.getD 0 0).toNat:Nat):Int)=r.getD 0 0:=by omega
  have n1:(((r.getD 1 0).toNat:Nat):Int)=r.getD 1 0:=by omega
  have n2:(((r.getD 2 0).toNat:Nat):Int)=r.getD 2 0:=by omega
  have n3:(((r.getD 3 0).toNat:Nat):Int)=r.getD 3 0:=by omega
  simp only[xM,yX,wD,n0,n1,n2,n3] at w1 w2;generalize weighV L [((r.getD 1 0).toNat,1),((r.getD 3 0).toNat,-1)]=v1 at*;generalize weighV L [((r.getD 1 0).toNat,2),((r.getD 0 0).toNat,-1),((r.getD 2 0).toNat,-1)]=v2 at*;generalize r.getD 0 0=b0 at*;generalize r.getD 1 0=b1 at*;generalize r.getD 2 0=b2 at*;generalize r.getD 3 0=b3 at*;generalize rowD r=R at*;generalize ((L:Nat):Int)=LI at*;have l1:(C.map vecD).length<LIM:=by rw[xB];exact yK hlen (by decide)
  have l2:(C.map vecD++[vecD v1]).length<LIM:=by rw[xL,xB];exact yK (show _<=101 by simp;omega) (by decide)
  refine⟨_,?_,some (false,R),rfl⟩;generalize C.map vecD=CD at*;simp only[loopF,xecs,xec,ev,evs,frz,frz1,leaks,leakss,rdR,rdV,Zc,Py.sets,spread,Zf,Zi,Zj,Zk,Zl,Zm,Zn,Zo,Zp,Zq,xD,w6,gV,ZO,a0,a1,a2,a3,w1,w2,appD,ownL,l1,l2,List.append_assoc,w5,xJ,xQ])
 rw[aA e2];simp only[xecs,xec,ev,frz,frz1,leaks,rdR,rdV,Zc,Zi,Zj,Zk,Zl,w6,gV,xB,y7];rfl
noncomputable abbrev WL:Ex:=(.comp .seq [(.var 4)] [2,5] 1 (some (.leaf (.op2 .ne (.op2 .mod (.op2 .at (.var 0) (.var 2)) (.var 1)) (.cst (.int 0))))) (.var 0))
noncomputable abbrev WO:Ex:=(.comp .seq [(.var 4)] [2,5] 1 (some (.leaf (.op2 .eq (.op2 .mod (.op2 .at (.var 0) (.var 2)) (.var 1)) (.cst (.int 0))))) (.var 0))
noncomputable abbrev WN:Ex:=(.op2 .add (.var 7) (.comp .seq [(.slc (.var 6) (some (.cst (.int 1))) none)] [5,2,6] 1 none (.call 4 [(.var 0),(.op2 .at (.var 3) (.cst (.int 0))),(.var 1),(.var 2)])))
noncomputable abbrev WB:List Sm:=[(.asg 6 WL),(.ite (.leaf (.var 6)) [(.asg 3 (.op2 .add (.var 3) (.cst (.int 1)))),(.asg 7 WO),(.asg 4 WN)] [])]
theorem jN(rows:List (List Int))(h:∀r∈rows,q (vecD r)=f r):((rows.map vecD).filter q).map (λx=>x)=(rows.filter f).map vecD:=by
 rw[List.map_id',List.filter_map]
 congr 1
 exact List.filter_congr λr hr=>h r hr
noncomputable def colD(j:Nat):D->Int
 |.lst xs=>match xs[j]? with
  |some (.int i)=>i
  |_=>0
 |_=>0
theorem iA(h:j<r.length):colD j (vecD r)=r.getD j 0:=by
 simp[colD,vecD,intL,h]
theorem wQ(hj:j<L)(hR:Rws L left)(hn:left.length<=100)(hp:0<p):
  xec Φ G n (.asg 6 WL) [some (false,d0),some (false,d1),some (false,.int p),some (false,.int s),some (b4,.lst (left.map vecD)),some (false,.int (j:Nat)),c6,c7]=.nx [some (false,d0),some (false,d1),some (false,.int p),some (false,.int s),some (b4,.lst (left.map vecD)),some (false,.int (j:Nat)),some (true,.lst ((left.filter λr=>decide (r.getD j 0%p≠0)).map vecD)),c7]:=by
 have h1:itemsD .seq [.lst (left.map vecD)]=.ok (left.map vecD):=bH (by simp;omega);have md:∀x:Int,op2 .mod (.int x) (.int p)=.ok (.int (x%p)):=λx=>cD _ _ hp;have at1:∀r∈left,op2 .at (vecD r) (.int (j:Nat))=.ok (.int (r.getD j 0)):=λr hr=>by show ofO (atD (intL r) _)=_;rw[bF (by rw[hR.len r hr];exact hj)];rfl
 have e0:((left.map vecD).filter λd=>decide (colD j d%p≠0)).map (λx=>x)=(left.filter λr=>decide (r.getD j 0%p≠0)).map vecD:=jN left λr hr=>by rw[iA (by rw[hR.len r hr];exact hj)]
 rw[←e0];simp only[xec,evT,ev,evs,evO,frz,leaksT,leaks,leakss,leaksO,rdR,rdV,spread,capOf,isOwn,frsh,Zf,Zi,Zj,Zk,Zl,Zm,Zn,Zo,Zp,Zq,xD,w6,gV,Zt,Zx,h1,List.filterMap_nil,zJ,Nat.reduceLT];rw[bD (λd=>decide (colD j d%p≠0)) (λx=>x) _ λx hx=>?_]
 ·simp only[Zc,Zf,Zh]
 ·obtain⟨r,hr,rfl⟩:=yZ.1 hx
  have a1:=at1 r hr;have hc:=iA (r:=r) (j:=j) (by rw[hR.len r hr];exact hj);rw[hc];generalize r.getD j 0=c at*;generalize vecD r=V at*;clear at1 e0 hc;generalize ((j:Nat):Int)=J at*;by_cases hz:c%p=0
  ·have z:(c%p==0)=true:=by simpa using hz
   simp only[Za,Zf,w6,gV,ZH,a1,md,z,hz,ne_eq,not_true_eq_false,decide_false,w5,xJ,xQ];rfl
  ·have z:(c%p==0)=false:=by simpa using hz
   simp only[Za,Zf,xD,Zw,ZH,a1,md,z,hz,ne_eq,not_false_eq_true,decide_true,w5,xJ,xQ]
theorem oth_run(hj:j<L)(hR:Rws L left)(hn:left.length<=100)(hp:0<p):
  xec Φ G n (.asg 7 WO) [some (false,d0),some (false,d1),some (false,.int p),some (false,.int s),some (b4,.lst (left.map vecD)),some (false,.int (j:Nat)),c6,c7]=.nx [some (false,d0),some (false,d1),some (false,.int p),some (false,.int s),some (b4,.lst (left.map vecD)),some (false,.int (j:Nat)),c6,some (true,.lst ((left.filter λr=>decide (r.getD j 0%p=0)).map vecD))]:=by
 have h1:itemsD .seq [.lst (left.map vecD)]=.ok (left.map vecD):=bH (by simp;omega);have md:∀x:Int,op2 .mod (.int x) (.int p)=.ok (.int (x%p)):=λx=>cD _ _ hp;have at1:∀r∈left,op2 .at (vecD r) (.int (j:Nat))=.ok (.int (r.getD j 0)):=λr hr=>by show ofO (atD (intL r) _)=_;rw[bF (by rw[hR.len r hr];exact hj)];rfl
 have e0:((left.map vecD).filter λd=>decide (colD j d%p=0)).map (λx=>x)=(left.filter λr=>decide (r.getD j 0%p=0)).map vecD:=jN left λr hr=>by rw[iA (by rw[hR.len r hr];exact hj)]
 rw[←e0];simp only[xec,evT,ev,evs,evO,frz,leaksT,leaks,leakss,leaksO,rdR,rdV,spread,capOf,isOwn,frsh,Zf,Zi,Zj,Zk,Zl,Zm,Zn,Zo,Zp,Zq,xD,w6,gV,Zt,Zx,h1,List.filterMap_nil,zJ,Nat.reduceLT];rw[bD (λd=>decide (colD j d%p=0)) (λx=>x) _ λx hx=>?_]
 ·simp only[Zc,Zf,Zh]
 ·obtain⟨r,hr,rfl⟩:=yZ.1 hx
  have a1:=at1 r hr;have hc:=iA (r:=r) (j:=j) (by rw[hR.len r hr];exact hj);rw[hc];generalize r.getD j 0=c at*;generalize vecD r=V at*;clear at1 e0 hc;generalize ((j:Nat):Int)=J at*;by_cases hz:c%p=0
  ·have z:(c%p==0)=true:=by simpa using hz
   simp only[Za,Zf,xD,ZG,a1,md,z,hz,decide_true,w5,xJ,xQ];rfl
  ·have z:(c%p==0)=false:=by simpa using hz
   simp only[Za,Zf,w6,gV,ZG,a1,md,z,hz,decide_false,w5,xJ,xQ]
theorem tG(k:Nat)(hj:j<L)(hL:L<=50)(hR:Rws L S.1)(hn:S.1.length<=100)(hp:0<p):
  ∃δ',loopF (Phi prog (k+1)) prog.gls 1000 [5] WB (.int (j:Nat)) [some (false,d0),some (false,d1),some (false,.int p),some (false,.int (S.2:Nat)),some (b4,.lst (S.1.map vecD)),c5,c6,c7]=.nx δ'/\∃b c5 c6 c7,δ'=[some (false,d0),some (false,d1),some (false,.int p),some (false,.int ((elimV p j S).2:Nat)),some (b,.lst ((elimV p j S).1.map vecD)),c5,c6,c7]:=by
 obtain⟨left,s⟩:=S;dsimp only at hR hn⊢;have e1:=wQ (Φ:=Phi prog (k+1)) (G:=prog.gls) (n:=1000) (d0:=d0) (d1:=d1) (s:=(s:Nat)) (b4:=b4) (c6:=c6) (c7:=c7) hj hR hn hp;have el:loopF (Phi prog (k+1)) prog.gls 1000 [5] WB (.int (j:Nat)) [some (false,d0),some (false,d1),some (false,.int p),some (false,.int (s:Nat)),some (b4,.lst (left.map vecD)),c5,c6,c7]=xecs (Phi prog (k+1)) prog.gls 1000 WB [some (false,d0),some (false,d1),some (false,.int p),some (false,.int (s:Nat)),some (b4,.lst (left.map vecD)),some (false,.int (j:Nat)),c6,c7]:=by
  simp only[loopF,spread,Py.sets,w5,xJ,xQ,Zi,Zj]
 rw[el,aA e1];unfold elimV;dsimp only
 cases e:left.filter λr=>decide (r.getD j 0%p≠0) with
 |nil=>
  refine⟨_,?_,b4,some (false,.int (j:Nat)),some (true,.lst []),c7,rfl⟩;simp only[xecs,xec,evT,ev,evs,evP,evO,frz,leaksT,leaks,leakss,leaksP,leaksO,rdR,rdV,Zb,Zc,asI,spread,capOf,isOwn,frsh,slc,Zf,Zi,Zj,Zk,Zl,Zm,Zn,Zo,Zp,Zq,xD,w6,gV,Zt,Zv,ZA,yX,List.isEmpty_nil]
 |cons l ls=>
  have hm:∀r,r∈l::ls->r∈left:=λr hr=>by rw[←e] at hr;exact(yP.1 hr).1
  have e3:xec (Phi prog (k+1)) prog.gls 1000 (.asg 3 (.op2 .add (.var 3) (.cst (.int 1)))) [some (false,d0),some (false,d1),some (false,.int p),some (false,.int (s:Nat)),some (b4,.lst (left.map vecD)),some (false,.int (j:Nat)),some (true,.lst ((l::ls).map vecD)),c7]=.nx [some (false,d0),some (false,d1),some (false,.int p),some (false,.int ((s+1:Nat):Nat)),some (b4,.lst (left.map vecD)),some (false,.int (j:Nat)),some (true,.lst ((l::ls).map vecD)),c7]:=by
   simp only[xec,ev,frz,leaks,rdR,rdV,Zc,isOwn,frsh,Zf,Zi,Zj,Zk,Zl,Zm,Zq,xD,Zt,ZA,Int.natCast_add,Int.natCast_one]
  have e4:=oth_run (Φ:=Phi prog (k+1)) (G:=prog.gls) (n:=1000) (d0:=d0) (d1:=d1) (s:=((s+1:Nat):Nat)) (b4:=b4) (c6:=some (true,.lst ((l::ls).map vecD))) (c7:=c7) hj hR hn hp;have ll:=hR.len l (hm l xT);have hls:ls.length<=100:=by
   have:=List.length_filter_le (λr:List Int=>decide (r.getD j 0%p≠0)) left;rw[e,w5] at this;omega
  have hos:(left.filter λr=>decide (r.getD j 0%p=0)).length<=100:=xU (List.length_filter_le _ _) hn;have e5:xec (Phi prog (k+1)) prog.gls 1000 (.asg 4 WN) [some (false,d0),some (false,d1),some (false,.int p),some (false,.int ((s+1:Nat):Nat)),some (b4,.lst (left.map vecD)),some (false,.int (j:Nat)),some (true,.lst ((l::ls).map vecD)),some (true,.lst ((left.filter λr=>decide (r.getD j 0%p=0)).map vecD))]=.nx [some (false,d0),some (false,d1),some (false,.int p),some (false,.int ((s+1:Nat):Nat)),some (true,.lst (((left.filter λr=>decide (r.getD j 0%p=0))++ls.map λr=>clrV p j r l).map vecD)),some (false,.int (j:Nat)),some (true,.lst ((l::ls).map vecD)),some (true,.lst ((left.filter λr=>decide (r.getD j 0%p=0)).map vecD))]:=by
   generalize (left.filter λr=>decide (r.getD j 0%p=0))=O at*;have h1:itemsD .seq [.lst (ls.map vecD)]=.ok (ls.map vecD):=bH (by simp;omega);have hc:cut ((l::ls).map vecD) (some 1) none=ls.map vecD:=by
    have:=iT ((l::ls).map vecD) 1;exact this
   have a0:atD ((l::ls).map vecD) 0=some (vecD l):=by
    have:=bW (xs:=(l::ls).map vecD) (i:=0) (by simp);exact this
   have hcl:∀r∈ls,Phi prog (k+1) 4 [vecD r,vecD l,.int (j:Nat),.int p]=.ok (vecD (clrV p j r l)):=λr hr=>
    tF k (hR.len r (hm r (xK _ hr))) ll hj hL (hR.sml r (hm r (xK _ hr))) (hR.sml l (hm l xT)) hp
   have hcm:∀f:D->R (Option D),(∀r∈ls,f (vecD r)=.ok (some (vecD (clrV p j r l))))->compM f (ls.map vecD)=.ok ((ls.map λr=>clrV p j r l).map vecD):=λf=>by
    clear h1 hc a0 hcl hls hm e e1 e4 e3 el
    induction ls with
    |nil=>intro _;rfl
    |cons r ls ih=>
     intro hf;rw[xM,compM,hf r xT,R.bind_ok,ih λr' hr'=>hf r' (xK _ hr')];rfl
   have hadd:op2 .add (.lst (O.map vecD)) (.lst ((ls.map λr=>clrV p j r l).map vecD))=.ok (.lst ((O++ls.map λr=>clrV p j r l).map vecD)):=by
    rw[fP _ _ (by simp;exact xU (show _<=200 by omega) (by decide)),yB]
   generalize (l::ls).map vecD=LD at*;simp only[xec,ev,evs,evP,evO,frz,frz1,leaks,leakss,leaksP,leaksO,rdR,rdV,asI,spread,capOf,isOwn,frsh,slc,Zf,Zi,Zj,Zk,Zl,Zm,Zn,Zo,Zp,Zq,xD,w6,gV,Zt,Zx,ZI,hc,h1,List.filterMap_nil,zJ,Nat.reduceLT,yW,Nat.reduceSub];rw[hcm _ λr hr=>?_]
   ·simp only[Zc,Zf,Zh,hadd]
   ·simp only[Ze,Zf,a0,hcl r hr,w5,xJ,xQ]
  refine⟨_,?_,true,some (false,.int (j:Nat)),some (true,.lst ((l::ls).map vecD)),some (true,.lst ((left.filter λr=>decide (r.getD j 0%p=0)).map vecD)),rfl⟩;have e2:∀a b δ,evT (Phi prog (k+1)) prog.gls (.leaf (.var 6)) δ=.ok true->frz (leaksT (.leaf (.var 6))) δ=δ->xec (Phi prog (k+1)) prog.gls 1000 (.ite (.leaf (.var 6)) a b) δ=xecs (Phi prog (k+1)) prog.gls 1000 a δ:=λa b δ h1 h2=>by
   simp only[xec,h2,h1,Zc,xD]
  rw[Py.xecs,e2]
  ·rw[aA e3,aA e4,aA e5]
   rfl
  ·simp only[evT,ev,rdR,rdV,Zb,Zf,Zk,Zl,Zm,xD,Zw,xM,List.isEmpty_cons]
  ·rfl
theorem p_rank(k:Nat)(hL:L<=50)(hR:Rws L rows)(hn:rows.length<=100)(hp:0<p/\p<=100):Phi prog (k+2) 3 [.lst (rows.map vecD),.int (L:Nat),.int (p:Nat)]=.ok (.int ((elimsV p rows L).2:Nat)):=by
 show(xecs (Phi prog (k+1)) prog.gls 1000 pC [some (false,.lst (rows.map vecD)),some (false,.int (L:Nat)),some (false,.int (p:Nat)),none,none,none,none,none]).val=_;have e1:xec (Phi prog (k+1)) prog.gls 1000 (.asg 3 (.cst (.int 0))) [some (false,.lst (rows.map vecD)),some (false,.int (L:Nat)),some (false,.int (p:Nat)),none,none,none,none,none]=.nx [some (false,.lst (rows.map vecD)),some (false,.int (L:Nat)),some (false,.int (p:Nat)),some (false,.int 0),none,none,none,none]:=by
  simp only[xec,ev,frz,leaks,Zc,isOwn,frsh,Zi,Zj,Zu]
 have e2:xec (Phi prog (k+1)) prog.gls 1000 (.asg 4 (.var 0)) [some (false,.lst (rows.map vecD)),some (false,.int (L:Nat)),some (false,.int (p:Nat)),some (false,.int 0),none,none,none,none]=.nx [some (false,.lst (rows.map vecD)),some (false,.int (L:Nat)),some (false,.int (p:Nat)),some (false,.int 0),some (false,.lst (rows.map vecD)),none,none,none]:=by
  simp only[xec,ev,frz,frz1,leaks,rdR,rdV,Zc,isOwn,frsh,Zi,Zj,Zk,w6,gV,Zu]
 unfold pC;rw[aA e1,aA e2];obtain⟨δ',e3,b4,c5,c6,c7,rfl⟩:=cE (Φ:=Phi prog (k+1)) (G:=prog.gls) (n:=1000) (its:=[(.var 1)]) (tg:=[5]) (body:=WB) (δ:=[some (false,.lst (rows.map vecD)),some (false,.int (L:Nat)),some (false,.int (p:Nat)),some (false,.int 0),some (false,.lst (rows.map vecD)),none,none,none]) (m:=L)
  (by simp only[ev,evs,frz,frz1,leaks,leakss,rdR,rdV,Zf,Zk,Zl,Zq,w6,gV];exact bC (by omega)) (λi δ=>∃b4 c5 c6 c7,δ=[some (false,.lst (rows.map vecD)),some (false,.int (L:Nat)),some (false,.int (p:Nat)),some (false,.int ((elimsV p rows i).2:Nat)),some (b4,.lst ((elimsV p rows i).1.map vecD)),c5,c6,c7]) ⟨false,none,none,none,by simp only[frz,frz1,leaks,leakss,Zk,Zl,Zq,w6,gV];rfl⟩ (by
  rintro i hi δ ⟨b4,c5,c6,c7,rfl⟩;exact tG k hi hL (hR.elims hp i) (xU (kH p rows i) hn) (by omega))
 rw[aA e3];simp only[xecs,xec,ev,frz,frz1,leaks,rdR,rdV,Zc,Zk,Zl,w6,gV];rfl
theorem col_run{LI pI rI gI FI:Int}{u:Nat->Int}(hn:n<=1000)(hF:FI=(n:Nat))(a0:op2 .at S0 (.int 0)=.ok M)(a1:op2 .at S0 (.int 1)=.ok (.int gI))(hl:(op1 .len M).bind (λy=>op2 .mul (.int 2) y)=.ok (.int LI))(hc:Φ 1 [M,.int LI]=.ok C)(hk:Φ 3 [C,.int LI,.int pI]=.ok (.int rI))(hfree:LI-rI+gI=FI)(u0:u 0=1)(us:∀i,u (i+1)=u i*pI)(hp: -100<=pI/\pI<=100):
  xecs Φ prog.gls 1000 bP [some (false,S0),some (false,.int pI),none,none,none,none]=.rt (.int (u n)):=by
 have e1:xec Φ prog.gls 1000 (.asg 2 (.op2 .mul (.cst (.int 2)) (.op1 .len (.op2 .at (.var 0) (.cst (.int 0)))))) [some (false,S0),some (false,.int pI),none,none,none,none]=.nx [some (false,S0),some (false,.int pI),some (false,.int LI),none,none,none]:=by
  simp only[xec,ev,frz,leaks,rdR,rdV,Zc,isOwn,frsh,Zf,Zi,Zj,Zk,Zq,xD,Zu,a0,hl]
 have e2:xec Φ prog.gls 1000 (.asg 3 (.op2 .add (.op2 .sub (.var 2) (.call 3 [(.call 1 [(.op2 .at (.var 0) (.cst (.int 0))),(.var 2)]),(.var 2),(.var 1)])) (.op2 .at (.var 0) (.cst (.int 1))))) [some (false,S0),some (false,.int pI),some (false,.int LI),none,none,none]=.nx [some (false,S0),some (false,.int pI),some (false,.int LI),some (false,.int FI),none,none]:=by
  simp only[xec,ev,evs,frz,frz1,leaks,leakss,rdR,rdV,Zc,isOwn,frsh,Zf,Zi,Zj,Zk,Zl,Zo,Zp,Zq,xD,w6,gV,Zt,ZA,ZB,a0,a1,hc,hk,hfree]
 have e3:xec Φ prog.gls 1000 (.asg 4 (.cst (.int 1))) [some (false,S0),some (false,.int pI),some (false,.int LI),some (false,.int FI),none,none]=.nx [some (false,S0),some (false,.int pI),some (false,.int LI),some (false,.int FI),some (false,.int 1),none]:=by
  simp only[xec,ev,frz,leaks,Zc,isOwn,frsh,Zi,Zj,Zu]
 unfold bP;rw[aA e1,aA e2,aA e3];obtain⟨δ',e4,c5,rfl⟩:=cE (Φ:=Φ) (G:=prog.gls) (n:=1000) (its:=[(.var 3)]) (tg:=[5]) (body:=[(.asg 4 (.op2 .mul (.var 4) (.var 1)))]) (δ:=[some (false,S0),some (false,.int pI),some (false,.int LI),some (false,.int FI),some (false,.int 1),none]) (m:=n)
  (by simp only[ev,evs,frz,frz1,leaks,leakss,rdR,rdV,Zf,Zk,Zl,Zq,w6,gV];exact cP hF hn) (λi δ=>∃c5,δ=[some (false,S0),some (false,.int pI),some (false,.int LI),some (false,.int FI),some (false,.int (u i)),c5]) ⟨none,by simp only[frz,frz1,leaks,leakss,Zk,Zl,Zq,w6,gV,u0]⟩ (by
  rintro i hi δ ⟨c5,rfl⟩;have hm:op2 .mul (.int (u i)) (.int pI)=.ok (.int (u (i+1))):=by
   rw[eU _ _ (.inr ⟨by omega,by omega⟩),us]
  generalize u i=u1 at*;generalize u (i+1)=u2 at*;generalize ((i:Nat):Int)=I;refine⟨_,?_,some (false,.int I),rfl⟩;simp only[loopF,xecs,xec,ev,frz,leaks,rdR,rdV,Zc,Py.sets,spread,isOwn,frsh,Zf,Zi,Zj,Zk,Zl,Zq,xD,Zu,hm,w5,xJ,xQ])
 rw[aA e4];generalize u n=U;simp only[xecs,xec,ev,frz,frz1,leaks,rdR,rdV,Zc,Zk,Zl,w6,gV]
theorem lV(k:Nat){L p g:Nat}(hL:L=2*Q.length)(hQ:Q.length<=10)(h:In4 L Q)(hg:g<=100)(hR:Rws L (condV L Q))(hp:0<p/\p<=100)(hle:(elimsV p (condV L Q) L).2<=L):
  Phi prog (k+3) 0 [shD Q (g:Nat),.int (p:Nat)]=.ok (.int ((p:Nat)^(L-(elimsV p (condV L Q) L).2+g))):=by
 have hc:=lU k (L:=L) (by omega) (by omega) h;have hk:=p_rank k (L:=L) (rows:=condV L Q) (p:=p) (by omega) hR (by rw[nM];omega) hp;have e:=col_run (Φ:=Phi prog (k+2)) (S0:=shD Q (g:Nat)) (M:=.tup (Q.map rowD)) (gI:=(g:Nat)) (u:=λi=>((p:Nat):Int)^i) (n:=L-(elimsV p (condV L Q) L).2+g) (FI:=((L-(elimsV p (condV L Q) L).2+g:Nat):Int)) (by omega) rfl rfl rfl (by
  show op2 .mul (.int 2) (.int (Q.map rowD).length)=_;rw[mul2,xB]) (by
   have:(2:Int)*(Q.length:Nat)=(L:Nat):=by omega
   rw[this];exact hc) (by
   have:(2:Int)*(Q.length:Nat)=(L:Nat):=by omega
   rw[this];exact hk) (by omega) (Int.pow_zero _) (λi=>Int.pow_succ _ _) (by omega)
 show(xecs (Phi prog (k+2)) prog.gls 1000 bP [some (false,shD Q (g:Nat)),some (false,.int (p:Nat)),none,none,none,none]).val=_;rw[e];generalize ((p:Nat):Int)^(L-(elimsV p (condV L Q) L).2+g)=U;rfl
theorem kW(h:xs.length<=5000):itemsD .seq [.lst xs]=.ok xs:=by
 simp only[itemsD,items0,R.bind_ok];rw[xE (show xs.length<=LIM from xU h (by decide))]
noncomputable def snocs(p:Nat)(t:List Int):List (List Int):=(List.range p).map λ(x:Nat)=>t++[(x:Int)]
theorem wR{pI:Int}(hA:A.length<=4000)(hp:p<=100)(hpI:pI=(p:Nat))(ht:t.length<=50):
  ∃c6',xec Φ G 1000 (.loop .rng [(.var 1)] [6] [(.app 4 (.op2 .add (.var 5) (.lst [(.var 6)])))]) [d0,some (false,.int pI),d2,d3,some (true,.lst A),some (false,vecD t),c6]=.nx [d0,some (false,.int pI),d2,d3,some (true,.lst (A++(snocs p t).map vecD)),some (false,vecD t),c6']:=by
 obtain⟨δ',e,c6',rfl⟩:=cE (Φ:=Φ) (G:=G) (n:=1000) (its:=[(.var 1)]) (tg:=[6]) (body:=[(.app 4 (.op2 .add (.var 5) (.lst [(.var 6)])))]) (δ:=[d0,some (false,.int pI),d2,d3,some (true,.lst A),some (false,vecD t),c6]) (m:=p)
  (by simp only[ev,evs,frz,frz1,leaks,leakss,rdR,rdV,Zf,Zk,Zl,Zq,w6,gV];exact cP hpI (by omega)) (λi δ=>∃c6,δ=[d0,some (false,.int pI),d2,d3,some (true,.lst (A++(snocs i t).map vecD)),some (false,vecD t),c6]) ⟨c6,by simp only[frz,frz1,leaks,leakss,Zk,Zl,Zn,Zq,w6,gV,snocs,List.range_zero,yX,yD]⟩ (by
  rintro i hi δ ⟨c6,rfl⟩;have hl:(A++(snocs i t).map vecD).length<LIM:=by
   rw[xL,xB,snocs,xB,List.length_range];exact yK (show _<=4100 by omega) (by decide)
  have es:A++(snocs (i+1) t).map vecD=(A++(snocs i t).map vecD)++[vecD (t++[(i:Int)])]:=by
   unfold snocs;rw[zU,yB,yB,List.append_assoc];rfl
  have ha:op2 .add (vecD t) (.lst [.int (i:Nat)])=.ok (vecD (t++[(i:Int)])):=by
   show op2 .add (.lst (intL t)) (.lst [.int (i:Nat)])=_;rw[fP _ _ (by simp[intL];exact xU (show _<=51 by omega) (by decide))];simp[vecD,intL]
  rw[es];generalize A++(snocs i t).map vecD=B at*;generalize vecD (t++[(i:Int)])=N at*;generalize vecD t=T at*;generalize ((i:Nat):Int)=I at*;refine⟨_,?_,some (false,.int I),rfl⟩;simp only[loopF,xecs,xec,ev,evs,frz,frz1,leaks,leakss,rdR,rdV,Zc,Py.sets,spread,Zf,Zi,Zj,Zk,Zl,Zo,Zq,xD,w6,gV,ha,appD,ownL,hl,w5,xJ,xQ])
 exact⟨c6',e⟩
theorem pM(p:Nat)(xs:List (List Int)):(xs.flatMap (snocs p)).length=xs.length*p:=by
 induction xs with
 |nil=>simp
 |cons x xs ih=>rw[List.flatMap_cons,xL,ih,w5,Nat.succ_mul,snocs,xB,List.length_range];omega
theorem tH{ps:List (List Int)}{pI:Int}(hps:ps.length*p<=3000)(hps2:ps.length<=3000)(hp:p<=100)(hpI:pI=(p:Nat))(ht:∀t∈ps,t.length<=50):
  ∃c5' c6',xec Φ G 1000 (.loop .seq [(.var 2)] [5] [(.loop .rng [(.var 1)] [6] [(.app 4 (.op2 .add (.var 5) (.lst [(.var 6)])))])]) [d0,some (false,.int pI),some (b2,.lst (ps.map vecD)),d3,some (true,.lst []),c5,c6]=.nx [d0,some (false,.int pI),some (false,.lst (ps.map vecD)),d3,some (true,.lst ((ps.flatMap (snocs p)).map vecD)),c5',c6']:=by
 obtain⟨δ',e,c5',c6',rfl⟩:=aU (Φ:=Φ) (G:=G) (n:=1000) (k:=.seq) (its:=[(.var 2)]) (tg:=[5]) (body:=[(.loop .rng [(.var 1)] [6] [(.app 4 (.op2 .add (.var 5) (.lst [(.var 6)])))])]) (δ:=[d0,some (false,.int pI),some (b2,.lst (ps.map vecD)),d3,some (true,.lst []),c5,c6]) (xs:=ps.map vecD)
  (by cases b2<;>(simp only[ev,evs,frz,frz1,leaks,leakss,rdR,rdV,Zf,Zi,Zj,Zk,Zl,Zq,w6,gV];exact kW (by simp;omega))) (λi δ=>∃c5 c6,δ=[d0,some (false,.int pI),some (false,.lst (ps.map vecD)),d3,some (true,.lst (((ps.take i).flatMap (snocs p)).map vecD)),c5,c6]) ⟨c5,c6,by cases b2<;>simp only[frz,frz1,leaks,leakss,Zi,Zj,Zk,Zl,Zn,Zq,w6,gV,zS,List.flatMap_nil,yX]⟩ (by
  rintro i hi' δ ⟨c5,c6,rfl⟩;have hi:i<ps.length:=by simpa using hi'
  have hl:(((ps.take i).flatMap (snocs p)).map vecD).length<=4000:=by
   rw[xB,pM,yS];have:min i ps.length*p<=ps.length*p:=Nat.mul_le_mul_right _ (Nat.min_le_right _ _);omega
  obtain⟨c6',e⟩:=wR (Φ:=Φ) (G:=G) (A:=((ps.take i).flatMap (snocs p)).map vecD) (t:=ps[i]) (d0:=d0) (d2:=some (false,.lst (ps.map vecD))) (d3:=d3) (c6:=c6) hl hp hpI (ht _ (xV hi));have es:((ps.take (i+1)).flatMap (snocs p)).map vecD=((ps.take i).flatMap (snocs p)).map vecD++(snocs p ps[i]).map vecD:=by
   rw[xW hi,List.flatMap_append,yB,List.flatMap_cons,List.flatMap_nil,yD]
  rw[es,zW];refine⟨_,?_,some (false,vecD ps[i]),c6',rfl⟩;simp only[loopF,spread,Py.sets,w5,xJ,xQ,Zi,Zj];rw[aA e,xecs])
 rw[xB,y7] at e;exact⟨c5',c6',e⟩
theorem n6(p L:Nat):paintsV p (L+1)=(paintsV p L).flatMap (snocs p):=rfl
theorem wS(k:Nat)(hL:L<=50)(hp:0<p/\p<=100)(hb:p^L<=3000):Phi prog (k+1) 34 [.int (L:Nat),.int (p:Nat)]=.ok (.lst ((paintsV p L).map vecD)):=by
 show(xecs (Phi prog k) prog.gls 1000 dA [some (false,.int (L:Nat)),some (false,.int (p:Nat)),none,none,none,none,none]).val=_;have e1:xec (Phi prog k) prog.gls 1000 (.asg 2 (.lst [(.lst [])])) [some (false,.int (L:Nat)),some (false,.int (p:Nat)),none,none,none,none,none]=.nx [some (false,.int (L:Nat)),some (false,.int (p:Nat)),some (true,.lst [.lst []]),none,none,none,none]:=by
  simp only[xec,ev,evs,frz,leaks,leakss,Zc,isOwn,frsh,Zf,Zi,Zj,Zq,Zt]
 unfold dA;rw[aA e1];obtain⟨δ',e2,b2,c3,c4,c5,c6,rfl⟩:=cE (Φ:=Phi prog k) (G:=prog.gls) (n:=1000) (its:=[(.var 0)]) (tg:=[3]) (body:=[(.asg 4 (.lst [])),(.loop .seq [(.var 2)] [5] [(.loop .rng [(.var 1)] [6] [(.app 4 (.op2 .add (.var 5) (.lst [(.var 6)])))])]),(.asg 2 (.var 4))]) (δ:=[some (false,.int (L:Nat)),some (false,.int (p:Nat)),some (true,.lst [.lst []]),none,none,none,none]) (m:=L)
  (by simp only[ev,evs,frz,frz1,leaks,leakss,rdR,rdV,Zf,Zk,Zq,w6,gV];exact bC (by omega)) (λi δ=>∃b2 c3 c4 c5 c6,δ=[some (false,.int (L:Nat)),some (false,.int (p:Nat)),some (b2,.lst ((paintsV p i).map vecD)),c3,c4,c5,c6]) ⟨true,none,none,none,none,by simp only[frz,frz1,leaks,leakss,Zk,Zq,w6,gV];rfl⟩ (by
  rintro i hi δ ⟨b2,c3,c4,c5,c6,rfl⟩;have hpw:p^(i+1)<=3000:=xU (Nat.pow_le_pow_right hp.1 hi) hb;have hpw2:p^i<=3000:=xU (Nat.pow_le_pow_right hp.1 (Nat.le_of_lt hi)) hb;have e1:xec (Phi prog k) prog.gls 1000 (.asg 4 (.lst [])) [some (false,.int (L:Nat)),some (false,.int (p:Nat)),some (b2,.lst ((paintsV p i).map vecD)),some (false,.int (i:Nat)),c4,c5,c6]=.nx [some (false,.int (L:Nat)),some (false,.int (p:Nat)),some (b2,.lst ((paintsV p i).map vecD)),some (false,.int (i:Nat)),some (true,.lst []),c5,c6]:=by
   simp only[xec,ev,evs,frz,leaks,leakss,Zc,isOwn,frsh,Zf,Zi,Zj,Zt]
  obtain⟨c5',c6',e2⟩:=tH (Φ:=Phi prog k) (G:=prog.gls) (ps:=paintsV p i) (p:=p) (pI:=(p:Nat)) (d0:=some (false,.int (L:Nat))) (d3:=some (false,.int (i:Nat))) (b2:=b2) (c5:=c5) (c6:=c6) (by rw[cT,←Nat.pow_succ];exact hpw) (by rw[cT];exact hpw2) hp.2 rfl (λt ht=>by rw[(aO ht).1];omega);rw[n6];have e3:xec (Phi prog k) prog.gls 1000 (.asg 2 (.var 4)) [some (false,.int (L:Nat)),some (false,.int (p:Nat)),some (false,.lst ((paintsV p i).map vecD)),some (false,.int (i:Nat)),some (true,.lst (((paintsV p i).flatMap (snocs p)).map vecD)),c5',c6']=.nx [some (false,.int (L:Nat)),some (false,.int (p:Nat)),some (false,.lst (((paintsV p i).flatMap (snocs p)).map vecD)),some (false,.int (i:Nat)),some (false,.lst (((paintsV p i).flatMap (snocs p)).map vecD)),c5',c6']:=by
   generalize ((paintsV p i).flatMap (snocs p)).map vecD=Z;simp only[xec,ev,frz,frz1,leaks,rdR,rdV,Zc,isOwn,frsh,Zi,Zj,Zk,Zl,w6,gV,Zu]
  refine⟨_,?_,false,some (false,.int (i:Nat)),some (false,.lst (((paintsV p i).flatMap (snocs p)).map vecD)),c5',c6',rfl⟩;simp only[loopF,spread,Py.sets,w5,xJ,xQ,Zi,Zj];rw[aA e1,aA e2,aA e3,xecs])
 rw[aA e2];generalize (paintsV p L).map vecD=Z;cases b2<;>(simp only[xecs,xec,ev,frz,frz1,leaks,rdR,rdV,Zc,Zi,Zj,Zk,Zl,w6,gV];rfl)
theorem p_fits(k:Nat){L p:Nat}(h4:r.length=4)(hb:∀x∈r,0<=x/\x<(L:Int))(ht:t.length=L)(hp:0<p):Phi prog (k+1) 35 [rowD r,vecD t,.int (p:Nat)]=.ok (.bl (fitV p t r)):=by
 show(xecs (Phi prog k) prog.gls 1000 dB [some (false,rowD r),some (false,vecD t),some (false,.int (p:Nat))]).val=_;have g0:=a9 h4 hb (j:=0) (by omega);have g1:=a9 h4 hb (j:=1) (by omega);have g2:=a9 h4 hb (j:=2) (by omega);have g3:=a9 h4 hb (j:=3) (by omega);have a0:op2 .at (rowD r) (.int 0)=.ok (.int (r.getD 0 0)):=by show ofO (atD (intL r) ((0:Nat):Int))=_;rw[bF (by omega)];rfl
 have a1:op2 .at (rowD r) (.int 1)=.ok (.int (r.getD 1 0)):=by show ofO (atD (intL r) ((1:Nat):Int))=_;rw[bF (by omega)];rfl
 have a2:op2 .at (rowD r) (.int 2)=.ok (.int (r.getD 2 0)):=by show ofO (atD (intL r) ((2:Nat):Int))=_;rw[bF (by omega)];rfl
 have a3:op2 .at (rowD r) (.int 3)=.ok (.int (r.getD 3 0)):=by show ofO (atD (intL r) ((3:Nat):Int))=_;rw[bF (by omega)];rfl
 have av:∀x:Int,0<=x/\x<(L:Int)->op2 .at (vecD t) (.int x)=.ok (.int (t.getD x.toNat 0)):=λx hx=>by
  have e:x=((x.toNat:Nat):Int):=by omega
  show ofO (atD (intL t) x)=_;rw[e,bF (by omega),yE];rfl
 have v0:=av _ g0;have v1:=av _ g1;have v2:=av _ g2;have v3:=av _ g3;have md:∀x:Int,op2 .mod (.int x) (.int (p:Nat))=.ok (.int (x%(p:Nat))):=λx=>cD _ _ (by omega);unfold fitV;clear av;generalize t.getD (r.getD 0 0).toNat 0=y0 at*;generalize t.getD (r.getD 1 0).toNat 0=y1 at*;generalize t.getD (r.getD 2 0).toNat 0=y2 at*;generalize t.getD (r.getD 3 0).toNat 0=y3 at*;generalize r.getD 0 0=x0 at*;generalize r.getD 1 0=x1 at*;generalize r.getD 2 0=x2 at*;generalize r.getD 3 0=x3 at*;generalize ((p:Nat):Int)=pI at*;generalize rowD r=RR at*;generalize vecD t=TT at*;cases hz:y1==y3
 ·simp only[dB,xecs,xec,evT,ev,frz,leaksT,leaks,rdR,rdV,Za,Zc,Zf,Zk,Zl,Zq,xD,Zu,Zw,ZH,a1,a3,v1,v3,hz];rfl
 ·simp only[dB,xecs,xec,evT,ev,frz,leaksT,leaks,rdR,rdV,Za,Zc,Zf,Zk,Zl,Zq,xD,w6,gV,Zt,Zv,ZB,ZG,ZH,a0,a1,a2,a3,v0,v1,v2,v3,hz,md,mul2];rfl
theorem tI(k:Nat)(hQ:Q.length<=50)(h:In4 L Q)(ht:t.length=L)(hp:0<p):
  ∃c5',xec (Phi prog (k+1)) prog.gls 1000 (.loop .seq [(.var 0)] [5] [(.ite (.not (.leaf (.call 35 [(.var 5),(.var 3),(.var 1)]))) [(.asg 4 (.cst (.bl false)))] [])]) [some (false,.tup (Q.map rowD)),some (false,.int (p:Nat)),c2,some (false,vecD t),some (false,.bl true),c5]=.nx [some (false,.tup (Q.map rowD)),some (false,.int (p:Nat)),c2,some (false,vecD t),some (false,.bl (Q.all (fitV p t))),c5']:=by
 obtain⟨δ',e,c5',rfl⟩:=aU (Φ:=Phi prog (k+1)) (G:=prog.gls) (n:=1000) (k:=.seq) (its:=[(.var 0)]) (tg:=[5]) (body:=[(.ite (.not (.leaf (.call 35 [(.var 5),(.var 3),(.var 1)]))) [(.asg 4 (.cst (.bl false)))] [])]) (δ:=[some (false,.tup (Q.map rowD)),some (false,.int (p:Nat)),c2,some (false,vecD t),some (false,.bl true),c5]) (xs:=Q.map rowD)
  (by simp only[ev,evs,frz,frz1,leaks,leakss,rdR,rdV,Zf,Zk,Zq,w6,gV];exact aM (by simp;omega)) (λi δ=>∃c5,δ=[some (false,.tup (Q.map rowD)),some (false,.int (p:Nat)),c2,some (false,vecD t),some (false,.bl ((Q.take i).all (fitV p t))),c5]) ⟨c5,by simp only[frz,frz1,leaks,leakss,Zk,Zq,w6,gV,zS,List.all_nil]⟩ (by
  rintro i hi' δ ⟨c5,rfl⟩;have hi:i<Q.length:=by simpa using hi'
  have hm:=xV hi;have hf:=p_fits k (h.four _ hm) (h.low _ hm) ht hp;have es:(Q.take (i+1)).all (fitV p t)=((Q.take i).all (fitV p t)&&fitV p t Q[i]):=by
   rw[xW hi,List.all_append,zT,List.all_nil,Bool.and_true]
  rw[zW,es];generalize (Q.take i).all (fitV p t)=B at*;generalize fitV p t Q[i]=C at*;generalize rowD Q[i]=RR at*;generalize vecD t=TT at*;generalize ((p:Nat):Int)=pI at*;refine⟨_,?_,some (false,RR),rfl⟩;cases C
  ·simp only[loopF,xecs,xec,evT,ev,evs,frz,frz1,leaksT,leaks,leakss,rdR,rdV,Za,Zc,Py.sets,spread,isOwn,frsh,Zf,Zi,Zj,Zk,Zl,Zo,Zp,Zq,xD,w6,gV,Zs,Zu,Zw,hf,w5,xJ,xQ]
  ·simp only[loopF,xecs,xec,evT,ev,evs,frz,frz1,leaksT,leaks,leakss,rdR,rdV,Za,Zc,Py.sets,spread,isOwn,frsh,Zf,Zi,Zj,Zk,Zl,Zo,Zp,Zq,w6,gV,Zr,Zu,Zv,hf,w5,xJ,xQ])
 rw[xB,y7] at e;exact⟨c5',e⟩
theorem p_count(k:Nat)(hL:L=2*Q.length)(hQ:Q.length<=10)(h:In4 L Q)(hp:0<p/\p<=100)(hb:p^L<=3000):Phi prog (k+2) 36 [.tup (Q.map rowD),.int (p:Nat)]=.ok (.int (cntV p L Q:Nat)):=by
 show(xecs (Phi prog (k+1)) prog.gls 1000 dM [some (false,.tup (Q.map rowD)),some (false,.int (p:Nat)),none,none,none,none]).val=_;have hpt:=wS k (L:=L) (by omega) hp hb;have hlen:(2:Int)*((Q.length:Nat):Int)=((L:Nat):Int):=by omega
 have e1:xec (Phi prog (k+1)) prog.gls 1000 (.asg 2 (.cst (.int 0))) [some (false,.tup (Q.map rowD)),some (false,.int (p:Nat)),none,none,none,none]=.nx [some (false,.tup (Q.map rowD)),some (false,.int (p:Nat)),some (false,.int 0),none,none,none]:=by
  simp only[xec,ev,frz,leaks,Zc,isOwn,frsh,Zi,Zj,Zu]
 unfold dM;rw[aA e1]
 let sm:Nat->Nat:=λi=>(((paintsV p L).take i).map λt=>(Q.all (fitV p t)).toNat).sum
 obtain⟨δ',e2,c3,c4,c5,rfl⟩:=aU (Φ:=Phi prog (k+1)) (G:=prog.gls) (n:=1000) (k:=.seq) (its:=[(.call 34 [(.op2 .mul (.cst (.int 2)) (.op1 .len (.var 0))),(.var 1)])]) (tg:=[3]) (body:=[(.asg 4 (.cst (.bl true))),(.loop .seq [(.var 0)] [5] [(.ite (.not (.leaf (.call 35 [(.var 5),(.var 3),(.var 1)]))) [(.asg 4 (.cst (.bl false)))] [])]),(.ite (.leaf (.var 4)) [(.asg 2 (.op2 .add (.var 2) (.cst (.int 1))))] [])]) (δ:=[some (false,.tup (Q.map rowD)),some (false,.int (p:Nat)),some (false,.int 0),none,none,none]) (xs:=(paintsV p L).map vecD)
  (by simp only[ev,evs,frz,frz1,leaks,leakss,rdR,rdV,Zf,Zk,Zl,Zo,Zq,xD,w6,gV,ZM,xB,mul2,hlen,hpt];exact kW (by rw[xB,cT];omega)) (λi δ=>∃c3 c4 c5,δ=[some (false,.tup (Q.map rowD)),some (false,.int (p:Nat)),some (false,.int (sm i:Nat)),c3,c4,c5]) ⟨none,none,none,by simp only[frz,frz1,leaks,leakss,Zk,Zl,Zo,Zq,xD,w6,gV];rfl⟩ (by
  rintro i hi' δ ⟨c3,c4,c5,rfl⟩;have hi:i<(paintsV p L).length:=by simpa using hi'
  have ht:=aO (xV hi);have es:((sm (i+1):Nat):Int)=(sm i:Nat)+((Q.all (fitV p (paintsV p L)[i])).toNat:Nat):=by
   show(((((paintsV p L).take (i+1)).map _).sum:Nat):Int)=_;rw[xW hi,yB,List.sum_append,Int.natCast_add];simp[sm]
  rw[zW];have e1:xec (Phi prog (k+1)) prog.gls 1000 (.asg 4 (.cst (.bl true))) [some (false,.tup (Q.map rowD)),some (false,.int (p:Nat)),some (false,.int (sm i:Nat)),some (false,vecD (paintsV p L)[i]),c4,c5]=.nx [some (false,.tup (Q.map rowD)),some (false,.int (p:Nat)),some (false,.int (sm i:Nat)),some (false,vecD (paintsV p L)[i]),some (false,.bl true),c5]:=by
   generalize vecD (paintsV p L)[i]=V;simp only[xec,ev,frz,leaks,Zc,isOwn,frsh,Zi,Zj,Zu]
  obtain⟨c5',e2⟩:=tI k (Q:=Q) (L:=L) (p:=p) (t:=(paintsV p L)[i]) (c2:=some (false,.int (sm i:Nat))) (c5:=c5) (by omega) h ht.1 hp.1;have e3:xec (Phi prog (k+1)) prog.gls 1000 (.ite (.leaf (.var 4)) [(.asg 2 (.op2 .add (.var 2) (.cst (.int 1))))] []) [some (false,.tup (Q.map rowD)),some (false,.int (p:Nat)),some (false,.int (sm i:Nat)),some (false,vecD (paintsV p L)[i]),some (false,.bl (Q.all (fitV p (paintsV p L)[i]))),c5']=.nx [some (false,.tup (Q.map rowD)),some (false,.int (p:Nat)),some (false,.int (sm (i+1):Nat)),some (false,vecD (paintsV p L)[i]),some (false,.bl (Q.all (fitV p (paintsV p L)[i]))),c5']:=by
   rw[es];generalize vecD (paintsV p L)[i]=V;generalize Q.all (fitV p (paintsV p L)[i])=B;generalize ((sm i:Nat):Int)=U;cases B
   ·simp only[xecs,xec,evT,ev,frz,leaksT,leaks,rdR,rdV,Za,Zc,isOwn,frsh,Zf,Zi,Zj,Zk,Zl,Zq,xD,w6,gV,Zt,ZA,Bool.toNat_false,Int.natCast_zero,Int.add_zero]
   ·simp only[xecs,xec,evT,ev,frz,leaksT,leaks,rdR,rdV,Za,Zc,isOwn,frsh,Zf,Zi,Zj,Zk,Zl,Zq,xD,Zt,ZA,Bool.toNat_true,Int.natCast_one]
  refine⟨_,?_,some (false,vecD (paintsV p L)[i]),some (false,.bl (Q.all (fitV p (paintsV p L)[i]))),c5',rfl⟩;simp only[loopF,spread,Py.sets,w5,xJ,xQ,Zi,Zj];rw[aA e1,aA e2,aA e3,xecs])
 rw[aA e2];have es:sm ((paintsV p L).map vecD).length=cntV p L Q:=by
  show(((paintsV p L).take _).map _).sum=_;rw[xB,y7];rfl
 rw[es];generalize ((cntV p L Q:Nat):Int)=U;simp only[xecs,xec,ev,frz,frz1,leaks,rdR,rdV,Zc,Zk,Zl,w6,gV];rfl
theorem qY(k:Nat)(a b c:Int)(hw:w<2):Phi prog (k+1) 15 [.int a,.int b,.int c,.int (w:Nat)]=.ok (rowD (curlV a b c w)):=by
 show(xecs (Phi prog k) prog.gls 1000 jK [some (false,.int a),some (false,.int b),some (false,.int c),some (false,.int (w:Nat))]).val=_;unfold jK;have q:decide ((2:Int)<=(w:Nat))=false:=x8 (by omega);have:w=0\/w=1:=by omega
 rcases this with rfl|rfl
 ·have z:(((0:Nat):Int)==0)=true:=rfl
  simp only[xecs,xec,evT,ev,evs,frz,frz1,leaksT,leaks,leakss,rdR,rdV,Za,Zc,Zf,Zk,Zl,Zo,Zp,Zq,xD,w6,gV,ZB,ZF,ZG,q,z];rfl
 ·have z:(((1:Nat):Int)==0)=false:=rfl
  simp only[xecs,xec,evT,ev,evs,frz,frz1,leaksT,leaks,leakss,rdR,rdV,Za,Zc,Zf,Zk,Zl,Zo,Zp,Zq,xD,w6,gV,ZB,ZF,ZG,q,z];rfl
theorem p_curl(k:Nat)(a b c:Int)(hw:w<4):Phi prog (k+2) 15 [.int a,.int b,.int c,.int (w:Nat)]=.ok (rowD (curlV a b c w)):=by
 by_cases h:w<2
 ·exact qY (k+1) a b c h
 ·have r:=qY k b a c (w:=w-2) (by omega)
  have e:((w:Nat):Int)-2=((w-2:Nat):Int):=by omega
  have q:decide ((2:Int)<=(w:Nat))=true:=yJ (by omega);show(xecs (Phi prog (k+1)) prog.gls 1000 jK [some (false,.int a),some (false,.int b),some (false,.int c),some (false,.int (w:Nat))]).val=_;unfold jK;simp only[xecs,xec,evT,ev,evs,frz,frz1,leaksT,leaks,leakss,rdR,rdV,Za,Zc,Zf,Zk,Zl,Zo,Zp,Zq,xD,w6,gV,ZB,ZF,q,e,r];have:w=2\/w=3:=by omega
  rcases this with rfl|rfl<;>rfl
noncomputable def baseV(Q:List (List Int))(x:Int):List (List Int):=if x<(2*Q.length:Nat) then setP Q (secondV Q x) (2*Q.length:Nat) else Q
noncomputable def addV(Q:List (List Int))(x:Int)(w:Nat):List (List Int):=baseV Q x++[curlV x (2*Q.length:Nat) ((2*Q.length:Nat)+1) w]
theorem wT(Q:List (List Int))(x:Int):(baseV Q x).length=Q.length:=by
 unfold baseV;split<;>simp[aF]
theorem tJ(h4:∀r∈Q,r.length=4):∀r∈baseV Q x,r.length=4:=by
 unfold baseV;split
 ·exact aC h4
 ·exact h4
theorem add_len(Q:List (List Int))(x:Int)(w:Nat):(addV Q x w).length=Q.length+1:=by simp[addV,wT]
theorem wU(h4:∀r∈Q,r.length=4):∀r∈addV Q x w,r.length=4:=by
 intro r hr;rcases List.mem_append.mp hr with h|h
 ·exact tJ h4 r h
 ·rw[List.mem_singleton.mp h];exact kJ _ _ _ _
noncomputable def Out3(x g:Int)(m:Nat):Prop:=x<0\/(2*m:Nat)<x\/(x=(2*m:Nat)/\g=0)
theorem wV(k:Nat)(sh:Sheet Q m)(hm:m<=10)(hg:0<=g)(hw:w<4):
  (Out3 x g m->Phi prog (k+3) 14 [shD Q g,.int x,.int (w:Nat)]=.exc 1)/\(¬Out3 x g m->m=10->Phi prog (k+3) 14 [shD Q g,.int x,.int (w:Nat)]=.exc 0)/\
  (¬Out3 x g m->m≠10->Phi prog (k+3) 14 [shD Q g,.int x,.int (w:Nat)]=.ok (shD (numV (addV Q x w)) (if x=(2*m:Nat) then g-1 else g))):=by
 have hlen:=sh.len;subst hlen;have hQ:Q.length<=50:=by omega
 have a0:op2 .at (shD Q g) (.int 0)=.ok (.tup (Q.map rowD)):=rfl;have a1:op2 .at (shD Q g) (.int 1)=.ok (.int g):=rfl;have gl:ofO prog.gls[0]?=.ok (.int 10):=rfl;have eN:(2*((Q.map rowD).length:Int))=((2*Q.length:Nat):Int):=by rw[xB];omega
 obtain⟨N,hN⟩:∃N:Int,N=((2*Q.length:Nat):Int):=⟨_,rfl⟩
 have e1:xec (Phi prog (k+2)) prog.gls 1000 (.asg 3 (.op1 .list (.op2 .at (.var 0) (.cst (.int 0))))) [some (false,shD Q g),some (false,.int x),some (false,.int (w:Nat)),none,none,none,none]=.nx [some (false,shD Q g),some (false,.int x),some (false,.int (w:Nat)),some (true,(.lst (Q.map rowD))),none,none,none]:=by
  simp only[xec,ev,frz,leaks,rdR,rdV,Zc,isOwn,frsh,Zf,Zi,Zj,Zk,Zq,xD,Zt,ZS,a0]
 have e2:xec (Phi prog (k+2)) prog.gls 1000 (.asg 4 (.op2 .mul (.cst (.int 2)) (.op1 .len (.var 3)))) [some (false,shD Q g),some (false,.int x),some (false,.int (w:Nat)),some (true,(.lst (Q.map rowD))),none,none,none]=.nx [some (false,shD Q g),some (false,.int x),some (false,.int (w:Nat)),some (true,(.lst (Q.map rowD))),some (false,.int N),none,none]:=by
  simp only[xec,ev,frz,leaks,rdR,rdV,Zc,isOwn,frsh,Zf,Zi,Zj,Zk,Zl,Zq,xD,Zu,ZL,mul2,eN,hN]
 have e3:xec (Phi prog (k+2)) prog.gls 1000 (.asg 5 (.and (.op2 .eq (.var 1) (.var 4)) (.op2 .gt (.op2 .at (.var 0) (.cst (.int 1))) (.cst (.int 0))))) [some (false,shD Q g),some (false,.int x),some (false,.int (w:Nat)),some (true,(.lst (Q.map rowD))),some (false,.int N),none,none]=.nx [some (false,shD Q g),some (false,.int x),some (false,.int (w:Nat)),some (true,(.lst (Q.map rowD))),some (false,.int N),some (false,.bl (x==N&&decide (0<g))),none]:=by
  by_cases h:(x==N)=true<;>simp only[xec,ev,frz,leaks,rdR,rdV,Zc,asB,isOwn,frsh,Zf,Zi,Zj,Zk,Zl,Zq,xD,w6,gV,Zt,Zu,ZE,ZG,h,a1]
 have start:Phi prog (k+3) 14 [shD Q g,.int x,.int (w:Nat)]=(xecs (Phi prog (k+2)) prog.gls 1000 [(.ite (.and (.not (.leaf (.var 5))) (.or (.leaf (.op2 .lt (.var 1) (.cst (.int 0)))) (.leaf (.op2 .ge (.var 1) (.var 4))))) [(.rai 1)] []),(.ite (.leaf (.op2 .ge (.op1 .len (.var 3)) (.glob 0))) [(.rai 0)] []),(.ite (.leaf (.var 5)) [(.ret (.call 10 [(.op2 .add (.var 3) (.lst [(.call 15 [(.var 4),(.var 4),(.op2 .add (.var 4) (.cst (.int 1))),(.var 2)])])),(.op2 .sub (.op2 .at (.var 0) (.cst (.int 1))) (.cst (.int 1)))]))] []),(.asg 6 (.call 25 [(.var 3),(.op2 .at (.call 5 [(.var 0),(.var 1)]) (.cst (.int 1))),(.var 4)])),(.ret (.call 10 [(.op2 .add (.var 6) (.lst [(.call 15 [(.var 1),(.var 4),(.op2 .add (.var 4) (.cst (.int 1))),(.var 2)])])),(.op2 .at (.var 0) (.cst (.int 1)))]))] [some (false,shD Q g),some (false,.int x),some (false,.int (w:Nat)),some (true,(.lst (Q.map rowD))),some (false,.int N),some (false,.bl (x==N&&decide (0<g))),none]).val:=by
  show(xecs (Phi prog (k+2)) prog.gls 1000 jJ [some (false,shD Q g),some (false,.int x),some (false,.int (w:Nat)),none,none,none,none]).val=_;unfold jJ;rw[aA e1,aA e2,aA e3]
 refine⟨λho=>?_,λho h10=>?_,λho h10=>?_⟩
 ·rw[start]
  have hb:(x==N&&decide (0<g))=false:=by
   rcases ho with h|h|⟨h,h'⟩
   ·have:(x==N)=false:=by simp;omega
    rw[this];rfl
   ·have:(x==N)=false:=by simp;omega
    rw[this];rfl
   ·have:decide (0<g)=false:=x8 (by omega)
    rw[this,Bool.and_false]
  by_cases h0:decide (x<0)=true
  ·simp only[xecs,xec,evT,ev,frz,leaksT,leaks,rdR,rdV,Za,Zc,Zf,Zk,Zl,Zq,xD,Zw,ZC,ZF,hb,h0];rfl
  ·have h1:decide (N<=x)=true:=yJ (by
    rcases ho with h|h|⟨h,_⟩
    ·exact absurd (yJ h) h0
    ·omega
    ·omega)
   simp only[xecs,xec,evT,ev,frz,leaksT,leaks,rdR,rdV,Za,Zc,Zf,Zk,Zl,Zq,xD,w6,gV,Zw,ZC,ZF,hb,h0,h1];rfl
 ·rw[start]
  have hl:decide ((10:Int)<=((Q.map rowD).length:Int))=true:=yJ (by simp only[xB];omega);by_cases hb:(x==N&&decide (0<g))=true
  ·simp only[xecs,xec,evT,ev,frz,leaksT,leaks,rdR,rdV,Za,Zc,Zf,Zk,Zl,Zq,xD,w6,gV,Zv,ZC,ZF,ZL,hb,gl,hl];rfl
  ·have hb':(x==N&&decide (0<g))=false:=by simpa using hb
   have hxN:x≠N:=λh=>hb (by rw[h];simp;exact Classical.byContradiction λhc=>ho (.inr (.inr ⟨by omega,by omega⟩)));have h0:decide (x<0)=false:=x8 λh=>ho (.inl h);have h1:decide (N<=x)=false:=x8 λh=>ho (.inr (.inl (by omega)));simp only[xecs,xec,evT,ev,frz,leaksT,leaks,rdR,rdV,Za,Zc,Zf,Zk,Zl,Zq,xD,w6,gV,Zw,ZC,ZF,ZL,hb',h0,h1,gl,hl];rfl
 ·rw[start]
  have hl:decide ((10:Int)<=((Q.map rowD).length:Int))=false:=x8 (by simp only[xB];omega);have hn:=qW (k+1) (R:=addV Q x w) (g:=if x=(2*Q.length:Nat) then g-1 else g) (wU sh.four) (by rw[add_len];omega);have cv:=p_curl k x N (N+1) hw;rw[addV,yB,←hN,xM,yX] at hn;rw[addV,←hN];have ad:∀(Y:List (List Int))(r:List Int),Y.length=Q.length->op2 .add (.lst (Y.map rowD)) (.lst [rowD r])=.ok (.lst (Y.map rowD++[rowD r])):=λY r hY=>fP _ _ (by
   have:LIM=100000:=rfl;simp only[xB,w5,xJ];omega)
  by_cases hx:x=N
  ·have hb:(x==N&&decide (0<g))=true:=by
    rw[hx];simp;exact Classical.byContradiction λhc=>ho (.inr (.inr ⟨by omega,by omega⟩))
   have bs:baseV Q x=Q:=by rw[baseV,xC (by omega)]
   rw[bs] at hn⊢;rw[xE hx] at hn⊢;rw[hx] at cv hn⊢;rw[hx] at hb;simp only[xecs,xec,evT,ev,evs,frz,frz1,leaksT,leaks,leakss,rdR,rdV,Za,Zc,Zf,Zk,Zl,Zo,Zp,Zq,xD,w6,gV,Zv,ZA,ZB,ZC,ZF,ZL,hb,gl,hl,cv,ad Q _ rfl,a1,hn];rfl
  ·have hb:(x==N&&decide (0<g))=false:=by
    have:(x==N)=false:=by simpa using hx
    rw[this];rfl
   have hr:0<=x/\x<N:=⟨Classical.byContradiction λh=>ho (.inl (by omega)),Classical.byContradiction λh=>ho (.inr (.inl (by omega)))⟩
   have h0:decide (x<0)=false:=x8 (by omega);have h1:decide (N<=x)=false:=x8 (by omega);have hp:=sh.in_of (x:=x) (by omega);obtain⟨_,a,b,hab⟩:=sh.two_of hp;have sb:b=secondV Q x:=by rw[secondV,hab];rfl
   have el:=pL (k+1) (g:=g) (line:=x) sh.four hQ;rw[xC hp,hab,xM,xM,yX,sb] at el;have rl:=bK (k+1) (v:=N) (fQ (Q.map rowD)) sh.four (aY hp);have bs:baseV Q x=setP Q (secondV Q x) N:=by rw[baseV,xE (by omega),hN]
   rw[xC hx] at hn⊢;rw[bs] at hn⊢;have e6:xec (Phi prog (k+2)) prog.gls 1000 (.asg 6 (.call 25 [(.var 3),(.op2 .at (.call 5 [(.var 0),(.var 1)]) (.cst (.int 1))),(.var 4)])) [some (false,shD Q g),some (false,.int x),some (false,.int (w:Nat)),some (true,(.lst (Q.map rowD))),some (false,.int N),some (false,.bl false),none]=.nx [some (false,shD Q g),some (false,.int x),some (false,.int (w:Nat)),some (false,(.lst (Q.map rowD))),some (false,.int N),some (false,.bl false),some (false,.lst ((setP Q (secondV Q x) N).map rowD))]:=by
    simp only[xec,ev,evs,frz,frz1,leaks,leakss,rdR,rdV,Zc,isOwn,frsh,Ze,Zf,Zi,Zj,Zk,Zl,Zo,Zp,Zq,w6,gV,Zu,ZJ,el,kE,rl]
   have e3':xec (Phi prog (k+2)) prog.gls 1000 (.ite (.and (.not (.leaf (.var 5))) (.or (.leaf (.op2 .lt (.var 1) (.cst (.int 0)))) (.leaf (.op2 .ge (.var 1) (.var 4))))) [(.rai 1)] []) [some (false,shD Q g),some (false,.int x),some (false,.int (w:Nat)),some (true,(.lst (Q.map rowD))),some (false,.int N),some (false,.bl false),none]=.nx [some (false,shD Q g),some (false,.int x),some (false,.int (w:Nat)),some (true,(.lst (Q.map rowD))),some (false,.int N),some (false,.bl false),none]:=by
    simp only[xecs,xec,evT,ev,frz,leaksT,leaks,rdR,rdV,Za,Zc,Zf,Zk,Zl,Zq,xD,w6,gV,Zw,ZC,ZF,h0,h1]
   have e4':xec (Phi prog (k+2)) prog.gls 1000 (.ite (.leaf (.op2 .ge (.op1 .len (.var 3)) (.glob 0))) [(.rai 0)] []) [some (false,shD Q g),some (false,.int x),some (false,.int (w:Nat)),some (true,(.lst (Q.map rowD))),some (false,.int N),some (false,.bl false),none]=.nx [some (false,shD Q g),some (false,.int x),some (false,.int (w:Nat)),some (true,(.lst (Q.map rowD))),some (false,.int N),some (false,.bl false),none]:=by
    simp only[xecs,xec,evT,ev,frz,leaksT,leaks,rdR,rdV,Za,Zc,Zf,Zk,Zl,Zq,xD,w6,gV,ZF,ZL,gl,hl]
   have e5':xec (Phi prog (k+2)) prog.gls 1000 (.ite (.leaf (.var 5)) [(.ret (.call 10 [(.op2 .add (.var 3) (.lst [(.call 15 [(.var 4),(.var 4),(.op2 .add (.var 4) (.cst (.int 1))),(.var 2)])])),(.op2 .sub (.op2 .at (.var 0) (.cst (.int 1))) (.cst (.int 1)))]))] []) [some (false,shD Q g),some (false,.int x),some (false,.int (w:Nat)),some (true,(.lst (Q.map rowD))),some (false,.int N),some (false,.bl false),none]=.nx [some (false,shD Q g),some (false,.int x),some (false,.int (w:Nat)),some (true,(.lst (Q.map rowD))),some (false,.int N),some (false,.bl false),none]:=by
    simp only[xecs,xec,evT,ev,evs,frz,frz1,leaksT,leaks,leakss,rdR,rdV,Za,Zc,Zf,Zk,Zl,Zo,Zp,Zq,xD,w6,gV,ZA]
   rw[hb,aA e3',aA e4',aA e5',aA e6];simp only[xecs,xec,ev,evs,frz,frz1,leaks,leakss,rdR,rdV,Zc,Zf,Zk,Zl,Zo,Zp,Zq,xD,w6,gV,ZA,cv,ad _ _ (aF _ _ _),a1,hn];rfl
theorem at4(a b c d:D):atD [a,b,c,d] 0=some a/\atD [a,b,c,d] 1=some b/\atD [a,b,c,d] 2=some c/\atD [a,b,c,d] 3=some d:=⟨rfl,rfl,rfl,rfl⟩
theorem cN{Q:List (List Int)}(h4:∀r∈Q,r.length=4)(hx:¬(x<0\/(Q.length:Int)<=x)):(Q.getD x.toNat []).length=4:=by
 have h:x.toNat<Q.length:=by omega
 have e:Q.getD x.toNat []=Q[x.toNat]:=by simp[h]
 rw[e];exact h4 _ (xV h)
noncomputable def unV(Q:List (List Int))(g x:Int)(P:List Int):D:=shD (numV (joinV (withoutV Q [x]) g [P]).1) (joinV (withoutV Q [x]) g [P]).2
theorem iB(k:Nat)(h4:∀r∈Q,r.length=4)(hQ:Q.length<=50)(h0:op2 .at (rowD r) (.int e)=.ok (.int a))(h1:op2 .at (rowD r) (.int ((e+1)%4))=.ok (.int b))(h2:op2 .at (rowD r) (.int ((e+2)%4))=.ok (.int p))(h3:op2 .at (rowD r) (.int ((e+3)%4))=.ok (.int q)):
  loopF (Phi prog (k+2)) prog.gls 1000 [3] [(.ite (.leaf (.op2 .eq (.op2 .at (.var 2) (.var 3)) (.op2 .at (.var 2) (.op2 .mod (.op2 .add (.var 3) (.cst (.int 1))) (.cst (.int 4)))))) [(.asg 4 (.tup [(.op2 .at (.var 2) (.op2 .mod (.op2 .add (.var 3) (.cst (.int 2))) (.cst (.int 4)))),(.op2 .at (.var 2) (.op2 .mod (.op2 .add (.var 3) (.cst (.int 3))) (.cst (.int 4))))])),(.ret (.call 12 [(.call 11 [(.op2 .at (.var 0) (.cst (.int 0))),(.tup [(.var 1)])]),(.op2 .at (.var 0) (.cst (.int 1))),(.lst [(.var 4)])]))] [])] (.int e) [some (false,shD Q g),some (false,.int x),some (false,rowD r),c3,c4]=if a=b then .rt (unV Q g x [p,q]) else .nx [some (false,shD Q g),some (false,.int x),some (false,rowD r),some (false,.int e),c4]:=by
 have m4:∀x:Int,op2 .mod (.int x) (.int 4)=.ok (.int (x%4)):=λx=>cD _ _ (by decide);have a0:op2 .at (shD Q g) (.int 0)=.ok (.tup (Q.map rowD)):=rfl;have a1:op2 .at (shD Q g) (.int 1)=.ok (.int g):=rfl;have w2:=gR Q [x];have hj:=n5 k (g:=g) (P:=[[p,q]]) (aJ (ks:=[x]) h4) (by simp) (by omega) (by simp);have hj:Phi prog (k+2) 12 [.lst ((withoutV Q [x]).map rowD),.int g,.lst [.tup [.int p,.int q]]]=.ok (unV Q g x [p,q]):=hj;have hw:Phi prog (k+2) 11 [.tup (Q.map rowD),.tup [.int x]]=.ok (.lst ((withoutV Q [x]).map rowD)):=kT (k+1) (ks:=[x]) hQ;generalize rowD r=R at*;by_cases h:a=b
 ·have z:(a==b)=true:=by simpa using h
  rw[xE h];simp only[loopF,xecs,xec,evT,ev,evs,frz,frz1,leaksT,leaks,leakss,rdR,rdV,Za,Zc,Py.sets,spread,isOwn,frsh,Zf,Zi,Zj,Zk,Zl,Zo,Zp,Zq,xD,w6,gV,Zu,ZA,ZG,m4,h0,h1,h2,h3,z,a0,a1,hw,hj,w5,xJ,xQ]
 ·have z:(a==b)=false:=by simpa using h
  rw[xC h];simp only[loopF,xecs,xec,evT,ev,evs,frz,frz1,leaksT,leaks,leakss,rdR,rdV,Za,Zc,Py.sets,spread,isOwn,frsh,Zf,Zi,Zj,Zk,Zl,Zo,Zp,Zq,xD,w6,gV,Zu,ZA,ZG,m4,h0,h1,z,w5,xJ,xQ]
theorem pN(k:Nat){Q:List (List Int)}{g x:Int}(h4:∀r∈Q,r.length=4)(hQ:Q.length<=50):
  Phi prog (k+3) 16 [shD Q g,.int x]=if x<0\/(Q.length:Int)<=x then .exc 1 else match twinV (Q.getD x.toNat []) with
   |none=>.exc 2
   |some e=>.ok (unV Q g x (othV (Q.getD x.toNat []) e)):=by
 show(xecs (Phi prog (k+2)) prog.gls 1000 eG [some (false,shD Q g),some (false,.int x),none,none,none]).val=_;have ha:=p_at (k+1) (Q:=Q) (g:=g) (x:=x);unfold eG;by_cases hx:x<0\/(Q.length:Int)<=x
 ·rw[xE hx] at ha⊢
  simp only[xecs,xec,ev,evs,frz,frz1,leaks,leakss,rdR,rdV,Zd,isOwn,frsh,Zf,Zi,Zj,Zk,Zl,Zo,Zp,Zq,w6,gV,Zu,ha];rfl
 rw[xC hx] at ha⊢;have hr:=cN h4 hx;generalize Q.getD x.toNat []=r at*;have e1:xec (Phi prog (k+2)) prog.gls 1000 (.asg 2 (.call 6 [(.var 0),(.var 1)])) [some (false,shD Q g),some (false,.int x),none,none,none]=.nx [some (false,shD Q g),some (false,.int x),some (false,rowD r),none,none]:=by simp only[xec,ev,evs,frz,frz1,leaks,leakss,rdR,rdV,Zc,isOwn,frsh,Zf,Zi,Zj,Zk,Zl,Zo,Zp,Zq,w6,gV,Zu,ha]
 rw[aA e1];have el:=bY (Φ:=Phi prog (k+2)) (G:=prog.gls) (n:=1000) (k:=.rng) (its:=[(.cst (.int 4))]) (tg:=[3]) (body:=[(.ite (.leaf (.op2 .eq (.op2 .at (.var 2) (.var 3)) (.op2 .at (.var 2) (.op2 .mod (.op2 .add (.var 3) (.cst (.int 1))) (.cst (.int 4)))))) [(.asg 4 (.tup [(.op2 .at (.var 2) (.op2 .mod (.op2 .add (.var 3) (.cst (.int 2))) (.cst (.int 4)))),(.op2 .at (.var 2) (.op2 .mod (.op2 .add (.var 3) (.cst (.int 3))) (.cst (.int 4))))])),(.ret (.call 12 [(.call 11 [(.op2 .at (.var 0) (.cst (.int 0))),(.tup [(.var 1)])]),(.op2 .at (.var 0) (.cst (.int 1))),(.lst [(.var 4)])]))] [])]) (δ:=[some (false,shD Q g),some (false,.int x),some (false,rowD r),none,none]) (xs:=[.int 0,.int 1,.int 2,.int 3]) rfl;have fr:frz (leakss false [(.cst (.int 4))]) [some (false,shD Q g),some (false,.int x),some (false,rowD r),none,none]=[some (false,shD Q g),some (false,.int x),some (false,rowD r),none,none]:=rfl;rw[fr] at el;obtain⟨a,b,c,d,rfl⟩:=row4 hr;have t0:=λc3 c4=>iB k (g:=g) (x:=x) (e:=0) (a:=a) (b:=b) (p:=c) (q:=d) (r:=[a,b,c,d]) (c3:=c3) (c4:=c4) h4 hQ rfl rfl rfl rfl;have t1:=λc3 c4=>iB k (g:=g) (x:=x) (e:=1) (a:=b) (b:=c) (p:=d) (q:=a) (r:=[a,b,c,d]) (c3:=c3) (c4:=c4) h4 hQ rfl rfl rfl rfl;have t2:=λc3 c4=>iB k (g:=g) (x:=x) (e:=2) (a:=c) (b:=d) (p:=a) (q:=b) (r:=[a,b,c,d]) (c3:=c3) (c4:=c4) h4 hQ rfl rfl rfl rfl;have t3:=λc3 c4=>iB k (g:=g) (x:=x) (e:=3) (a:=d) (b:=a) (p:=b) (q:=c) (r:=[a,b,c,d]) (c3:=c3) (c4:=c4) h4 hQ rfl rfl rfl rfl;have et:twinV [a,b,c,d]=if a=b then some 0 else if b=c then some 1 else if c=d then some 2 else if d=a then some 3 else none:=rfl;rw[et];by_cases h0:a=b
 ·simp only[xE h0] at t0
  rw[xE h0];rw[aH (el.trans (by rw[Py.forM,t0]))];rfl
 simp only[xC h0] at t0;rw[xC h0];by_cases h1:b=c
 ·simp only[xE h1] at t1
  rw[xE h1];rw[aH (el.trans (by rw[Py.forM,t0];dsimp only;rw[Py.forM,t1]))];rfl
 simp only[xC h1] at t1;rw[xC h1];by_cases h2:c=d
 ·simp only[xE h2] at t2
  rw[xE h2];rw[aH (el.trans (by rw[Py.forM,t0];dsimp only;rw[Py.forM,t1];dsimp only;rw[Py.forM,t2]))];rfl
 simp only[xC h2] at t2;rw[xC h2];by_cases h3:d=a
 ·simp only[xE h3] at t3
  rw[xE h3];rw[aH (el.trans (by rw[Py.forM,t0];dsimp only;rw[Py.forM,t1];dsimp only;rw[Py.forM,t2];dsimp only;rw[Py.forM,t3]))];rfl
 simp only[xC h3] at t3;rw[xC h3];rw[aA (el.trans (by rw[Py.forM,t0];dsimp only;rw[Py.forM,t1];dsimp only;rw[Py.forM,t2];dsimp only;rw[Py.forM,t3];dsimp only;rw[Py.forM]))];simp only[xecs,xec];rfl
theorem tK(k:Nat)(s0 s1 l x f:Int)(hw:w<4):Phi prog (k+1) 18 [.tup [.int s0,.int s1],.tup [.int l,.int x],.int f,.int (w:Nat)]=.ok (.lst ((ovl s0 s1 l x f w).map rowD)):=by
 show(xecs (Phi prog k) prog.gls 1000 gD [some (false,.tup [.int s0,.int s1]),some (false,.tup [.int l,.int x]),some (false,.int f),some (false,.int (w:Nat)),none,none]).val=_;unfold gD;by_cases h:w<2
 ·have q2:decide ((w:Int)<2)=true:=yJ (by omega)
  rw[ovl,xE h];simp only[xecs,xec,evT,ev,evs,frz,frz1,leaksT,leaks,leakss,rdR,rdV,Za,Zc,isOwn,frsh,Ze,Zf,Zi,Zj,Zk,Zl,Zm,Zn,Zo,Zp,Zq,xD,w6,gV,Zt,Zu,ZA,ZC,ZJ,q2,nA,kE];rfl
 ·have q2:decide ((w:Int)<2)=false:=x8 (by omega)
  rw[ovl,xC h];simp only[xecs,xec,evT,ev,evs,frz,frz1,leaksT,leaks,leakss,rdR,rdV,Za,Zc,isOwn,frsh,Ze,Zf,Zi,Zj,Zk,Zl,Zm,Zn,Zo,Zp,Zq,xD,w6,gV,Zt,Zu,ZA,ZC,ZJ,q2,nA,kE];rfl
theorem p_laid(k:Nat)(sh:Sheet Q m)(hm:m<=10)(hw:w<4):Phi prog (k+2) 17 [shD Q g,.int u,.int l,.int (w:Nat)]=if placesV Q u=[]\/placesV Q l=[] then .exc 1 else if u=l then .exc 2 else if 8<m then .exc 0 else .ok (shD (numV (laidV Q u l w)) g):=by
 have hQ:Q.length<=50:=by rw[sh.len];omega
 have eu:=pL k (g:=g) (line:=u) sh.four hQ;have el:=pL k (g:=g) (line:=l) sh.four hQ;show(xecs (Phi prog (k+1)) prog.gls 1000 dL [some (false,shD Q g),some (false,.int u),some (false,.int l),some (false,.int (w:Nat)),none,none,none,none,none]).val=_;unfold dL;by_cases hu:placesV Q u=[]
 ·rw[xE (.inl hu)]
  rw[xE hu] at eu;simp only[xecs,xec,ev,evs,frz,frz1,leaks,leakss,rdR,rdV,Zd,isOwn,frsh,Zf,Zg,Zi,Zj,Zk,Zl,Zo,Zp,Zq,w6,gV,Zu,eu];rfl
 rw[xC hu] at eu;obtain⟨ru,a,b,hab⟩:=sh.two_of hu;have sb:b=secondV Q u:=by rw[secondV,hab];rfl
 have ib:=aY hu;rw[hab] at eu;have e1:xec (Phi prog (k+1)) prog.gls 1000 (.asg 4 (.op2 .at (.call 5 [(.var 0),(.var 1)]) (.cst (.int 1)))) [some (false,shD Q g),some (false,.int u),some (false,.int l),some (false,.int (w:Nat)),none,none,none,none,none]=.nx [some (false,shD Q g),some (false,.int u),some (false,.int l),some (false,.int (w:Nat)),some (false,pairD b),none,none,none,none]:=by
  have:op2 .at (.tup [pairD a,pairD b]) (.int 1)=.ok (pairD b):=rfl;rw[xM,xM,yX] at eu;rw[cQ (v:=pairD b) rfl (by rw[ev,ev];simp only[evs,ev,rdR,frz,leaks,leakss,rdV,w6,gV,List.getElem?_cons_zero,List.getElem?_cons_succ,bX,eu,this])];rfl
 rw[aA e1];by_cases hl:placesV Q l=[]
 ·rw[xE (.inr hl)]
  rw[xE hl] at el;simp only[xecs,xec,ev,evs,frz,frz1,leaks,leakss,rdR,rdV,Zd,isOwn,frsh,Zf,Zg,Zi,Zj,Zk,Zl,Zo,Zp,Zq,w6,gV,Zu,el];rfl
 rw[xC hl] at el;rw[xC (not_or.mpr ⟨hu,hl⟩)];obtain⟨rl,c,d,hcd⟩:=sh.two_of hl;have sd:d=secondV Q l:=by rw[secondV,hcd];rfl
 have id:=aY hl;rw[hcd] at el;have e2:xec (Phi prog (k+1)) prog.gls 1000 (.asg 5 (.op2 .at (.call 5 [(.var 0),(.var 2)]) (.cst (.int 1)))) [some (false,shD Q g),some (false,.int u),some (false,.int l),some (false,.int (w:Nat)),some (false,pairD b),none,none,none,none]=.nx [some (false,shD Q g),some (false,.int u),some (false,.int l),some (false,.int (w:Nat)),some (false,pairD b),some (false,pairD d),none,none,none]:=by
  have:op2 .at (.tup [pairD c,pairD d]) (.int 1)=.ok (pairD d):=rfl;rw[xM,xM,yX] at el;rw[cQ (v:=pairD d) rfl (by rw[ev,ev];simp only[evs,ev,rdR,frz,leaks,leakss,rdV,w6,gV,List.getElem?_cons_zero,List.getElem?_cons_succ,bX,el,this])];rfl
 rw[aA e2];subst sb sd;by_cases hul:u=l
 ·have:(u==l)=true:=by simpa using hul
  rw[xE hul];simp only[xecs,xec,evT,ev,frz,leaksT,leaks,rdR,rdV,Za,Zc,Zf,Zk,Zl,Zq,xD,ZG,this];rfl
 have hne:(u==l)=false:=by simpa using hul
 rw[xC hul];have a0:op2 .at (shD Q g) (.int 0)=.ok (.tup (Q.map rowD)):=rfl;have a1:op2 .at (shD Q g) (.int 1)=.ok (.int g):=rfl;have gl:ofO prog.gls[0]?=.ok (.int 10):=rfl;by_cases hc:8<m
 ·have hd:decide ((10:Int)-2<((Q.map rowD).length:Int))=true:=yJ (by simp only[xB,sh.len];omega)
  rw[xE hc];simp only[xecs,xec,evT,ev,frz,leaksT,leaks,rdR,rdV,Za,Zc,Zf,Zk,Zl,Zq,xD,w6,gV,ZB,ZE,ZG,ZM,hne,a0,gl,hd];rfl
 have hd:decide ((10:Int)-2<((Q.map rowD).length:Int))=false:=x8 (by simp only[xB,sh.len];omega);rw[xC hc];have eN:(2*((Q.map rowD).length:Int))=((2*Q.length:Nat):Int):=by rw[xB];omega
 have r1:=bK k (d0:=.tup (Q.map rowD)) (v:=(2*Q.length:Nat)) (o_lstT _) sh.four ib;have r2:=bK k (v:=(2*Q.length:Nat)+1) (fQ ((setP Q (secondV Q u) (2*Q.length:Nat)).map rowD)) (aC sh.four) (by rw[aF];exact id);have ov:=tK k (sd0 u (2*Q.length:Nat) w) (sd1 u (2*Q.length:Nat) w) l ((2*Q.length:Nat)+1) ((2*Q.length:Nat)+2) hw;have hn:=qW k (R:=laidV Q u l w) (g:=g) (fZ sh.four) (by rw[nR,sh.len];omega);rw[show laidV Q u l w=setP (setP Q (secondV Q u) (2*Q.length:Nat)) (secondV Q l) ((2*Q.length:Nat)+1)++ovl (sd0 u (2*Q.length:Nat) w) (sd1 u (2*Q.length:Nat) w) l ((2*Q.length:Nat)+1) ((2*Q.length:Nat)+2) w from rfl] at*;rw[yB] at hn;have hlen:((setP (setP Q (secondV Q u) (2*Q.length:Nat)) (secondV Q l) ((2*Q.length:Nat)+1)).map rowD).length+((ovl (sd0 u (2*Q.length:Nat) w) (sd1 u (2*Q.length:Nat) w) l ((2*Q.length:Nat)+1) ((2*Q.length:Nat)+2) w).map rowD).length<=LIM:=by
  have:LIM=100000:=rfl;simp only[xB,aF,qO];omega
 generalize setP (setP Q (secondV Q u) (2*Q.length:Nat)) (secondV Q l) ((2*Q.length:Nat)+1)=Y at*;generalize (setP Q (secondV Q u) (2*Q.length:Nat)).map rowD=X at*;generalize ((2*Q.length:Nat):Int)=N at*;have m2:∀x:Int,op2 .mod (.int x) (.int 2)=.ok (.int (x%2)):=λx=>cD _ _ (by decide);have e7:∀st,st=Sm.ite (.leaf (.op2 .eq (.op2 .mod (.var 3) (.cst (.int 2))) (.cst (.int 0)))) [(.asg 8 (.tup [(.var 1),(.var 6)]))] [(.asg 8 (.tup [(.var 6),(.var 1)]))]->xec (Phi prog (k+1)) prog.gls 1000 st [some (false,shD Q g),some (false,.int u),some (false,.int l),some (false,.int (w:Nat)),some (false,pairD (secondV Q u)),some (false,pairD (secondV Q l)),some (false,.int N),some (false,.lst (Y.map rowD)),none]=.nx [some (false,shD Q g),some (false,.int u),some (false,.int l),some (false,.int (w:Nat)),some (false,pairD (secondV Q u)),some (false,pairD (secondV Q l)),some (false,.int N),some (false,.lst (Y.map rowD)),some (false,.tup [.int (sd0 u N w),.int (sd1 u N w)])]:=by
  rintro st rfl;by_cases hp:w%2=0
  ·have:((w:Int)%2==0)=true:=by simp;omega
   simp only[xecs,xec,evT,ev,evs,frz,frz1,leaksT,leaks,leakss,rdR,rdV,Za,Zc,isOwn,frsh,Zf,Zi,Zj,Zk,Zl,Zo,Zp,Zq,xD,w6,gV,Zu,ZG,m2,this,sd0,sd1,xE hp]
  ·have:((w:Int)%2==0)=false:=by simp;omega
   simp only[xecs,xec,evT,ev,evs,frz,frz1,leaksT,leaks,leakss,rdR,rdV,Za,Zc,isOwn,frsh,Zf,Zi,Zj,Zk,Zl,Zo,Zp,Zq,xD,w6,gV,Zu,ZG,m2,this,sd0,sd1,xC hp]
 have e3:xec (Phi prog (k+1)) prog.gls 1000 (.ite (.leaf (.op2 .eq (.var 1) (.var 2))) [(.rai 2)] []) [some (false,shD Q g),some (false,.int u),some (false,.int l),some (false,.int (w:Nat)),some (false,pairD (secondV Q u)),some (false,pairD (secondV Q l)),none,none,none]=.nx [some (false,shD Q g),some (false,.int u),some (false,.int l),some (false,.int (w:Nat)),some (false,pairD (secondV Q u)),some (false,pairD (secondV Q l)),none,none,none]:=by
  simp only[xecs,xec,evT,ev,frz,leaksT,leaks,rdR,rdV,Za,Zc,Zf,Zk,Zl,Zq,xD,w6,gV,ZG,hne]
 have e4:xec (Phi prog (k+1)) prog.gls 1000 (.ite (.leaf (.op2 .gt (.op1 .len (.op2 .at (.var 0) (.cst (.int 0)))) (.op2 .sub (.glob 0) (.cst (.int 2))))) [(.rai 0)] []) [some (false,shD Q g),some (false,.int u),some (false,.int l),some (false,.int (w:Nat)),some (false,pairD (secondV Q u)),some (false,pairD (secondV Q l)),none,none,none]=.nx [some (false,shD Q g),some (false,.int u),some (false,.int l),some (false,.int (w:Nat)),some (false,pairD (secondV Q u)),some (false,pairD (secondV Q l)),none,none,none]:=by
  simp only[xecs,xec,evT,ev,frz,leaksT,leaks,rdR,rdV,Za,Zc,Zf,Zk,Zq,xD,w6,gV,ZB,ZE,ZM,a0,gl,hd]
 have e5:xec (Phi prog (k+1)) prog.gls 1000 (.asg 6 (.op2 .mul (.cst (.int 2)) (.op1 .len (.op2 .at (.var 0) (.cst (.int 0)))))) [some (false,shD Q g),some (false,.int u),some (false,.int l),some (false,.int (w:Nat)),some (false,pairD (secondV Q u)),some (false,pairD (secondV Q l)),none,none,none]=.nx [some (false,shD Q g),some (false,.int u),some (false,.int l),some (false,.int (w:Nat)),some (false,pairD (secondV Q u)),some (false,pairD (secondV Q l)),some (false,.int N),none,none]:=by
  simp only[xec,ev,frz,leaks,rdR,rdV,Zc,isOwn,frsh,Zf,Zi,Zj,Zk,Zq,xD,Zu,ZM,a0,mul2,eN]
 have e6:xec (Phi prog (k+1)) prog.gls 1000 (.asg 7 (.call 25 [(.call 25 [(.op2 .at (.var 0) (.cst (.int 0))),(.var 4),(.var 6)]),(.var 5),(.op2 .add (.var 6) (.cst (.int 1)))])) [some (false,shD Q g),some (false,.int u),some (false,.int l),some (false,.int (w:Nat)),some (false,pairD (secondV Q u)),some (false,pairD (secondV Q l)),some (false,.int N),none,none]=.nx [some (false,shD Q g),some (false,.int u),some (false,.int l),some (false,.int (w:Nat)),some (false,pairD (secondV Q u)),some (false,pairD (secondV Q l)),some (false,.int N),some (false,.lst (Y.map rowD)),none]:=by
  simp only[xec,ev,evs,frz,frz1,leaks,leakss,rdR,rdV,Zc,isOwn,frsh,Zf,Zi,Zj,Zk,Zl,Zo,Zp,Zq,xD,w6,gV,Zu,ZA,a0,r1,r2]
 rw[aA e3,aA e4,aA e5,aA e6,aA (e7 _ rfl)];simp only[xecs,xec,ev,evs,frz,frz1,leaks,leakss,rdR,rdV,Zc,Zf,Zk,Zl,Zo,Zp,Zq,xD,w6,gV,ZA,a1,ov,fP _ _ hlen,hn];rfl
theorem lW(h:r.length=4):(r2 r).length=4:=by
 obtain⟨a,b,c,d,rfl⟩:=row4 h;rfl
theorem loos_two(h:loosV x y=some P):∃a b c d,P=[[a,b],[c,d]]:=by
 unfold loosV at h;split at h
 ·split at h
  ·cases h;exact⟨_,_,_,_,rfl⟩
  ·split at h
   ·cases h;exact⟨_,_,_,_,rfl⟩
   ·cases h
 ·cases h
noncomputable def ansV:Option (List (List Int))->D
 |none=>.non
 |some P=>.lst (P.map rowD)
theorem pO(k:Nat)(hx:x.length=4)(hy:y.length=4):Phi prog (k+1) 20 [rowD x,rowD y]=.ok (ansV (loosV x y)):=by
 obtain⟨x0,x1,x2,x3,rfl⟩:=row4 hx;obtain⟨y0,y1,y2,y3,rfl⟩:=row4 hy;show(xecs (Phi prog k) prog.gls 1000 eI [some (false,.tup [.int x0,.int x1,.int x2,.int x3]),some (false,.tup [.int y0,.int y1,.int y2,.int y3]),none]).val=_;have hit:itemsD .seq [.tup [.int 1,.int 3]]=.ok [.int 1,.int 3]:=rfl;unfold eI;have evl:loosV [x0,x1,x2,x3] [y0,y1,y2,y3]=if x2=y0 then(if x1=y1 then some [[x0,y2],[x3,y3]] else if x3=y3 then some [[x0,y2],[x1,y1]] else none) else none:=rfl;rw[evl];by_cases h1:x2=y0
 ·have q1:(x2==y0)=true:=by simpa using h1
  rw[xE h1];by_cases h2:x1=y1
  ·have q2:(x1==y1)=true:=by simpa using h2
   rw[xE h2];simp only[xecs,xec,evT,ev,evs,frz,leaksT,leaks,leakss,rdR,rdV,Za,Zc,Py.sets,spread,Ze,Zf,Zh,Zi,Zj,Zk,Zl,Zq,xD,w6,gV,Zv,ZB,ZG,ZH,ZJ,hit,Py.forM,at4,q1,q2,w5,xJ,xQ,Int.reduceSub];rfl
  ·have q2:(x1==y1)=false:=by simpa using h2
   rw[xC h2];by_cases h3:x3=y3
   ·have q3:(x3==y3)=true:=by simpa using h3
    rw[xE h3];simp only[xecs,xec,evT,ev,evs,frz,leaksT,leaks,leakss,rdR,rdV,Za,Zc,Py.sets,spread,Ze,Zf,Zh,Zi,Zj,Zk,Zl,Zq,xD,w6,gV,Zv,ZB,ZG,ZH,ZJ,hit,Py.forM,at4,q1,q2,q3,w5,xJ,xQ,Int.reduceSub];rfl
   ·have q3:(x3==y3)=false:=by simpa using h3
    rw[xC h3];simp only[xecs,xec,evT,ev,evs,frz,leaksT,leaks,leakss,rdR,rdV,Za,Zc,Py.sets,spread,Ze,Zf,Zh,Zi,Zj,Zk,Zl,Zq,xD,w6,gV,Zv,ZB,ZG,ZH,ZJ,hit,Py.forM,at4,q1,q2,q3,w5,xJ,xQ,Int.reduceSub];rfl
 ·have q1:(x2==y0)=false:=by simpa using h1
  rw[xC h1];simp only[xecs,xec,evT,ev,frz,leaksT,leaks,rdR,rdV,Za,Zc,Ze,Zf,Zk,Zl,Zq,xD,Zw,ZH,ZJ,at4,q1];rfl
theorem lens_two(h:lensV x y=some P):∃a b c d,P=[[a,b],[c,d]]:=by
 unfold lensV at h;split at h
 ·cases h;rename_i e;exact loos_two e
 ·split at h
  ·cases h;rename_i e;exact loos_two e
  ·split at h
   ·cases h;rename_i e;exact loos_two e
   ·exact loos_two h
theorem iC(k:Nat)(h:r.length=4):Phi prog (k+1) 7 [rowD r,.int 0]=.ok (rowD r):=by
 obtain⟨a,b,c,d,rfl⟩:=row4 h;rfl
theorem iD(k:Nat)(h:r.length=4):Phi prog (k+1) 7 [rowD r,.int 2]=.ok (rowD (r2 r)):=by
 obtain⟨a,b,c,d,rfl⟩:=row4 h;rfl
theorem nn_lst(P:List (List Int)):op1 .isNotNone (.lst (P.map rowD))=.ok (.bl true):=by
 show(if pln 1000 (.lst (P.map rowD)) then R.ok (D.bl true) else R.bad)=_;have h:=cG 998 P;rw[xE (show pln 1000 (.lst (P.map rowD))=true by simpa[pln] using h)]
noncomputable def goneV(Q:List (List Int))(g x y:Int)(P:List (List Int)):D:=shD (numV (joinV (withoutV Q [x,y]) g P).1) (joinV (withoutV Q [x,y]) g P).2
theorem dC(k:Nat){Q:List (List Int)}{g x y b c:Int}{r s r' s':List Int}{c5 c6:Slot}(h4:∀r∈Q,r.length=4)(hQ:Q.length<=50)(h1:Phi prog (k+2) 7 [rowD r,.int b]=.ok (rowD r'))(h2:Phi prog (k+2) 7 [rowD s,.int c]=.ok (rowD s'))(hr:r'.length=4)(hs:s'.length=4):
  loopF (Phi prog (k+2)) prog.gls 1000 [5] [(.asg 6 (.call 20 [(.call 7 [(.var 3),(.op2 .at (.var 5) (.cst (.int 0)))]),(.call 7 [(.var 4),(.op2 .at (.var 5) (.cst (.int 1)))])])),(.ite (.leaf (.op1 .isNotNone (.var 6))) [(.ret (.call 12 [(.call 11 [(.op2 .at (.var 0) (.cst (.int 0))),(.tup [(.var 1),(.var 2)])]),(.op2 .at (.var 0) (.cst (.int 1))),(.var 6)]))] [])] (.tup [.int b,.int c]) [some (false,shD Q g),some (false,.int x),some (false,.int y),some (false,rowD r),some (false,rowD s),c5,c6]=match loosV r' s' with
   |none=>.nx [some (false,shD Q g),some (false,.int x),some (false,.int y),some (false,rowD r),some (false,rowD s),some (false,.tup [.int b,.int c]),some (false,.non)]
   |some P=>.rt (goneV Q g x y P):=by
 have hl:=pO (k+1) hr hs;have a0:op2 .at (shD Q g) (.int 0)=.ok (.tup (Q.map rowD)):=rfl;have a1:op2 .at (shD Q g) (.int 1)=.ok (.int g):=rfl;have nn:op1 .isNotNone .non=.ok (.bl false):=rfl
 cases e:loosV r' s' with
 |none=>
  rw[e] at hl;have hl:Phi prog (k+2) 20 [rowD r',rowD s']=.ok .non:=hl;simp only[loopF,xecs,xec,evT,ev,evs,frz,frz1,leaksT,leaks,leakss,rdR,rdV,Za,Zc,Py.sets,spread,isOwn,frsh,Ze,Zf,Zi,Zj,Zk,Zl,Zo,Zp,Zq,xD,w6,gV,Zu,ZJ,h1,h2,nA,kE,hl,nn,w5,xJ,xQ]
 |some P=>
  rw[e] at hl;have hl:Phi prog (k+2) 20 [rowD r',rowD s']=.ok (.lst (P.map rowD)):=hl;obtain⟨_,_,_,_,ep⟩:=loos_two e;have w2:=gR Q [x,y];have hj:=n5 k (g:=g) (P:=P) (aJ (ks:=[x,y]) h4) (by rw[ep];simp) (by omega) (by rw[ep];simp);have hw:Phi prog (k+2) 11 [.tup (Q.map rowD),.tup [.int x,.int y]]=.ok (.lst ((withoutV Q [x,y]).map rowD)):=kT (k+1) (ks:=[x,y]) hQ;have nl:=nn_lst P;simp only[loopF,xecs,xec,evT,ev,evs,frz,frz1,leaksT,leaks,leakss,rdR,rdV,Za,Zc,Py.sets,spread,isOwn,frsh,Ze,Zf,Zi,Zj,Zk,Zl,Zo,Zp,Zq,xD,w6,gV,Zu,ZJ,h1,h2,nA,kE,hl,nl,a0,a1,hw,hj,w5,xJ,xQ];rfl
theorem p_taken(k:Nat){Q:List (List Int)}{g x y:Int}(h4:∀r∈Q,r.length=4)(hQ:Q.length<=50):
  Phi prog (k+3) 19 [shD Q g,.int x,.int y]=if(x<0\/(Q.length:Int)<=x)\/(y<0\/(Q.length:Int)<=y) then .exc 1 else if x=y then .exc 2 else match lensV (Q.getD x.toNat []) (Q.getD y.toNat []) with
   |none=>.exc 2
   |some P=>.ok (goneV Q g x y P):=by
 show(xecs (Phi prog (k+2)) prog.gls 1000 cB [some (false,shD Q g),some (false,.int x),some (false,.int y),none,none,none,none]).val=_;have ha:=p_at (k+1) (Q:=Q) (g:=g) (x:=x);have hb:=p_at (k+1) (Q:=Q) (g:=g) (x:=y);unfold cB;by_cases hx:x<0\/(Q.length:Int)<=x
 ·rw[xE hx] at ha
  rw[xE (.inl hx)];simp only[xecs,xec,ev,evs,frz,frz1,leaks,leakss,rdR,rdV,Zd,isOwn,frsh,Zf,Zi,Zj,Zk,Zl,Zo,Zp,Zq,w6,gV,Zu,ha];rfl
 rw[xC hx] at ha;by_cases hy:y<0\/(Q.length:Int)<=y
 ·rw[xE hy] at hb
  rw[xE (.inr hy)];simp only[xecs,xec,ev,evs,frz,frz1,leaks,leakss,rdR,rdV,Zc,Zd,isOwn,frsh,Zf,Zi,Zj,Zk,Zl,Zo,Zp,Zq,w6,gV,Zu,ha,hb];rfl
 rw[xC hy] at hb;rw[xC (by omega)];by_cases hxy:x=y
 ·have q:(x==y)=true:=by simpa using hxy
  rw[xE hxy];simp only[xecs,xec,evT,ev,evs,frz,frz1,leaksT,leaks,leakss,rdR,rdV,Za,Zc,isOwn,frsh,Zf,Zi,Zj,Zk,Zl,Zo,Zp,Zq,xD,w6,gV,Zu,ZG,ha,hb,q];rfl
 have q:(x==y)=false:=by simpa using hxy
 rw[xC hxy];have hr:=cN h4 hx;have hs:=cN h4 hy;have gl:ofO prog.gls[1]?=.ok (.tup [.tup [.int 0,.int 0],.tup [.int 0,.int 2],.tup [.int 2,.int 0],.tup [.int 2,.int 2]]):=rfl;generalize Q.getD x.toNat []=r at*;generalize Q.getD y.toNat []=s at*;have e1:xec (Phi prog (k+2)) prog.gls 1000 (.asg 3 (.call 6 [(.var 0),(.var 1)])) [some (false,shD Q g),some (false,.int x),some (false,.int y),none,none,none,none]=.nx [some (false,shD Q g),some (false,.int x),some (false,.int y),some (false,rowD r),none,none,none]:=by simp only[xec,ev,evs,frz,frz1,leaks,leakss,rdR,rdV,Zc,isOwn,frsh,Zf,Zi,Zj,Zk,Zl,Zo,Zp,Zq,w6,gV,Zu,ha]
 have e2:xec (Phi prog (k+2)) prog.gls 1000 (.asg 4 (.call 6 [(.var 0),(.var 2)])) [some (false,shD Q g),some (false,.int x),some (false,.int y),some (false,rowD r),none,none,none]=.nx [some (false,shD Q g),some (false,.int x),some (false,.int y),some (false,rowD r),some (false,rowD s),none,none]:=by simp only[xec,ev,evs,frz,frz1,leaks,leakss,rdR,rdV,Zc,isOwn,frsh,Zf,Zi,Zj,Zk,Zl,Zo,Zp,Zq,w6,gV,Zu,hb]
 have e3:xec (Phi prog (k+2)) prog.gls 1000 (.ite (.leaf (.op2 .eq (.var 1) (.var 2))) [(.rai 2)] []) [some (false,shD Q g),some (false,.int x),some (false,.int y),some (false,rowD r),some (false,rowD s),none,none]=.nx [some (false,shD Q g),some (false,.int x),some (false,.int y),some (false,rowD r),some (false,rowD s),none,none]:=by simp only[xecs,xec,evT,ev,frz,leaksT,leaks,rdR,rdV,Za,Zc,Zf,Zk,Zl,Zq,xD,w6,gV,ZG,q]
 rw[aA e1,aA e2,aA e3];have el:=bY (Φ:=Phi prog (k+2)) (G:=prog.gls) (n:=1000) (k:=.seq) (its:=[(.glob 1)]) (tg:=[5]) (body:=[(.asg 6 (.call 20 [(.call 7 [(.var 3),(.op2 .at (.var 5) (.cst (.int 0)))]),(.call 7 [(.var 4),(.op2 .at (.var 5) (.cst (.int 1)))])])),(.ite (.leaf (.op1 .isNotNone (.var 6))) [(.ret (.call 12 [(.call 11 [(.op2 .at (.var 0) (.cst (.int 0))),(.tup [(.var 1),(.var 2)])]),(.op2 .at (.var 0) (.cst (.int 1))),(.var 6)]))] [])]) (δ:=[some (false,shD Q g),some (false,.int x),some (false,.int y),some (false,rowD r),some (false,rowD s),none,none]) (xs:=[.tup [.int 0,.int 0],.tup [.int 0,.int 2],.tup [.int 2,.int 0],.tup [.int 2,.int 2]]) (by simp only[ev,evs,Zf,gl];rfl);have t1:=λc5 c6=>dC k (g:=g) (x:=x) (y:=y) (c5:=c5) (c6:=c6) h4 hQ (iC (k+1) hr) (iC (k+1) hs) hr hs;have t2:=λc5 c6=>dC k (g:=g) (x:=x) (y:=y) (c5:=c5) (c6:=c6) h4 hQ (iC (k+1) hr) (iD (k+1) hs) hr (lW hs);have t3:=λc5 c6=>dC k (g:=g) (x:=x) (y:=y) (c5:=c5) (c6:=c6) h4 hQ (iD (k+1) hr) (iC (k+1) hs) (lW hr) hs;have t4:=λc5 c6=>dC k (g:=g) (x:=x) (y:=y) (c5:=c5) (c6:=c6) h4 hQ (iD (k+1) hr) (iD (k+1) hs) (lW hr) (lW hs);have fr:frz (leakss false [(.glob 1)]) [some (false,shD Q g),some (false,.int x),some (false,.int y),some (false,rowD r),some (false,rowD s),none,none]=[some (false,shD Q g),some (false,.int x),some (false,.int y),some (false,rowD r),some (false,rowD s),none,none]:=rfl;rw[fr] at el;unfold lensV
 cases a1:loosV r s with
 |some P=>
  rw[a1] at t1;rw[aH (el.trans (by rw[Py.forM,t1]))];rfl
 |none=>
  rw[a1] at t1
  cases a2:loosV r (r2 s) with
  |some P=>
   rw[a2] at t2;rw[aH (el.trans (by rw[Py.forM,t1];dsimp only;rw[Py.forM,t2]))];rfl
  |none=>
   rw[a2] at t2
   cases a3:loosV (r2 r) s with
   |some P=>
    rw[a3] at t3;rw[aH (el.trans (by rw[Py.forM,t1];dsimp only;rw[Py.forM,t2];dsimp only;rw[Py.forM,t3]))];rfl
   |none=>
    rw[a3] at t3
    cases a4:loosV (r2 r) (r2 s) with
    |some P=>
     rw[a4] at t4;rw[aH (el.trans (by rw[Py.forM,t1];dsimp only;rw[Py.forM,t2];dsimp only;rw[Py.forM,t3];dsimp only;rw[Py.forM,t4]))];rfl
    |none=>
     rw[a4] at t4;rw[aA (el.trans (by rw[Py.forM,t1];dsimp only;rw[Py.forM,t2];dsimp only;rw[Py.forM,t3];dsimp only;rw[Py.forM,t4];dsimp only;rw[Py.forM]))];simp only[xecs,xec];rfl
noncomputable def optD:Option Nat->D
 |none=>.non
 |some e=>.int (e:Nat)
theorem eJ(h:r.length=4)(he:e<4):op2 .at (rowD r) (.int (e:Nat))=.ok (.int (r.getD e 0)):=by
 show ofO (atD (intL r) _)=_;rw[m7 (by omega)];rfl
theorem p_end(k:Nat)(h:r.length=4)(ha:a<4)(hb:b<4):Phi prog (k+1) 23 [rowD r,.tup [.int (a:Nat),.int (b:Nat)],.int t]=.ok (optD (endV r a b t)):=by
 show(xecs (Phi prog k) prog.gls 1000 b8 [some (false,rowD r),some (false,.tup [.int (a:Nat),.int (b:Nat)]),some (false,.int t),none]).val=_;have a1:=eJ h ha;have a2:=eJ h hb;have hi:itemsD .seq [.tup [.int ((a:Nat):Int),.int ((b:Nat):Int)]]=.ok [.int ((a:Nat):Int),.int ((b:Nat):Int)]:=aM (by simp);unfold endV;generalize r.getD a 0=u at*;generalize r.getD b 0=v at*;generalize rowD r=R at*;have oa:optD (some a)=.int ((a:Nat):Int):=rfl;have ob:optD (some b)=.int ((b:Nat):Int):=rfl;by_cases h1:u=t
 ·have e1:(u==t)=true:=by simpa using h1
  rw[xE h1,oa];generalize ((a:Nat):Int)=A at*;generalize ((b:Nat):Int)=B at*;simp only[b8,xecs,xec,evT,ev,evs,frz,frz1,leaksT,leaks,leakss,rdR,rdV,Za,Zc,Py.sets,spread,Zf,Zh,Zi,Zj,Zk,Zl,Zq,xD,w6,gV,ZG,hi,Py.forM,a1,e1,w5,xJ,xQ];rfl
 ·have e1:(u==t)=false:=by simpa using h1
  rw[xC h1];by_cases h2:v=t
  ·have e2:(v==t)=true:=by simpa using h2
   rw[xE h2,ob];generalize ((a:Nat):Int)=A at*;generalize ((b:Nat):Int)=B at*;simp only[b8,xecs,xec,evT,ev,evs,frz,frz1,leaksT,leaks,leakss,rdR,rdV,Za,Zc,Py.sets,spread,Zf,Zh,Zi,Zj,Zk,Zl,Zq,xD,w6,gV,ZG,hi,Py.forM,a1,a2,e1,e2,w5,xJ,xQ];rfl
  ·have e2:(v==t)=false:=by simpa using h2
   rw[xC h2];generalize ((a:Nat):Int)=A at*;generalize ((b:Nat):Int)=B at*;simp only[b8,xecs,xec,evT,ev,evs,frz,frz1,leaksT,leaks,leakss,rdR,rdV,Za,Zc,Py.sets,spread,Zf,Zh,Zi,Zj,Zk,Zl,Zq,xD,w6,gV,ZG,hi,Py.forM,a1,a2,e1,e2,w5,xJ,xQ];rfl
noncomputable def foundD:Option (List Nat)->D
 |some [p,i,j,r,q,o]=>.tup [.tup [.int (p:Nat),.int (i:Nat)],.tup [.int (j:Nat),.int (r:Nat)],.tup [.int (q:Nat),.int (o:Nat)]]
 |_=>.non
theorem pP(h:endV r a b t=some e)(ha:a<4)(hb:b<4):e<4:=by
 unfold endV at h;split at h
 ·cases h;exact ha
 ·split at h
  ·cases h;exact hb
  ·cases h
theorem m4n(a b:Nat):op2 .mod (.int (((a:Nat):Int)+((b:Nat):Int))) (.int 4)=.ok (.int (((a+b)%4:Nat):Int)):=by
 rw[cD _ _ (by decide)]
 congr 2
theorem qZ(k:Nat)(hc:c.length=4)(hg:g.length=4)(hh:h.length=4)(hl:low<4):Phi prog (k+2) 22 [.lst [rowD c,rowD g,rowD h],.int (low:Nat),.int (step:Nat)]=.ok (foundD (slideV c g h low step)):=by
 show(xecs (Phi prog (k+1)) prog.gls 1000 cZ [some (false,.lst [rowD c,rowD g,rowD h]),some (false,.int (low:Nat)),some (false,.int (step:Nat)),none,none,none,none,none]).val=_;have l0:atD [rowD c,rowD g,rowD h] 0=some (rowD c):=rfl;have l1:atD [rowD c,rowD g,rowD h] 1=some (rowD g):=rfl;have l2:atD [rowD c,rowD g,rowD h] 2=some (rowD h):=rfl;have s1:=m4n low step;have v1:=eJ hc (e:=(low+step)%4) (Nat.mod_lt _ (by decide));have vl:=eJ hc hl;have x1:=p_end k (a:=1) (b:=3) (t:=c.getD ((low+step)%4) 0) hg (by decide) (by decide);have sv:slideV c g h low step=match endV g 1 3 (c.getD ((low+step)%4) 0) with
  |none=>none
  |some j=>match endV h 0 2 (g.getD ((j+step)%4) 0) with
   |none=>none
   |some q=>if h.getD ((q+step)%4) 0=c.getD low 0 then some [low,(low+step)%4,j,(j+step)%4,q,(q+step)%4] else none:=rfl
 rw[sv];unfold cZ;generalize c.getD ((low+step)%4) 0=t1 at*;generalize c.getD low 0=t0 at*;generalize rowD c=C at*
 cases e1:endV g 1 3 t1 with
 |none=>
  rw[e1] at x1;have x1':Phi prog (k+1) 23 [rowD g,.tup [.int 1,.int 3],.int t1]=.ok .non:=x1;generalize (((low+step)%4:Nat):Int)=I at*;generalize ((low:Nat):Int)=P at*;generalize ((step:Nat):Int)=S at*;generalize rowD g=GG at*;generalize rowD h=HH at*;simp only[xecs,xec,evT,ev,evs,frz,frz1,leaksT,leaks,leakss,rdR,rdV,Zc,isOwn,frsh,Ze,Zf,Zi,Zj,Zk,Zl,Zo,Zp,Zq,xD,w6,gV,Zu,ZA,ZI,s1,l0,l1,v1,x1'];rfl
 |some j=>
  rw[e1] at x1;have x1':Phi prog (k+1) 23 [rowD g,.tup [.int 1,.int 3],.int t1]=.ok (.int (j:Nat)):=x1;have hj:=pP e1 (by decide) (by decide);have s2:=m4n j step;have v2:=eJ hg (e:=(j+step)%4) (Nat.mod_lt _ (by decide));have x2:=p_end k (a:=0) (b:=2) (t:=g.getD ((j+step)%4) 0) hh (by decide) (by decide);dsimp only;generalize g.getD ((j+step)%4) 0=t2 at*;generalize rowD g=GG at*;have nn:∀x:Int,op1 .isNone (.int x)=.ok (.bl false):=λ_=>rfl
  cases e2:endV h 0 2 t2 with
  |none=>
   rw[e2] at x2;have x2':Phi prog (k+1) 23 [rowD h,.tup [.int 0,.int 2],.int t2]=.ok .non:=x2;generalize (((low+step)%4:Nat):Int)=I at*;generalize (((j+step)%4:Nat):Int)=RR at*;generalize ((j:Nat):Int)=J at*;generalize ((low:Nat):Int)=P at*;generalize ((step:Nat):Int)=S at*;generalize rowD h=HH at*;simp only[xecs,xec,evT,ev,evs,frz,frz1,leaksT,leaks,leakss,rdR,rdV,Za,Zc,isOwn,frsh,Ze,Zf,Zi,Zj,Zk,Zl,Zo,Zp,Zq,xD,w6,gV,Zu,ZA,ZI,s1,s2,l0,l1,l2,v1,v2,x1',x2',nn];rfl
  |some q=>
   rw[e2] at x2;have x2':Phi prog (k+1) 23 [rowD h,.tup [.int 0,.int 2],.int t2]=.ok (.int (q:Nat)):=x2;have s3:=m4n q step;have v3:=eJ hh (e:=(q+step)%4) (Nat.mod_lt _ (by decide));dsimp only;generalize h.getD ((q+step)%4) 0=t3 at*;have fd:foundD (some [low,(low+step)%4,j,(j+step)%4,q,(q+step)%4])=.tup [.tup [.int (low:Nat),.int ((low+step)%4:Nat)],.tup [.int (j:Nat),.int ((j+step)%4:Nat)],.tup [.int (q:Nat),.int ((q+step)%4:Nat)]]:=rfl;by_cases h3:t3=t0
   ·have q3:(t3==t0)=true:=by simpa using h3
    rw[xE h3,fd];generalize (((low+step)%4:Nat):Int)=I at*;generalize (((j+step)%4:Nat):Int)=RR at*;generalize (((q+step)%4:Nat):Int)=O at*;generalize ((j:Nat):Int)=J at*;generalize ((q:Nat):Int)=QQ at*;generalize ((low:Nat):Int)=P at*;generalize ((step:Nat):Int)=S at*;generalize rowD h=HH at*;simp only[xecs,xec,evT,ev,evs,frz,frz1,leaksT,leaks,leakss,rdR,rdV,Za,Zc,isOwn,frsh,Ze,Zf,Zi,Zj,Zk,Zl,Zo,Zp,Zq,xD,w6,gV,Zu,Zv,ZA,ZH,ZI,s1,s2,s3,l0,l1,l2,v1,v2,v3,vl,x1',x2',nn,q3];rfl
   ·have q3:(t3==t0)=false:=by simpa using h3
    rw[xC h3];generalize (((low+step)%4:Nat):Int)=I at*;generalize (((j+step)%4:Nat):Int)=RR at*;generalize (((q+step)%4:Nat):Int)=O at*;generalize ((j:Nat):Int)=J at*;generalize ((q:Nat):Int)=QQ at*;generalize ((low:Nat):Int)=P at*;generalize ((step:Nat):Int)=S at*;generalize rowD h=HH at*;simp only[xecs,xec,evT,ev,evs,frz,leaksT,leaks,leakss,rdR,rdV,Za,Zc,isOwn,frsh,Ze,Zf,Zi,Zj,Zk,Zl,Zq,xD,w6,gV,Zu,Zw,ZA,ZH,ZI,s1,s2,s3,l0,l1,l2,v1,v2,v3,vl,x1',x2',nn,q3];rfl
theorem pQ(k:Nat)(h4:∀r∈Q,r.length=4)(hp:okP Q.length p):Phi prog (k+1) 8 [.tup (Q.map rowD),pairD p]=.ok (.int (lineV Q p)):=by
 show(xecs (Phi prog k) prog.gls 1000 gC [some (false,.tup (Q.map rowD)),some (false,pairD p)]).val=_;have a0:op2 .at (pairD p) (.int 0)=.ok (.int (p.1:Nat)):=rfl;have a1:op2 .at (pairD p) (.int 1)=.ok (.int (p.2:Nat)):=rfl;have h1:=fU hp.1;have hr:(Q.getD p.1 []).length=4:=by
  have hl:p.1<Q.length:=hp.1;have hq:Q.getD p.1 []=Q[p.1]:=by simp[hl]
  rw[hq];exact h4 _ (xV hl)
 have h2:=eJ hr hp.2;unfold lineV;generalize (Q.getD p.1 []).getD p.2 0=t at*;generalize rowD (Q.getD p.1 [])=RR at*;generalize pairD p=PP at*;generalize Q.map rowD=QQ at*;simp only[gC,xecs,xec,ev,frz,leaks,rdR,rdV,Zc,Ze,Zf,Zk,Zl,Zq,xD,ZJ,a0,a1,h1,h2];rfl
theorem p_opp(k:Nat)(p:Nat×Nat):Phi prog (k+1) 9 [pairD p]=.ok (pairD (oppV p)):=by
 show(xecs (Phi prog k) prog.gls 1000 eF [some (false,pairD p)]).val=_;have a0:op2 .at (pairD p) (.int 0)=.ok (.int (p.1:Nat)):=rfl;have a1:op2 .at (pairD p) (.int 1)=.ok (.int (p.2:Nat)):=rfl;have m4:op2 .mod (.int (((p.2:Nat):Int)+2)) (.int 4)=.ok (.int (((p.2+2)%4:Nat):Int)):=m4n p.2 2;have e:pairD (oppV p)=.tup [.int (p.1:Nat),.int ((p.2+2)%4:Nat)]:=rfl;rw[e];generalize (((p.2+2)%4:Nat):Int)=B at*;generalize ((p.1:Nat):Int)=A at*;generalize ((p.2:Nat):Int)=C at*;generalize pairD p=PP at*;simp only[eF,xecs,xec,ev,evs,frz,leaks,leakss,rdR,rdV,Zc,Zf,Zk,Zq,xD,ZA,a0,a1,m4];rfl
theorem bU(Q L:List (List Int))(a b:Nat×Nat):(pass1 Q L a b).length=L.length:=by simp[pass1,aF]
theorem bL(h:∀r∈L,r.length=4):∀r∈pass1 Q L a b,r.length=4:=aC (aC (aC (aC h)))
theorem gF(k:Nat)(h4:∀r∈Q,r.length=4)(hL4:∀r∈L,r.length=4)(hL:L.length=Q.length)(ha:okP Q.length a)(hb:okP Q.length b):
  loopF (Phi prog (k+1)) prog.gls 1000 [5,6] [(.asg 7 (.call 8 [(.var 0),(.var 5)])),(.asg 4 (.call 25 [(.var 4),(.var 5),(.call 8 [(.var 0),(.call 9 [(.var 6)])])])),(.asg 4 (.call 25 [(.var 4),(.var 6),(.call 8 [(.var 0),(.call 9 [(.var 5)])])])),(.asg 4 (.call 25 [(.var 4),(.call 9 [(.var 5)]),(.var 7)])),(.asg 4 (.call 25 [(.var 4),(.call 9 [(.var 6)]),(.var 7)]))] (.tup [pairD a,pairD b]) [some (false,.tup (Q.map rowD)),d1,d2,d3,some (b4,.lst (L.map rowD)),c5,c6,c7]=
   .nx [some (false,.tup (Q.map rowD)),d1,d2,d3,some (false,.lst ((pass1 Q L a b).map rowD)),some (false,pairD a),some (false,pairD b),some (false,.int (lineV Q a))]:=by
 have oa:=vS ha;have ob:=vS hb;have q1:=pQ k h4 ha;have q2:=pQ k h4 oa;have q3:=pQ k h4 ob;have o1:=p_opp k a;have o2:=p_opp k b;have r1:=bK k (v:=lineV Q (oppV b)) (fQ (L.map rowD)) hL4 (p:=a) (by rw[hL];exact ha);have r2:=bK k (v:=lineV Q (oppV a)) (fQ ((setP L a (lineV Q (oppV b))).map rowD)) (aC hL4) (p:=b) (by rw[aF,hL];exact hb);have r3:=bK k (v:=lineV Q a) (fQ ((setP (setP L a (lineV Q (oppV b))) b (lineV Q (oppV a))).map rowD)) (aC (aC hL4)) (p:=oppV a) (by rw[aF,aF,hL];exact oa);have r4:=bK k (v:=lineV Q a) (fQ ((setP (setP (setP L a (lineV Q (oppV b))) b (lineV Q (oppV a))) (oppV a) (lineV Q a)).map rowD)) (aC (aC (aC hL4))) (p:=oppV b) (by rw[aF,aF,aF,hL];exact ob);unfold pass1;generalize (setP (setP (setP (setP L a (lineV Q (oppV b))) b (lineV Q (oppV a))) (oppV a) (lineV Q a)) (oppV b) (lineV Q a)).map rowD=L4 at*;generalize (setP (setP (setP L a (lineV Q (oppV b))) b (lineV Q (oppV a))) (oppV a) (lineV Q a)).map rowD=L3 at*;generalize (setP (setP L a (lineV Q (oppV b))) b (lineV Q (oppV a))).map rowD=L2 at*;generalize (setP L a (lineV Q (oppV b))).map rowD=L1 at*;generalize L.map rowD=L0 at*;generalize lineV Q (oppV b)=tb at*;generalize lineV Q (oppV a)=ta at*;generalize lineV Q a=t at*;generalize pairD (oppV a)=OA at*;generalize pairD (oppV b)=OB at*;generalize pairD a=PA at*;generalize pairD b=PB at*;generalize Q.map rowD=QQ at*;cases b4<;>simp only[loopF,xecs,xec,ev,evs,frz,frz1,leaks,leakss,rdR,rdV,Zc,Py.sets,spread,isOwn,frsh,Zf,Zi,Zj,Zk,Zl,Zo,Zp,Zq,xD,w6,gV,Zu,q1,q2,q3,o1,o2,r1,r2,r3,r4,w5,xJ,xQ]
theorem wW(k:Nat)(h4:∀r∈Q,r.length=4)(hx:x<Q.length)(hy:y<Q.length)(hz:z<Q.length)(hp:p<4)(hi:i<4)(hj:j<4)(hr:r<4)(hq:q<4)(ho:o<4):
  Phi prog (k+2) 24 [.tup (Q.map rowD),.tup [.int (x:Nat),.int (y:Nat),.int (z:Nat)],.tup [.tup [.int (p:Nat),.int (i:Nat)],.tup [.int (j:Nat),.int (r:Nat)],.tup [.int (q:Nat),.int (o:Nat)]]]=.ok (.lst ((passV Q x y z p i j r q o).map rowD)):=by
 show(xecs (Phi prog (k+1)) prog.gls 1000 jL [some (false,.tup (Q.map rowD)),some (false,.tup [.int (x:Nat),.int (y:Nat),.int (z:Nat)]),some (false,.tup [.tup [.int (p:Nat),.int (i:Nat)],.tup [.int (j:Nat),.int (r:Nat)],.tup [.int (q:Nat),.int (o:Nat)]]),none,none,none,none,none]).val=_;have n3:∀a b c:D,atD [a,b,c] 0=some a/\atD [a,b,c] 1=some b/\atD [a,b,c] 2=some c:=λa b c=>⟨rfl,rfl,rfl⟩
 have t1:=λc5 c6 c7 d1 d2 d3 b4=>gF k (Q:=Q) (L:=Q) (a:=(x,i)) (b:=(y,j)) (d1:=d1) (d2:=d2) (d3:=d3) (b4:=b4) (c5:=c5) (c6:=c6) (c7:=c7) h4 h4 rfl ⟨hx,hi⟩ ⟨hy,hj⟩;have t2:=λc5 c6 c7 d1 d2 d3 b4=>gF k (Q:=Q) (L:=pass1 Q Q (x,i) (y,j)) (a:=(x,p)) (b:=(z,o)) (d1:=d1) (d2:=d2) (d3:=d3) (b4:=b4) (c5:=c5) (c6:=c6) (c7:=c7) h4 (bL h4) (bU _ _ _ _) ⟨hx,hp⟩ ⟨hz,ho⟩;have t3:=λc5 c6 c7 d1 d2 d3 b4=>gF k (Q:=Q) (L:=pass1 Q (pass1 Q Q (x,i) (y,j)) (x,p) (z,o)) (a:=(y,r)) (b:=(z,q)) (d1:=d1) (d2:=d2) (d3:=d3) (b4:=b4) (c5:=c5) (c6:=c6) (c7:=c7) h4 (bL (bL h4)) (by rw[bU,bU]) ⟨hy,hr⟩ ⟨hz,hq⟩;have i3:itemsD .seq [.tup [.tup [pairD (x,i),pairD (y,j)],.tup [pairD (x,p),pairD (z,o)],.tup [pairD (y,r),pairD (z,q)]]]=.ok [.tup [pairD (x,i),pairD (y,j)],.tup [pairD (x,p),pairD (z,o)],.tup [pairD (y,r),pairD (z,q)]]:=aM (by simp);have e1:xec (Phi prog (k+1)) prog.gls 1000 (.asg 3 (.tup [(.tup [(.tup [(.op2 .at (.var 1) (.cst (.int 0))),(.op2 .at (.op2 .at (.var 2) (.cst (.int 0))) (.cst (.int 1)))]),(.tup [(.op2 .at (.var 1) (.cst (.int 1))),(.op2 .at (.op2 .at (.var 2) (.cst (.int 1))) (.cst (.int 0)))])]),(.tup [(.tup [(.op2 .at (.var 1) (.cst (.int 0))),(.op2 .at (.op2 .at (.var 2) (.cst (.int 0))) (.cst (.int 0)))]),(.tup [(.op2 .at (.var 1) (.cst (.int 2))),(.op2 .at (.op2 .at (.var 2) (.cst (.int 2))) (.cst (.int 1)))])]),(.tup [(.tup [(.op2 .at (.var 1) (.cst (.int 1))),(.op2 .at (.op2 .at (.var 2) (.cst (.int 1))) (.cst (.int 1)))]),(.tup [(.op2 .at (.var 1) (.cst (.int 2))),(.op2 .at (.op2 .at (.var 2) (.cst (.int 2))) (.cst (.int 0)))])])])) [some (false,.tup (Q.map rowD)),some (false,.tup [.int (x:Nat),.int (y:Nat),.int (z:Nat)]),some (false,.tup [.tup [.int (p:Nat),.int (i:Nat)],.tup [.int (j:Nat),.int (r:Nat)],.tup [.int (q:Nat),.int (o:Nat)]]),none,none,none,none,none]=
   .nx [some (false,.tup (Q.map rowD)),some (false,.tup [.int (x:Nat),.int (y:Nat),.int (z:Nat)]),some (false,.tup [.tup [.int (p:Nat),.int (i:Nat)],.tup [.int (j:Nat),.int (r:Nat)],.tup [.int (q:Nat),.int (o:Nat)]]),some (false,.tup [.tup [pairD (x,i),pairD (y,j)],.tup [pairD (x,p),pairD (z,o)],.tup [pairD (y,r),pairD (z,q)]]),none,none,none,none]:=by
  simp only[pairD];generalize ((x:Nat):Int)=X at*;generalize ((y:Nat):Int)=Y at*;generalize ((z:Nat):Int)=Z at*;generalize ((p:Nat):Int)=P at*;generalize ((i:Nat):Int)=I at*;generalize ((j:Nat):Int)=J at*;generalize ((r:Nat):Int)=RR at*;generalize ((q:Nat):Int)=QQ at*;generalize ((o:Nat):Int)=O at*;generalize Q.map rowD=W at*;simp only[xec,ev,evs,frz,leaks,leakss,rdR,rdV,Zc,isOwn,frsh,Ze,Zf,Zi,Zj,Zk,Zl,Zq,xD,Zu,ZJ,n3,nA,kE]
 generalize D.tup [.int (x:Nat),.int (y:Nat),.int (z:Nat)]=D1 at*;generalize D.tup [.tup [.int (p:Nat),.int (i:Nat)],.tup [.int (j:Nat),.int (r:Nat)],.tup [.int (q:Nat),.int (o:Nat)]]=D2 at*;unfold passV;generalize pass1 Q (pass1 Q (pass1 Q Q (x,i) (y,j)) (x,p) (z,o)) (y,r) (z,q)=W3 at*;generalize pass1 Q (pass1 Q Q (x,i) (y,j)) (x,p) (z,o)=W2 at*;generalize pass1 Q Q (x,i) (y,j)=W1 at*;have e2:xec (Phi prog (k+1)) prog.gls 1000 (.asg 4 (.op1 .list (.var 0))) [some (false,.tup (Q.map rowD)),some (false,D1),some (false,D2),some (false,.tup [.tup [pairD (x,i),pairD (y,j)],.tup [pairD (x,p),pairD (z,o)],.tup [pairD (y,r),pairD (z,q)]]),none,none,none,none]=.nx [some (false,.tup (Q.map rowD)),some (false,D1),some (false,D2),some (false,.tup [.tup [pairD (x,i),pairD (y,j)],.tup [pairD (x,p),pairD (z,o)],.tup [pairD (y,r),pairD (z,q)]]),some (true,.lst (Q.map rowD)),none,none,none]:=by
  simp only[xec,ev,frz,leaks,rdR,rdV,Zc,isOwn,frsh,Zf,Zi,Zj,Zk,xD,Zt,ZS]
 have e3:=bY (Φ:=Phi prog (k+1)) (G:=prog.gls) (n:=1000) (k:=.seq) (its:=[(.var 3)]) (tg:=[5,6]) (body:=[(.asg 7 (.call 8 [(.var 0),(.var 5)])),(.asg 4 (.call 25 [(.var 4),(.var 5),(.call 8 [(.var 0),(.call 9 [(.var 6)])])])),(.asg 4 (.call 25 [(.var 4),(.var 6),(.call 8 [(.var 0),(.call 9 [(.var 5)])])])),(.asg 4 (.call 25 [(.var 4),(.call 9 [(.var 5)]),(.var 7)])),(.asg 4 (.call 25 [(.var 4),(.call 9 [(.var 6)]),(.var 7)]))]) (δ:=[some (false,.tup (Q.map rowD)),some (false,D1),some (false,D2),some (false,.tup [.tup [pairD (x,i),pairD (y,j)],.tup [pairD (x,p),pairD (z,o)],.tup [pairD (y,r),pairD (z,q)]]),some (true,.lst (Q.map rowD)),none,none,none]) (by simp only[ev,evs,frz,frz1,leaks,leakss,rdR,rdV,Zf,Zk,Zl,Zq,w6,gV];exact i3);have fz:frz (leakss false [(.var 3)]) [some (false,.tup (Q.map rowD)),some (false,D1),some (false,D2),some (false,.tup [.tup [pairD (x,i),pairD (y,j)],.tup [pairD (x,p),pairD (z,o)],.tup [pairD (y,r),pairD (z,q)]]),some (true,.lst (Q.map rowD)),none,none,none]=[some (false,.tup (Q.map rowD)),some (false,D1),some (false,D2),some (false,.tup [.tup [pairD (x,i),pairD (y,j)],.tup [pairD (x,p),pairD (z,o)],.tup [pairD (y,r),pairD (z,q)]]),some (true,.lst (Q.map rowD)),none,none,none]:=rfl;rw[fz,Py.forM,t1] at e3;dsimp only at e3;rw[Py.forM,t2] at e3;dsimp only at e3;rw[Py.forM,t3] at e3;dsimp only at e3;rw[Py.forM] at e3;unfold jL;rw[aA e1,aA e2,aA e3];simp only[xecs,xec,ev,frz,frz1,leaks,rdR,rdV,Zc,Zk,Zl,w6,gV];rfl
noncomputable def six(f:List Nat):Prop:=∃p i j r q o,f=[p,i,j,r,q,o]/\p<4/\i<4/\j<4/\r<4/\q<4/\o<4
theorem tL(hl:low<4)(e:slideV c g h low step=some f):six f:=by
 unfold slideV at e
 cases e1:endV g 1 3 (c.getD ((low+step)%4) 0) with
 |none=>rw[e1] at e;cases e
 |some j=>
  rw[e1] at e;dsimp only at e
  cases e2:endV h 0 2 (g.getD ((j+step)%4) 0) with
  |none=>rw[e2] at e;cases e
  |some q=>
   rw[e2] at e;dsimp only at e;split at e
   ·cases e
    exact⟨_,_,_,_,_,_,rfl,hl,Nat.mod_lt _ (by decide),pP e1 (by decide) (by decide),Nat.mod_lt _ (by decide),pP e2 (by decide) (by decide),Nat.mod_lt _ (by decide)⟩
   ·cases e
noncomputable abbrev SB:List Sm:=[(.asg 7 (.call 22 [(.var 4),(.var 6),(.var 5)])),(.ite (.leaf (.op1 .isNotNone (.var 7))) [(.ret (.call 10 [(.call 24 [(.op2 .at (.var 0) (.cst (.int 0))),(.tup [(.var 1),(.var 2),(.var 3)]),(.var 7)]),(.op2 .at (.var 0) (.cst (.int 1)))]))] [])]
theorem kX(k:Nat)(hc:c.length=4)(hg:gg.length=4)(hh:h.length=4)(hl:low<4)(e:slideV c gg h low step=none):
  loopF (Phi prog (k+2)) prog.gls 1000 [6] SB (.int (low:Nat)) [some (false,shD Q g),some (false,.int (x:Nat)),some (false,.int (y:Nat)),some (false,.int (z:Nat)),some (b4,.lst [rowD c,rowD gg,rowD h]),some (false,.int (step:Nat)),c6,c7]=.nx [some (false,shD Q g),some (false,.int (x:Nat)),some (false,.int (y:Nat)),some (false,.int (z:Nat)),some (false,.lst [rowD c,rowD gg,rowD h]),some (false,.int (step:Nat)),some (false,.int (low:Nat)),some (false,.non)]:=by
 have q:=qZ k (low:=low) (step:=step) hc hg hh hl;rw[e] at q;have q':Phi prog (k+2) 22 [.lst [rowD c,rowD gg,rowD h],.int (low:Nat),.int (step:Nat)]=.ok .non:=q;have nn:op1 .isNotNone .non=.ok (.bl false):=rfl;generalize [rowD c,rowD gg,rowD h]=RR at*;generalize shD Q g=S at*;generalize ((low:Nat):Int)=LL at*;generalize ((step:Nat):Int)=TT at*;generalize ((x:Nat):Int)=X at*;generalize ((y:Nat):Int)=Y at*;generalize ((z:Nat):Int)=Z at*;cases b4<;>simp only[loopF,SB,xecs,xec,evT,ev,evs,frz,frz1,leaksT,leaks,leakss,rdR,rdV,Za,Zc,Py.sets,spread,isOwn,frsh,Zf,Zi,Zj,Zk,Zl,Zo,Zp,Zq,xD,w6,gV,Zu,q',nn,w5,xJ,xQ]
theorem kY(k:Nat)(h4:∀r∈Q,r.length=4)(hQ:Q.length<=50)(hx:x<Q.length)(hy:y<Q.length)(hz:z<Q.length)(hc:c.length=4)(hg:gg.length=4)(hh:h.length=4)(hl:low<4)(e:slideV c gg h low step=some f):
  loopF (Phi prog (k+2)) prog.gls 1000 [6] SB (.int (low:Nat)) [some (false,shD Q g),some (false,.int (x:Nat)),some (false,.int (y:Nat)),some (false,.int (z:Nat)),some (b4,.lst [rowD c,rowD gg,rowD h]),some (false,.int (step:Nat)),c6,c7]=.rt (shD (numV (passF Q x y z f)) g):=by
 have q:=qZ k (low:=low) (step:=step) hc hg hh hl;obtain⟨p,i,j,r,qq,o,rfl,l1,l2,l3,l4,l5,l6⟩:=tL hl e;rw[e] at q;have q':Phi prog (k+2) 22 [.lst [rowD c,rowD gg,rowD h],.int (low:Nat),.int (step:Nat)]=.ok (.tup [.tup [.int (p:Nat),.int (i:Nat)],.tup [.int (j:Nat),.int (r:Nat)],.tup [.int (qq:Nat),.int (o:Nat)]]):=q;have ps:=wW k (Q:=Q) h4 hx hy hz l1 l2 l3 l4 l5 l6;have f4:∀w∈passV Q x y z p i j r qq o,w.length=4:=bL (bL (bL h4));have fl:(passV Q x y z p i j r qq o).length=Q.length:=by rw[passV,bU,bU,bU]
 have hn:=qW (k+1) (g:=g) f4 (by rw[fl];exact hQ);have nn:op1 .isNotNone (.tup [.tup [.int (p:Nat),.int (i:Nat)],.tup [.int (j:Nat),.int (r:Nat)],.tup [.int (qq:Nat),.int (o:Nat)]])=.ok (.bl true):=rfl;show _=Out.rt (shD (numV (passV Q x y z p i j r qq o)) g);have a0:op2 .at (shD Q g) (.int 0)=.ok (.tup (Q.map rowD)):=rfl;have a1:op2 .at (shD Q g) (.int 1)=.ok (.int g):=rfl;generalize shD (numV (passV Q x y z p i j r qq o)) g=RES at*;generalize (passV Q x y z p i j r qq o).map rowD=PV at*;generalize D.tup [.tup [.int (p:Nat),.int (i:Nat)],.tup [.int (j:Nat),.int (r:Nat)],.tup [.int (qq:Nat),.int (o:Nat)]]=FF at*;generalize [rowD c,rowD gg,rowD h]=RR at*;generalize shD Q g=S at*;generalize ((low:Nat):Int)=LL at*;generalize ((step:Nat):Int)=TT at*;generalize ((x:Nat):Int)=X at*;generalize ((y:Nat):Int)=Y at*;generalize ((z:Nat):Int)=Z at*;cases b4<;>simp only[loopF,SB,xecs,xec,evT,ev,evs,frz,frz1,leaksT,leaks,leakss,rdR,rdV,Za,Zc,Py.sets,spread,isOwn,frsh,Zf,Zi,Zj,Zk,Zl,Zo,Zp,Zq,xD,w6,gV,Zu,q',nn,a0,a1,ps,hn,w5,xJ,xQ]
theorem n8(k:Nat){Q:List (List Int)}{g:Int}{c gg h:List Int}{step x y z:Nat}{b4:Bool}{c6 c7:Slot}(h4:∀r∈Q,r.length=4)(hQ:Q.length<=50)(hx:x<Q.length)(hy:y<Q.length)(hz:z<Q.length)(hc:c.length=4)(hg:gg.length=4)(hh:h.length=4):
  xec (Phi prog (k+2)) prog.gls 1000 (.loop .seq [(.tup [(.cst (.int 0)),(.cst (.int 2))])] [6] SB) [some (false,shD Q g),some (false,.int (x:Nat)),some (false,.int (y:Nat)),some (false,.int (z:Nat)),some (b4,.lst [rowD c,rowD gg,rowD h]),some (false,.int (step:Nat)),c6,c7]=match firstS [slideV c gg h 0 step,slideV c gg h 2 step] with
   |some f=>.rt (shD (numV (passF Q x y z f)) g)
   |none=>.nx [some (false,shD Q g),some (false,.int (x:Nat)),some (false,.int (y:Nat)),some (false,.int (z:Nat)),some (false,.lst [rowD c,rowD gg,rowD h]),some (false,.int (step:Nat)),some (false,.int 2),some (false,.non)]:=by
 have el:=bY (Φ:=Phi prog (k+2)) (G:=prog.gls) (n:=1000) (k:=.seq) (its:=[(.tup [(.cst (.int 0)),(.cst (.int 2))])]) (tg:=[6]) (body:=SB) (δ:=[some (false,shD Q g),some (false,.int (x:Nat)),some (false,.int (y:Nat)),some (false,.int (z:Nat)),some (b4,.lst [rowD c,rowD gg,rowD h]),some (false,.int (step:Nat)),c6,c7]) (xs:=[.int ((0:Nat):Int),.int ((2:Nat):Int)]) rfl;have fz:frz (leakss false [(.tup [(.cst (.int 0)),(.cst (.int 2))])]) [some (false,shD Q g),some (false,.int (x:Nat)),some (false,.int (y:Nat)),some (false,.int (z:Nat)),some (b4,.lst [rowD c,rowD gg,rowD h]),some (false,.int (step:Nat)),c6,c7]=[some (false,shD Q g),some (false,.int (x:Nat)),some (false,.int (y:Nat)),some (false,.int (z:Nat)),some (b4,.lst [rowD c,rowD gg,rowD h]),some (false,.int (step:Nat)),c6,c7]:=rfl;rw[el,fz,Py.forM]
 cases e1:slideV c gg h 0 step with
 |some f=>
  rw[kY k h4 hQ hx hy hz hc hg hh (by decide) e1];rfl
 |none=>
  rw[kX k hc hg hh (by decide) e1];dsimp only;rw[Py.forM]
  cases e2:slideV c gg h 2 step with
  |some f=>
   rw[kY k h4 hQ hx hy hz hc hg hh (by decide) e2];rfl
  |none=>
   rw[kX k hc hg hh (by decide) e2];dsimp only;rw[Py.forM];rfl
noncomputable abbrev outR(Q:List (List Int))(x:Int):Prop:=x<0\/(Q.length:Int)<=x
theorem wX(k:Nat):ev (Phi prog (k+1)) prog.gls false (.mapx (.tup [(.var 1),(.var 2),(.var 3)]) [0] 6 [(.var 1),(.var 0)]) [some (false,shD Q g),some (false,.int x),some (false,.int y),some (false,.int z),none,none,none,none]=
  (Phi prog (k+1) 6 [shD Q g,.int x]).bind λa=>(Phi prog (k+1) 6 [shD Q g,.int y]).bind λb=>(Phi prog (k+1) 6 [shD Q g,.int z]).bind λc=>.ok (.lst [a,b,c]):=by
 have hi:itemsD .seq [.tup [.int x,.int y,.int z]]=.ok [.int x,.int y,.int z]:=aM (by simp);generalize shD Q g=S;simp only[ev,evs,rdR,rdV,capOf,Zf,Zk,Zl,Zm,Zn,w6,gV,Zx,hi,compM]
 cases Phi prog (k+1) 6 [S,.int x] with
 |exc c=>rfl
 |bad=>rfl
 |ok a=>
  simp only[bX]
  cases Phi prog (k+1) 6 [S,.int y] with
  |exc c=>rfl
  |bad=>rfl
  |ok b=>
   simp only[bX]
   cases Phi prog (k+1) 6 [S,.int z] with
   |exc c=>rfl
   |bad=>rfl
   |ok c=>rfl
noncomputable def answV(Q:List (List Int))(g:Int)(x y z:Nat):Option (List Nat)->R D
 |some f=>.ok (shD (numV (passF Q x y z f)) g)
 |none=>.exc 2
theorem p_slid(k:Nat)(h4:∀r∈Q,r.length=4)(hQ:Q.length<=50):
  Phi prog (k+3) 21 [shD Q g,.int x,.int y,.int z]=if outR Q x\/outR Q y\/outR Q z then .exc 1 else if x=y\/x=z\/y=z then .exc 2 else answV Q g x.toNat y.toNat z.toNat (slidesV (Q.getD x.toNat []) (Q.getD y.toNat []) (Q.getD z.toNat [])):=by
 show(xecs (Phi prog (k+2)) prog.gls 1000 pE [some (false,shD Q g),some (false,.int x),some (false,.int y),some (false,.int z),none,none,none,none]).val=_;have ex:=p_at (k+1) (Q:=Q) (g:=g) (x:=x);have ey:=p_at (k+1) (Q:=Q) (g:=g) (x:=y);have ez:=p_at (k+1) (Q:=Q) (g:=g) (x:=z);have tr:=wX (k+1) (Q:=Q) (g:=g) (x:=x) (y:=y) (z:=z);have fz:frz (leaks false (.mapx (.tup [(.var 1),(.var 2),(.var 3)]) [0] 6 [(.var 1),(.var 0)])) [some (false,shD Q g),some (false,.int x),some (false,.int y),some (false,.int z),none,none,none,none]=[some (false,shD Q g),some (false,.int x),some (false,.int y),some (false,.int z),none,none,none,none]:=rfl;have st:xec (Phi prog (k+2)) prog.gls 1000 (.asg 4 (.mapx (.tup [(.var 1),(.var 2),(.var 3)]) [0] 6 [(.var 1),(.var 0)])) [some (false,shD Q g),some (false,.int x),some (false,.int y),some (false,.int z),none,none,none,none]=Out.of ((Phi prog (k+2) 6 [shD Q g,.int x]).bind λa=>(Phi prog (k+2) 6 [shD Q g,.int y]).bind λb=>(Phi prog (k+2) 6 [shD Q g,.int z]).bind λc=>.ok (.lst [a,b,c])) [some (false,shD Q g),some (false,.int x),some (false,.int y),some (false,.int z),none,none,none,none] λd=>.nx [some (false,shD Q g),some (false,.int x),some (false,.int y),some (false,.int z),some (true&&isOwn d,d),none,none,none]:=by
  rw[xec,fz,tr];rfl
 unfold pE;by_cases hx:outR Q x
 ·rw[xE (.inl hx)]
  rw[xE hx] at ex;rw[ex,R.bind_exc] at st;rw[g9 st];rfl
 rw[xC hx] at ex;by_cases hy:outR Q y
 ·rw[xE (.inr (.inl hy))]
  rw[xE hy] at ey;rw[ex,ey,R.bind_ok,R.bind_exc] at st;rw[g9 st];rfl
 rw[xC hy] at ey;by_cases hz:outR Q z
 ·rw[xE (.inr (.inr hz))]
  rw[xE hz] at ez;rw[ex,ey,ez,R.bind_ok,R.bind_ok,R.bind_exc] at st;rw[g9 st];rfl
 rw[xC hz] at ez;rw[xC (λw=>w.elim hx λw=>w.elim hy hz)];rw[ex,ey,ez,R.bind_ok,R.bind_ok,R.bind_ok,of_ok] at st;have fc:=cN h4 hx;have fg:=cN h4 hy;have fh:=cN h4 hz;have st':xec (Phi prog (k+2)) prog.gls 1000 (.asg 4 (.mapx (.tup [(.var 1),(.var 2),(.var 3)]) [0] 6 [(.var 1),(.var 0)])) [some (false,shD Q g),some (false,.int x),some (false,.int y),some (false,.int z),none,none,none,none]=.nx [some (false,shD Q g),some (false,.int x),some (false,.int y),some (false,.int z),some (true,.lst [rowD (Q.getD x.toNat []),rowD (Q.getD y.toNat []),rowD (Q.getD z.toNat [])]),none,none,none]:=st;rw[aA st'];generalize Q.getD x.toNat []=c at*;generalize Q.getD y.toNat []=gg at*;generalize Q.getD z.toNat []=h at*;by_cases hs:x=y\/x=z\/y=z
 ·rw[xE hs]
  have e2:xec (Phi prog (k+2)) prog.gls 1000 (.ite (.or (.leaf (.op2 .eq (.var 1) (.var 2))) (.or (.leaf (.op2 .eq (.var 1) (.var 3))) (.leaf (.op2 .eq (.var 2) (.var 3))))) [(.rai 2)] []) [some (false,shD Q g),some (false,.int x),some (false,.int y),some (false,.int z),some (true,.lst [rowD c,rowD gg,rowD h]),none,none,none]=.xc 2 [some (false,shD Q g),some (false,.int x),some (false,.int y),some (false,.int z),some (true,.lst [rowD c,rowD gg,rowD h]),none,none,none]:=by
   generalize [rowD c,rowD gg,rowD h]=RR;by_cases h1:x=y
   ·have q1:(x==y)=true:=by simpa using h1
    simp only[xecs,xec,evT,ev,frz,leaksT,leaks,rdR,rdV,Za,Zc,Zf,Zk,Zl,Zq,xD,ZG,q1]
   ·have q1:(x==y)=false:=by simpa using h1
    by_cases h2:x=z
    ·have q2:(x==z)=true:=by simpa using h2
     simp only[xecs,xec,evT,ev,frz,leaksT,leaks,rdR,rdV,Za,Zc,Zf,Zk,Zl,Zq,xD,w6,gV,ZG,q1,q2]
    ·have q2:(x==z)=false:=by simpa using h2
     have q3:(y==z)=true:=by simpa using(hs.resolve_left h1).resolve_left h2
     simp only[xecs,xec,evT,ev,frz,leaksT,leaks,rdR,rdV,Za,Zc,Zf,Zk,Zl,Zq,xD,w6,gV,ZG,q1,q2,q3]
  rw[g9 e2];rfl
 ·rw[xC hs]
  have q1:(x==y)=false:=by simpa using λe=>hs (.inl e)
  have q2:(x==z)=false:=by simpa using λe=>hs (.inr (.inl e))
  have q3:(y==z)=false:=by simpa using λe=>hs (.inr (.inr e))
  have e2:xec (Phi prog (k+2)) prog.gls 1000 (.ite (.or (.leaf (.op2 .eq (.var 1) (.var 2))) (.or (.leaf (.op2 .eq (.var 1) (.var 3))) (.leaf (.op2 .eq (.var 2) (.var 3))))) [(.rai 2)] []) [some (false,shD Q g),some (false,.int x),some (false,.int y),some (false,.int z),some (true,.lst [rowD c,rowD gg,rowD h]),none,none,none]=.nx [some (false,shD Q g),some (false,.int x),some (false,.int y),some (false,.int z),some (true,.lst [rowD c,rowD gg,rowD h]),none,none,none]:=by
   generalize [rowD c,rowD gg,rowD h]=RR;simp only[xecs,xec,evT,ev,frz,leaksT,leaks,rdR,rdV,Za,Zc,Zf,Zk,Zl,Zq,xD,w6,gV,ZG,q1,q2,q3]
  rw[aA e2];obtain⟨X,rfl⟩:∃X:Nat,x=(X:Nat):=⟨x.toNat,by omega⟩
  obtain⟨Y,rfl⟩:∃Y:Nat,y=(Y:Nat):=⟨y.toNat,by omega⟩
  obtain⟨Z,rfl⟩:∃Z:Nat,z=(Z:Nat):=⟨z.toNat,by omega⟩
  simp only[yE];have l1:=λb4 c6 c7=>n8 k (Q:=Q) (g:=g) (c:=c) (gg:=gg) (h:=h) (step:=1) (x:=X) (y:=Y) (z:=Z) (b4:=b4) (c6:=c6) (c7:=c7) h4 hQ (by omega) (by omega) (by omega) fc fg fh;have l3:=λb4 c6 c7=>n8 k (Q:=Q) (g:=g) (c:=c) (gg:=gg) (h:=h) (step:=3) (x:=X) (y:=Y) (z:=Z) (b4:=b4) (c6:=c6) (c7:=c7) h4 hQ (by omega) (by omega) (by omega) fc fg fh;have el:=bY (Φ:=Phi prog (k+2)) (G:=prog.gls) (n:=1000) (k:=.seq) (its:=[(.tup [(.cst (.int 1)),(.cst (.int 3))])]) (tg:=[5]) (body:=[(.loop .seq [(.tup [(.cst (.int 0)),(.cst (.int 2))])] [6] SB)]) (δ:=[some (false,shD Q g),some (false,.int (X:Nat)),some (false,.int (Y:Nat)),some (false,.int (Z:Nat)),some (true,.lst [rowD c,rowD gg,rowD h]),none,none,none]) (xs:=[.int ((1:Nat):Int),.int ((3:Nat):Int)]) rfl;have fz2:frz (leakss false [(.tup [(.cst (.int 1)),(.cst (.int 3))])]) [some (false,shD Q g),some (false,.int (X:Nat)),some (false,.int (Y:Nat)),some (false,.int (Z:Nat)),some (true,.lst [rowD c,rowD gg,rowD h]),none,none,none]=[some (false,shD Q g),some (false,.int (X:Nat)),some (false,.int (Y:Nat)),some (false,.int (Z:Nat)),some (true,.lst [rowD c,rowD gg,rowD h]),none,none,none]:=rfl;have b1:∀(t:Nat)(b4:Bool)(c5 c6 c7:Slot),loopF (Phi prog (k+2)) prog.gls 1000 [5] [(.loop .seq [(.tup [(.cst (.int 0)),(.cst (.int 2))])] [6] SB)] (.int (t:Nat)) [some (false,shD Q g),some (false,.int (X:Nat)),some (false,.int (Y:Nat)),some (false,.int (Z:Nat)),some (b4,.lst [rowD c,rowD gg,rowD h]),c5,c6,c7]=xecs (Phi prog (k+2)) prog.gls 1000 [(.loop .seq [(.tup [(.cst (.int 0)),(.cst (.int 2))])] [6] SB)] [some (false,shD Q g),some (false,.int (X:Nat)),some (false,.int (Y:Nat)),some (false,.int (Z:Nat)),some (b4,.lst [rowD c,rowD gg,rowD h]),some (false,.int (t:Nat)),c6,c7]:=λ_ _ _ _ _=>rfl;rw[fz2,Py.forM,b1] at el;unfold slidesV
  cases a1:slideV c gg h 0 1 with
  |some f=>
   rw[a1] at l1;rw[aH (l1 _ _ _)] at el;rw[aH el];rfl
  |none=>
   cases a2:slideV c gg h 2 1 with
   |some f=>
    rw[a1,a2] at l1;rw[aH (l1 _ _ _)] at el;rw[aH el];rfl
   |none=>
    rw[a1,a2] at l1;rw[aA (l1 _ _ _),xecs] at el;dsimp only at el;rw[Py.forM,b1] at el
    cases a3:slideV c gg h 0 3 with
    |some f=>
     rw[a3] at l3;rw[aH (l3 _ _ _)] at el;rw[aH el];rfl
    |none=>
     cases a4:slideV c gg h 2 3 with
     |some f=>
      rw[a3,a4] at l3;rw[aH (l3 _ _ _)] at el;rw[aH el];rfl
     |none=>
      rw[a3,a4] at l3;rw[aA (l3 _ _ _),xecs] at el;dsimp only at el;rw[Py.forM] at el;rw[aA el];rfl
noncomputable def cornV(c g h s p j q:Nat):List (Nat×Nat):=[(4*c+(p+s)%4,4*g+j),(4*g+(j+s)%4,4*h+q),(4*h+(q+s)%4,4*c+p)]
theorem bit2(x:Int):∃p:Nat,(p=0\/p=2)/\2*(x%2)=(p:Int):=by
 rcases Int.emod_two_eq x with h|h<;>rw[h]
 ·exact⟨0,.inl rfl,rfl⟩
 ·exact⟨2,.inr rfl,rfl⟩
theorem bit1(x:Int):∃p:Nat,(p=1\/p=3)/\1+2*(x%2)=(p:Int):=by
 rcases Int.emod_two_eq x with h|h<;>rw[h]
 ·exact⟨1,.inl rfl,rfl⟩
 ·exact⟨3,.inr rfl,rfl⟩
theorem tM(k:Nat)(c g h:Nat)(w:Int):∃s p j q:Nat,(s=1\/s=3)/\(p=0\/p=2)/\(j=1\/j=3)/\(q=0\/q=2)/\Phi prog (k+1) 32 [.int (c:Nat),.int (g:Nat),.int (h:Nat),.int w]=.ok (.lst ((cornV c g h s p j q).map pairD)):=by
 have m2:∀x:Int,op2 .mod (.int x) (.int 2)=.ok (.int (x%2)):=λx=>cD _ _ (by decide);have d2:∀x:Int,op2 .fdiv (.int x) (.int 2)=.ok (.int (x/2)):=λx=>dG _ _ (by decide);have d4:∀x:Int,op2 .fdiv (.int x) (.int 4)=.ok (.int (x/4)):=λx=>dG _ _ (by decide);have d8:∀x:Int,op2 .fdiv (.int x) (.int 8)=.ok (.int (x/8)):=λx=>dG _ _ (by decide);obtain⟨s,hs,es⟩:=bit1 (w);obtain⟨p,hp,ep⟩:=bit2 (w/2);obtain⟨j,hj,ej⟩:=bit1 (w/4);obtain⟨q,hq,eq⟩:=bit2 (w/8);refine⟨s,p,j,q,hs,hp,hj,hq,?_⟩;show(xecs (Phi prog k) prog.gls 1000 cC [some (false,.int (c:Nat)),some (false,.int (g:Nat)),some (false,.int (h:Nat)),some (false,.int w),none,none,none,none,none,none]).val=_;have r1:=m4n p s;have r2:=m4n j s;have r3:=m4n q s;have fx:(cornV c g h s p j q).map pairD=[.tup [.int (4*(c:Int)+((p+s)%4:Nat)),.int (4*(g:Int)+(j:Nat))],.tup [.int (4*(g:Int)+((j+s)%4:Nat)),.int (4*(h:Int)+(q:Nat))],.tup [.int (4*(h:Int)+((q+s)%4:Nat)),.int (4*(c:Int)+(p:Nat))]]:=by
  simp only[cornV,xM,yX,pairD,Int.natCast_add,Int.natCast_mul];rfl
 rw[fx];generalize (((p+s)%4:Nat):Int)=I at*;generalize (((j+s)%4:Nat):Int)=RR at*;generalize (((q+s)%4:Nat):Int)=O at*;generalize ((s:Nat):Int)=S at*;generalize ((p:Nat):Int)=P at*;generalize ((j:Nat):Int)=J at*;generalize ((q:Nat):Int)=QQ at*;generalize ((c:Nat):Int)=C at*;generalize ((g:Nat):Int)=G at*;generalize ((h:Nat):Int)=H at*;have mu4:∀x:Int,op2 .mul (.int 4) (.int x)=.ok (.int (4*x)):=λx=>eU _ _ (.inl (by decide));simp only[cC,xecs,xec,ev,evs,frz,frz1,leaks,leakss,rdR,rdV,Zc,isOwn,frsh,Zf,Zi,Zj,Zk,Zl,Zo,Zp,Zq,xD,w6,gV,Zt,Zu,ZA,mul2,mu4,m2,d2,d4,d8,es,ep,ej,eq,r1,r2,r3];rfl
theorem p_all(k:Nat){m p g:Nat}(s:Sheet Q m)(hm:m<=10)(hg:g<=100)(hp:0<p/\p<=100)(hb:p^(2*m)<=3000):Phi prog (k+3) 38 [shD Q (g:Int),.int (p:Nat)]=.ok (.int ((cntV p (2*m) Q*p^g:Nat):Int)):=by
 have hc:=p_count k (L:=2*m) (p:=p) (by rw[s.len]) (by rw[s.len];exact hm) s.in4 hp hb;have a0:op2 .at (shD Q (g:Int)) (.int 0)=.ok (.tup (Q.map rowD)):=rfl;have a1:op2 .at (shD Q (g:Int)) (.int 1)=.ok (.int (g:Int)):=rfl;show(xecs (Phi prog (k+2)) prog.gls 1000 kS [some (false,shD Q (g:Int)),some (false,.int (p:Nat)),none,none]).val=_;generalize shD Q (g:Int)=T at*;generalize D.tup (Q.map rowD)=U at*;refine nS (δ':=[some (false,T),some (false,.int (p:Nat)),some (false,.int ((cntV p (2*m) Q:Nat):Int)),none]) (by simp only[xec,ev,evs,frz,frz1,leaks,leakss,rdR,rdV,Zc,isOwn,frsh,Zf,Zi,Zj,Zk,Zl,Zo,Zq,xD,w6,gV,Zu,a0,hc]) (wF (m:=g) (by simp only[ev,evs,frz,leaks,leakss,rdR,rdV,Zf,Zk,Zq,xD,a1];exact bC (by omega)) (λi δ=>∃c,δ=[some (false,T),some (false,.int (p:Nat)),some (false,.int ((cntV p (2*m) Q*p^i:Nat):Int)),c]) ⟨none,by rw[Nat.pow_zero,Nat.mul_one];rfl⟩ ?_ ?_)
 ·rintro i hi δ ⟨c,rfl⟩
  refine⟨_,lf1 (jB (cQ (v:=.int ((cntV p (2*m) Q*p^(i+1):Nat):Int)) rfl (wE rfl rfl ?_)) rfl),_,rfl⟩;rw[eU _ _ (.inr (by omega)),Nat.pow_succ,←Nat.mul_assoc];rfl
 ·rintro δ ⟨c,rfl⟩
  rfl
theorem flat_plns(Q:List (List Int))(g:Int):op1 .isTup (shD Q g)=.ok (.bl true):=gQ Q g
theorem pR(x:Int)(xs:List Int):op2 .count (.lst (intL xs)) (.int x)=.ok (.int (xs.count x:Nat)):=by
 have h:∀xs:List Int,((intL xs).countP λy=>eqD y (.int x))=xs.count x:=by
  intro xs
  induction xs with
  |nil=>rfl
  |cons y r ih=>
   show List.countP _ (D.int y::intL r)=_;rw[List.countP_cons,ih,xS];rfl
 show(if(flat (.int x)&&(intL xs).all flat)=true then R.ok (D.int ((intL xs).countP λy=>eqD y (.int x):Nat)) else R.bad)=_;rw[xE (by rw[fR];rfl),h]
theorem dN:∀(i:Nat){b:List Sm}{δ:Sto},xecs Φ G n (b.take i) δ=.nx δ'->(xecs Φ G n (b.drop i) δ').val=v->(xecs Φ G n b δ).val=v
 |0,b,δ,h,k=>by cases h;exact k
 |i+1,[],δ,h,k=>by cases h;exact k
 |i+1,s::b,δ,h,k=>by
  rw[zA,xecs] at h;rw[xecs]
  cases e:xec Φ G n s δ with
  |nx _=>rw[e] at h;exact dN i h k
  |_=>rw[e] at h;cases h
theorem mul3(a b c:Nat):c*(a*b)=b*c*a:=by rw[Nat.mul_comm a,←Nat.mul_assoc,Nat.mul_comm c]
noncomputable def KeepS(Q:List (List Int))(m g room:Nat)(d:D):Prop:=∃Q' m' g',d=shD Q' ((g':Nat):Int)/\Sheet Q' m'/\m'<=room/\numV Q'=Q'/\∀p,p=2\/p=3\/p=5->cntV p (2*m') Q'*p^g'=cntV p (2*m) Q*p^g
noncomputable def Mv(Q:List (List Int))(m g room:Nat)(r:R D):Prop:=(∃d,r=.ok d/\KeepS Q m g room d)\/∃c,r=.exc c/\[0,1,2].contains c=true
section
variable{Q:List (List Int)}{m g room:Nat}(s:Sheet Q m)
include s
theorem mv_curl(k:Nat)(hm:m<room)(hr:room<=10)(hx:0<=x)(hw:w<4):Mv Q m g room (Phi prog (k+3) 14 [shD Q (g:Int),.int x,.int (w:Nat)]):=by
 obtain⟨h1,_,h3⟩:=wV k (g:=(g:Int)) (x:=x) s (by omega) (by omega) hw;by_cases h:Out3 x g m
 ·exact .inr ⟨_,h1 h,rfl⟩
 refine .inl ⟨_,h3 h (by omega),?_⟩;unfold Out3 at h;by_cases e:x=(2*m:Nat)
 ·obtain⟨r1,r2⟩:=s.ring hw
  obtain⟨j,rfl⟩:∃j,g=j+1:=⟨g-1,by omega⟩
  refine⟨_,_,j,?_,r1,hm,bZ _,λp hp=>by rw[r2 p hp,Nat.pow_succ',Nat.mul_assoc]⟩;rw[xE e,show(((j+1:Nat):Int))-1=j by omega];unfold addV baseV;rw[s.len,e,xC (by omega)]
 ·obtain⟨r1,r2⟩:=s.addC (x:=x) (w:=w) (by omega)
  refine⟨_,_,g,?_,r1,hm,bZ _,λp hp=>by rw[r2]⟩;rw[xC e];unfold addV baseV Py.addC;rw[s.len,xE (by omega)]
theorem mv_un(k:Nat)(hm:m<=room)(hr:room<=10):Mv Q m g room (Phi prog (k+3) 16 [shD Q (g:Int),.int x]):=by
 rw[pN k s.four (by rw[s.len];omega)];split
 ·exact .inr ⟨_,rfl,rfl⟩
 rename_i h;rw[s.len] at h;obtain⟨x,rfl⟩:=Int.eq_ofNat_of_zero_le (by omega:0<=x);rw[yE];split
 ·exact .inr ⟨_,rfl,rfl⟩
 rename_i e he;obtain⟨j,h1,h2,h3⟩:=s.un (by omega) (g:Int) he;exact .inl ⟨_,rfl,_,_,g+j,by unfold unV;rw[h1];rfl,h2,by omega,bZ _,λp _=>by rw[h3,Nat.pow_add,mul3]⟩
theorem mv_laid(k:Nat){u l:Int}(hm:m+1<room)(hr:room<=10)(hu:0<=u/\u<(max 1 (2*m):Nat))(hl:0<=l/\l<(max 1 (2*m):Nat))(hw:w<4):Mv Q m g room (Phi prog (k+2) 17 [shD Q (g:Int),.int u,.int l,.int (w:Nat)]):=by
 rw[p_laid k s (by omega) hw];split
 ·exact .inr ⟨_,rfl,rfl⟩
 split
 ·exact .inr ⟨_,rfl,rfl⟩
 split
 ·exact .inr ⟨_,rfl,rfl⟩
 rename_i h1 h2 h3;have m0:m≠0:=λe=>h1 (.inl (by
  have:=s.len;rw[e] at this;rw[List.length_eq_zero_iff.mp this];rfl))
 obtain⟨r1,r2⟩:=s.laid (u:=u) (l:=l) (w:=w) (by omega) (by omega) λe=>h2 e.symm;exact .inl ⟨_,rfl,_,_,g,rfl,r1,by omega,bZ _,λp hp=>by rw[r2 p (by omega)]⟩
theorem wY(k:Nat)(hm:m<=room)(hr:room<=10):Mv Q m g room (Phi prog (k+3) 19 [shD Q (g:Int),.int x,.int y]):=by
 rw[p_taken k s.four (by rw[s.len];omega)];split
 ·exact .inr ⟨_,rfl,rfl⟩
 split
 ·exact .inr ⟨_,rfl,rfl⟩
 rename_i h e;rw[s.len] at h;obtain⟨x,rfl⟩:=Int.eq_ofNat_of_zero_le (by omega:0<=x);obtain⟨y,rfl⟩:=Int.eq_ofNat_of_zero_le (by omega:0<=y);rw[yE,yE];split
 ·exact .inr ⟨_,rfl,rfl⟩
 rename_i P he;obtain⟨j,h1,h2,h3⟩:=s.apart (by omega) (by omega) (by omega) (g:Int) he;exact .inl ⟨_,rfl,_,_,g+j,by unfold goneV;rw[h1];rfl,h2,xU (Nat.sub_le _ _) hm,bZ _,λp _=>by rw[h3,Nat.pow_add,mul3]⟩
theorem mv_slid(k:Nat)(hm:m<=room)(hr:room<=10):Mv Q m g room (Phi prog (k+3) 21 [shD Q (g:Int),.int x,.int y,.int z]):=by
 rw[p_slid k s.four (by rw[s.len];omega)];split
 ·exact .inr ⟨_,rfl,rfl⟩
 split
 ·exact .inr ⟨_,rfl,rfl⟩
 rename_i h e;unfold outR at h;rw[s.len] at h;obtain⟨x,rfl⟩:=Int.eq_ofNat_of_zero_le (by omega:0<=x);obtain⟨y,rfl⟩:=Int.eq_ofNat_of_zero_le (by omega:0<=y);obtain⟨z,rfl⟩:=Int.eq_ofNat_of_zero_le (by omega:0<=z);rw[yE,yE,yE]
 cases he:slidesV (Q.getD x []) (Q.getD y []) (Q.getD z []) with
 |none=>exact .inr ⟨_,rfl,rfl⟩
 |some f=>
  obtain⟨h1,h2⟩:=s.slid (by omega) (by omega) (by omega) (by omega) (by omega) (by omega) he;exact .inl ⟨_,rfl,_,_,g,rfl,h1,hm,bZ _,λp _=>by rw[h2]⟩
end
theorem p_deed(k:Nat){m g room:Nat}(s:Sheet Q m)(hn:numV Q=Q)(hm:m<=room)(hr:room<=3)(cell:Int):∃d,Phi prog (k+4) 37 [shD Q (g:Int),.int cell,.int (room:Nat)]=.ok d/\KeepS Q m g room d:=by
 have md:∀x y:Int,0<y->op2 .mod (.int x) (.int y)=.ok (.int (x%y)):=λx y h=>cD _ _ h;have dv:∀x y:Int,0<y/\y<1073741824->op2 .fdiv (.int x) (.int y)=.ok (.int (x/y)):=λx y h=>dG _ _ h;have a0:op2 .at (shD Q (g:Int)) (.int 0)=.ok (.tup (Q.map rowD)):=rfl;have a1:op1 .len (.tup (Q.map rowD))=.ok (.int (m:Nat)):=by rw[vJ,xB,s.len]
 have mx:∀x y:Int,op2 .max (.int x) (.int y)=.ok (.int (if y>x then y else x)):=λ_ _=>rfl;have l3:(if 2*((m:Nat):Int)>1 then 2*((m:Nat):Int) else 1)=((max 1 (2*m):Nat):Int):=by split<;>omega
 have n3:∀a b c:D,atD [a,b,c] 0=some a/\atD [a,b,c] 1=some b/\atD [a,b,c] 2=some c:=λa b c=>⟨rfl,rfl,rfl⟩
 have mn1:=λx=>md x ((m:Nat)+1) (by omega);have ml:=λx=>md x ((max 1 (2*m):Nat):Int) (by omega);have ml1:=λx=>md x (((max 1 (2*m):Nat):Int)+1) (by omega);have m2:=λx=>md x 2 (by decide);have m4:=λx=>md x 4 (by decide);have m5:=λx=>md x 5 (by decide);have d5:=λx=>dv x 5 (by decide);have d10:=λx=>dv x 10 (by decide);have d31:=λx=>dv x 31 (by decide);have d961:=λx=>dv x 961 (by decide);have ks:KeepS Q m g room (shD Q (g:Int)):=⟨Q,m,g,rfl,s,hm,hn,λ_ _=>rfl⟩
 have nat4:∀x:Int,∃w:Nat,w<4/\x%4=(w:Nat):=λx=>⟨(x%4).toNat,by omega,by omega⟩
 have v0:∀x w,0<=x->w<4->m<room->Mv Q m g room (Phi prog (k+3) 14 [shD Q (g:Int),.int x,.int ((w:Nat):Int)]):=λx w h1 h2 h=>mv_curl s k h (by omega) h1 h2;have v1:∀x,Mv Q m g room (Phi prog (k+3) 16 [shD Q (g:Int),.int x]):=λx=>mv_un s k hm (by omega);have v2:∀(u l:Int)(w:Nat),0<=u/\u<(max 1 (2*m):Nat)->0<=l/\l<(max 1 (2*m):Nat)->w<4->m+1<room->Mv Q m g room (Phi prog (k+3) 17 [shD Q (g:Int),.int u,.int l,.int ((w:Nat):Int)]):=λu l w h1 h2 h3 h=>mv_laid s (k+1) h (by omega) h1 h2 h3;have v3:∀x y,Mv Q m g room (Phi prog (k+3) 19 [shD Q (g:Int),.int x,.int y]):=λx y=>wY s k hm (by omega);have v4:∀x y z,Mv Q m g room (Phi prog (k+3) 21 [shD Q (g:Int),.int x,.int y,.int z]):=λx y z=>mv_slid s k hm (by omega);show∃d,(xecs (Phi prog (k+3)) prog.gls 1000 b_law_deed [some (false,shD Q (g:Int)),some (false,.int cell),some (false,.int (room:Nat)),none,none,none,none,none]).val=.ok d/\_;generalize shD Q (g:Int)=S at*;generalize D.tup (Q.map rowD)=U at*;obtain⟨x,y,z,e6⟩:∃x y z:Int,xecs (Phi prog (k+3)) prog.gls 1000 (b_law_deed.take 6) [some (false,S),some (false,.int cell),some (false,.int (room:Nat)),none,none,none,none,none]=.nx [some (false,S),some (false,.int cell),some (false,.int (room:Nat)),some (false,.int (m:Nat)),some (false,.int ((max 1 (2*m):Nat):Int)),some (false,.int (cell/10)),some (true,.lst [.int x,.int y,.int z]),some (false,S)]:=by
  generalize max 1 (2*m)=L at*;by_cases h:cell/5%2=0
  ·exact⟨0,1,2,by simp only[b_law_deed,zA,zS,xecs,xec,evT,ev,evs,frz,frz1,leaksT,leaks,leakss,rdR,rdV,Za,Zc,isOwn,frsh,Zf,Zi,Zj,Zk,Zl,Zq,xD,w6,gV,Zt,Zu,ZA,ZG,a0,a1,mul2,mx,l3,mn1,d10,d31,d961,d5,m2,h,zV]⟩
  ·exact⟨_,_,_,by simp only[b_law_deed,zA,zS,xecs,xec,evT,ev,evs,frz,frz1,leaksT,leaks,leakss,rdR,rdV,Za,Zc,isOwn,frsh,Zf,Zi,Zj,Zk,Zl,Zq,xD,w6,gV,Zt,Zu,ZA,ZG,a0,a1,mul2,mx,l3,mn1,d10,d31,d961,d5,m2,beq_false_of_ne h];rfl⟩
 suffices∃d,(xecs (Phi prog (k+3)) prog.gls 1000 (b_law_deed.drop 6) [some (false,S),some (false,.int cell),some (false,.int (room:Nat)),some (false,.int (m:Nat)),some (false,.int ((max 1 (2*m):Nat):Int)),some (false,.int (cell/10)),some (true,.lst [.int x,.int y,.int z]),some (false,S)]).val=.ok d/\KeepS Q m g room d from this.imp λd h=>⟨dN 6 e6 h.1,h.2⟩
 generalize max 1 (2*m)=L at*;have m0:(0:Int)<(L:Nat):=by omega
 obtain⟨w,w4,ew⟩:=nat4 (cell/10/31);obtain⟨v,v4',ev'⟩:=nat4 (cell/10/961);have b0:decide ((m:Int)<(room:Nat))=decide (m<room):=by simp
 have b1:decide ((m:Int)+1<(room:Nat))=decide (m+1<room):=by simp;omega
 have pos:∀x y:Int,0<y->0<=x%y/\x%y<y:=λx y h=>⟨Int.emod_nonneg _ (by omega),zR _ h⟩
 rcases(by omega:cell%5=0\/cell%5=1\/cell%5=2\/cell%5=3\/cell%5=4) with h|h|h|h|h
 ·by_cases hl:m<room
  ·rcases v0 _ w (pos (cell/10) (L+1) (by omega)).1 w4 hl with⟨d,e,hc⟩|⟨c,e,hc⟩<;>(first|refine⟨d,?_,hc⟩|refine⟨S,?_,ks⟩)<;>simp only[b_law_deed,y8,zP,xecs,xec,evT,ev,evs,frz,frz1,leaksT,leaks,leakss,rdR,rdV,Za,Zc,Zd,isOwn,frsh,Zf,Zi,Zj,Zk,Zl,Zq,xD,w6,gV,Zu,ZA,ZB,ZC,ZG,ZI,m5,h,Int.reduceBEq,b0,yJ hl,ml1,ew,d31,m4,e,hc]<;>rfl
  ·(first|refine⟨d,?_,hc⟩|refine⟨S,?_,ks⟩)<;>simp only[b_law_deed,y8,zP,xecs,xec,evT,ev,evs,frz,frz1,leaksT,leaks,leakss,rdR,rdV,Za,Zc,isOwn,frsh,Zf,Zi,Zj,Zk,Zl,Zq,xD,w6,gV,Zu,ZA,ZB,ZC,ZG,ZI,m5,h,Int.reduceBEq,b0,x8 hl]<;>rfl
 ·rcases v1 (cell/10%(m+1)) with⟨d,e,hc⟩|⟨c,e,hc⟩<;>(first|refine⟨d,?_,hc⟩|refine⟨S,?_,ks⟩)<;>simp only[b_law_deed,y8,zP,xecs,xec,evT,ev,evs,frz,frz1,leaksT,leaks,leakss,rdR,rdV,Za,Zc,Zd,isOwn,frsh,Zf,Zi,Zj,Zk,Zl,Zq,xD,w6,gV,Zu,ZA,ZB,ZC,ZG,ZI,m5,h,Int.reduceBEq,mn1,e,hc]<;>rfl
 ·by_cases hl:m+1<room
  ·rcases v2 _ _ v (pos (cell/10) L m0) (pos (cell/10/31) L m0) v4' hl with⟨d,e,hc⟩|⟨c,e,hc⟩<;>(first|refine⟨d,?_,hc⟩|refine⟨S,?_,ks⟩)<;>simp only[b_law_deed,y8,zP,xecs,xec,evT,ev,evs,frz,frz1,leaksT,leaks,leakss,rdR,rdV,Za,Zc,Zd,isOwn,frsh,Zf,Zi,Zj,Zk,Zl,Zq,xD,w6,gV,Zu,ZA,ZB,ZC,ZG,ZI,m5,h,Int.reduceBEq,b1,yJ hl,ml,ev',d31,d961,m4,e,hc]<;>rfl
  ·(first|refine⟨d,?_,hc⟩|refine⟨S,?_,ks⟩)<;>simp only[b_law_deed,y8,zP,xecs,xec,evT,ev,evs,frz,frz1,leaksT,leaks,leakss,rdR,rdV,Za,Zc,isOwn,frsh,Zf,Zi,Zj,Zk,Zl,Zq,xD,w6,gV,Zu,ZA,ZB,ZC,ZG,ZI,m5,h,Int.reduceBEq,b1,x8 hl]<;>rfl
 ·rcases v3 (if((m:Nat):Int)-2>x then((m:Nat):Int)-2 else x) (if((m:Nat):Int)-1>y then((m:Nat):Int)-1 else y) with⟨d,e,hc⟩|⟨c,e,hc⟩<;>(first|refine⟨d,?_,hc⟩|refine⟨S,?_,ks⟩)<;>simp only[b_law_deed,y8,zP,xecs,xec,evT,ev,evs,frz,frz1,leaksT,leaks,leakss,rdR,rdV,Za,Zc,Zd,isOwn,frsh,Ze,Zf,Zi,Zj,Zk,Zl,Zq,xD,w6,gV,Zu,ZA,ZB,ZC,ZG,ZI,m5,h,Int.reduceBEq,n3,mx,e,hc]<;>rfl
 ·rcases v4 x y z with⟨d,e,hc⟩|⟨c,e,hc⟩<;>(first|refine⟨d,?_,hc⟩|refine⟨S,?_,ks⟩)<;>simp only[b_law_deed,y8,zP,xecs,xec,evT,ev,evs,frz,frz1,leaksT,leaks,leakss,rdR,rdV,Za,Zc,Zd,isOwn,frsh,Ze,Zf,Zi,Zj,Zk,Zl,Zq,xD,w6,gV,Zu,ZA,ZB,ZC,ZG,ZI,m5,h,Int.reduceBEq,n3,e,hc]<;>rfl
theorem q5(h:(evs Φ G false its (frz (leakss false its) δ)).bind (itemsD k)=.ok xs)(Q:Nat->Sto->Prop)(q0:Q 0 (frz (leakss false its) δ))
  (st:∀i (h:i<xs.length) δ,Q i δ->∃δ',loopF Φ G n tg body xs[i] δ=.nx δ'/\Q (i+1) δ') (f:∀δ',Q xs.length δ'->(xecs Φ G n ss δ').val=v):(xecs Φ G n (.loop k its tg body::ss) δ).val=v:=by
 obtain⟨δ',e,q⟩:=aU h Q q0 st;exact nS e (f δ' q)
theorem q9:∀r:List Int,eqDs (intL r) (intL r)=true
 |[]=>rfl
 |x::r=>by show(x==x&&eqDs (intL r) (intL r))=true;rw[q9 r,zV];rfl
theorem rA:∀Q:List (List Int),eqDs (Q.map rowD) (Q.map rowD)=true
 |[]=>rfl
 |r::Q=>by show(eqDs (intL r) (intL r)&&eqDs (Q.map rowD) (Q.map rowD))=true;rw[q9,rA Q];rfl
theorem p_good(k:Nat){m g:Nat}(s:Sheet Q m)(hn:numV Q=Q)(hm:m<=10):Phi prog (k+2) 31 [shD Q (g:Int)]=.ok (.bl true):=by
 have hQ:=s.len;have hf:=g8 s.four;have i1:op1 .isTup (shD Q (g:Int))=.ok (.bl true):=gQ Q g;have i2:=oV Q;have a0:op2 .at (shD Q (g:Int)) (.int 0)=.ok (.tup (Q.map rowD)):=rfl;have a1:op2 .at (shD Q (g:Int)) (.int 1)=.ok (.int (g:Nat)):=rfl;have l2:op1 .len (shD Q (g:Int))=.ok (.int 2):=rfl;have lm:op1 .len (.tup (Q.map rowD))=.ok (.int (m:Nat)):=by rw[vJ,xB,hQ]
 have wh:=qV k;have it:itemsD .seq [.tup (Q.map rowD)]=.ok (Q.map rowD):=aM (by rw[xB];omega);have nb:Phi prog (k+1) 29 [.tup (Q.map rowD)]=.ok (.tup (Q.map rowD)):=by
  show(xecs (Phi prog k) prog.gls 1000 Bnumbered [some (false,.tup (Q.map rowD)),none,none,none,none]).val=_;rw[eV it (λr hr=>by rw[s.four r hr];decide) (by omega) (by omega),hn];rfl
 have qe:op2 .eq (.tup (Q.map rowD)) (.tup (Q.map rowD))=.ok (.bl true):=by
  show(if(pln 9 (.tup (Q.map rowD))&&pln 9 (.tup (Q.map rowD))&&true)=true then R.ok (D.bl (eqDs (Q.map rowD) (Q.map rowD))) else R.bad)=_;rw[show pln 9 (.tup (Q.map rowD))=true from cG 7 Q,rA];rfl
 have z1:decide (((g:Nat):Int)<0)=false:=by simp
 have z2:decide (((10:Int))<(m:Nat))=false:=by simp;omega
 show(xecs (Phi prog (k+1)) prog.gls 1000 c9 [some (false,shD Q (g:Int)),none,none,none]).val=_;generalize shD Q (g:Int)=S at*;refine dN (δ':=[some (false,S),some (true,.lst []),none,none]) 3 (by generalize D.tup (Q.map rowD)=U at*;simp only[c9,zA,zS,xecs,xec,evT,ev,evs,frz,leaksT,leaks,leakss,rdR,rdV,Za,Zc,isOwn,frsh,Zf,Zi,Zj,Zk,Zq,xD,w6,gV,Zt,Zv,ZC,ZE,ZH,i1,i2,a0,a1,l2,lm,wh,z1,z2,zV]) ?_;refine q5 (xs:=Q.map rowD) (by generalize D.tup (Q.map rowD)=U at*;simp only[ev,evs,frz,leaks,leakss,rdR,rdV,Zf,Zk,Zq,xD,a0,it]) (λi δ=>∃c2,δ=[some (false,S),some (true,.lst (intL (Q.take i).flatten)),c2,none]) ⟨_,rfl⟩ ?_ ?_
 ·rintro i hi δ ⟨c2,rfl⟩
  rw[xB] at hi;rw[zW];have h4:=s.four _ (xV hi);have ht:=sK Q[i];have hl:op1 .len (rowD Q[i])=.ok (.int 4):=by show R.ok (D.int ((intL Q[i]).length:Nat))=_;simp[intL,h4]
  have hs:op1 .list (rowD Q[i])=.ok (.lst (intL Q[i])):=rfl;have hk:=g8 (R:=Q.take i) λr hr=>s.four r (List.mem_of_mem_take hr);rw[yS] at hk;generalize rowD Q[i]=T at*;refine⟨_,lf1 (jB (hV (t:=false) (by simp only[evT,ev,frz,leaksT,leaks,rdR,rdV,Za,Zf,Zi,Zj,Zk,Zl,Zq,xD,w6,gV,Zv,ZH,ht,hl,zV]) rfl) (jB (cQ (v:=.lst (intL (Q.take (i+1)).flatten)) rfl (wE rfl hs ?_)) rfl)),_,rfl⟩;rw[o_addK _ _ (by simp only[intL,xB];omega),xW hi,y9,intL,intL,←yB];simp only[xZ,List.flatten_nil,yD];rfl
 ·rintro _ ⟨c2,rfl⟩
  rw[xB,y7];have tw:=s.two;generalize Q.flatten=W at*;refine q5 (xs:=intL W) (bH (by rw[intL,xB];omega)) (λ_ δ=>∃b c3,δ=[some (false,S),some (b,.lst (intL W)),c2,c3]) ⟨_,_,rfl⟩ ?_ ?_
  ·rintro i hi δ ⟨b,c3,rfl⟩
   have hi:i<W.length:=by simpa[intL] using hi
   rw[show(intL W)[i]=.int W[i] by simp[intL]];have hr:=tw.rng _ (xV hi);have hc:=tw.cnt W[i].toNat (by omega);rw[Int.toNat_of_nonneg hr.1] at hc;have hc':=pR W[i] W;rw[hc] at hc';exact⟨_,lf1 (jB (hV (t:=false) (by cases b<;>simp only[evT,ev,evs,frz,frz1,leaksT,leaks,leakss,rdR,rdV,Za,Zf,Zi,Zj,Zk,Zl,Zq,xD,w6,gV,Zv,ZH,wh,hc']<;>rfl) rfl) rfl),_,_,rfl⟩
  ·rintro _ ⟨b,c3,rfl⟩
   generalize D.tup (Q.map rowD)=U at*;simp only[c9,y8,zP,xecs,xec,ev,evs,frz,leaks,leakss,rdR,rdV,Zc,Zf,Zk,Zq,xD,a0,nb,qe];rfl
noncomputable abbrev okF(m:Nat)(fx:List (Nat×Nat)):Prop:=(∀x∈fx,(x.1<4*m/\x.2<4*m)/\x.1≠x.2)/\∀j,j<fx.length->∀i,i<j->((fx.getD i (0,0)).1≠(fx.getD j (0,0)).1/\(fx.getD i (0,0)).2≠(fx.getD j (0,0)).1)/\((fx.getD i (0,0)).1≠(fx.getD j (0,0)).2/\(fx.getD i (0,0)).2≠(fx.getD j (0,0)).2)
theorem kZ(h:okF m fx):GP (startP m fx)/\∀x∈fx,x.1<4*m/\x.2<4*m:=
 ⟨GP.startF (λx hx=>(h.1 x hx).1) (λx hx=>(h.1 x hx).2) λi j hi hj=>h.2 j hj i hi,λx hx=>(h.1 x hx).1⟩
theorem mem2{a b c:Nat}(h:a=b\/a=c):a∈[b,c]:=by simpa using h
theorem p_start(k:Nat)(ns:List Int)(hr:room=2\/room=3):∃(Q:List (List Int))(m g:Nat),Phi prog (k+4) 33 [.scr ns,.int (room:Nat)]=.ok (shD Q (g:Int))/\Sheet Q m/\m<=room/\numV Q=Q/\g<=2:=by
 have md:∀x y:Int,0<y->op2 .mod (.int x) (.int y)=.ok (.int (x%y)):=λx y h=>cD _ _ h;have dv:∀x y:Int,0<y/\y<1073741824->op2 .fdiv (.int x) (.int y)=.ok (.int (x/y)):=λx y h=>dG _ _ h;have c0:Phi prog (k+3) 26 [.scr ns,.int 0]=_:=gE (k+2) ns 0;have c1:Phi prog (k+3) 26 [.scr ns,.int 1]=_:=gE (k+2) ns 1;have c2:Phi prog (k+3) 26 [.scr ns,.int 2]=_:=gE (k+2) ns 2;have c3:Phi prog (k+3) 26 [.scr ns,.int 3]=_:=gE (k+2) ns 3;have m2:=λx=>md x 2 (by decide);have m3:=λx=>md x 3 (by decide);have m4:=λx=>md x 4 (by decide);have m16:=λx=>md x 16 (by decide);have mr:=λx=>md x ((room:Nat)+1) (by omega);have d2:=λx=>dv x 2 (by decide);have d4:=λx=>dv x 4 (by decide);obtain⟨m0,hm0,em⟩:∃m0:Nat,m0<=room/\cellV ns 0%((room:Nat)+1)=(m0:Nat):=⟨(cellV ns 0%((room:Nat)+1)).toNat,by have:=zR (cellV ns 0) (by omega:((room:Nat):Int)+1>0);omega,(Int.toNat_of_nonneg (Int.emod_nonneg _ (by omega))).symm⟩
 obtain⟨g,hg,eg⟩:∃g:Nat,g<=2/\cellV ns 3%3=(g:Nat):=⟨(cellV ns 3%3).toNat,by omega,by omega⟩
 obtain⟨W,eW⟩:∃W,cellV ns 2%16=W:=⟨_,rfl⟩
 obtain⟨fx,m,c,d,b5,c6,c7,c8,hm,⟨gp,hf⟩,hl,e⟩:∃(fx:List (Nat×Nat))(m:Nat)(c d:Slot)(b5:Bool)(c6 c7 c8:Slot),m<=room/\(GP (startP m fx)/\∀x∈fx,x.1<4*m/\x.2<4*m)/\fx.length<=1000/\xecs (Phi prog (k+3)) prog.gls 1000 (b_law_start.take 6) [some (false,.scr ns),some (false,.int (room:Nat)),none,none,none,none,none,none,none]=.nx [some (false,.scr ns),some (false,.int (room:Nat)),c,d,some (false,.int (m:Nat)),some (b5,.lst (fx.map pairD)),c6,c7,c8]:=by
  rcases(by omega:cellV ns 1%3=0\/cellV ns 1%3=1\/cellV ns 1%3=2/\room=2\/cellV ns 1%3=2/\room=3) with h|h|⟨h,z⟩|⟨h,z⟩
  ·refine⟨[],m0,some (false,.int 0),some (false,.int W),true,none,none,none,hm0,⟨GP.start0 m0,by simp⟩,by simp,?_⟩
   simp only[b_law_start,zA,zS,xecs,xec,evT,ev,evs,frz,frz1,leaksT,leaks,leakss,rdR,rdV,Za,Zc,isOwn,frsh,Zf,Zi,Zj,Zk,Zl,Zn,Zo,Zq,xD,w6,gV,Zt,Zu,ZA,ZE,ZG,c0,c1,c2,m3,m16,mr,em,eW,h,Int.reduceBEq,yX]
  ·obtain⟨A,hA,eA⟩:=bit2 (W)
   obtain⟨B,hB,eB⟩:=bit2 (W/2);obtain⟨E,hE,eE⟩:=bit1 (W/4);obtain⟨m,hm,h2,e2⟩:∃m:Nat,m<=room/\(m=2\/m=3)/\op2 .max (.int 2) (.int (m0:Nat))=.ok (.int (m:Nat)):=by
    rcases(by omega:m0=0\/m0=1\/m0=2\/m0=3) with rfl|rfl|rfl|rfl
    ·exact⟨2,by omega,.inl rfl,rfl⟩
    ·exact⟨2,by omega,.inl rfl,rfl⟩
    ·exact⟨2,by omega,.inl rfl,rfl⟩
    ·exact⟨3,by omega,.inr rfl,rfl⟩
   refine⟨[((A+2)%4,4+B),((A+E)%4,4+(B+E)%4)],m,some (false,.int 1),some (false,.int W),true,some (false,.int (A:Nat)),some (false,.int (B:Nat)),some (false,.int (E:Nat)),hm,?_,by simp,?_⟩
   ·exact kZ ((by decide+kernel:∀A∈[0,2],∀B∈[0,2],∀E∈[1,3],∀m∈[2,3],okF m [((A+2)%4,4+B),((A+E)%4,4+(B+E)%4)]) A (mem2 hA) B (mem2 hB) E (mem2 hE) m (mem2 h2))
   ·simp only[b_law_start,zA,zS,xecs,xec,evT,ev,evs,frz,frz1,leaksT,leaks,leakss,rdR,rdV,Za,Zc,isOwn,frsh,Zf,Zi,Zj,Zk,Zl,Zm,Zn,Zo,Zq,xD,w6,gV,Zt,Zu,ZA,ZE,ZG,c0,c1,c2,m2,m3,m4,m16,mr,em,eW,h,e2,mul2,eA,eB,eE,d2,d4,Int.reduceBEq]
    rfl
  ·refine⟨[],m0,some (false,.int 2),some (false,.int W),true,none,none,none,hm0,⟨GP.start0 m0,by simp⟩,by simp,?_⟩
   simp only[b_law_start,zA,zS,xecs,xec,evT,ev,evs,frz,frz1,leaksT,leaks,leakss,rdR,rdV,Za,Zc,isOwn,frsh,Zf,Zi,Zj,Zk,Zl,Zn,Zo,Zq,xD,w6,gV,Zt,Zu,ZA,ZE,ZG,c0,c1,c2,m3,m16,mr,em,eW,h,x8 (by omega:¬(2:Int)<(room:Nat)),Int.reduceBEq,yX]
  ·obtain⟨s,p,j,q,hs,hp,hj,hq,ec⟩:=tM (k+2) 0 1 2 W
   have ec:Phi prog (k+3) 32 [.int 0,.int 1,.int 2,.int W]=_:=ec;refine⟨cornV 0 1 2 s p j q,3,some (false,.int 2),some (false,.int W),false,none,none,none,by omega,?_,by simp[cornV],?_⟩
   ·exact kZ ((by decide+kernel:∀s∈[1,3],∀p∈[0,2],∀j∈[1,3],∀q∈[0,2],okF 3 (cornV 0 1 2 s p j q)) s (mem2 hs) p (mem2 hp) j (mem2 hj) q (mem2 hq))
   ·simp only[b_law_start,zA,zS,xecs,xec,evT,ev,evs,frz,frz1,leaksT,leaks,leakss,rdR,rdV,Za,Zc,isOwn,frsh,Zf,Zi,Zj,Zk,Zl,Zo,Zq,xD,w6,gV,Zt,Zu,ZA,ZE,ZG,c0,c1,c2,m3,m16,mr,em,eW,h,ec,yJ (by omega:(2:Int)<(room:Nat)),Int.reduceBEq]
    rfl
 have sh:=nH (pk:=λk=>pickV ns (4+k)) gp;obtain⟨k1,k2⟩:=iY m _ (sO (λk=>pickV ns (4+k)) m fx);have hR:Phi prog (k+3) 28 [.scr ns,.int 4,.int (m:Nat),.lst (fx.map pairD)]=_:=p_rowsF k ns 4 m (by omega) hl hf;have hN:Phi prog (k+3) 29 [.lst ((chunks m (runP (λk=>pickV ns (4+k)) (startP m fx)).owner).map rowD)]=_:=pK (k+2) k2 (by omega);refine⟨_,m,g,?_,sh,hm,bZ _,hg⟩;show(xecs (Phi prog (k+3)) prog.gls 1000 b_law_start [some (false,.scr ns),some (false,.int (room:Nat)),none,none,none,none,none,none,none]).val=_;refine dN 6 e ?_;unfold shD;generalize fx.map pairD=FX at*;generalize ((m:Nat):Int)=M at*;cases b5<;>simp only[b_law_start,y8,zP,xecs,xec,ev,evs,frz,frz1,leaks,leakss,rdR,rdV,Zc,Zf,Zi,Zj,Zk,Zl,Zo,Zp,Zq,w6,gV,hR,hN,c3,m3,eg]<;>rfl
theorem wZ(Q Q':List (List Int))(g g':Int):∃b,op2 .ne (shD Q g) (shD Q' g')=.ok (.bl b):=by
 have h:∀(Q:List (List Int))(g:Int),pln 9 (shD Q g)=true:=λQ g=>by
  show(plns 7 (Q.map rowD)&&true)=true;rw[cG 6];rfl
 refine⟨!eqD (shD Q g) (shD Q' g'),xE ?_⟩;rw[h,h];rfl
theorem law_true:∀ns:List Int,ns.length<=63->Phi prog depth lawId [.scr ns]=.ok (.bl true):=by
 intro ns _;have c1:Phi prog 11 26 [.scr ns,.int 1]=_:=gE 10 ns 1;have md:∀x:Int,op2 .mod (.int x) (.int 3)=.ok (.int (x%3)):=λx=>cD _ _ (by decide);have d12:∀x:Int,op2 .fdiv (.int x) (.int 12)=.ok (.int (x/12)):=λx=>dG _ _ (by decide);have d3:∀x:Int,op2 .fdiv (.int x) (.int 3)=.ok (.int (x/3)):=λx=>dG _ _ (by decide);obtain⟨p,room,hp,P,hr,hb,e1⟩:∃p room:Nat,(p=2\/p=3\/p=5)/\Prm p/\(room=2\/room=3)/\p^(2*room)<=3000/\xecs (Phi prog 11) prog.gls 1000 (b_law.take 2) [some (false,.scr ns),none,none,none,none,none,none,none]=.nx [some (false,.scr ns),some (false,.int (p:Nat)),some (false,.int (room:Nat)),none,none,none,none,none]:=by
  rcases(by omega:cellV ns 1/12%3=0\/cellV ns 1/12%3=1\/cellV ns 1/12%3=2) with h|h|h
  ·exact⟨2,3,.inl rfl,prm2,.inr rfl,by decide,by simp only[b_law,zA,zS,xecs,xec,ev,evs,frz,frz1,leaks,leakss,rdR,rdV,isOwn,frsh,Zf,Zi,Zj,Zk,Zo,Zq,xD,w6,gV,Zu,ZI,c1,d12,md,h];rfl⟩
  ·exact⟨3,3,.inr (.inl rfl),prm3,.inr rfl,by decide,by simp only[b_law,zA,zS,xecs,xec,ev,evs,frz,frz1,leaks,leakss,rdR,rdV,isOwn,frsh,Zf,Zi,Zj,Zk,Zo,Zq,xD,w6,gV,Zu,ZI,c1,d12,md,h];rfl⟩
  ·exact⟨5,2,.inr (.inr rfl),prm5,.inl rfl,by decide,by simp only[b_law,zA,zS,xecs,xec,ev,evs,frz,frz1,leaks,leakss,rdR,rdV,isOwn,frsh,Zf,Zi,Zj,Zk,Zo,Zq,xD,w6,gV,Zu,ZI,c1,d12,md,h];rfl⟩
 obtain⟨Q0,m0,g0,e2,s0,hm0,n0,hg0⟩:=p_start 7 ns hr;have e2:Phi prog 11 33 [.scr ns,.int (room:Nat)]=_:=e2;have pw:∀{m},m<=room->p^(2*m)<=3000:=λh=>xU (Nat.pow_le_pow_right (by omega) (by omega)) hb;have ce:∀{Q:List (List Int)}{m:Nat},Sheet Q m->(elimsV p (condV (2*m) Q) (2*m)).2<=2*m/\cntV p (2*m) Q=p^(2*m-(elimsV p (condV (2*m) Q) (2*m)).2):=λs=>cnt_eq P (by omega) s.in4;obtain⟨due,hd0⟩:∃due,cntV p (2*m0) Q0*p^g0=due:=⟨_,rfl⟩
 have gl:∀{Q:List (List Int)}{m g:Nat},Sheet Q m->cntV p (2*m) Q*p^g=due->g<=100:=λs h=>by
  rw[←hd0,(ce s).2,(ce s0).2,←Nat.pow_add,←Nat.pow_add] at h;have:=(Nat.pow_le_pow_iff_right (by omega)).1 (Nat.le_of_eq h);omega
 have al:∀{Q:List (List Int)}{m g:Nat},Sheet Q m->m<=room->cntV p (2*m) Q*p^g=due->Phi prog 11 38 [shD Q (g:Int),.int (p:Nat)]=.ok (.int ((due:Nat):Int)):=λs hm h=>(p_all 8 s (by omega) (gl s h) (by omega) (pw hm)).trans (by rw[h]);have a0:=al s0 hm0 hd0;show(xecs (Phi prog 11) prog.gls 1000 b_law [some (false,.scr ns),none,none,none,none,none,none,none]).val=_;refine dN 2 e1 (nS (cQ rfl e2) (nS (cQ rfl a0) ?_));obtain⟨n,hn,en⟩:∃n:Nat,n<=3/\1+cellV ns 1/3%3=(n:Nat):=⟨(1+cellV ns 1/3%3).toNat,by omega,by omega⟩
 refine wF (m:=n) (by simp only[ev,evs,frz,frz1,leaks,leakss,rdR,rdV,isOwn,frsh,Zf,Zi,Zj,Zk,Zo,Zq,w6,gV,Zs,Zu,ZA,c1,d3,md,en];exact bC (by omega)) (λ_ δ=>∃(Q:List (List Int))(m g:Nat)(c5 c6:Slot),δ=[some (false,.scr ns),some (false,.int (p:Nat)),some (false,.int (room:Nat)),some (false,shD Q (g:Int)),some (false,.int (due:Nat)),c5,c6,none]/\Sheet Q m/\m<=room/\numV Q=Q/\cntV p (2*m) Q*p^g=due) ⟨Q0,m0,g0,_,_,rfl,s0,hm0,n0,hd0⟩ ?_ ?_
 ·rintro i hi δ ⟨Q,m,g,c5,c6,rfl,s,hm,hq,hd⟩
  obtain⟨_,e3,Q',m',g',rfl,s',hm',hq',hd'⟩:=p_deed 7 s hq hm (by omega) (pickV ns (10+i)) (g:=g);have e3:Phi prog 11 37 [shD Q (g:Int),.int (pickV ns (10+i)),.int (room:Nat)]=_:=e3;have hd':=(hd' p hp).trans hd;have a1:=al s' hm' hd';have e4:Phi prog 11 31 [shD Q' (g':Int)]=_:=p_good 9 s' hq' (by omega);have e5:Phi prog 11 27 [.scr ns,.int (10+(i:Nat))]=_:=pJ 9 ns (10+i);obtain⟨b,e6⟩:=wZ Q' Q g' g;refine⟨_,?_,Q',m',g',some (false,.int (i:Nat)),some (false,shD Q' g'),rfl,s',hm',hq',hd'⟩;generalize shD Q (g:Int)=S at*;generalize shD Q' (g':Int)=S' at*;generalize ((i:Nat):Int)=I at*;refine lf1 (jB (cQ (v:=S') rfl ?_) (jB (hV (t:=false) ?_ rfl) (jB (hV (t:=false) ?_ rfl) rfl)))
  ·simp only[ev,evs,rdR,rdV,Zf,Zi,Zj,Zk,Zl,xD,w6,gV,ZA,e5,e3]
  ·simp only[evT,ev,evs,frz,frz1,leaksT,leaks,leakss,rdR,rdV,Za,isOwn,frsh,Zf,Zi,Zj,Zk,Zl,Zq,w6,gV,Zu,Zv,e4]
  ·cases b<;>simp only[evT,ev,evs,frz,frz1,leaksT,leaks,leakss,rdR,rdV,Za,isOwn,frsh,Zf,Zi,Zj,Zk,Zl,Zo,Zp,Zq,xD,w6,gV,Zu,Zv,ZH,e6,a1,zV]
 ·rintro δ ⟨Q,m,g,c5,c6,rfl,s,hm,hq,hd⟩
  have e7:Phi prog 11 0 [shD Q (g:Nat),.int (p:Nat)]=_:=lV 8 (by rw[s.len]) (by rw[s.len];omega) s.in4 (gl s hd) (nO _ _) (by omega) (ce s).1;rw[←Int.natCast_pow,Nat.pow_add,←(ce s).2,hd] at e7;have wh:∀x,Phi prog 11 30 [.int x]=.ok (.bl true):=qV 10;generalize shD Q (g:Nat)=S at*;simp only[b_law,y8,zP,xecs,xec,ev,evs,frz,frz1,leaks,leakss,rdR,rdV,Zc,asB,isOwn,frsh,Zf,Zi,Zj,Zk,Zl,Zo,Zp,Zq,xD,w6,gV,Zu,ZG,e7,wh,zV];rfl
end L
theorem PySem.Challenge.cw_cordbook_k15_whole_moves_keep_colours_holds : PySem.Challenge.rw_cordbook_k15_whole_moves_keep_colours.Holds :=
 L.beg fun hn hd hY hf => L2.Snd.walk_law (l := PySem.Challenge.rw_cordbook_k15_whole_moves_keep_colours) (Pg := L.prog) (f := L.lawId) (j := L.depth) L.law_true rfl hd hY (fun _ _ _ _ _ _ KX Tp hmg => L.all_mk KX Tp (hn ▸ hmg) (hf _) L.depth) (by decide)
