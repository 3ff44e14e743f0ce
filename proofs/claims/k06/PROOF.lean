import PyProof.Rows.All
import Wide.All
import OpenK.AllK
import Wide.FinOn
import HandS.ForMost
import HandS.ClsMeth
import HandS.ExcInit
import KE.KOpsOwn
import HandS.SlotsOwn
import HandS.More
import HandS.IsInst
import HandS.Text
import HandS.Iter
import HandS.SetKeys
import HandS.Walk
import HandS.WordsExc
import HandS.TupAny
import HandS.RevRange
import HandS.DictComp
import HandS.SetBool
import HandS.Strs
import KE.DataAny
import HandS.SetFor
import HandS.Zip
import HandS.Wide
import KE.KExcIs
import HandS.Lambda
import HandS.RaiseMore
import HandS.ExcIs
import HandS.ExcField
import HandS.HotCalls
import PyProof.EqKinds
import HandS.Defaults
import PyProof.StrLawsRepr
import PyProof.ReprLen
import PyProof.InstNe
import PyProof.ReprRoads
import HandS.FStr
import PySem.Challenge.RW_layoutline_k06_whole_layouts
set_option Elab.async false
set_option linter.all false
set_option maxRecDepth 100000
set_option maxHeartbeats 1000000
/-! C.m(e, ..): a def of a class called by the class, as Base.__init__(self, ..). -/
namespace Two
open PySem PySem.Spec PyProof.Rows L2 ClX
/-- the def at g stands at C.m -/
structure CFn (K : PySem.W.Frag) (C : Addr) (mc : Value) (m : Str) (g : Addr) : Prop where
  at_ : PySem.W.findCls K (.ref C) mc m = some (.val (.ref g))
  keep : PySem.W.keepIn K (.ref g) = true
def tCFn (C : Addr) (sp : Sp) (dvs : List V) (E : XK) (ta : TE) (t : TA) : TE := fun σ H Q => ta σ H fun x H1 => x = .ref C ∧ t σ H1 fun vs H2 => sp (vs ++ dvs) H2 Q E
section
variable {X : Cx} {CX : CXT} {k : Nat} {C g : Addr} {mc : Value} {fd : FuncData} {ps : List Str} {sp : Sp} {E : XK} {o e : Expr} {es : List Expr} {m : Str} {pos apos : Pos} {ta : TE} {t : TA} {pl : Sem Bool} {ds : List Value} {dvs : List V}
theorem pe_cfn (he : PE X o ta) (r : CRead X.K C mc) (c : CFn X.K C mc m g) (F : FnOk X.prog X.w X.K X.mg X.base CX k g fd ps sp) (hr : Room k X.A) (hb : Binds X.K fd ps ds) (hd : Vals dvs ds) (hx : Passes CX X E) (ha : PA X (e :: es) t)
    (hst : starEach (e :: es) X.env = (false, eval e X.env) :: starEach es X.env := by rfl) (hpl : (backTo pos (starEach es X.env)).any (·.1) = false := by rfl)
    (ht : eval (.Call (.Attribute o m apos) (e :: es) [] pos) X.env = (do
      let ov ← eval o X.env
      standAt apos.atName
      let (f, first) ← holding [ov] (getMethod ov m pl)
      callWith pos f first (backTo pos (starEach (e :: es) X.env)) (backToKw pos (keywordEach [] X.env))) := by rfl) :
    PE X (.Call (.Attribute o m apos) (e :: es) [] pos) (tCFn C sp dvs E ta t) := by
  refine ⟨fun pins s σ H Q I h => ?_⟩
  refine PySem.W.methodCall_KW (pl := pl) (thn (he.run pins s σ H _ I h) fun u s1 ⟨x, H1, I1, rx, ex, q⟩ => ?_) ht
  subst ex
  obtain rfl : u = Value.ref C := rx
  refine PySem.W.method_cls I1.kIn r.ga (PySem.W.cls_value I1.kIn r.rd c.at_ rfl ?_)
  refine PySem.W.callWith_K (h₀ := X.base) I1.ok.mod.kin c.keep (thn (ha.run pos pins _ σ H1 _ (I1.tok _) q) fun us s3 ⟨vs, H2, I3, rv, q2⟩ => ⟨I3.kIn, ?_⟩) hst hpl
  exact run_fn F hr hb hd hx I3 rv q2
end
end Two

set_option Elab.async false
set_option linter.all false
set_option maxRecDepth 100000
set_option maxHeartbeats 1000000
/-! Operators of an own class with slots: len(x), x[i], y in x, x + list. -/
namespace Two
open PySem PySem.Spec PyProof.Rows L2 SlX
section
variable {X : Cx} {CX : CXT} {C g : Addr} {n : Nat} {sp : Sp} {E : XK}
/-- len(x) -/
def rLenSl (C : Addr) (sp : Sp) (E : XK) : List V → Hp → VK → Prop := fun xs H Q => ∃ a dx vs, xs = [V.ref a] ∧ Slt H a C dx vs ∧ sp [.ref a] H (fun z H' => ∃ m : Nat, z = .int m ∧ m < 2 ^ 62 ∧ Q (.int m) H') E
theorem call_lenSl (hs : PySem.W.findIn X.K (.ref C) "__len__" = some (some (.ref g))) (hf : PySem.W.isFn X.K (.ref g) = true) (F : FnR X.prog X.w X.K X.mg X.base CX n g sp) (hr : Room (n + 1) X.A) (hx : Passes CX X E) : CallR X (.builtin "len") (rLenSl C sp E) := by
  intro pins s σ H xs us Q I r h
  obtain ⟨a, dx, vs, rfl, hsl, q⟩ := h
  obtain ⟨u, rfl, ru⟩ := r.one
  cases (show u = Value.ref a from ru)
  obtain ⟨sl, od, _, J, _⟩ := slt_inst I hsl
  obtain ⟨mF, hF⟩ := I.fr
  refine PySem.W.len_K hF I.ok.mod.kin J hs hf (wpAny_mono (wpAny_call (run_at (us := [.ref a]) (ws := [.ref a]) F (show Room n X.A.in1 from Room.in1 hr) I.env0.in1 hx I (.cons rfl .nil) q)) (fun w s' z => ?_) fun _ _ x => x)
  obtain ⟨z', H', I', rz, m, ez, hm, qz⟩ := z
  subst ez
  obtain ⟨t, e⟩ := (show ∃ t, w = Value.int m t from rz)
  cases e
  exact ⟨⟨by omega, by omega⟩, .int m, H', I'.tok _, ⟨_, rfl⟩, qz⟩
/-- y in x -/
def rInSl (C : Addr) (sp : Sp) (E : XK) : R2 := fun y x H Q => ∃ a dx vs, x = .ref a ∧ Slt H a C dx vs ∧ sp [x, y] H (fun z H' => ∃ b, z = .bl b ∧ Q (.bl b) H') E
theorem op_inSl (hs : PySem.W.findIn X.K (.ref C) "__contains__" = some (some (.ref g))) (hf : PySem.W.isFn X.K (.ref g) = true) (F : FnR X.prog X.w X.K X.mg X.base CX n g sp) (hr : Room n X.A) (hx : Passes CX X E) : OpR X (compareOp .In) (rInSl C sp E) := by
  intro pins s σ H y x v u Q I ry rx h
  obtain ⟨a, dx, vs, rfl, hsl, q⟩ := h
  cases (show u = Value.ref a from rx)
  obtain ⟨sl, od, _, J, _⟩ := slt_inst I hsl
  obtain ⟨mF, hF⟩ := I.fr
  refine PySem.W.in_K hF I.ok.mod.kin J hs hf (wpAny_mono (wpAny_call (run_fnR (us := [.ref a, v]) (vs := [.ref a, y]) F hr hx I (.cons rfl (.cons ry .nil)) q)) (fun w s' z => ?_) fun _ _ x => x)
  obtain ⟨z', H', I', rz, b, ez, qz⟩ := z
  subst ez
  cases (show w = Value.bool b from rz)
  exact wpAny_truthy_bool ⟨.bl b, H', I', rfl, qz⟩
theorem op_notinSl (hs : PySem.W.findIn X.K (.ref C) "__contains__" = some (some (.ref g))) (hf : PySem.W.isFn X.K (.ref g) = true) (F : FnR X.prog X.w X.K X.mg X.base CX n g sp) (hr : Room n X.A) (hx : Passes CX X E) :
    OpR X (compareOp .NotIn) (fun y x H Q => ∃ a dx vs, x = .ref a ∧ Slt H a C dx vs ∧ sp [x, y] H (fun z H' => ∃ b, z = .bl b ∧ Q (.bl !b) H') E) := by
  intro pins s σ H y x v u Q I ry rx h
  obtain ⟨a, dx, vs, rfl, hsl, q⟩ := h
  cases (show u = Value.ref a from rx)
  obtain ⟨sl, od, _, J, _⟩ := slt_inst I hsl
  obtain ⟨mF, hF⟩ := I.fr
  refine PySem.W.notIn_K hF I.ok.mod.kin J hs hf (wpAny_mono (wpAny_call (run_fnR (us := [.ref a, v]) (vs := [.ref a, y]) F hr hx I (.cons rfl (.cons ry .nil)) q)) (fun w s' z => ?_) fun _ _ x => x)
  obtain ⟨z', H', I', rz, b, ez, qz⟩ := z
  subst ez
  cases (show w = Value.bool b from rz)
  exact wpAny_truthy_bool ⟨.bl !b, H', I', rfl, qz⟩
/-- x[i] -/
def PlainSub (b : Expr) : Prop := ∀ o i, subscripted b true o i = runValue (.builtin "lifetime.subscript" ⟨[o, i], []⟩)
theorem pe_subSl {a b : Expr} {ta tb : TE} {pos : Pos} (ha : PE X a ta) (hb : PE X b tb) (hp : PlainSub b) (hs : PySem.W.findIn X.K (.ref C) "__getitem__" = some (some (.ref g))) (hfn : PySem.W.fnIn X.K g = true) (hf : PySem.W.isFn X.K (.ref g) = true)
    (F : FnR X.prog X.w X.K X.mg X.base CX n g sp) (hr : Room (n + 1) X.A) (hx : Passes CX X E) : PE X (.Subscript a b pos) (tOp (fun x i H Q => ∃ a dx vs, x = .ref a ∧ Slt H a C dx vs ∧ sp [x, i] H Q E) ta tb) := by
  refine ⟨fun pins s σ H Q I h => Subscript_ (binT ha hb I h fun v u s2 x y H2 I2 rx ry q => ?_)⟩
  obtain ⟨a, dx, vs, rfl, hsl, q⟩ := q
  cases (show v = Value.ref a from rx)
  obtain ⟨sl, od, _, J, _⟩ := slt_inst I2 hsl
  obtain ⟨mF, hF⟩ := I2.fr
  exact PySem.W.sub_K hF I2.ok.mod.kin J hs hfn hf (wpAny_mono (wpAny_call (run_at (us := [.ref a, u]) (ws := [.ref a, y]) F (show Room n X.A.in1 from Room.in1 hr) I2.env0.in1 hx I2 (.cons rfl (.cons ry .nil)) q)) (fun w s' z => z) fun _ _ x => x) (hp _ _)
end
end Two

set_option Elab.async false
set_option linter.all false
set_option maxRecDepth 100000
set_option maxHeartbeats 1000000
/-! x + list, x == y of any y. -/
namespace PySem.W
open PySem PySem.Spec PySem.Calls PyProof.Rows
section
variable {prog : Program} {w : World} {A : Around} {E : Value → Shared → Prop} {s : Shared} {K : Frag} {x C L f : Addr} {h0 : Heap} {m : Str → Option Value} {ox : Obj} {od : Option Obj}
/-- an own instance and a thing of a built-in type that the operator does not know -/
theorem bin_other {op : Operator} {b : Value} {T : String} {fo ro : Option Value} {Q : Value → Shared → Prop} (F : Fr h0 L s.heap m) (X0 : K.In h0) (I : InstAt s.heap x ox C od)
    (hb : ∀ h, (∀ b o, s.heap.get? b = some o → h.get? b = some o) → Looks (model prog w) h (typeOf b) (.type T)) (hc : selfFirst K C = true)
    (hs : findIn K (.ref C) (PySem.dunder op.info.2) = some (some (.ref f))) (hf : isFn K (.ref f) = true)
    (h1 : findIn K (.type T) (PySem.dunder op.info.2) = some fo) (h2 : findIn K (.type T) (dunderR op.info.2) = some ro) (no : ((fo.isSome && !isSeqSlot fo) || (ro.isSome && !isSeqSlot ro)) = false)
    (h : wpAny (model prog w) A (call (.ref f) [.ref x, b]) (CmpBack Q) E s) : wpAny (model prog w) A (binaryOp op (.ref x) b) Q E s := by
  have X := X0.keeps F.keep
  obtain ⟨cd, rest, hcd, hm⟩ := ksp_first hc
  rcases hi : op.info with ⟨sym, nm⟩
  simp only [hi] at hs h1 h2
  have one := ksp_try X I hs hf h
  have lb := hb s.heap (fun _ _ e => e)
  obtain ⟨hh, g, d, tt, os⟩ := s
  have a1 := I.type (M := model prog w)
  have a3 := fills_K (M := model prog w) X hcd hm hs
  have a4 := ksp_fillsT (M := model prog w) X h1 h2
  rw [no] at a4
  have ne : (Value.ref C == Value.type T) = false := Bool.eq_false_iff.mpr fun q => nomatch beq_iff_eq.mp q
  simp only [binaryOp, hi]
  refine wpAny_holding (wpAny_bind ?_)
  unfold binaryOp1
  refine wpAny_bind (a1.at (wpAny_bind (lb.at (wpAny_bind (a3.at ?_)))))
  simp only [ne, if_neg Bool.false_ne_true]
  ksp_lk
  refine wpAny_mono one (fun r s2 ⟨v, e, hq⟩ => ?_) fun _ _ e => e
  subst e
  ksp_lk
  exact hq
end
end PySem.W
namespace Two
open PySem PySem.Spec PyProof.Rows L2 SlX
section
variable {X : Cx} {CX : CXT} {C g : Addr} {n : Nat} {sp : Sp} {E : XK}
/-- x op y, y of any kind whose type is no class below C -/
def rCmpSl (K : PySem.W.Frag) (C : Addr) (sp : Sp) (E : XK) : R2 := fun x y H Q => ∃ a dx vs t, x = .ref a ∧ Slt H a C dx vs ∧ TyX K H y t ∧ PySem.W.notFirst K C t = true ∧ sp [x, y] H Q E
theorem op_cmpSl {op : CmpOp} (hop : ∀ a b, compareOp op a b = richCompare op a b) (hs : PySem.W.findIn X.K (.ref C) (cmpInfo op).2.1 = some (some (.ref g))) (hf : PySem.W.isFn X.K (.ref g) = true) (F : FnR X.prog X.w X.K X.mg X.base CX n g sp)
    (hr : Room n X.A) (hx : Passes CX X E) : OpR X (compareOp op) (rCmpSl X.K C sp E) := by
  intro pins s σ H x y v u Q I rx ry h
  obtain ⟨a, dx, vs, t, rfl, ha, ty, hn, q⟩ := h
  cases (show v = Value.ref a from rx)
  obtain ⟨sl, od, _, J, _⟩ := slt_inst I ha
  obtain ⟨mF, hF⟩ := I.fr
  obtain ⟨Pk, kx, pk, _⟩ := kit_of I ry ty
  rw [hop]
  refine PySem.W.cmp_K (op := op) (tb := t) hr.units0 hF I.ok.mod.kin J (kx.ty _ _ I.kIn pk) hn hs hf ?_
  refine wpAny_mono (wpAny_call (run_fnR (us := [.ref a, u]) (vs := [.ref a, y]) F hr hx I (.cons rfl (.cons ry .nil)) q)) (fun w s' z => ?_) fun _ _ x => x
  obtain ⟨z', H', I', rz, qz⟩ := z
  exact cmpback rz ⟨z', H', I', rz, qz⟩
/-- x + l, l a list -/
def rAddSl (C : Addr) (sp : Sp) (E : XK) : R2 := fun x y H Q => ∃ a dx vs l xs, x = .ref a ∧ Slt H a C dx vs ∧ y = .ref l ∧ H l = some (.lst xs) ∧ sp [x, y] H Q E
theorem op_addSl (hc : PySem.W.selfFirst X.K C = true) (hs : PySem.W.findIn X.K (.ref C) "__add__" = some (some (.ref g))) (hf : PySem.W.isFn X.K (.ref g) = true) {fo ro : Option Value} (h1 : PySem.W.findIn X.K (.type "list") "__add__" = some fo) (h2 : PySem.W.findIn X.K (.type "list") "__radd__" = some ro)
    (no : ((fo.isSome && !isSeqSlot fo) || (ro.isSome && !isSeqSlot ro)) = false) (F : FnR X.prog X.w X.K X.mg X.base CX n g sp) (hr : Room n X.A) (hx : Passes CX X E) : OpR X (binaryOp .Add) (rAddSl C sp E) := by
  intro pins s σ H x y v u Q I rx ry h
  obtain ⟨a, dx, vs, l, xs, rfl, ha, rfl, hl, q⟩ := h
  cases (show v = Value.ref a from rx)
  cases (show u = Value.ref l from ry)
  obtain ⟨sl, od, _, J, _⟩ := slt_inst I ha
  obtain ⟨mF, hF⟩ := I.fr
  obtain ⟨Pk, kx, pk, _⟩ := kit_of I ry (.base (.lst hl) : TyX X.K H (.ref l) (.type "list"))
  refine PySem.W.bin_other (op := .Add) (T := "list") hF I.ok.mod.kin J (fun h k => (kx.ty _ _ I.kIn pk).keeps k) hc hs hf h1 h2 no ?_
  refine wpAny_mono (wpAny_call (run_fnR (us := [.ref a, .ref l]) (vs := [.ref a, .ref l]) F hr hx I (.cons rfl (.cons rfl .nil)) q)) (fun w s' z => ?_) fun _ _ x => x
  obtain ⟨z', H', I', rz, qz⟩ := z
  exact cmpback rz ⟨z', H', I', rz, qz⟩
end
end Two

set_option Elab.async false
set_option linter.all false
set_option maxRecDepth 100000
set_option maxHeartbeats 1000000
namespace Pr
open PySem L2 Two ClX
/-! ### the text by places -/
def top (i : Nat) : Stmt := PySem.Challenge.pw_layoutline_k06_whole_layouts.main.body.getD i (.Pass ⟨0, 0, 0, 0⟩)
abbrev sIsInt : Stmt := top 21
abbrev sIsName : Stmt := top 22
abbrev sCkName : Stmt := top 25
abbrev sCkNames : Stmt := top 26
abbrev sUnlike : Stmt := top 27
abbrev sCkMore : Stmt := top 28
abbrev cLayout : Stmt := top 30
/-- what the module's names hold -/
structure Txt (mg : Str → Option Value) : Prop where
  isinstance : mg "isinstance" = none
  int : mg "int" = none
  bool : mg "bool" = none
  str : mg "str" = none
  list : mg "list" = none
  tuple : mg "tuple" = none
  set : mg "set" = none
  len : mg "len" = none
  all : mg "all" = none
  range : mg "range" = none
  reversed : mg "reversed" = none
  min : mg "min" = none
  longest : ∃ t, mg "LONGEST_NAME" = some (.int 8 t)
  fields : ∃ t, mg "MOST_FIELDS" = some (.int 6 t)
/-! ### words about heaps -/
theorem tyx_list {K : PySem.W.Frag} {H : Hp} {a : Addr} {xs : List V} (h : SqL K H a xs) : TyX K H (.ref a) (.type "list") := by
  rcases h with (h | ⟨o, h⟩) | ⟨o, its, n, h, c, _⟩
  · exact .base (.lst h)
  · exact .base (.frz h)
  · exact .kList h c
theorem same_upd {H H' : Hp} {p : Addr} {o : HO} (s : Same H H') (n : H p = none) : Same H (upd H' p o) := fun b u e => by
  rw [upd_ne (ne_of_none e n)]
  exact s b u e
theorem same_new {H : Hp} {p : Addr} {o : HO} (n : H p = none) : Same H (upd H p o) := same_upd (Same.refl H) n
theorem none_of_same {H H' : Hp} (s : Same H H') {p : Addr} (n : H' p = none) : H p = none := s.free n
theorem ad {H G : Hp} {p : Addr} {o : HO} (s : Same H G) (n : G p = none) : Same H (upd G p o) := s.trans (same_new n)
theorem app {H : Hp} {p q : Addr} {o u : HO} (h : H q = some u) (n : H p = none) : (upd H p o) q = some u := by rw [upd_ne (ne_of_none h n)]; exact h
theorem get_map {α β : Type} {f : α → β} {l : List α} {i : Nat} {y : β} (h : (l.map f)[i]? = some y) : ∃ x, l[i]? = some x ∧ y = f x := by
  rw [List.getElem?_map] at h
  obtain ⟨x, h1, h2⟩ := Option.map_eq_some_iff.mp h
  exact ⟨x, h1, h2.symm⟩
theorem take_snoc {α : Type} {l : List α} {i : Nat} {x : α} (h : l[i]? = some x) : l.take (i + 1) = l.take i ++ [x] := by
  rw [List.take_succ, h]; rfl
theorem ite_true_of {c : Bool} {A B : Prop} (h : c = true) (a : A) : if c = true then A else B := by rw [if_pos h]; exact a
theorem ite_false_of {c : Bool} {A B : Prop} (h : c = false) (b : B) : if c = true then A else B := by rw [h]; exact b
theorem ite_neg_of {c : Bool} {A B : Prop} (h : c = true) (b : B) : if (!c) = true then A else B := by rw [h]; exact b
theorem ite_pos_of {c : Bool} {A B : Prop} (h : c = false) (a : A) : if (!c) = true then A else B := by rw [h]; exact a
/-! ### what a name is -/
def isLetter (c : Nat) : Bool := decide (97 ≤ c) && decide (c ≤ 122)
def isName (z : Str) : Bool := decide (1 ≤ z.length) && decide (z.length ≤ 8) && z.cps.toList.all isLetter
theorem le_a (c : Nat) : (!decide ((⟨#[c]⟩ : Str).cps.toList < ("a" : Str).cps.toList)) = decide (97 ≤ c) := by
  have e : ("a" : Str).cps.toList = [97] := by decide +kernel
  rw [e]
  show (!decide ([c] < [97])) = _
  by_cases h : c < 97
  · have : [c] < [97] := List.Lex.rel h
    rw [decide_eq_true this, decide_eq_false (by omega)]; rfl
  · have : ¬ [c] < [97] := fun q => by
      cases q with
      | rel q => exact h q
      | cons q => cases q
    rw [decide_eq_false this, decide_eq_true (by omega)]; rfl
theorem le_z (c : Nat) : (!decide (("z" : Str).cps.toList < (⟨#[c]⟩ : Str).cps.toList)) = decide (c ≤ 122) := by
  have e : ("z" : Str).cps.toList = [122] := by decide +kernel
  rw [e]
  show (!decide ([122] < [c])) = _
  by_cases h : 122 < c
  · have : [122] < [c] := List.Lex.rel h
    rw [decide_eq_true this, decide_eq_false (by omega)]; rfl
  · have : ¬ [122] < [c] := fun q => by
      cases q with
      | rel q => exact h q
      | cons q => cases q
    rw [decide_eq_false this, decide_eq_true (by omega)]; rfl
theorem all_bl (l : List Nat) : (l.map isLetter).all id = l.all isLetter := by rw [List.all_map]; rfl
theorem scIsName : FnScope ["thing", "letter"] ["thing"] (defScope sIsName) := ⟨rfl, rfl, rfl, by decide +kernel, rfl, by decide +kernel, by decide +kernel⟩
/-- x is of a type that is no str -/
def NotStr (K : PySem.W.Frag) (H : Hp) (x : V) : Prop := ∃ t, TyX K H x t ∧ PySem.W.kitOne K t (.type "str") = some false
def spIsName (K : PySem.W.Frag) : Sp := fun vs H Q _ => ∃ x, vs = [x] ∧ ((NotStr K H x ∧ Q (.bl false) H) ∨ ∃ z : Str, x = .str z ∧ z.length ≤ sizeLine ∧ ∀ H', Same H H' → Q (.bl (isName z)) H')
section
variable {P : Program} {w : World} {K : PySem.W.Frag} {mg : Str → Option Value} {base : Heap}
theorem ok_isName {f : Addr} {fd : FuncData} (F : Fun K "is_name" "is_name" sIsName f fd) (T : Txt mg) : FnOk P w K mg base CX0 1 f fd ["thing"] (spIsName K) := by
  refine F.ok scIsName (fun vs H Q E h => ?_) (fun cdv A outer s H vs Q E hr h => ?_)
  · obtain ⟨x, rfl, _⟩ := h
    rfl
  · obtain ⟨x, rfl, h⟩ := h
    obtain ⟨tl, hl⟩ := T.longest
    refine ⟨_, pss_cons (ps_if (PW.pt (pw_or (pt_not (pt_val (pe_callB call_isi (by rfl) T.isinstance (by decide +kernel) (pa_cons (pv 0) (pa_cons (pe_bltn (v := .ty "str") (by rfl) T.str (by decide +kernel) rfl) pa_nil)))))
        (pw_or1 (pt_not (pt_chain op_le op_le pe_int (pe_callB call_len_str (by rfl) T.len PySem.boot_len (pa_cons (pv 0) pa_nil)) (pe_glob (v := .int 8) rfl hl ⟨_, rfl⟩)))))) (pss_one (ps_ret pe_bl)) pss_nil)
      (pss_one (ps_ret (pe_callB (cr_all rfl) (by rfl) T.all (by decide +kernel) (pa_cons (pe_lc (own := [("letter", 1)]) (g := gName 1) (tt := tYes) rfl scIsName.nd (pi_str (pv 0)) (blkOk_by (N := ["thing", "letter"]) (sc := defScope sIsName) (by decide +kernel))
        (fun _ _ _ _ _ => pg_name (i := 1) scIsName.nd rfl (Or.inl rfl)) (fun _ _ _ _ _ => pts_nil) (fun _ _ _ _ _ => pe_chain op_le_str op_le_str pe_str (pv 1) pe_str)) pa_nil)))), ?_⟩
    rcases h with ⟨⟨t, ty, kt⟩, q⟩ | ⟨z, rfl, hz, q⟩
    · exact ⟨_, rfl, x, .ty "str", t, .type "str", false, rfl, .ty _, ty, kt, false, rfl, iteT q⟩
    · refine ⟨_, rfl, _, .ty "str", .type "str", .type "str", true, rfl, .ty _, .base (.str z), kit_ty (by decide +kernel), true, rfl, iteF ?_⟩
      refine ⟨_, rfl, z, rfl, hz, _, _, rfl, rfl, _, rfl, ?_⟩
      have hlen : ∀ b, (decide (1 ≤ z.length) && decide (z.length ≤ 8)) = b → b = false → isName z = false := fun b e1 e2 => by
        unfold isName; rw [e1, e2]; rfl
      by_cases h1 : 1 ≤ z.length
      · refine ite_true_of (decide_eq_true (by exact_mod_cast h1)) ⟨_, _, rfl, rfl, _, rfl, ?_⟩
        by_cases h2 : z.length ≤ 8
        · refine ite_neg_of (decide_eq_true (by exact_mod_cast h2)) ?_
          have e1 : (decide (1 ≤ z.length) && decide (z.length ≤ 8)) = true := by rw [decide_eq_true h1, decide_eq_true h2]; rfl
          refine ⟨_, rfl, z, rfl, fun D hD => lc_it walk_str (fun j H' => Same H H' ∧ H' D = some (.lst ((z.cps.toList.take j).map fun c => V.bl (isLetter c)))) ⟨same_new hD, upd_same⟩ (fun _ _ _ _ => trivial) (fun j x H1 H2 hj p y => ?_) (fun H1 p => ?_)⟩
          · obtain ⟨rfl, c, hc, rfl⟩ := y
            refine ⟨rfl, ?_⟩
            unfold tYes
            simp only [if_true]
            have hc2 : z.cps.toList[j]? = some c := by rw [← hc]; simp
            have done : ∃ acc, H2 D = some (.lst acc) ∧ acc.length < sizeLine ∧ Same H (upd H2 D (.lst (acc ++ [.bl (isLetter c)]))) ∧ (upd H2 D (.lst (acc ++ [.bl (isLetter c)]))) D = some (.lst ((z.cps.toList.take (j + 1)).map fun c => V.bl (isLetter c))) := by
              refine ⟨_, p.2, ?_, same_upd p.1 hD, ?_⟩
              · refine small1000 ?_
                rw [List.length_map, List.length_take]
                have : z.cps.toList.length ≤ 8 := by rw [Array.length_toList]; exact h2
                omega
              · rw [upd_same, take_snoc hc2, List.map_append]; rfl
            refine ⟨_, rfl, _, _, rfl, rfl, _, rfl, ?_⟩
            rw [le_a]
            by_cases g1 : 97 ≤ c
            · refine ite_true_of (decide_eq_true g1) ⟨_, _, rfl, rfl, ?_⟩
              rw [le_z, show decide (c ≤ 122) = isLetter c from by unfold isLetter; rw [decide_eq_true g1]; rfl]
              exact done
            · refine ite_false_of (decide_eq_false g1) ?_
              rw [show V.bl false = V.bl (isLetter c) from by unfold isLetter; rw [decide_eq_false g1]; rfl]
              exact done
          · have e := p.2
            rw [show z.cps.toList.take z.cps.size = z.cps.toList from List.take_of_length_le (by rw [Array.length_toList]; exact Nat.le_refl _)] at e
            refine ⟨D, z.cps.toList.map isLetter, rfl, SqL.of (by rw [e, List.map_map]; rfl), ?_⟩
            have e2 := q _ p.1
            rw [show isName z = (z.cps.toList.map isLetter).all id from by unfold isName; rw [e1, all_bl]; rfl] at e2
            exact e2
        · refine ite_pos_of (decide_eq_false (by exact_mod_cast h2)) ?_
          have e := q H (Same.refl H)
          rw [hlen _ rfl (by rw [decide_eq_false h2, Bool.and_false])] at e
          exact e
      · refine ite_false_of (decide_eq_false (by exact_mod_cast h1)) ⟨_, rfl, iteT ?_⟩
        have e := q H (Same.refl H)
        rw [hlen _ rfl (by rw [decide_eq_false h1]; rfl)] at e
        exact e
end
end Pr

set_option Elab.async false
set_option linter.all false
set_option maxRecDepth 100000
set_option maxHeartbeats 1000000
/-! The errors' own __init__. -/
namespace Pr
open PySem L2 Two ClX
/-- the i-th statement of a class -/
def within (st : Stmt) (i : Nat) : Stmt := match st with
  | .ClassDef _ _ _ body _ _ _ _ _ _ _ => body.getD i (.Pass ⟨0, 0, 0, 0⟩)
  | _ => .Pass ⟨0, 0, 0, 0⟩
abbrev sLineInit : Stmt := within (top 1) 0
abbrev sDupInit : Stmt := within (top 8) 0
abbrev sManyInit : Stmt := within (top 9) 0
/-- what is left of an error that is being made: its dict has these -/
structure Made (H H' : Hp) (a C dx : Addr) (fs : List (Str × V)) : Prop where
  obj : H' a = some (exo a C (some dx))
  dict : H' dx = some (exd dx fs)
  new : H dx = none
  ne : dx ≠ a
  else_ : ∀ b, b ≠ a → b ≠ dx → H' b = H b
def spInit (K : PySem.W.Frag) (names : List Str) (fs : V → List (Str × V)) : Sp := fun vs H Q _ => ∃ (a C : Addr) (y : V), vs = [.ref a, y] ∧ OexC K C ∧ (∀ f ∈ names, PySem.W.findIn K (.ref C) f = some none) ∧ H a = some (exo a C none) ∧
  ∀ (H' : Hp) (dx : Addr), Made H H' a C dx (fs y) → Q .non H'
section
variable {P : Program} {w : World} {K : PySem.W.Frag} {mg : Str → Option Value} {base : Heap}
theorem scLineInit : FnScope ["self", "why"] ["self", "why"] (defScope sLineInit) := ⟨rfl, rfl, rfl, by decide +kernel, rfl, by decide +kernel, by decide +kernel⟩
theorem ok_lineInit {f : Addr} {fd : FuncData} (F : Fun K "__init__" "LineError.__init__" sLineInit f fd) : FnOk P w K mg base CX0 1 f fd ["self", "why"] (spInit K ["why"] fun y => [("why", y)]) := by
  refine F.ok scLineInit (fun vs H Q E h => ?_) (fun cdv A outer s H vs Q E hr h => ?_)
  · obtain ⟨a, C, y, rfl, _⟩ := h
    rfl
  · obtain ⟨a, C, y, rfl, T, hn, hH, k⟩ := h
    refine ⟨_, pss_one (ps_ost (pv 0) (pv 1)), ?_⟩
    refine ⟨_, rfl, _, rfl, a, C, rfl, T, hn _ List.mem_cons_self, .inl ⟨hH, fun dx hdx ne => k _ dx ⟨upd_same, by rw [upd_ne ne]; exact upd_same, hdx, ne, fun b h1 h2 => by rw [upd_ne h1, upd_ne h2]⟩⟩⟩
theorem ok_init1 {st : Stmt} {fld tag x qual : Str} {f cL : Addr} {fd : FuncData}
    (F : Fun K "__init__" qual st f fd) (S : FnScope ["self", x] ["self", x] (defScope st))
    (body : ∀ (cdv : Value) (A : Around) (outer : List Env) (s : Shared) (H : Hp) (E : XK), Room 1 (A.deeper (PyProof.Rows.envOfC qual (defScope st) s.heap.objs.size f cdv)) →
      PSs (cxOf CX0 P w K mg base ["self", x] qual (defScope st) f cdv A outer s H E).nox (defBody st) (tSeq (tDrop (tCFn cL (spInit K ["why"] fun y => [("why", y)]) [] E0 (tC (.ref cL)) (tCons (tVar 0) (tCons (tC (.str tag)) tNil)))) (tOst K fld (tVar 0) (tVar 1)))) :
    FnOk P w K mg base CX0 2 f fd ["self", x] (spInit K ["why", fld] fun y => [(fld, y), ("why", .str tag)]) := by
  refine F.ok S (fun vs H Q E h => ?_) (fun cdv A outer s H vs Q E hr h => ?_)
  · obtain ⟨a, C, y, rfl, _⟩ := h
    rfl
  · obtain ⟨a, C, y, rfl, T, hn, hH, k⟩ := h
    refine ⟨_, body cdv A outer s H E hr, ?_⟩
    refine ⟨rfl, _, rfl, a, C, .str tag, rfl, T, fun g hg => hn g (by rw [List.mem_singleton.mp hg]; exact List.mem_cons_self), hH, fun H' dx m => ?_⟩
    refine ⟨_, rfl, _, rfl, a, C, rfl, T, hn _ (List.mem_cons_of_mem _ List.mem_cons_self), .inr ⟨dx, _, m.obj, m.dict, by show 1 ≤ 900; decide, k _ dx ⟨by rw [upd_ne m.ne.symm]; exact m.obj, upd_same, m.new, m.ne, fun b h1 h2 => by rw [upd_ne h2]; exact m.else_ b h1 h2⟩⟩⟩
theorem scDupInit : FnScope ["self", "thing"] ["self", "thing"] (defScope sDupInit) := ⟨rfl, rfl, rfl, by decide +kernel, rfl, by decide +kernel, by decide +kernel⟩
theorem ok_dupInit {f fL cL : Addr} {fd dL : FuncData} {mc : Value} (F : Fun K "__init__" "Duplicate.__init__" sDupInit f fd) (gL : mg "LineError" = some (.ref cL)) (kL : PySem.W.keepIn K (.ref cL) = true) (r : CRead K cL mc) (c : CFn K cL mc "__init__" fL) (bL : Binds K dL ["self", "why"] [])
    (GL : FnOk P w K mg base CX0 1 fL dL ["self", "why"] (spInit K ["why"] fun y => [("why", y)])) : FnOk P w K mg base CX0 2 f fd ["self", "thing"] (spInit K ["why", "thing"] fun y => [("thing", y), ("why", .str "duplicate")]) :=
  ok_init1 (cL := cL) F scDupInit fun cdv A outer s H E hr => pss_cons (ps_expr (pe_cfn (pe_glob rfl gL rfl) r c GL hr bL .nil pass0 (pa_cons (pv 0) (pa_cons pe_str pa_nil)))) (pss_one (ps_ost (pv 0) (pv 1)))
theorem scManyInit : FnScope ["self", "limit"] ["self", "limit"] (defScope sManyInit) := ⟨rfl, rfl, rfl, by decide +kernel, rfl, by decide +kernel, by decide +kernel⟩
theorem ok_manyInit {f fL cL : Addr} {fd dL : FuncData} {mc : Value} (F : Fun K "__init__" "TooMany.__init__" sManyInit f fd) (gL : mg "LineError" = some (.ref cL)) (r : CRead K cL mc) (c : CFn K cL mc "__init__" fL) (bL : Binds K dL ["self", "why"] [])
    (GL : FnOk P w K mg base CX0 1 fL dL ["self", "why"] (spInit K ["why"] fun y => [("why", y)])) : FnOk P w K mg base CX0 2 f fd ["self", "limit"] (spInit K ["why", "limit"] fun y => [("limit", y), ("why", .str "too many")]) :=
  ok_init1 (cL := cL) F scManyInit fun cdv A outer s H E hr => pss_cons (ps_expr (pe_cfn (pe_glob rfl gL rfl) r c GL hr bL .nil pass0 (pa_cons (pv 0) (pa_cons pe_str pa_nil)))) (pss_one (ps_ost (pv 0) (pv 1)))
end
end Pr

set_option Elab.async false
set_option linter.all false
set_option maxRecDepth 100000
set_option maxHeartbeats 1000000
/-! check_unlike, raising too. -/
namespace Pr
open PySem L2 Two ClX
/-- what is known of an error's class with an __init__ of one field -/
structure ErrTxt (P : Program) (w : World) (K : PySem.W.Frag) (mg : Str → Option Value) (base : Heap) (x fld tag : Str) (C fI : Addr) (dI : FuncData) : Prop where
  gC : mg x = some (.ref C)
  T : OexC K C
  iC : PySem.W.findIn K (.ref C) "__init__" = some (some (.ref fI))
  tI : PySem.W.typeIn K (.ref fI) = some (.type "function")
  bI : Binds K dI ["self", fld] []
  GI : FnOk P w K mg base CX0 2 fI dI ["self", fld] (spInit K ["why", fld] fun y => [(fld, y), ("why", .str tag)])
  nw : PySem.W.findIn K (.ref C) "why" = some none
  nf : PySem.W.findIn K (.ref C) fld = some none
/-- the error that is raised -/
def Thrown (H : Hp) (E : XK) (C : Addr) (fs : List (Str × V)) : Prop := ∀ (d : Addr) (H' : Hp), Same H H' → H d = none → H' d = some (.xd fs) → E (.ref C) (some d) H'
structure BadTxt (P : Program) (w : World) (K : PySem.W.Frag) (mg : Str → Option Value) (base : Heap) (C fI : Addr) (dI : FuncData) : Prop where
  gC : mg "BadList" = some (.ref C)
  T : OexC K C
  iC : PySem.W.findIn K (.ref C) "__init__" = some (some (.ref fI))
  tI : PySem.W.typeIn K (.ref fI) = some (.type "function")
  bI : Binds K dI ["self", "why"] []
  GI : FnOk P w K mg base CX0 1 fI dI ["self", "why"] (spInit K ["why"] fun y => [("why", y)])
  nw : PySem.W.findIn K (.ref C) "why" = some none
section
variable {P : Program} {w : World} {K : PySem.W.Frag} {mg : Str → Option Value} {base : Heap}
/-- what the making of such an error asks -/
theorem mk_err {x fld tag : Str} {C fI : Addr} {dI : FuncData} {ta : TA} {σ : L2.St} {H : Hp} {E : XK} (T : ErrTxt P w K mg base x fld tag C fI dI) {y : V}
    (h : ta σ H fun vs H1 => vs = [y] ∧ Same H H1 ∧ Thrown H1 E C [(fld, y), ("why", .str tag)]) (mono : ∀ {A B : List V → Hp → Prop}, (∀ v G, A v G → B v G) → ta σ H A → ta σ H B) :
    tMkO C (spInit K ["why", fld] fun y => [(fld, y), ("why", .str tag)]) [] ta σ H E := by
  refine mono (fun vs H1 q => ?_) h
  obtain ⟨rfl, s, th⟩ := q
  refine ⟨by show 1 ≤ 1000; decide, fun a ha => ⟨a, C, y, rfl, T.T, fun f hf => ?_, upd_same, fun H' dx m => ⟨rfl, dx, _, m.obj, m.dict, ?_, ?_⟩⟩⟩
  · rcases List.mem_cons.mp hf with rfl | hf
    · exact T.nw
    · rw [List.mem_singleton.mp hf]; exact T.nf
  · have := m.new
    rw [upd_ne m.ne] at this
    exact this
  · have n0 : H1 dx = none := by
      have := m.new
      rw [upd_ne m.ne] at this
      exact this
    refine th dx _ (fun b o e => ?_) n0 upd_same
    have b1 : b ≠ a := fun q => by rw [q, ha] at e; cases e
    have b2 : b ≠ dx := fun q => by rw [q, n0] at e; cases e
    rw [upd_ne b2, del_ne b1, m.else_ b b1 b2, upd_ne b1]
    exact e
theorem mk_bad {C fI : Addr} {dI : FuncData} {ta : TA} {σ : L2.St} {H : Hp} {E : XK} (T : BadTxt P w K mg base C fI dI) {y : V}
    (h : ta σ H fun vs H1 => vs = [y] ∧ Same H H1 ∧ Thrown H1 E C [("why", y)]) (mono : ∀ {A B : List V → Hp → Prop}, (∀ v G, A v G → B v G) → ta σ H A → ta σ H B) :
    tMkO C (spInit K ["why"] fun y => [("why", y)]) [] ta σ H E := by
  refine mono (fun vs H1 q => ?_) h
  obtain ⟨rfl, s, th⟩ := q
  refine ⟨by show 1 ≤ 1000; decide, fun a ha => ⟨a, C, y, rfl, T.T, fun f hf => by rw [List.mem_singleton.mp hf]; exact T.nw, upd_same, fun H' dx m => ⟨rfl, dx, _, m.obj, m.dict, ?_, ?_⟩⟩⟩
  · have := m.new
    rw [upd_ne m.ne] at this
    exact this
  · have n0 : H1 dx = none := by
      have := m.new
      rw [upd_ne m.ne] at this
      exact this
    refine th dx _ (fun b o e => ?_) n0 upd_same
    have b1 : b ≠ a := fun q => by rw [q, ha] at e; cases e
    have b2 : b ≠ dx := fun q => by rw [q, n0] at e; cases e
    rw [upd_ne b2, del_ne b1, m.else_ b b1 b2, upd_ne b1]
    exact e
end
end Pr

set_option Elab.async false
set_option linter.all false
set_option maxRecDepth 100000
set_option maxHeartbeats 1000000
/-! check_name, check_names, check_unlike, check_more_fields. -/
namespace Pr
open PySem L2 Two ClX
/-- what a check of names may be shown -/
def ItemK (K : PySem.W.Frag) (H : Hp) (y : V) : Prop := (∃ z : Str, y = .str z ∧ z.length ≤ sizeLine) ∨ ∀ H', Same H H' → NotStr K H' y ∧ ∀ z, y ≠ .str z
def isNm : V → Bool
  | .str z => isName z
  | _ => false
theorem ItemK.keep {K : PySem.W.Frag} {H H' : Hp} {y : V} (i : ItemK K H y) (s : Same H H') : ItemK K H' y := i.imp id fun h G g => h G (s.trans g)
def spCkName (K : PySem.W.Frag) (CN : Addr) : Sp := fun vs H Q E => ∃ x, vs = [x] ∧ ItemK K H x ∧ (isNm x = true → ∀ H', Same H H' → Q .non H') ∧ (isNm x = false → ∀ H', Same H H' → Thrown H' E CN [("name", x), ("why", .str "name")])
theorem scCkName : FnScope ["name"] ["name"] (defScope sCkName) := ⟨rfl, rfl, rfl, by decide +kernel, rfl, by decide +kernel, by decide +kernel⟩
theorem isNm_not {y : V} (h : ∀ z, y ≠ .str z) : isNm y = false := by
  cases y with
  | str z => exact absurd rfl (h z)
  | _ => rfl
section
variable {P : Program} {w : World} {K : PySem.W.Frag} {mg : Str → Option Value} {base : Heap}
theorem ok_ckName {f fN CN fI : Addr} {fd fdN dI : FuncData} (F : Fun K "check_name" "check_name" sCkName f fd) (T : Txt mg) (TN : ErrTxt P w K mg base "BadName" "name" "name" CN fI dI)
    (gN : mg "is_name" = some (.ref fN)) (kN : PySem.W.keepIn K (.ref fN) = true) (bN : Binds K fdN ["thing"] []) (GN : FnOk P w K mg base CX0 1 fN fdN ["thing"] (spIsName K)) : FnOk P w K mg base (L2.CX P w) 4 f fd ["name"] (spCkName K CN) := by
  refine F.okX scCkName (fun vs H Q E h => ?_) (fun cdv A outer s H vs Q E hr h => ?_)
  · obtain ⟨x, rfl, _⟩ := h
    rfl
  · obtain ⟨x, rfl, it, ok, bad⟩ := h
    have hr1 : Room 1 _ := hr.mono (by decide)
    refine ⟨_, pss_one (ps_if (pt_not (pt_val (pe_call GN hr1 rfl gN kN bN .nil pass0 (pa_cons (pv 0) pa_nil)))) (pss_one (ps_raise rfl (takes_of rfl rfl rfl rfl) (pmk_oex TN.T TN.iC TN.tI TN.GI hr TN.bI .nil pass0 rfl TN.gC (pa_cons (pv 0) pa_nil)))) pss_nil), ?_⟩
    refine ⟨_, rfl, x, rfl, ?_⟩
    rcases it with ⟨z, rfl, hz⟩ | hn
    · refine .inr ⟨z, rfl, hz, fun H' s' => ⟨_, rfl, ?_⟩⟩
      cases e : isName z with
      | true => exact iteF (ok e _ s')
      | false =>
        refine iteT (mk_err (y := .str z) TN ⟨_, rfl, rfl, Same.refl _, bad e _ s'⟩ ?_)
        rintro A B imp ⟨x, hx, q⟩
        exact ⟨x, hx, imp _ _ q⟩
    · obtain ⟨ns, nz⟩ := hn H (Same.refl _)
      refine .inl ⟨ns, _, rfl, iteT (mk_err (y := x) TN ⟨_, rfl, rfl, Same.refl _, bad (isNm_not nz) _ (Same.refl _)⟩ ?_)⟩
      rintro A B imp ⟨x, hx, q⟩
      exact ⟨x, hx, imp _ _ q⟩
/-! ### check_names -/
def spCkNames (K : PySem.W.Frag) (CB CN : Addr) : Sp := fun vs H Q E => ∃ x, vs = [x] ∧ ((∃ t, TyX K H x t ∧ PySem.W.kitOne K t (.type "list") = some false ∧ Thrown H E CB [("why", .str "fields")]) ∨
  ∃ (a : Addr) (xs : List V), x = .ref a ∧ SqL K H a xs ∧ (∀ y ∈ xs, ItemK K H y) ∧ (xs.all isNm = true → ∀ H', Same H H' → Q .non H') ∧
    ∀ i y, xs[i]? = some y → (xs.take i).all isNm = true → isNm y = false → ∀ H', Same H H' → Thrown H' E CN [("name", y), ("why", .str "name")])
theorem scCkNames : FnScope ["fields", "name"] ["fields"] (defScope sCkNames) := ⟨rfl, rfl, rfl, by decide +kernel, rfl, by decide +kernel, by decide +kernel⟩
theorem ok_ckNames {f fN CN CB fI : Addr} {fd fdN dI : FuncData} (F : Fun K "check_names" "check_names" sCkNames f fd) (T : Txt mg) (TB : BadTxt P w K mg base CB fI dI)
    (gN : mg "check_name" = some (.ref fN)) (kN : PySem.W.keepIn K (.ref fN) = true) (bN : Binds K fdN ["name"] []) (GN : FnOk P w K mg base (L2.CX P w) 4 fN fdN ["name"] (spCkName K CN)) : FnOk P w K mg base (L2.CX P w) 5 f fd ["fields"] (spCkNames K CB CN) := by
  refine F.okX scCkNames (fun vs H Q E h => ?_) (fun cdv A outer s H vs Q E hr h => ?_)
  · obtain ⟨x, rfl, _⟩ := h
    rfl
  · obtain ⟨x, rfl, h⟩ := h
    refine ⟨_, pss_cons (ps_if (pt_not (pt_val (pe_callB call_isi (by rfl) T.isinstance (by decide +kernel) (pa_cons (pv 0) (pa_cons (pe_bltn (v := .ty "list") (by rfl) T.list (by decide +kernel) rfl) pa_nil)))))
        (pss_one (ps_raise rfl (takes_of rfl rfl rfl rfl) (pmk_oex TB.T TB.iC TB.tI TB.GI (hr.mono (by decide)) TB.bI .nil pass0 rfl TB.gC (pa_cons pe_str pa_nil)))) pss_nil)
      (pss_one (ps_for (passes_of rfl) rfl (pi_list (pv 0)) (pg_name (i := 1) scCkNames.nd rfl (Or.inl rfl))
        (pss_one (ps_expr (pe_callS GN hr rfl gN kN bN (fun σ => passAt (takes_of rfl rfl rfl rfl) σ) (pa_cons (pv 1) pa_nil)))))), ?_⟩
    rcases h with ⟨t, ty, kt, th⟩ | ⟨a, xs, rfl, hS, it, ok, bad⟩
    · refine ⟨_, rfl, x, .ty "list", t, .type "list", false, rfl, .ty _, ty, kt, false, rfl, iteT ?_⟩
      exact mk_bad (y := .str "fields") TB ⟨rfl, Same.refl _, th⟩ fun imp q => imp _ _ q
    · refine ⟨_, rfl, _, .ty "list", .type "list", .type "list", true, rfl, .ty _, tyx_list hS, kit_ty (by decide +kernel), true, rfl, iteF ?_⟩
      refine ⟨_, rfl, a, rfl, ⟨_, hS⟩, for_list (K := K) (a := a) (xs := xs) (fun i σ G => (∃ v : Option V, σ = [some (.ref a), v]) ∧ Same H G ∧ (xs.take i).all isNm = true) ⟨⟨_, rfl⟩, Same.refl _, rfl⟩ (fun i σ G _ p => p.2.1.seq hS) ?_ ?_⟩
      · rintro i y σ G hy ⟨⟨v, rfl⟩, s1, al⟩
        refine ⟨_, rfl, y, rfl, (it y (List.mem_of_getElem? hy)).keep s1, fun e H' s' => ⟨⟨_, rfl⟩, s1.trans s', ?_⟩, fun e H' s' => bad i y hy al e _ (s1.trans s')⟩
        rw [take_snoc hy, List.all_append, al]
        simpa using e
      · rintro σ G ⟨⟨v, rfl⟩, s1, al⟩
        rw [List.take_length] at al
        exact ok al _ s1
/-! ### check_unlike -/
def TwiceK (ks : List Key) (k : Key) : Prop := ∃ i, ks[i]? = some k ∧ k ∈ ks.take i ∧ (ks.take i).Nodup
def spCkUnlike (K : PySem.W.Frag) (CD : Addr) : Sp := fun vs H Q E => ∃ (a : Addr) (ks : List Key), vs = [.ref a] ∧ SqL K H a (ks.map kV) ∧ ks.length ≤ 1000 ∧ (ks.Nodup → ∀ H', Same H H' → Q .non H') ∧
  ∀ k, TwiceK ks k → ∀ H', Same H H' → Thrown H' E CD [("thing", kV k), ("why", .str "duplicate")]
theorem scUnlike : FnScope ["things", "seen", "thing"] ["things"] (defScope sUnlike) := ⟨rfl, rfl, rfl, by decide +kernel, rfl, by decide +kernel, by decide +kernel⟩
theorem ok_ckUnlike {f C fI : Addr} {fd dI : FuncData} (F : Fun K "check_unlike" "check_unlike" sUnlike f fd) (T : Txt mg) (TD : ErrTxt P w K mg base "Duplicate" "thing" "duplicate" C fI dI) : FnOk P w K mg base (L2.CX P w) 4 f fd ["things"] (spCkUnlike K C) := by
  refine F.okX scUnlike (fun vs H Q E h => ?_) (fun cdv A outer s H vs Q E hr h => ?_)
  · obtain ⟨a, ns, rfl, _⟩ := h
    rfl
  · obtain ⟨a, ks, rfl, hS, hl, k, th⟩ := h
    refine ⟨_, pss_cons (ps_set (i := 1) scUnlike.nd rfl (Or.inl rfl) (pe_callTy0 cr_set0K (by rfl) T.set (by decide +kernel)))
      (pss_one (ps_for (passes_of rfl) rfl (pi_list (pv 0)) (pg_name (i := 2) scUnlike.nd rfl (Or.inl rfl))
        (pss_cons (ps_if (pt_cmpR or_sinK (pv 2) (pv 1) (by rfl)) (pss_one (ps_raise rfl (takes_of rfl rfl rfl rfl) (pmk_oex TD.T TD.iC TD.tI TD.GI hr TD.bI .nil pass0 rfl TD.gC (pa_cons (pv 2) pa_nil)))) pss_nil) (pss_one (ps_expr (pe_saddK (pv 1) (pa_cons (pv 2) pa_nil))))))), ?_⟩
    refine ⟨rfl, fun p hp => ?_⟩
    refine ⟨_, rfl, a, rfl, ⟨_, (same_new hp).seq hS⟩, for_list (K := K) (a := a) (xs := ks.map kV) (fun i σ H' => ∃ (v : Option V) (S : Key → Bool) (n : Nat), σ = [some (.ref a), some (.ref p), v] ∧ Same H H' ∧ H' p = some (SetK P w p S n) ∧ n ≤ i ∧ (∀ z, S z = true ↔ z ∈ ks.take i) ∧ (ks.take i).Nodup)
      ⟨none, fun _ => false, 0, rfl, same_new hp, upd_same, Nat.le_refl _, (fun z => by simp), by simp⟩ (fun i σ H' _ ⟨_, _, _, _, s1, _⟩ => s1.seq hS) ?_ ?_⟩
    · rintro i y σ H' hi ⟨v, S, n, rfl, s1, hp1, hn, hz, nd⟩
      obtain ⟨z, hz1, rfl⟩ := get_map hi
      have hlt := (List.getElem?_eq_some_iff.mp hz1).1
      refine ⟨_, rfl, _, rfl, z, p, S, n, rfl, rfl, hp1, _, rfl, ?_⟩
      cases e : S z with
      | true =>
        refine iteT (mk_err (y := kV z) TD ⟨_, rfl, rfl, Same.refl _, th z ⟨i, hz1, (hz z).mp e, nd⟩ H' s1⟩ ?_)
        rintro A B imp ⟨x, hx, q⟩
        exact ⟨x, hx, imp _ _ q⟩
      | false =>
        refine iteF ?_
        refine ⟨_, rfl, ⟨p, S, n, rfl, hp1⟩, _, rfl, p, z, S, n, rfl, rfl, hp1, by unfold scanBound; omega, ?_⟩
        have zn : z ∉ ks.take i := fun m => by rw [(hz z).mpr m] at e; cases e
        refine ⟨_, _, _, rfl, same_upd s1 hp, upd_same, by rw [e]; simp; omega, fun z2 => ?_, ?_⟩
        · rw [take_snoc hz1, Bool.or_eq_true_iff, hz z2, List.mem_append, List.mem_singleton, decide_eq_true_iff]
        · rw [take_snoc hz1]
          exact List.nodup_append.mpr ⟨nd, by simp, fun x hx y hy => by rw [List.mem_singleton.mp hy]; rintro rfl; exact zn hx⟩
    · rintro σ H' ⟨v, S, n, rfl, s1, _, _, _, nd⟩
      rw [List.length_map, List.take_length] at nd
      exact k nd _ s1
end
end Pr

set_option Elab.async false
set_option linter.all false
set_option maxRecDepth 100000
set_option maxHeartbeats 1000000
/-! Layout: made, its fields, its room. -/
namespace Pr
open PySem L2 Two ClX SlX
abbrev sMore : Stmt := sCkMore
abbrev mInit : Stmt := within cLayout 1
abbrev mFields : Stmt := within cLayout 2
abbrev mHas : Stmt := within cLayout 3
abbrev mWith : Stmt := within cLayout 4
abbrev mOff : Stmt := within cLayout 5
abbrev mFirst : Stmt := within cLayout 6
abbrev mLen : Stmt := within cLayout 7
abbrev mGet : Stmt := within cLayout 8
abbrev mIter : Stmt := within cLayout 9
abbrev mCont : Stmt := within cLayout 10
abbrev mAdd : Stmt := within cLayout 11
abbrev mLe : Stmt := within cLayout 12
abbrev mEq : Stmt := within cLayout 13
abbrev mRepr : Stmt := within cLayout 14
theorem slt_keep {H H' : Hp} {a C dx : Addr} {vs : List (Option V)} (s : Same H H') (h : Slt H a C dx vs) : Slt H' a C dx vs := h.imp (fun ⟨x, y⟩ => ⟨s _ _ x, y⟩) (fun ⟨x, y⟩ => ⟨s _ _ x, s _ _ y⟩)
theorem sqt_keep {K : PySem.W.Frag} {H H' : Hp} {a : Addr} {xs : List V} (s : Same H H') (h : SqT K H a xs) : SqT K H' a xs := by
  rcases h with (h | ⟨o, h⟩) | h
  · exact .inl (.inl (s _ _ h))
  · exact .inl (.inr ⟨o, s _ _ h⟩)
  · exact .inr h
theorem tyx_tup {K : PySem.W.Frag} {H : Hp} {a : Addr} {xs : List V} (h : H a = some (.tup xs)) : TyX K H (.ref a) (.type "tuple") := .base (.tup h)
/-- a is a layout -/
def IsLay (K : PySem.W.Frag) (C : Addr) (H : Hp) (a : Addr) (fs : List Str) (r : Bool) : Prop := ∃ dx t, Slt H a C dx [some (.ref t), some (.bl r)] ∧ H t = some (.tup (fs.map V.str)) ∧ ∀ z ∈ fs, isName z = true
theorem IsLay.keep {K : PySem.W.Frag} {C : Addr} {H H' : Hp} {a : Addr} {fs : List Str} {r : Bool} (h : IsLay K C H a fs r) (s : Same H H') : IsLay K C H' a fs r := let ⟨dx, t, h1, h2, h3⟩ := h; ⟨dx, t, slt_keep s h1, s _ _ h2, h3⟩
/-- the class -/
structure LayC (K : PySem.W.Frag) (mg : Str → Option Value) (C p0 p1 : Addr) : Prop where
  c : SCls K C
  s0 : Slot1 K C "_fields" p0 0
  s1 : Slot1 K C "_room" p1 1
  g : mg "Layout" = some (.ref C)
  si : SIsi K C
section
variable {P : Program} {w : World} {K : PySem.W.Frag} {mg : Str → Option Value} {base : Heap}
/-- a def with defaults -/
theorem okXD {x qual : Str} {st : Stmt} {f : Addr} {N ps : List Str} {k : Nat} {sp : Sp} {oc dV kV doc pm cdv ct : Value} {od an : Option Addr} {osl : Array (Option Value)}
    (lk : K.lookup f = some ⟨oc, od, .func (PySem.W.fnOf x qual (defArgs st) (defBody st) (defScope st) dV kV doc pm an cdv ct), osl⟩) (hcd : PySem.W.codeIn K cdv qual = true) (S : FnScope N ps (defScope st)) (len : ∀ vs H Q E, sp vs H Q E → vs.length = ps.length)
    (hbody : ∀ (A : Around) (outer : List Env) (s : Shared) (H : Hp) (vs : List V) (Q : VK) (E : XK), Room k (A.deeper (PyProof.Rows.envOfC qual (defScope st) s.heap.objs.size f cdv)) → sp vs H Q E →
      ∃ t, PSs (cxOf (L2.CX P w) P w K mg base N qual (defScope st) f cdv A outer s H E) (defBody st) t ∧ t { nx := fun _ H' => Q .non H', rt := Q } (start N vs) H) :
    FnOk P w K mg base (L2.CX P w) (k + 1) f (PySem.W.fnOf x qual (defArgs st) (defBody st) (defScope st) dV kV doc pm an cdv ct) ps sp :=
  fn_of lk hcd S len fun A outer s H vs Q E hr hsp => hbody A outer s H vs Q E hr hsp
theorem passE {X : Cx} {E : XK} (h : ∀ c d H, ¬ E c d H) : Passes (L2.CX X.prog X.w) X E := fun _ _ _ _ _ _ _ c => by
  obtain ⟨a, B, H', cls, d, _, _, _, _, _, _, _, e⟩ := c
  exact (h _ _ _ e).elim
theorem ckNames_mono {CB CN : Addr} {vs : List V} {H : Hp} {Q Q' : VK} {E : XK} (imp : ∀ v H', Q v H' → Q' v H') (h : spCkNames K CB CN vs H Q E) : spCkNames K CB CN vs H Q' E := by
  obtain ⟨x, e, h⟩ := h
  refine ⟨x, e, ?_⟩
  rcases h with h | ⟨a, xs, e2, hS, it, ok, bad⟩
  · exact .inl h
  · exact .inr ⟨a, xs, e2, hS, it, fun al H' s => imp _ _ (ok al H' s), bad⟩
theorem name_len {z : Str} (h : isName z = true) : z.length ≤ sizeLine := by
  unfold isName at h
  rw [Bool.and_eq_true, Bool.and_eq_true] at h
  exact Nat.le_trans (of_decide_eq_true h.1.2) (by decide)
/-! ### __init__ -/
def spLInit (K : PySem.W.Frag) (C CB CN : Addr) : Sp := fun vs H Q E => ∃ a dx x r, vs = [.ref a, x, r] ∧ H a = some (.ins C dx []) ∧ H dx = some (.own a) ∧ dx ≠ a ∧
  spCkNames K CB CN [x] H (fun _ H1 => ∃ (l : Addr) (fs : List Str), Same H H1 ∧ x = .ref l ∧ SqL K H1 l (fs.map V.str) ∧
    ((∃ rb, r = .bl rb ∧ ∀ t, H1 t = none → Q .non (slH (upd H1 t (.tup (fs.map V.str))) a C dx [some (.ref t), some (.bl rb)])) ∨
     ((∃ t, TyX K H1 r t ∧ PySem.W.kitOne K t (.type "bool") = some false) ∧ Thrown H1 E CB [("why", .str "room")]))) E
theorem scLInit : FnScope ["self", "fields", "has_room"] ["self", "fields", "has_room"] (defScope mInit) := ⟨rfl, rfl, rfl, by decide +kernel, rfl, by decide +kernel, by decide +kernel⟩
theorem ok_lInit {f fN C p0 p1 CB CN fI : Addr} {fdN dI : FuncData} {oc dV kV doc pm cdv ct : Value} {od an : Option Addr} {osl : Array (Option Value)}
    (lk : K.lookup f = some ⟨oc, od, .func (PySem.W.fnOf "__init__" "Layout.__init__" (defArgs mInit) (defBody mInit) (defScope mInit) dV kV doc pm an cdv ct), osl⟩) (hcd : PySem.W.codeIn K cdv "Layout.__init__" = true) (T : Txt mg) (L : LayC K mg C p0 p1)
    (TB : BadTxt P w K mg base CB fI dI) (gN : mg "check_names" = some (.ref fN)) (kN : PySem.W.keepIn K (.ref fN) = true) (bN : Binds K fdN ["fields"] []) (GN : FnOk P w K mg base (L2.CX P w) 5 fN fdN ["fields"] (spCkNames K CB CN)) :
    FnOk P w K mg base (L2.CX P w) 6 f (PySem.W.fnOf "__init__" "Layout.__init__" (defArgs mInit) (defBody mInit) (defScope mInit) dV kV doc pm an cdv ct) ["self", "fields", "has_room"] (spLInit K C CB CN) := by
  refine okXD lk hcd scLInit (fun vs H Q E h => ?_) (fun A outer s H vs Q E hr h => ?_)
  · obtain ⟨a, dx, x, r, rfl, _⟩ := h
    rfl
  · obtain ⟨a, dx, x, r, rfl, ha, hdx, ne, h⟩ := h
    refine ⟨_, pss_cons (ps_expr (pe_callS GN hr rfl gN kN bN (fun σ => passAt (takes_of rfl rfl rfl rfl) σ) (pa_cons (pv 1) pa_nil)))
      (pss_cons (ps_if (pt_not (pt_val (pe_callB call_isi (by rfl) T.isinstance (by decide +kernel) (pa_cons (pv 2) (pa_cons (pe_bltn (v := .ty "bool") (by rfl) T.bool (by decide +kernel) rfl) pa_nil)))))
        (pss_one (ps_raise rfl (takes_of rfl rfl rfl rfl) (pmk_oex TB.T TB.iC TB.tI TB.GI (hr.mono (by decide)) TB.bI .nil pass0 rfl TB.gC (pa_cons pe_str pa_nil)))) pss_nil)
      (pss_cons (ps_sl (pv 0) (pe_callTy call_tuple_of (by rfl) T.tuple (by decide +kernel) (pa_cons (pv 1) pa_nil)))
      (pss_one (ps_sl (pv 0) (pv 2))))), ?_⟩
    refine ⟨_, rfl, ?_⟩
    dsimp only [tNil]
    refine ckNames_mono (fun v H1 q => ?_) h
    obtain ⟨l, fs, s1, rfl, hS, q⟩ := q
    have ha1 := s1 _ _ ha
    rcases q with ⟨rb, rfl, q⟩ | ⟨⟨t, ty, kt⟩, th⟩
    · refine ⟨_, rfl, _, .ty "bool", .type "bool", .type "bool", true, rfl, .ty _, .base (.bl rb), kit_ty (by decide +kernel), true, rfl, iteF ?_⟩
      refine ⟨_, rfl, l, _, rfl, .inl ⟨hS, fun t nt => ?_⟩⟩
      refine ⟨_, rfl, a, C, dx, p0, [], 0, rfl, .inl ⟨app ha1 nt, rfl⟩, L.c, L.s0, ?_⟩
      refine ⟨_, rfl, _, rfl, a, C, dx, p1, _, 1, rfl, slH_slt ne, L.c, L.s1, ?_⟩
      rw [slH_twice ne]
      exact q t nt
    · refine ⟨_, rfl, r, .ty "bool", t, .type "bool", false, rfl, .ty _, ty, kt, false, rfl, iteT ?_⟩
      exact mk_bad (y := .str "room") TB ⟨rfl, Same.refl _, th⟩ fun imp q => imp _ _ q
/-- what is made -/
theorem lay_made {C CB CN : Addr} {H0 : Hp} {l : Addr} {fs : List Str} {rb : Bool} {Q : VK} {E : XK} (hS : SqL K H0 l (fs.map V.str)) (nm : ∀ z ∈ fs, isName z = true) (k : ∀ a H2, Same H0 H2 → IsLay K C H2 a fs rb → Q (.ref a) H2) :
    ∀ a dx, H0 a = none → H0 dx = none → dx ≠ a → spLInit K C CB CN [.ref a, .ref l, .bl rb] (upd (upd H0 dx (.own a)) a (.ins C dx [])) (fun v H2 => v = .non ∧ Q (.ref a) H2) E := by
  intro a dx na nd ne
  have s0 : Same H0 (upd (upd H0 dx (.own a)) a (.ins C dx [])) := same_upd (same_new nd) na
  have ea : (upd (upd H0 dx (.own a)) a (.ins C dx [])) a = some (.ins C dx []) := upd_same
  have ed : (upd (upd H0 dx (.own a)) a (.ins C dx [])) dx = some (.own a) := by rw [upd_ne ne]; exact upd_same
  refine ⟨a, dx, _, _, rfl, ea, ed, ne, _, rfl, .inr ⟨l, fs.map V.str, rfl, s0.seq hS, fun y hy => ?_, fun _ H1 s1 => ⟨l, fs, s1, rfl, (s0.trans s1).seq hS, .inl ⟨rb, rfl, fun t nt => ⟨rfl, k _ _ (fun b o e => ?_) ⟨dx, t, slH_slt ne, ?_, nm⟩⟩⟩⟩, fun i y hy _ bad => ?_⟩⟩
  · obtain ⟨z, hz, rfl⟩ := List.mem_map.mp hy
    exact .inl ⟨z, rfl, name_len (nm z hz)⟩
  · have b1 : b ≠ a := ne_of_none e na
    have b2 : b ≠ dx := ne_of_none e nd
    rw [slH_ne b1 b2]
    exact app (s1 _ _ (s0 _ _ e)) nt
  · have t1 : t ≠ a := (ne_of_none (s1 _ _ ea) nt).symm
    have t2 : t ≠ dx := (ne_of_none (s1 _ _ ed) nt).symm
    rw [slH_ne t1 t2]
    exact upd_same
  · obtain ⟨z, hz, rfl⟩ := List.mem_map.mp (List.mem_of_getElem? hy)
    rw [show isNm (V.str z) = true from nm z hz] at bad
    cases bad
/-! ### fields, has_room, with_room -/
def spFields (K : PySem.W.Frag) (C : Addr) : Sp := fun vs H Q _ => ∃ a fs r, vs = [.ref a] ∧ IsLay K C H a fs r ∧ ∀ p, H p = none → Q (.ref p) (upd H p (.lst (fs.map V.str)))
def spHas (K : PySem.W.Frag) (C : Addr) : Sp := fun vs H Q _ => ∃ a fs r, vs = [.ref a] ∧ IsLay K C H a fs r ∧ Q (.bl r) H
def spWith (K : PySem.W.Frag) (C : Addr) : Sp := fun vs H Q _ => ∃ a fs r, vs = [.ref a] ∧ IsLay K C H a fs r ∧ ∀ b H', Same H H' → IsLay K C H' b fs true → Q (.ref b) H'
theorem scSelf {st : Stmt} (h : FnScope ["self"] ["self"] (defScope st)) : FnScope ["self"] ["self"] (defScope st) := h
theorem scFields : FnScope ["self"] ["self"] (defScope mFields) := ⟨rfl, rfl, rfl, by decide +kernel, rfl, by decide +kernel, by decide +kernel⟩
theorem scHas : FnScope ["self"] ["self"] (defScope mHas) := ⟨rfl, rfl, rfl, by decide +kernel, rfl, by decide +kernel, by decide +kernel⟩
theorem scWith : FnScope ["self"] ["self"] (defScope mWith) := ⟨rfl, rfl, rfl, by decide +kernel, rfl, by decide +kernel, by decide +kernel⟩
theorem ok_fields {f C p0 p1 : Addr} {fd : FuncData} (F : Fun K "fields" "Layout.fields" mFields f fd) (T : Txt mg) (L : LayC K mg C p0 p1) : FnOk P w K mg base CX0 1 f fd ["self"] (spFields K C) := by
  refine F.ok scFields (fun vs H Q E h => ?_) (fun cdv A outer s H vs Q E hr h => ?_)
  · obtain ⟨a, fs, r, rfl, _⟩ := h
    rfl
  · obtain ⟨a, fs, r, rfl, ⟨dx, t, hs, ht, _⟩, k⟩ := h
    refine ⟨_, pss_one (ps_ret (pe_callTy call_list_of (by rfl) T.list (by decide +kernel) (pa_cons (pe_sl (pv 0)) pa_nil))), ?_⟩
    exact ⟨_, rfl, a, C, dx, p0, _, 0, _, rfl, hs, L.c, L.s0, rfl, t, _, rfl, .inr (SqT.of ht), fun p np => k p np⟩
theorem ok_has {f C p0 p1 : Addr} {fd : FuncData} (F : Fun K "has_room" "Layout.has_room" mHas f fd) (L : LayC K mg C p0 p1) : FnOk P w K mg base CX0 1 f fd ["self"] (spHas K C) := by
  refine F.ok scHas (fun vs H Q E h => ?_) (fun cdv A outer s H vs Q E hr h => ?_)
  · obtain ⟨a, fs, r, rfl, _⟩ := h
    rfl
  · obtain ⟨a, fs, r, rfl, ⟨dx, t, hs, ht, _⟩, k⟩ := h
    refine ⟨_, pss_one (ps_ret (pe_sl (pv 0))), ?_⟩
    exact ⟨_, rfl, a, C, dx, p1, _, 1, _, rfl, hs, L.c, L.s1, rfl, k⟩
theorem ok_with {f g fI C p0 p1 CB CN : Addr} {fd gd dI : FuncData} (F : Fun K "with_room" "Layout.with_room" mWith f fd) (L : LayC K mg C p0 p1) (M : Mk K C fI) (bI : Binds K dI ["self", "fields", "has_room"] []) (GI : FnOk P w K mg base (L2.CX P w) 6 fI dI ["self", "fields", "has_room"] (spLInit K C CB CN))
    (mF : Meth K C "fields" g) (bF : Binds K gd ["self"] []) (GF : FnOk P w K mg base CX0 1 g gd ["self"] (spFields K C)) : FnOk P w K mg base CX0 8 f fd ["self"] (spWith K C) := by
  refine F.ok scWith (fun vs H Q E h => ?_) (fun cdv A outer s H vs Q E hr h => ?_)
  · obtain ⟨a, fs, r, rfl, _⟩ := h
    rfl
  · obtain ⟨a, fs, r, rfl, hL, k⟩ := h
    have hr1 : Room 1 _ := hr.mono (by decide)
    refine ⟨_, pss_one (ps_ret (pe_make M GI hr (by rfl) L.g bI .nil (passE (E := fun _ _ _ => False) fun _ _ _ z => z) (pa_cons (pe_methSl0 (pv 0) L.c mF (GF.raw bF .nil) hr1 pass0) (pa_cons pe_bl pa_nil)))), ?_⟩
    obtain ⟨dx, t, hs, ht, nm⟩ := hL
    refine ⟨_, rfl, a, dx, _, rfl, hs, a, fs, r, rfl, ⟨dx, t, hs, ht, nm⟩, fun p np => ?_⟩
    exact lay_made (K := K) (SqL.of upd_same) nm fun b H2 s2 hb => k b H2 ((same_new np).trans s2) hb
end
end Pr

set_option Elab.async false
set_option linter.all false
set_option maxRecDepth 100000
set_option maxHeartbeats 1000000
/-! Layout: len, [], in, +. -/
namespace Pr
open PySem L2 Two ClX SlX
/-! ### texts as data -/
def strsD (fs : List Str) : PyData := .tuple (fs.map PyData.str)
theorem dpAll_strs {K : PySem.W.Frag} {H : Hp} : ∀ fs : List Str, DpAll K H (fs.map V.str) (fs.map PyData.str)
  | [] => .nil
  | _ :: fs => .cons (.str _) (dpAll_strs fs)
theorem dp_strs {K : PySem.W.Frag} {H : Hp} {t : Addr} {fs : List Str} (h : H t = some (.tup (fs.map V.str))) : Dp K H (.ref t) (strsD fs) := .tup (SqT.of h) (dpAll_strs fs)
theorem name_strOk {z : Str} (h : isName z = true) : PyData.strOk z = true := by
  unfold isName at h
  rw [Bool.and_eq_true] at h
  have h2 := List.all_eq_true.mp h.2
  unfold PyData.strOk
  rw [← Array.all_toList, List.all_eq_true]
  intro c hc
  have := h2 c hc
  unfold isLetter at this
  rw [Bool.and_eq_true, decide_eq_true_iff, decide_eq_true_iff] at this
  exact decide_eq_true (by omega)
theorem lay_strs : ∀ fs : List Str, (∀ z ∈ fs, isName z = true) → PyData.canLayAll0 (fs.map PyData.str) = true
  | [], _ => rfl
  | z :: fs, h => by
    show (PyData.strOk z && PyData.canLayAll0 (fs.map PyData.str)) = true
    rw [name_strOk (h z List.mem_cons_self), lay_strs fs fun y hy => h y (List.mem_cons_of_mem _ hy)]
    rfl
theorem depth_strs : ∀ fs : List Str, PyData.depthAll (fs.map PyData.str) ≤ 1
  | [] => Nat.zero_le _
  | z :: fs => by
    show max 0 (PyData.depthAll (fs.map PyData.str)) ≤ 1
    have := depth_strs fs
    omega
theorem shaped_strs {fs : List Str} (h : ∀ z ∈ fs, isName z = true) : SeqAt.shaped (strsD fs) = true := by
  unfold SeqAt.shaped
  have a : (strsD fs).canLay0 = true := lay_strs fs h
  have b : (strsD fs).depth ≤ 64 := by
    show PyData.depthAll (fs.map PyData.str) + 1 ≤ 64
    have := depth_strs fs
    omega
  rw [a, decide_eq_true b]
  rfl
theorem eqv_strs : ∀ fs gs : List Str, PyData.eqv (strsD fs) (strsD gs) = decide (fs = gs) := by
  have key : ∀ fs gs : List Str, PyData.eqvAll (fs.map PyData.str) (gs.map PyData.str) = decide (fs = gs) := by
    intro fs
    induction fs with
    | nil =>
      intro gs
      cases gs with
      | nil => rfl
      | cons g gs => rfl
    | cons x fs ih =>
      intro gs
      cases gs with
      | nil => rfl
      | cons g gs =>
        show ((x == g) && PyData.eqvAll (fs.map PyData.str) (gs.map PyData.str)) = _
        rw [ih gs]
        by_cases e : x = g
        · subst e
          by_cases e2 : fs = gs
          · subst e2; simp
          · simp [e2]
        · have : (x == g) = false := beq_eq_false_iff_ne.mpr e
          rw [this]
          simp [e]
  exact key
section
variable {P : Program} {w : World} {K : PySem.W.Frag} {mg : Str → Option Value} {base : Heap}
/-! ### is_int -/
def spIsInt (K : PySem.W.Frag) : Sp := fun vs H Q _ => ∃ (x : V) (t : Value) (b1 b2 : Bool), vs = [x] ∧ TyX K H x t ∧ PySem.W.kitOne K t (.type "int") = some b1 ∧ PySem.W.kitOne K t (.type "bool") = some b2 ∧ Q (.bl (b1 && !b2)) H
theorem scIsInt : FnScope ["thing"] ["thing"] (defScope sIsInt) := ⟨rfl, rfl, rfl, by decide +kernel, rfl, by decide +kernel, by decide +kernel⟩
theorem ok_isInt {f : Addr} {fd : FuncData} (F : Fun K "is_int" "is_int" sIsInt f fd) (T : Txt mg) : FnOk P w K mg base CX0 1 f fd ["thing"] (spIsInt K) := by
  refine F.ok scIsInt (fun vs H Q E h => ?_) (fun cdv A outer s H vs Q E hr h => ?_)
  · obtain ⟨x, _, _, _, rfl, _⟩ := h
    rfl
  · obtain ⟨x, t, b1, b2, rfl, ty, h1, h2, k⟩ := h
    refine ⟨_, pss_one (ps_ret (pe_and (pe_callB call_isi (by rfl) T.isinstance (by decide +kernel) (pa_cons (pv 0) (pa_cons (pe_bltn (v := .ty "int") (by rfl) T.int (by decide +kernel) rfl) pa_nil)))
      (pe_one (pe_not (pe_callB call_isi (by rfl) T.isinstance (by decide +kernel) (pa_cons (pv 0) (pa_cons (pe_bltn (v := .ty "bool") (by rfl) T.bool (by decide +kernel) rfl) pa_nil))))))), ?_⟩
    refine ⟨x, rfl, x, .ty "int", t, .type "int", b1, rfl, .ty _, ty, h1, b1, rfl, ?_⟩
    cases b1 with
    | false => exact iteF k
    | true => exact iteT ⟨x, rfl, x, .ty "bool", t, .type "bool", b2, rfl, .ty _, ty, h2, b2, rfl, k⟩
/-- no integer -/
def NotInt (K : PySem.W.Frag) (H : Hp) (x : V) : Prop := ∃ (t : Value) (b1 b2 : Bool), TyX K H x t ∧ PySem.W.kitOne K t (.type "int") = some b1 ∧ PySem.W.kitOne K t (.type "bool") = some b2 ∧ (b1 && !b2) = false
/-! ### len -/
def spLen (K : PySem.W.Frag) (C : Addr) : Sp := fun vs H Q _ => ∃ a fs r, vs = [.ref a] ∧ IsLay K C H a fs r ∧ Q (.int (fs.length : Nat)) H
theorem scLen : FnScope ["self"] ["self"] (defScope mLen) := ⟨rfl, rfl, rfl, by decide +kernel, rfl, by decide +kernel, by decide +kernel⟩
theorem ok_len {f C p0 p1 : Addr} {fd : FuncData} (F : Fun K "__len__" "Layout.__len__" mLen f fd) (T : Txt mg) (L : LayC K mg C p0 p1) : FnOk P w K mg base CX0 1 f fd ["self"] (spLen K C) := by
  refine F.ok scLen (fun vs H Q E h => ?_) (fun cdv A outer s H vs Q E hr h => ?_)
  · obtain ⟨a, fs, r, rfl, _⟩ := h
    rfl
  · obtain ⟨a, fs, r, rfl, ⟨dx, t, hs, ht, _⟩, k⟩ := h
    refine ⟨_, pss_one (ps_ret (pe_callB call_len_seq (by rfl) T.len PySem.boot_len (pa_cons (pe_sl (pv 0)) pa_nil))), ?_⟩
    refine ⟨_, rfl, a, C, dx, p0, _, 0, _, rfl, hs, L.c, L.s0, rfl, t, _, rfl, .inr (SqT.of ht), ?_⟩
    rw [List.length_map]
    exact k
/-! ### [] -/
def spGet (K : PySem.W.Frag) (C CO : Addr) : Sp := fun vs H Q E => ∃ a fs r x, vs = [.ref a, x] ∧ IsLay K C H a fs r ∧
  ((NotInt K H x ∧ Thrown H E CO [("offset", x), ("why", .str "offset")]) ∨ ∃ i : Int, x = .int i ∧ (∀ (n : Nat) z, i = n → fs[n]? = some z → Q (.str z) H) ∧ (¬ (0 ≤ i ∧ i < fs.length) → Thrown H E CO [("offset", x), ("why", .str "offset")]))
theorem scGet : FnScope ["self", "at"] ["self", "at"] (defScope mGet) := ⟨rfl, rfl, rfl, by decide +kernel, rfl, by decide +kernel, by decide +kernel⟩
theorem ok_get {f g C p0 p1 CO fI : Addr} {fd gd dI : FuncData} (F : Fun K "__getitem__" "Layout.__getitem__" mGet f fd) (T : Txt mg) (L : LayC K mg C p0 p1) (TO : ErrTxt P w K mg base "BadOffset" "offset" "offset" CO fI dI)
    (gI : mg "is_int" = some (.ref g)) (kI : PySem.W.keepIn K (.ref g) = true) (bI : Binds K gd ["thing"] []) (GI : FnOk P w K mg base CX0 1 g gd ["thing"] (spIsInt K)) : FnOk P w K mg base (L2.CX P w) 4 f fd ["self", "at"] (spGet K C CO) := by
  refine F.okX scGet (fun vs H Q E h => ?_) (fun cdv A outer s H vs Q E hr h => ?_)
  · obtain ⟨a, fs, r, x, rfl, _⟩ := h
    rfl
  · obtain ⟨a, fs, r, x, rfl, ⟨dx, t, hs, ht, nm⟩, h⟩ := h
    have hr1 : Room 1 _ := hr.mono (by decide)
    refine ⟨_, pss_cons (ps_if (PW.pt (pw_or (pt_not (pt_val (pe_call GI hr1 rfl gI kI bI .nil pass0 (pa_cons (pv 1) pa_nil))))
        (pw_or1 (pt_not (pt_chain op_le op_lt pe_int (pv 1) (pe_callB call_len_seq (by rfl) T.len PySem.boot_len (pa_cons (pe_sl (pv 0)) pa_nil)))))))
        (pss_one (ps_raise rfl (takes_of rfl rfl rfl rfl) (pmk_oex TO.T TO.iC TO.tI TO.GI hr TO.bI .nil pass0 rfl TO.gC (pa_cons (pv 1) pa_nil)))) pss_nil)
      (pss_one (ps_ret (pe_ix ix_tup (pe_sl (pv 0)) (pv 1) (fun _ _ => rfl)))), ?_⟩
    have bad : ∀ {y : V}, Thrown H E CO [("offset", y), ("why", .str "offset")] → tMkO CO (spInit K ["why", "offset"] fun y => [("offset", y), ("why", .str "offset")]) [] (tCons (tVar 1) tNil) [some (.ref a), some y] H E := fun {y} th => by
      refine mk_err (y := y) TO ⟨_, rfl, rfl, Same.refl _, th⟩ ?_
      rintro A B imp ⟨x, hx, q⟩
      exact ⟨x, hx, imp _ _ q⟩
    rcases h with ⟨⟨ty, b1, b2, hty, k1, k2, e⟩, th⟩ | ⟨i, rfl, ok, out⟩
    · refine ⟨_, rfl, x, ty, b1, b2, rfl, hty, k1, k2, _, rfl, ?_⟩
      rw [e]
      exact iteT (bad th)
    · refine ⟨_, rfl, .int i, .type "int", true, false, rfl, .base (.int i), kit_ty (by decide +kernel), kit_ty (by decide +kernel), _, rfl, iteF ?_⟩
      refine ⟨_, rfl, _, _, rfl, rfl, _, rfl, ?_⟩
      by_cases h0 : 0 ≤ i
      · refine ite_true_of (decide_eq_true h0) ⟨_, rfl, a, C, dx, p0, _, 0, _, rfl, hs, L.c, L.s0, rfl, t, _, rfl, .inr (SqT.of ht), _, _, rfl, rfl, _, rfl, ?_⟩
        rw [List.length_map]
        by_cases h1 : i < fs.length
        · refine ite_neg_of (decide_eq_true h1) ?_
          obtain ⟨n, rfl⟩ := Int.eq_ofNat_of_zero_le h0
          have hn : n < fs.length := by omega
          refine ⟨_, rfl, a, C, dx, p0, _, 0, _, rfl, hs, L.c, L.s0, rfl, _, rfl, t, _, _, .str fs[n], rfl, rfl, SqT.of ht, atI_nat (by rw [List.getElem?_map, List.getElem?_eq_getElem hn]; rfl), ?_⟩
          exact ok n _ rfl (List.getElem?_eq_getElem hn)
        · exact ite_pos_of (decide_eq_false h1) (bad (out fun q => h1 q.2))
      · exact ite_false_of (decide_eq_false h0) ⟨_, rfl, iteT (bad (out fun q => h0 q.1))⟩
/-! ### in -/
def hasNm (fs : List Str) : V → Bool
  | .str z => decide (z ∈ fs)
  | _ => false
theorem inV_strs {z : Str} : ∀ fs : List Str, inV (.str z) (fs.map V.str) = decide (z ∈ fs)
  | [] => rfl
  | y :: fs => by
    show (eqV (.str y) (.str z) || inV (.str z) (fs.map V.str)) = _
    rw [inV_strs fs]
    have e : eqV (.str y) (.str z) = decide (y = z) := rfl
    rw [e]
    by_cases h : y = z
    · subst h; simp
    · have h2 : ¬ z = y := fun q => h q.symm
      simp [h, h2]
theorem flat_strs : ∀ fs : List Str, (fs.map V.str).all flatV = true
  | [] => rfl
  | _ :: fs => flat_strs fs
def spCont (K : PySem.W.Frag) (C : Addr) : Sp := fun vs H Q _ => ∃ a fs r x, vs = [.ref a, x] ∧ IsLay K C H a fs r ∧ ItemK K H x ∧ ∀ H', Same H H' → Q (.bl (hasNm fs x)) H'
theorem scCont : FnScope ["self", "x"] ["self", "x"] (defScope mCont) := ⟨rfl, rfl, rfl, by decide +kernel, rfl, by decide +kernel, by decide +kernel⟩
theorem ok_cont {f g C p0 p1 : Addr} {fd gd : FuncData} (F : Fun K "__contains__" "Layout.__contains__" mCont f fd) (T : Txt mg) (L : LayC K mg C p0 p1)
    (gN : mg "is_name" = some (.ref g)) (kN : PySem.W.keepIn K (.ref g) = true) (bN : Binds K gd ["thing"] []) (GN : FnOk P w K mg base CX0 1 g gd ["thing"] (spIsName K)) : FnOk P w K mg base CX0 2 f fd ["self", "x"] (spCont K C) := by
  refine F.ok scCont (fun vs H Q E h => ?_) (fun cdv A outer s H vs Q E hr h => ?_)
  · obtain ⟨a, fs, r, x, rfl, _⟩ := h
    rfl
  · obtain ⟨a, fs, r, x, rfl, ⟨dx, t, hs, ht, nm⟩, it, k⟩ := h
    refine ⟨_, pss_one (ps_ret (pe_and (pe_call GN hr rfl gN kN bN .nil pass0 (pa_cons (pv 1) pa_nil)) (pe_one (pe_cmpR op_in_seq (pv 1) (pe_sl (pv 0)) (by rfl))))), ?_⟩
    refine ⟨_, rfl, x, rfl, ?_⟩
    rcases it with ⟨z, rfl, hz⟩ | hn
    · refine .inr ⟨z, rfl, hz, fun H1 s1 => ⟨_, rfl, ?_⟩⟩
      cases e : isName z with
      | true =>
        refine iteT ⟨_, rfl, _, rfl, a, C, dx, p0, _, 0, _, rfl, slt_keep s1 hs, L.c, L.s0, rfl, t, _, rfl, .inr (SqT.of (s1 _ _ ht)), rfl, flat_strs fs, ?_⟩
        show Q (.bl (inV (.str z) (fs.map V.str))) H1
        rw [inV_strs]
        exact k _ s1
      | false =>
        refine iteF ?_
        have q := k _ s1
        rw [show hasNm fs (V.str z) = false from decide_eq_false fun m => by rw [nm z m] at e; cases e] at q
        exact q
    · obtain ⟨ns, nz⟩ := hn H (Same.refl _)
      refine .inl ⟨ns, _, rfl, iteF ?_⟩
      have q := k _ (Same.refl _)
      rw [show hasNm fs x = false from by cases x with | str z => exact absurd rfl (nz z) | _ => rfl] at q
      exact q
end
end Pr

set_option Elab.async false
set_option linter.all false
set_option maxRecDepth 100000
set_option maxHeartbeats 1000000
/-! check_more_fields, Layout: +. -/
namespace Pr
open PySem L2 Two ClX SlX
section
variable {P : Program} {w : World} {K : PySem.W.Frag} {mg : Str → Option Value} {base : Heap}
def TwiceS (gs : List Str) (z : Str) : Prop := TwiceK (gs.map Sum.inr) (Sum.inr z)
theorem kV_strs (gs : List Str) : (gs.map Sum.inr : List Key).map kV = gs.map V.str := by rw [List.map_map]; rfl
theorem nodup_inr {gs : List Str} : (gs.map Sum.inr : List Key).Nodup ↔ gs.Nodup := by
  constructor
  · intro h
    induction gs with
    | nil => exact List.nodup_nil
    | cons x gs ih =>
      obtain ⟨h1, h2⟩ := List.nodup_cons.mp h
      exact List.nodup_cons.mpr ⟨fun m => h1 (List.mem_map.mpr ⟨x, m, rfl⟩), ih h2⟩
  · intro h
    induction gs with
    | nil => exact List.nodup_nil
    | cons x gs ih =>
      obtain ⟨h1, h2⟩ := List.nodup_cons.mp h
      refine List.nodup_cons.mpr ⟨fun m => ?_, ih h2⟩
      obtain ⟨y, hy, e⟩ := List.mem_map.mp m
      cases e
      exact h1 hy
theorem all_names {gs : List Str} : (gs.map V.str).all isNm = gs.all isName := by rw [List.all_map]; rfl
/-- what a check of more fields comes to -/
structure MoreEnd (H1 : Hp) (gs : List Str) (Q : VK) (E : XK) (CD CT : Addr) : Prop where
  fit : gs.Nodup → gs.length ≤ 6 → ∀ H2, Same H1 H2 → Q .non H2
  twice : ∀ z, TwiceS gs z → ∀ H2, Same H1 H2 → Thrown H2 E CD [("thing", .str z), ("why", .str "duplicate")]
  many : gs.Nodup → 6 < gs.length → ∀ H2, Same H1 H2 → Thrown H2 E CT [("limit", .int 6), ("why", .str "too many")]
def spMore (K : PySem.W.Frag) (CB CN CD CT : Addr) : Sp := fun vs H Q E => spCkNames K CB CN vs H (fun _ H1 => ∃ (l : Addr) (gs : List Str), Same H H1 ∧ vs = [.ref l] ∧ SqL K H1 l (gs.map V.str) ∧ gs.length ≤ 1000 ∧ MoreEnd H1 gs Q E CD CT) E
theorem scMore : FnScope ["fields"] ["fields"] (defScope sCkMore) := ⟨rfl, rfl, rfl, by decide +kernel, rfl, by decide +kernel, by decide +kernel⟩
theorem twiceK_of : ∀ {ks : List Key}, ¬ ks.Nodup → ∃ k, TwiceK ks k := by
  have key : ∀ (l m : List Key), m.Nodup → ¬ (m ++ l).Nodup → ∃ z, TwiceK (m ++ l) z := by
    intro l
    induction l with
    | nil => intro m h n; rw [List.append_nil] at n; exact absurd h n
    | cons x l ih =>
      intro m h n
      by_cases hx : x ∈ m
      · refine ⟨x, m.length, by rw [List.getElem?_append_right (Nat.le_refl _), Nat.sub_self]; rfl, ?_, ?_⟩
        · rw [List.take_left' rfl]; exact hx
        · rw [List.take_left' rfl]; exact h
      · have e : m ++ x :: l = (m ++ [x]) ++ l := by simp
        rw [e] at n ⊢
        exact ih (m ++ [x]) (List.nodup_append.mpr ⟨h, by simp, fun a ha b hb => by rw [List.mem_singleton.mp hb]; rintro rfl; exact hx ha⟩) n
  exact fun {l} n => by have := key l [] List.nodup_nil (by simpa using n); simpa using this
theorem ok_more {f fN fU CB CN CD CT fI : Addr} {fd fdN fdU dI : FuncData} (F : Fun K "check_more_fields" "check_more_fields" sCkMore f fd) (T : Txt mg) (TT : ErrTxt P w K mg base "TooMany" "limit" "too many" CT fI dI)
    (gN : mg "check_names" = some (.ref fN)) (kN : PySem.W.keepIn K (.ref fN) = true) (bN : Binds K fdN ["fields"] []) (GN : FnOk P w K mg base (L2.CX P w) 5 fN fdN ["fields"] (spCkNames K CB CN))
    (gU : mg "check_unlike" = some (.ref fU)) (kU : PySem.W.keepIn K (.ref fU) = true) (bU : Binds K fdU ["things"] []) (GU : FnOk P w K mg base (L2.CX P w) 4 fU fdU ["things"] (spCkUnlike K CD)) :
    FnOk P w K mg base (L2.CX P w) 6 f fd ["fields"] (spMore K CB CN CD CT) := by
  refine F.okX scMore (fun vs H Q E h => ?_) (fun cdv A outer s H vs Q E hr h => ?_)
  · obtain ⟨x, rfl, _⟩ := h
    rfl
  · obtain ⟨x, rfl⟩ : ∃ x, vs = [x] := ⟨h.choose, h.choose_spec.1⟩
    obtain ⟨tm, hm⟩ := T.fields
    refine ⟨_, pss_cons (ps_expr (pe_callS GN hr rfl gN kN bN (fun σ => passAt (takes_of rfl rfl rfl rfl) σ) (pa_cons (pv 0) pa_nil)))
      (pss_cons (ps_expr (pe_callS GU (hr.mono (by decide)) rfl gU kU bU (fun σ => passAt (takes_of rfl rfl rfl rfl) σ) (pa_cons (pv 0) pa_nil)))
      (pss_one (ps_if (pt_cmpR op_gt (pe_callB call_len_seq (by rfl) T.len PySem.boot_len (pa_cons (pv 0) pa_nil)) (pe_glob (v := .int 6) rfl hm ⟨_, rfl⟩) (nomark _))
        (pss_one (ps_raise rfl (takes_of rfl rfl rfl rfl) (pmk_oex TT.T TT.iC TT.tI TT.GI (hr.mono (by decide)) TT.bI .nil pass0 rfl TT.gC (pa_cons (pe_glob (v := .int 6) rfl hm ⟨_, rfl⟩) pa_nil)))) pss_nil))), ?_⟩
    refine ⟨_, rfl, ?_⟩
    dsimp only [tNil]
    refine ckNames_mono (fun v H1 q => ?_) h
    obtain ⟨l, gs, s1, ex, hS, hl, M⟩ := q
    obtain rfl : x = .ref l := (List.cons.inj ex).1
    refine ⟨_, rfl, l, gs.map Sum.inr, rfl, by rw [kV_strs]; exact hS, by rw [List.length_map]; exact hl, fun nd H2 s2 => ?_, fun k tw H2 s2 => ?_⟩
    · have nd := nodup_inr.mp nd
      refine ⟨_, rfl, l, _, rfl, .inl (s2.seq hS), _, _, rfl, rfl, _, rfl, ?_⟩
      rw [List.length_map]
      by_cases h6 : 6 < gs.length
      · refine ite_true_of (decide_eq_true (by exact_mod_cast h6)) ?_
        exact mk_err (y := .int 6) TT ⟨rfl, Same.refl _, M.many nd h6 _ s2⟩ fun imp q => imp _ _ q
      · exact ite_false_of (decide_eq_false (by exact_mod_cast h6)) (M.fit nd (by omega) _ s2)
    · have tw0 := tw
      obtain ⟨i, hi, _⟩ := tw
      obtain ⟨z, _, rfl⟩ := get_map hi
      exact M.twice z tw0 _ s2
/-! ### + -/
def spAdd (K : PySem.W.Frag) (C CB CN CD CT : Addr) : Sp := fun vs H Q E => ∃ a fs r x, vs = [.ref a, x] ∧ IsLay K C H a fs r ∧ fs.length ≤ 1000 ∧
  spMore K CB CN CD CT [x] H (fun _ H1 => ∃ (l : Addr) (gs : List Str), Same H H1 ∧ x = .ref l ∧ H1 l = some (.lst (gs.map V.str)) ∧ gs.length ≤ 1000 ∧ (∀ z ∈ gs, isName z = true) ∧ ∀ b H2, Same H1 H2 → IsLay K C H2 b (fs ++ gs) r → Q (.ref b) H2) E
theorem more_mono {CB CN CD CT : Addr} {vs : List V} {H : Hp} {Q Q' : VK} {E : XK} (imp : ∀ v H', Q v H' → Q' v H') (h : spMore K CB CN CD CT vs H Q E) : spMore K CB CN CD CT vs H Q' E :=
  ckNames_mono (fun v H1 ⟨l, gs, s1, e, hS, hl, M⟩ => ⟨l, gs, s1, e, hS, hl, ⟨fun a b H2 s2 => imp _ _ (M.fit a b H2 s2), M.twice, M.many⟩⟩) h
theorem scAdd : FnScope ["self", "other"] ["self", "other"] (defScope mAdd) := ⟨rfl, rfl, rfl, by decide +kernel, rfl, by decide +kernel, by decide +kernel⟩
theorem ok_add {f fM g fI C p0 p1 CB CN CD CT : Addr} {fd fdM gd dI : FuncData} (F : Fun K "__add__" "Layout.__add__" mAdd f fd) (L : LayC K mg C p0 p1)
    (gM : mg "check_more_fields" = some (.ref fM)) (kM : PySem.W.keepIn K (.ref fM) = true) (bM : Binds K fdM ["fields"] []) (GM : FnOk P w K mg base (L2.CX P w) 6 fM fdM ["fields"] (spMore K CB CN CD CT))
    (M : Mk K C fI) (bI : Binds K dI ["self", "fields", "has_room"] []) (GI : FnOk P w K mg base (L2.CX P w) 6 fI dI ["self", "fields", "has_room"] (spLInit K C CB CN))
    (mF : Meth K C "fields" g) (bF : Binds K gd ["self"] []) (GF : FnOk P w K mg base CX0 1 g gd ["self"] (spFields K C)) : FnOk P w K mg base (L2.CX P w) 8 f fd ["self", "other"] (spAdd K C CB CN CD CT) := by
  refine F.okX scAdd (fun vs H Q E h => ?_) (fun cdv A outer s H vs Q E hr h => ?_)
  · obtain ⟨a, fs, r, x, rfl, _⟩ := h
    rfl
  · obtain ⟨a, fs, r, x, rfl, hL, hf, h⟩ := h
    have hr1 : Room 1 _ := hr.mono (by decide)
    refine ⟨_, pss_cons (ps_expr (pe_callS GM (hr.mono (by decide)) rfl gM kM bM (fun σ => passAt (takes_of rfl rfl rfl rfl) σ) (pa_cons (pv 1) pa_nil)))
      (pss_one (ps_ret (pe_make M GI hr (by rfl) L.g bI .nil (passE (E := fun _ _ _ => False) fun _ _ _ z => z) (pa_cons (pe_op op_cat (pe_methSl0 (pv 0) L.c mF (GF.raw bF .nil) hr1 pass0) (pv 1)) (pa_cons (pe_sl (pv 0)) pa_nil))))), ?_⟩
    refine ⟨_, rfl, ?_⟩
    dsimp only [tNil]
    refine more_mono (fun v H1 q => ?_) h
    obtain ⟨l, gs, s1, rfl, hl, hg, ng, k⟩ := q
    obtain ⟨dx, t, hs, ht, nm⟩ := hL.keep s1
    refine ⟨_, rfl, a, dx, _, rfl, hs, a, fs, r, rfl, ⟨dx, t, hs, ht, nm⟩, fun p np => ⟨_, rfl, p, l, _, _, rfl, rfl, upd_same, app hl np, ?_, fun p2 np2 => ?_⟩⟩
    · rw [List.length_map, List.length_map]; exact Nat.le_trans (by omega : _ ≤ 2000) (by decide)
    · have s2 : Same H1 _ := ad (o := .lst (fs.map V.str ++ gs.map V.str)) (same_new (o := .lst (fs.map V.str)) np) np2
      refine ⟨_, rfl, a, C, dx, p1, _, 1, _, rfl, slt_keep s2 hs, L.c, L.s1, rfl, ?_⟩
      exact lay_made (K := K) (fs := fs ++ gs) (SqL.of (by rw [List.map_append]; exact upd_same)) (fun z hz => (List.mem_append.mp hz).elim (nm z) (ng z)) fun b H2 s3 hb => k b H2 (s2.trans s3) hb
end
end Pr

set_option Elab.async false
set_option linter.all false
set_option maxRecDepth 100000
set_option maxHeartbeats 1000000
/-! Layout: offset_of, ==, <=, first_difference. -/
namespace Two
open PySem PySem.Spec PyProof.Rows L2
theorem callR_or {X : Cx} {f : Value} {r1 r2 : List V → Hp → VK → Prop} (h1 : CallR X f r1) (h2 : CallR X f r2) : CallR X f (fun xs H Q => r1 xs H Q ∨ r2 xs H Q) := fun pins s σ H xs us Q I r h => h.elim (h1 pins s σ H xs us Q I r) (h2 pins s σ H xs us Q I r)
end Two
namespace Pr
open PySem L2 Two ClX SlX
theorem kit_self {K : PySem.W.Frag} {C : Addr} : PySem.W.kitOne K (.ref C) (.ref C) = some true := by
  unfold PySem.W.kitOne
  simp
section
variable {P : Program} {w : World} {K : PySem.W.Frag} {mg : Str → Option Value} {base : Heap}
/-! ### offset_of -/
def spOff (K : PySem.W.Frag) (C CN : Addr) : Sp := fun vs H Q E => ∃ a fs r x, vs = [.ref a, x] ∧ IsLay K C H a fs r ∧ fs.length ≤ 1000 ∧ ItemK K H x ∧ (isNm x = false → ∀ H', Same H H' → Thrown H' E CN [("name", x), ("why", .str "name")]) ∧
  ∀ z, x = .str z → isName z = true → (∀ n : Nat, fs[n]? = some z → (∀ j, n < j → fs[j]? ≠ some z) → ∀ H', Same H H' → Q (.int n) H') ∧ ((∀ n : Nat, fs[n]? ≠ some z) → ∀ H', Same H H' → Q .non H')
theorem scOff : FnScope ["self", "name", "offset"] ["self", "name"] (defScope mOff) := ⟨rfl, rfl, rfl, by decide +kernel, rfl, by decide +kernel, by decide +kernel⟩
theorem ok_off {f g C p0 p1 CN : Addr} {fd gd : FuncData} (F : Fun K "offset_of" "Layout.offset_of" mOff f fd) (T : Txt mg) (L : LayC K mg C p0 p1)
    (gN : mg "check_name" = some (.ref g)) (kN : PySem.W.keepIn K (.ref g) = true) (bN : Binds K gd ["name"] []) (GN : FnOk P w K mg base (L2.CX P w) 4 g gd ["name"] (spCkName K CN)) : FnOk P w K mg base (L2.CX P w) 5 f fd ["self", "name"] (spOff K C CN) := by
  refine F.okX scOff (fun vs H Q E h => ?_) (fun cdv A outer s H vs Q E hr h => ?_)
  · obtain ⟨a, fs, r, x, rfl, _⟩ := h
    rfl
  · obtain ⟨a, fs, r, x, rfl, ⟨dx, t, hs, ht, nm⟩, hl, it, bad, ok⟩ := h
    refine ⟨_, pss_cons (ps_expr (pe_callS GN hr rfl gN kN bN (fun σ => passAt (takes_of rfl rfl rfl rfl) σ) (pa_cons (pv 1) pa_nil)))
      (pss_cons (ps_for (passes_of rfl) rfl (pi_revR (by rfl) T.reversed (prg_1 (by rfl) T.range (pe_callB call_len_seq (by rfl) T.len PySem.boot_len (pa_cons (pe_sl (pv 0)) pa_nil)))) (pg_name (i := 2) scOff.nd rfl (Or.inl rfl))
        (pss_one (ps_if (pt_cmpR op_eq (pe_ix ix_tup (pe_sl (pv 0)) (pv 2) (fun _ _ => rfl)) (pv 1) (nomark _)) (pss_one (ps_ret (pv 2))) pss_nil)))
      (pss_one (ps_ret pe_non))), ?_⟩
    refine ⟨_, rfl, ?_⟩
    dsimp only [tNil]
    refine ⟨x, rfl, it, fun good H1 s1 => ?_, bad⟩
    obtain ⟨z, rfl⟩ : ∃ z, x = .str z := by
      cases x with
      | str z => exact ⟨z, rfl⟩
      | _ => cases good
    obtain ⟨k1, k2⟩ := ok z rfl good
    have h1 := slt_keep s1 hs
    have ht1 := s1 _ _ ht
    refine ⟨_, rfl, a, C, dx, p0, _, 0, _, rfl, h1, L.c, L.s0, rfl, t, _, rfl, .inr (SqT.of ht1), _, rfl, by decide, by decide, ?_, ?_, ?_⟩
    · rw [List.length_map]; omega
    · rw [List.length_map]; omega
    · rw [List.length_map]
      have en : ((fs.length : Int) - 0).toNat = fs.length := by omega
      rw [en]
      refine for_rangeC (c := -1) (n := fs.length) (fun i σ G => (∃ v : Option V, σ = [some (.ref a), some (.str z), v]) ∧ Same H1 G ∧ ∀ j : Nat, fs.length - i ≤ j → fs[j]? ≠ some z) ⟨⟨_, rfl⟩, Same.refl _, fun j hj e => ?_⟩ ?_ ?_
      · have := (List.getElem?_eq_some_iff.mp e).1
        omega
      · rintro i σ G hi ⟨⟨v, rfl⟩, s2, no⟩
        have ei : (0 + (fs.length : Nat) - 1 + (i : Nat) * (-1) : Int) = ((fs.length - 1 - i : Nat) : Int) := by omega
        rw [ei]
        have hn : fs.length - 1 - i < fs.length := by omega
        refine ⟨_, rfl, a, C, dx, p0, _, 0, _, rfl, slt_keep s2 h1, L.c, L.s0, rfl, _, rfl, t, _, _, .str fs[fs.length - 1 - i], rfl, rfl, SqT.of (s2 _ _ ht1), atI_nat (by rw [List.getElem?_map, List.getElem?_eq_getElem hn]; rfl), _, rfl, rfl, _, rfl, ?_⟩
        by_cases e : fs[fs.length - 1 - i] = z
        · refine ite_true_of (decide_eq_true (by rw [e])) ⟨_, rfl, ?_⟩
          exact k1 _ (by rw [List.getElem?_eq_getElem hn, e]) (fun j hj => no j (by omega)) _ (s1.trans s2)
        · refine ite_false_of (decide_eq_false fun q => e (V.str.inj q)) ⟨⟨_, rfl⟩, s2, fun j hj => ?_⟩
          by_cases ej : j = fs.length - 1 - i
          · rw [ej, List.getElem?_eq_getElem hn]
            exact fun q => e (Option.some.inj q)
          · exact no j (by omega)
      · rintro σ G ⟨⟨v, rfl⟩, s2, no⟩
        exact k2 (fun n => no n (by omega)) _ (s1.trans s2)
/-! ### == -/
def spEq (K : PySem.W.Frag) (C : Addr) : Sp := fun vs H Q _ => ∃ a fs r y, vs = [.ref a, y] ∧ IsLay K C H a fs r ∧
  ((∃ t, TyX K H y t ∧ PySem.W.kitOne K t (.ref C) = some false ∧ Q (.bl false) H) ∨ ∃ b gs r2, y = .ref b ∧ IsLay K C H b gs r2 ∧ Q (.bl (decide (fs = gs) && decide (r = r2))) H)
theorem scEq : FnScope ["self", "other"] ["self", "other"] (defScope mEq) := ⟨rfl, rfl, rfl, by decide +kernel, rfl, by decide +kernel, by decide +kernel⟩
theorem ok_eq {f C p0 p1 : Addr} {fd : FuncData} (F : Fun K "__eq__" "Layout.__eq__" mEq f fd) (T : Txt mg) (L : LayC K mg C p0 p1) : FnOk P w K mg base CX0 1 f fd ["self", "other"] (spEq K C) := by
  refine F.ok scEq (fun vs H Q E h => ?_) (fun cdv A outer s H vs Q E hr h => ?_)
  · obtain ⟨a, fs, r, y, rfl, _⟩ := h
    rfl
  · obtain ⟨a, fs, r, y, rfl, ⟨dx, t, hs, ht, nm⟩, h⟩ := h
    refine ⟨_, pss_one (ps_ret (pe_and (pe_callB (callR_or call_isi (call_isiSl (.ref C))) (by rfl) T.isinstance (by decide +kernel) (pa_cons (pv 1) (pa_cons (pe_glob (v := .ref C) (by rfl) L.g rfl) pa_nil)))
      (pe_and (pe_cmpR (op_eqD hr.units) (pe_sl (pv 0)) (pe_sl (pv 1)) (nomark _)) (pe_one (pe_cmpR op_eq (pe_sl (pv 0)) (pe_sl (pv 1)) (nomark _)))))), ?_⟩
    rcases h with ⟨ty, hty, kt, q⟩ | ⟨b, gs, r2, rfl, ⟨dy, u, hs2, hu, nm2⟩, q⟩
    · exact ⟨_, rfl, .inl ⟨y, .ref C, ty, .ref C, false, rfl, .own C, hty, kt, _, rfl, iteF q⟩⟩
    · refine ⟨_, rfl, .inr ⟨b, C, dy, _, .ref C, true, rfl, rfl, fun _ e => e, hs2, L.c, L.si, kit_self, _, rfl, iteT ?_⟩⟩
      refine ⟨_, rfl, a, C, dx, p0, _, 0, _, rfl, hs, L.c, L.s0, rfl, _, rfl, b, C, dy, p0, _, 0, _, rfl, hs2, L.c, L.s0, rfl, _, _, dp_strs ht, dp_strs hu, shaped_strs nm, shaped_strs nm2, _, rfl, ?_⟩
      rw [eqv_strs]
      by_cases e : fs = gs
      · refine ite_true_of (decide_eq_true e) ⟨_, rfl, a, C, dx, p1, _, 1, _, rfl, hs, L.c, L.s1, rfl, _, rfl, b, C, dy, p1, _, 1, _, rfl, hs2, L.c, L.s1, rfl, rfl, ?_⟩
        have e2 : decide (V.bl r = V.bl r2) = (decide (fs = gs) && decide (r = r2)) := by
          rw [decide_eq_true e, Bool.true_and]
          by_cases q : r = r2
          · rw [decide_eq_true q, decide_eq_true (by rw [q])]
          · rw [decide_eq_false q, decide_eq_false fun z => q (V.bl.inj z)]
        rw [e2]
        exact q
      · refine ite_false_of (decide_eq_false e) ?_
        rw [decide_eq_false e, Bool.false_and] at q
        exact q
end
end Pr

set_option Elab.async false
set_option linter.all false
set_option maxRecDepth 100000
set_option maxHeartbeats 1000000
/-! Layout: <=, first_difference. -/
namespace Pr
open PySem L2 Two ClX SlX
def firstDiff : List Str → List Str → Nat
  | x :: fs, y :: gs => if x = y then firstDiff fs gs + 1 else 0
  | _, _ => 0
theorem firstDiff_at : ∀ {fs gs : List Str} {i : Nat} {x y : Str}, fs.take i = gs.take i → fs[i]? = some x → gs[i]? = some y → x ≠ y → firstDiff fs gs = i
  | [], _, _, _, _, _, h, _, _ => by simp at h
  | _ :: _, [], _, _, _, _, _, h, _ => by simp at h
  | a :: fs, b :: gs, 0, x, y, _, h1, h2, ne => by
    have e1 : a = x := Option.some.inj h1
    have e2 : b = y := Option.some.inj h2
    show (if a = b then _ else 0) = 0
    rw [if_neg (by rw [e1, e2]; exact ne)]
  | a :: fs, b :: gs, i + 1, x, y, e, h1, h2, ne => by
    obtain ⟨e1, e2⟩ := List.cons.inj (show a :: fs.take i = b :: gs.take i from e)
    show (if a = b then _ else 0) = i + 1
    rw [if_pos e1, firstDiff_at e2 h1 h2 ne]
theorem firstDiff_end : ∀ {fs gs : List Str}, fs.take (min fs.length gs.length) = gs.take (min fs.length gs.length) → firstDiff fs gs = min fs.length gs.length
  | [], gs, _ => by simp [firstDiff]
  | a :: fs, [], _ => by simp [firstDiff]
  | a :: fs, b :: gs, e => by
    have em : min (a :: fs).length (b :: gs).length = min fs.length gs.length + 1 := by simp only [List.length_cons]; omega
    rw [em] at e ⊢
    obtain ⟨e1, e2⟩ := List.cons.inj (show a :: fs.take _ = b :: gs.take _ from e)
    show (if a = b then _ else 0) = _
    rw [if_pos e1, firstDiff_end e2]
section
variable {P : Program} {w : World} {K : PySem.W.Frag} {mg : Str → Option Value} {base : Heap}
/-! ### <= -/
def leL (fs gs : List Str) (r r2 : Bool) : Bool := decide (fs = gs.take fs.length) && (r2 || !r)
def spLe (K : PySem.W.Frag) (C : Addr) : Sp := fun vs H Q _ => ∃ a fs r b gs r2, vs = [.ref a, .ref b] ∧ IsLay K C H a fs r ∧ IsLay K C H b gs r2 ∧ ∀ H', Same H H' → Q (.bl (leL fs gs r r2)) H'
theorem scLe : FnScope ["self", "other", "begins"] ["self", "other"] (defScope mLe) := ⟨rfl, rfl, rfl, by decide +kernel, rfl, by decide +kernel, by decide +kernel⟩
theorem cutTo (xs : List V) (p : Nat) : cutV xs none (some (p : Int)) = xs.take p := by
  unfold cutV
  have e : HT.sIx xs.length xs.length (some (p : Int)) = min p xs.length := HT.sIx_nat xs.length xs.length p
  rw [e, HT.sIx_none]
  show xs.take (min p xs.length - 0) = _
  rw [Nat.sub_zero]
  by_cases h : p ≤ xs.length
  · rw [Nat.min_eq_left h]
  · rw [Nat.min_eq_right (by omega), List.take_of_length_le (Nat.le_refl _), List.take_of_length_le (by omega)]
theorem ok_le {f C p0 p1 : Addr} {fd : FuncData} (F : Fun K "__le__" "Layout.__le__" mLe f fd) (T : Txt mg) (L : LayC K mg C p0 p1) : FnOk P w K mg base CX0 1 f fd ["self", "other"] (spLe K C) := by
  refine F.ok scLe (fun vs H Q E h => ?_) (fun cdv A outer s H vs Q E hr h => ?_)
  · obtain ⟨a, fs, r, b, gs, r2, rfl, _⟩ := h
    rfl
  · obtain ⟨a, fs, r, b, gs, r2, rfl, ⟨dx, t, hs, ht, nm⟩, ⟨dy, u, hs2, hu, nm2⟩, k⟩ := h
    refine ⟨_, pss_cons (ps_if (pt_not (pt_val (pe_callB (call_isiSl (.ref C)) (by rfl) T.isinstance (by decide +kernel) (pa_cons (pv 1) (pa_cons (pe_glob (v := .ref C) (by rfl) L.g rfl) pa_nil))))) pss_never pss_nil)
      (pss_cons (ps_set (i := 2) scLe.nd rfl (Or.inl rfl) (pe_cmpR (op_eqD hr.units) (pe_sl (pv 0)) (pe_slice sl_tupA (pe_sl (pv 1)) po_none (po_some (pe_callB call_len_seq (by rfl) T.len PySem.boot_len (pa_cons (pe_sl (pv 0)) pa_nil)))) (nomark _)))
      (pss_one (ps_ret (pe_and (pv 2) (pe_one (pe_or (pe_sl (pv 1)) (pe_one (pe_not (pe_sl (pv 0)))))))))), ?_⟩
    refine ⟨_, rfl, b, C, dy, _, .ref C, true, rfl, rfl, fun _ e => e, hs2, L.c, L.si, kit_self, _, rfl, iteF ?_⟩
    have fin : ∀ (e : Bool), e = decide (fs = gs.take fs.length) → ∀ H1, Same H H1 → tAndV (tVar 2) (tOrV (SlX.tSl K (tVar 1) "_room") (tNotV (SlX.tSl K (tVar 0) "_room"))) [some (.ref a), some (.ref b), some (.bl e)] H1 Q := by
      intro e ee H1 s1
      refine ⟨_, rfl, e, rfl, ?_⟩
      have q := k H1 s1
      unfold leL at q
      rw [← ee] at q
      cases e with
      | false => exact iteF q
      | true =>
        refine iteT ⟨_, rfl, b, C, dy, p1, _, 1, _, rfl, slt_keep s1 hs2, L.c, L.s1, rfl, r2, rfl, ?_⟩
        cases r2 with
        | true => exact iteT q
        | false => exact iteF ⟨_, rfl, a, C, dx, p1, _, 1, _, rfl, slt_keep s1 hs, L.c, L.s1, rfl, r, rfl, q⟩
    have cut : cutV (gs.map V.str) none (some (fs.length : Int)) = (gs.take fs.length).map V.str := by rw [cutTo, List.map_take]
    have nm3 : ∀ z ∈ gs.take fs.length, isName z = true := fun z hz => nm2 z (List.mem_of_mem_take hz)
    refine ⟨_, rfl, a, C, dx, p0, _, 0, _, rfl, hs, L.c, L.s0, rfl, _, rfl, b, C, dy, p0, _, 0, _, rfl, hs2, L.c, L.s0, rfl, _, rfl, a, C, dx, p0, _, 0, _, rfl, hs, L.c, L.s0, rfl, t, _, rfl, .inr (SqT.of ht), _, rfl, u, _, rfl, SqT.of hu, fun hw => ?_, fun hn p np => ?_⟩
    · have e1 := hw.2
      rw [List.length_map, List.length_map] at e1
      have e2 : min fs.length gs.length = gs.length := (HT.sIx_nat gs.length gs.length fs.length).symm.trans e1
      have e3 : gs.take fs.length = gs := List.take_of_length_le (by omega)
      refine ⟨_, _, dp_strs ht, dp_strs hu, shaped_strs nm, shaped_strs nm2, ?_⟩
      rw [eqv_strs]
      exact fin _ (by rw [e3]) H (Same.refl _)
    · rw [List.length_map, cut] at *
      refine ⟨_, _, dp_strs (app ht np), dp_strs upd_same, shaped_strs nm, shaped_strs nm3, ?_⟩
      rw [eqv_strs]
      exact fin _ rfl _ (same_new np)
/-! ### first_difference -/
def spFirst (K : PySem.W.Frag) (C : Addr) : Sp := fun vs H Q _ => ∃ a fs r b gs r2, vs = [.ref a, .ref b] ∧ IsLay K C H a fs r ∧ IsLay K C H b gs r2 ∧ fs.length ≤ 1000 ∧ gs.length ≤ 1000 ∧
  (fs = gs ∧ r = r2 → Q .non H) ∧ (¬ (fs = gs ∧ r = r2) → Q (.int (firstDiff fs gs : Nat)) H)
theorem scFirst : FnScope ["self", "other", "shorter", "offset"] ["self", "other"] (defScope mFirst) := ⟨rfl, rfl, rfl, by decide +kernel, rfl, by decide +kernel, by decide +kernel⟩
theorem ok_first {f g C p0 p1 : Addr} {fd gd : FuncData} (F : Fun K "first_difference" "Layout.first_difference" mFirst f fd) (T : Txt mg) (L : LayC K mg C p0 p1)
    (he : PySem.W.findIn K (.ref C) "__eq__" = some (some (.ref g))) (hf : PySem.W.isFn K (.ref g) = true) (nf : PySem.W.notFirst K C (.ref C) = true) (bE : Binds K gd ["self", "other"] []) (GE : FnOk P w K mg base CX0 1 g gd ["self", "other"] (spEq K C)) :
    FnOk P w K mg base CX0 2 f fd ["self", "other"] (spFirst K C) := by
  refine F.ok scFirst (fun vs H Q E h => ?_) (fun cdv A outer s H vs Q E hr h => ?_)
  · obtain ⟨a, fs, r, b, gs, r2, rfl, _⟩ := h
    rfl
  · obtain ⟨a, fs, r, b, gs, r2, rfl, hL, hL2, lf, lg, same, diff⟩ := h
    obtain ⟨dx, t, hs, ht, nm⟩ := hL
    obtain ⟨dy, u, hs2, hu, nm2⟩ := hL2
    refine ⟨_, pss_cons (ps_if (pt_cmpR (op_own (op := .Eq) (fun _ _ => rfl) he hf (GE.raw bE .nil) hr pass0) (pv 0) (pv 1) (nomark _)) (pss_one (ps_ret pe_non)) pss_nil)
      (pss_cons (ps_set (i := 2) scFirst.nd rfl (Or.inl rfl) (pe_callB (call_min2 rfl) (by rfl) T.min (by decide +kernel) (pa_cons (pe_callB call_len_seq (by rfl) T.len PySem.boot_len (pa_cons (pe_sl (pv 0)) pa_nil)) (pa_cons (pe_callB call_len_seq (by rfl) T.len PySem.boot_len (pa_cons (pe_sl (pv 1)) pa_nil)) pa_nil))))
      (pss_cons (ps_for PassesOwn.never rfl (pi_range1 rfl T.range (pa_cons (pv 2) pa_nil)) (pg_name (i := 3) scFirst.nd rfl (Or.inl rfl))
        (pss_one (ps_if (pt_cmpR op_ne (pe_ix ix_tup (pe_sl (pv 0)) (pv 3) (fun _ _ => rfl)) (pe_ix ix_tup (pe_sl (pv 1)) (pv 3) (fun _ _ => rfl)) (nomark _)) (pss_one (ps_ret (pv 3))) pss_nil)))
      (pss_one (ps_ret (pv 2))))), ?_⟩
    refine ⟨_, rfl, _, rfl, a, dx, _, b, C, dy, _, rfl, rfl, hs, hs2, nf, a, fs, r, _, rfl, ⟨dx, t, hs, ht, nm⟩, .inr ⟨b, gs, r2, rfl, ⟨dy, u, hs2, hu, nm2⟩, _, rfl, ?_⟩⟩
    by_cases e : fs = gs ∧ r = r2
    · refine ite_true_of (by rw [decide_eq_true e.1, decide_eq_true e.2]; rfl) (same e)
    · have ef : (decide (fs = gs) && decide (r = r2)) = false := by
        rw [Bool.eq_false_iff]
        intro q
        rw [Bool.and_eq_true, decide_eq_true_iff, decide_eq_true_iff] at q
        exact e q
      refine ite_false_of ef ?_
      have k := diff e
      refine ⟨_, rfl, a, C, dx, p0, _, 0, _, rfl, hs, L.c, L.s0, rfl, t, _, rfl, .inr (SqT.of ht), _, rfl, b, C, dy, p0, _, 0, _, rfl, hs2, L.c, L.s0, rfl, u, _, rfl, .inr (SqT.of hu), _, _, rfl, ?_⟩
      rw [List.length_map, List.length_map]
      have em : (if (gs.length : Int) < (fs.length : Int) then (gs.length : Int) else (fs.length : Int)) = ((min fs.length gs.length : Nat) : Int) := by
        by_cases q : gs.length < fs.length
        · rw [if_pos (by exact_mod_cast q), Nat.min_eq_right (by omega)]
        · rw [if_neg (by exact_mod_cast q), Nat.min_eq_left (by omega)]
      rw [em]
      refine ⟨_, rfl, _, rfl, ?_, ?_, for_range (lo := 0) (n := min fs.length gs.length) (fun i σ G => (∃ v : Option V, σ = [some (.ref a), some (.ref b), some (.int (min fs.length gs.length : Nat)), v]) ∧ G = H ∧ fs.take i = gs.take i) ⟨⟨_, rfl⟩, rfl, rfl⟩ ?_ ?_⟩
      · omega
      · omega
      · rintro i σ G hi ⟨⟨v, rfl⟩, rfl, et⟩
        have h1 : i < fs.length := by omega
        have h2 : i < gs.length := by omega
        have ei : (0 + (i : Nat) : Int) = (i : Nat) := by omega
        rw [ei]
        refine ⟨_, rfl, a, C, dx, p0, _, 0, _, rfl, hs, L.c, L.s0, rfl, _, rfl, t, _, _, .str fs[i], rfl, rfl, SqT.of ht, atI_nat (by rw [List.getElem?_map, List.getElem?_eq_getElem h1]; rfl), _, rfl, b, C, dy, p0, _, 0, _, rfl, hs2, L.c, L.s0, rfl, _, rfl, u, _, _, .str gs[i], rfl, rfl, SqT.of hu, atI_nat (by rw [List.getElem?_map, List.getElem?_eq_getElem h2]; rfl), rfl, _, rfl, ?_⟩
        by_cases q : fs[i] = gs[i]
        · refine ite_false_of (by rw [q]; simp) ⟨⟨_, rfl⟩, rfl, ?_⟩
          rw [take_snoc (List.getElem?_eq_getElem h1), take_snoc (List.getElem?_eq_getElem h2), et, q]
        · refine ite_true_of (by simp [q]) ⟨_, rfl, ?_⟩
          rw [← firstDiff_at et (List.getElem?_eq_getElem h1) (List.getElem?_eq_getElem h2) q]
          exact k
      · rintro σ G ⟨⟨v, rfl⟩, rfl, et⟩
        refine ⟨_, rfl, ?_⟩
        rw [← firstDiff_end et]
        exact k
end
end Pr

set_option Elab.async false
set_option linter.all false
set_option maxRecDepth 100000
set_option maxHeartbeats 4000000
/-! A dict comprehension of two plain clauses: {kx: vx for t0 in i0 for t1 in i1}. -/
namespace Two
open PySem PySem.Spec PyProof.Rows L2

abbrev dc2 (kx vx t0 i0 t1 i1 : Expr) (sc : Scope) (ps : Pos) : Expr :=
  .DictComp kx vx [⟨t0, i0, [], 0⟩, ⟨t1, i1, [], 0⟩] sc ps

section
variable {P : Program} {w : World} {A : Around} {s : Shared}
variable {kx vx t0 i0 t1 i1 : Expr} {sc : Scope} {ps : Pos} {it : Value} {D : Addr} {en : Env}

/-- what an error does in the block -/
abbrev erE (P : Program) (w : World) (A : Around) (en : Env) (R : Result → Shared → Prop) : Value → Shared → Prop :=
  notedBy (model P w) A en fun e z => R (.error e) z

theorem turnOut : compTurn (dc2 kx vx t0 i0 t1 i1 sc ps) 0 it (.ref D) en = (do
      standAt i0.pos
      match ← pyNext it with
      | none => pure (.done .next)
      | some v =>
        letOwnedTupleGo t0 it v
        assign t0 en v
        let y ← eval i1 en
        standAt i1.pos
        let y ← foldedSetIterable i1 en y
        let _ ← runOwn (.compStart (dc2 kx vx t0 i0 t1 i1 sc ps) 1 (← holding [y] (pyIter y)) (.ref D) en) en
        again (.compLoop (dc2 kx vx t0 i0 t1 i1 sc ps) 0 it (.ref D) en)) := by rfl

theorem turnIn : compTurn (dc2 kx vx t0 i0 t1 i1 sc ps) 1 it (.ref D) en = (do
      standAt i1.pos
      match ← pyNext it with
      | none => pure (.done .next)
      | some v =>
        letOwnedTupleGo t1 it v
        assign t1 en v
        (do
          let a ← eval kx en
          let b ← holding [a] (eval vx en)
          standAt { kx.pos with endLine := vx.pos.endLine, endCol := vx.pos.endCol }
          holding [a, b] (dictSet D a b))
        again (.compLoop (dc2 kx vx t0 i0 t1 i1 sc ps) 1 it (.ref D) en)) := by rfl

/-- one turn of the first clause -/
theorem loopOut {R : Result → Shared → Prop} (hf : ∀ y, foldedSetIterable i1 en y = pure y) (J : Nat → Shared → Prop)
    (go : ∀ n z, J n z → wpAny (model P w) A (pyNext it) (fun r z1 => match r with
      | none => R (.ok .next) z1
      | some v => wpAny (model P w) A (letOwnedTupleGo t0 it v) (fun _ z2 =>
          wpAny (model P w) A (assign t0 en v) (fun _ z3 =>
            wpAny (model P w) A (eval i1 en) (fun y z4 =>
              wpAny (model P w) A (pyIter y) (fun j z5 =>
                codeAny (model P w) A (.compStart (dc2 kx vx t0 i0 t1 i1 sc ps) 1 j (.ref D) en)
                  (fun q z6 => match q with | .ok _ => ∃ m, m < n ∧ J m z6 | .error _ => False) z5)
              (erE P w A en R) z4) (erE P w A en R) z3) (erE P w A en R) z2) (erE P w A en R) z1) (erE P w A en R) z)
    (n : Nat) (h : J n s) : codeAny (model P w) A (.compLoop (dc2 kx vx t0 i0 t1 i1 sc ps) 0 it (.ref D) en) R s := by
  refine codeAny_loop rfl J (fun n z hz => ?_) n h
  show wpAny _ A ((compTurn (dc2 kx vx t0 i0 t1 i1 sc ps) 0 it (.ref D) en).onRaise (fun x => do noteFrame x en; theTreesLotGoes x)) _ _ z
  refine wpAny_noted ?_
  rw [turnOut]
  refine wpAny_bind (wpAny_standAt (wpAny_bind (wpAny_mono (go n z hz) (fun r z1 g1 => ?_) fun _ _ k => k)))
  match r, g1 with
  | none, g1 => exact wpAny_pure g1
  | some v, g1 =>
    refine wpAny_bind (wpAny_mono g1 (fun _ z2 g2 => wpAny_bind (wpAny_mono g2 (fun _ z3 g3 => ?_) fun _ _ k => k)) fun _ _ k => k)
    refine wpAny_bind (wpAny_mono g3 (fun y z4 g4 => wpAny_bind (wpAny_standAt ?_)) fun _ _ k => k)
    refine wpAny_bind (wpAny_of_eq (hf y) (wpAny_bind (wpAny_holding (wpAny_mono g4 (fun j z5 g5 => ?_) fun _ _ k => k))))
    refine wpAny_bind (wpAny_runOwn ?_)
    rw [Around.mark_none]
    refine codeAny_mono g5 fun q z6 g6 => ?_
    match q, g6 with
    | .ok f, g6 =>
      first
        | exact wpAny_pure ⟨rfl, g6⟩
        | exact wpAny_bind (wpAny_pure (wpAny_pure ⟨rfl, g6⟩))
    | .error e, g6 => exact g6.elim

/-- one turn of the second -/
theorem loopIn {R : Result → Shared → Prop} (J : Nat → Shared → Prop)
    (go : ∀ n z, J n z → wpAny (model P w) A (pyNext it) (fun r z1 => match r with
      | none => R (.ok .next) z1
      | some v => wpAny (model P w) A (letOwnedTupleGo t1 it v) (fun _ z2 =>
          wpAny (model P w) A (assign t1 en v) (fun _ z3 =>
            wpAny (model P w) A (eval kx en) (fun a z4 =>
              wpAny (model P w) A (eval vx en) (fun b z5 =>
                wpAny (model P w) A (dictSet D a b) (fun _ z6 => ∃ m, m < n ∧ J m z6) (erE P w A en R) z5)
              (erE P w A en R) z4) (erE P w A en R) z3) (erE P w A en R) z2) (erE P w A en R) z1) (erE P w A en R) z)
    (n : Nat) (h : J n s) : codeAny (model P w) A (.compLoop (dc2 kx vx t0 i0 t1 i1 sc ps) 1 it (.ref D) en) R s := by
  refine codeAny_loop rfl J (fun n z hz => ?_) n h
  show wpAny _ A ((compTurn (dc2 kx vx t0 i0 t1 i1 sc ps) 1 it (.ref D) en).onRaise (fun x => do noteFrame x en; theTreesLotGoes x)) _ _ z
  refine wpAny_noted ?_
  rw [turnIn]
  refine wpAny_bind (wpAny_standAt (wpAny_bind (wpAny_mono (go n z hz) (fun r z1 g1 => ?_) fun _ _ k => k)))
  match r, g1 with
  | none, g1 => exact wpAny_pure g1
  | some v, g1 =>
    refine wpAny_bind (wpAny_mono g1 (fun _ z2 g2 => wpAny_bind (wpAny_mono g2 (fun _ z3 g3 => ?_) fun _ _ k => k)) fun _ _ k => k)
    refine wpAny_bind (wpAny_bind (wpAny_mono g3 (fun a z4 g4 => ?_) fun _ _ k => k))
    refine wpAny_bind (wpAny_holding (wpAny_mono g4 (fun b z5 g5 => ?_) fun _ _ k => k))
    exact wpAny_bind (wpAny_standAt (wpAny_holding (wpAny_mono g5 (fun _ z6 g6 => wpAny_pure ⟨rfl, g6⟩) fun _ _ k => k)))

/-- where the second clause begins -/
theorem startIn {R : Result → Shared → Prop} (h0 : codeAny (model P w) A (.compLoop (dc2 kx vx t0 i0 t1 i1 sc ps) 1 it (.ref D) en) R s)
    (h : wpAny (model P w) A (pyIter it) (fun j z => codeAny (model P w) A (.compLoop (dc2 kx vx t0 i0 t1 i1 sc ps) 1 j (.ref D) en) R z) (erE P w A en R) s) :
    codeAny (model P w) A (.compStart (dc2 kx vx t0 i0 t1 i1 sc ps) 1 it (.ref D) en) R s := by
  refine codeAny_of_tree ?_
  show wpAny _ _ ((compStart (dc2 kx vx t0 i0 t1 i1 sc ps) 1 it (.ref D) en).onRaise (fun x => do noteFrame x en; standAt theWindowsPlace)) _ _ s
  refine wpAny_notedAt ?_
  unfold compStart
  show wpAny _ _ (ask >>= _) _ _ s
  refine wpAny_bind (wpAny_askSetting (wpAny_ite ?_))
  split
  · first
      | exact wpAny_bind (wpAny_pure (wpAny_pure ⟨rfl, h0⟩))
      | exact wpAny_pure ⟨rfl, h0⟩
  · refine wpAny_bind (wpAny_rule ?_)
    show wpAny _ _ (standAt i1.pos >>= _) _ _ s
    exact wpAny_bind (wpAny_standAt (wpAny_bind (wpAny_mono h (fun j z k => wpAny_pure ⟨rfl, k⟩) fun _ _ k => k)))
end
end Two

set_option Elab.async false
set_option linter.all false
set_option maxRecDepth 100000
set_option maxHeartbeats 4000000
namespace Two
open PySem PySem.Spec PyProof.Rows L2
section
variable {X : Cx}

/-- the cells of a comprehension's own frame at C -/
abbrev cxB (X : Cx) (s : Shared) (H : Hp) (sc : Scope) (C : Addr) (cl : List (Str × Addr)) (fp : List Addr) : Cx := X.blk s H sc (compEnvC sc cl C X.env) fp

/-- what the inner clause is to do from heap G: own measure, then Nx -/
def inner (J1 : It) (g1 : TG) (tk tv : TE) (vs1 : List Nat) (D : Addr) (σ2 : L2.St) (Nx : Hp → Prop) (G : Hp) : Prop :=
  ∃ W1 : Nat → Nat → Hp → Prop, (∃ m, W1 0 m G) ∧ ∀ j k G1, W1 j k G1 →
    (J1.stop j G1 ∧ Nx G1) ∨ (J1.go j G1 ∧ ∃ N1 : Hp → Prop, (∀ G2, N1 G2 → ∃ k2, k2 < k ∧ W1 (j + 1) k2 G2) ∧
      ∀ x G2, J1.yld j G1 x G2 → g1 x (wipe σ2 vs1) G2 fun σ3 G3 => wipe σ3 vs1 = wipe σ2 vs1 ∧
        tk σ3 G3 fun y G4 => tv σ3 G4 fun z G5 => ∃ kvs k0, y = kV k0 ∧ G5 D = some (.dK kvs) ∧ kvs.length < sizeLine ∧ N1 (upd G5 D (.dK (putK kvs k0 z))))
/-- the outer clause over the new dict D -/
def outer (J : It) (g : TG) (wi1 : TI) (g1 : TG) (tk tv : TE) (vs vs1 : List Nat) (D : Addr) (σ : L2.St) (Qd : Hp → Prop) (G : Hp) : Prop :=
  ∃ W : Nat → Nat → Hp → Prop, (∃ m, W 0 m G) ∧ ∀ i m G1, W i m G1 →
    (J.stop i G1 ∧ Qd G1) ∨ (J.go i G1 ∧ ∃ Nx : Hp → Prop, (∀ G2, Nx G2 → ∃ m2, m2 < m ∧ W (i + 1) m2 G2) ∧
      ∀ x G2, J.yld i G1 x G2 → g x (wipe σ vs) G2 fun σ2 G3 => wipe σ2 vs = wipe σ vs ∧
        wi1 σ2 G3 fun J1 G4 => inner J1 g1 tk tv vs1 D σ2 Nx G4)
/-- {kx: vx for t0 in i0 for t1 in i1} -/
def tDc2 (wi : TI) (g : TG) (wi1 : TI) (g1 : TG) (tk tv : TE) (vs vs1 : List Nat) : TE := fun σ H Q =>
  wi σ H fun J H1 => ∀ D, H1 D = none → outer J g wi1 g1 tk tv vs vs1 D σ (Q (.ref D)) (upd H1 D (.dK []))

theorem wipe_keep {σ : L2.St} {i : Nat} {v : V} {a b : List Nat} (sub : ∀ j ∈ b, j ∈ a) {τ : L2.St} (e : wipe τ a = wipe σ a) (h : (wipe σ a)[i]? = some (some v)) : (wipe τ b)[i]? = some (some v) ∧ τ[i]? = some (some v) := by
  rw [← e] at h
  obtain ⟨h1, h2⟩ := wipe_some h
  exact ⟨by rw [wipe_out fun q => h2 (sub _ q)]; exact h1, h1⟩

theorem dc2_core {pins : List (Addr × Obj)} {s : Shared} {σ : L2.St} {H : Hp} {Q : VK} {kx vx t0 i0 t1 i1 : Expr} {sc : Scope} {ps pos' : Pos} {own : List (Str × Nat)} {vs1 : List Nat}
    {wi wi1 : TI} {g g1 : TG} {tk tv : TE} {use : Option (Value → Sem Unit)} {Qf : Value → Shared → Prop}
    (hc : X.calm = true) (hN : X.N.Nodup) (I : Inv X pins σ H s) (hi : PI X t0 i0 wi) (ok : BlkOk X.N X.env.scope sc own) (hv : ∀ i ∈ vs1, i ∈ own.map (·.2))
    (hg : ∀ s H C cl fp, PG (cxB X s H sc C cl fp) t0 g) (hi1 : ∀ s H C cl fp, PI (cxB X s H sc C cl fp) t1 i1 wi1) (hg1 : ∀ s H C cl fp, PG (cxB X s H sc C cl fp) t1 g1)
    (hk : ∀ s H C cl fp, PE (cxB X s H sc C cl fp) kx tk) (hx : ∀ s H C cl fp, PE (cxB X s H sc C cl fp) vx tv)
    (hs : ∀ x, foldedSetIterable i0 X.env x = pure x) (hs1 : ∀ en x, foldedSetIterable i1 en x = pure x)
    (h : tDc2 wi g wi1 g1 tk tv (own.map (·.2)) vs1 σ H Q)
    (fin : ∀ D C z m G, Inv X pins σ G z → Q (.ref D) G → z.heap.Ns C m → FpOk X pins G C → compPost (model X.prog X.w) X.A X.xe use Qf (.ref D) C (.ok .next) z) :
    wpAny (model X.prog X.w) X.A (comprehension (dc2 kx vx t0 i0 t1 i1 sc ps) sc X.env pos' newDict false (eval i0 X.env) use) Qf X.xe s := by
  have free : ∀ y ∈ sc.names, y.2 = .free → ∃ c, X.env.cells.lookup y.1 = some c := fun y hy e =>
    (ok.free y hy e).elim (fun k => I.ok.has _ (.inl k)) fun k => I.ok.has _ (.inr k)
  refine wpAny_comprehension_free (use := use) rfl hs (closure_ok free) ok.kind (fun y hy e => by rw [ok.uniq y hy, e])
    (thn (hi.run pins s σ H _ I h) fun _ _ h1 => thn h1 fun _ sA hA => ?_)
  obtain ⟨it, fp, tn, J, HA, rfl, IA, T, stA, fpA, q⟩ := hA
  refine wpAny_newObj_type (newEnv_comp ?_)
  obtain ⟨D, hD⟩ : ∃ D, D = sA.heap.objs.size := ⟨_, rfl⟩
  have freshD : HA D = none := IA.hok.fresh (Nat.le_of_eq hD.symm)
  obtain ⟨W, ⟨m0, w0⟩, turn⟩ := q D freshD
  -- the new dict
  obtain ⟨sB, hB⟩ : ∃ z : Shared, z = { sA with heap := sA.heap.push { cls := .type "dict", data := .dict #[] } } := ⟨_, rfl⟩
  have heapB : sB.heap = sA.heap.push { cls := .type "dict", data := .dict #[] } := by rw [hB]
  have IB : Inv X pins σ (upd HA D (.dK [])) sB := by
    rw [hB]
    exact IA.laid (t' := sA.toks) (fun b o e => Heap.get?_push_of_some _ e) (Nat.le_of_eq hD.symm) (by rw [hD]; exact dk_empty sA.heap IA.big)
  have keepB : ∀ b o, sA.heap.get? b = some o → sB.heap.get? b = some o := fun b o e => by rw [heapB]; exact Heap.get?_push_of_some _ e
  have small : ∀ b ∈ fp, b < sA.heap.objs.size := fun b hb => let ⟨_, e, _⟩ := T.obj _ _ stA b hb; Heap.lt_size e
  have fpB : ∀ b ∈ fp, FpOk X pins (upd HA D (.dK [])) b ∧ b < sB.heap.objs.size := fun b hb =>
    have lt := small b hb
    ⟨⟨by rw [upd_ne (by rw [hD]; exact Nat.ne_of_lt lt)]; exact (fpA b hb).1, (fpA b hb).2⟩, by rw [heapB, Heap.size_push]; exact Nat.lt_succ_of_lt lt⟩
  have stB : tn 0 sB.heap := T.keep _ _ _ stA fun b _ o e => keepB b o e
  have IC := block_start IB ok hN fpB
  obtain ⟨cl, hcl⟩ : ∃ cl, cl = cellsFrom (sB.heap.objs.size + 1) sc.names (cloFrom X.env.cells sc.names []) := ⟨_, rfl⟩
  rw [← hcl] at IC
  have pg := hg sB (upd HA D (.dK [])) sB.heap.objs.size cl fp
  have pi1 := hi1 sB (upd HA D (.dK [])) sB.heap.objs.size cl fp
  have pg1 := hg1 sB (upd HA D (.dK [])) sB.heap.objs.size cl fp
  have pk := hk sB (upd HA D (.dK [])) sB.heap.objs.size cl fp
  have px := hx sB (upd HA D (.dK [])) sB.heap.objs.size cl fp
  have noneB : ∀ b ∈ fp, (upd HA D (.dK [])) b = none := fun b hb => (fpB b hb).1.1
  have locC : (compEnvC sc cl sB.heap.objs.size X.env).locals = sB.heap.objs.size := rfl
  unfold cxB at pg pi1 pg1 pk px
  suffices goal : codeAny (model X.prog X.w) X.A (.compStart (dc2 kx vx t0 i0 t1 i1 sc ps) 0 (.ref it) (.ref D) (compEnvC sc cl sB.heap.objs.size X.env))
      (compPost (model X.prog X.w) X.A X.xe use Qf (.ref D) sB.heap.objs.size) { sB with heap := pushCells (sB.heap.push { cls := .type "dict", data := .dict #[] }) sc.names } by
    subst hcl hB hD
    exact goal
  obtain ⟨sC, hC⟩ : ∃ z : Shared, z = { sB with heap := pushCells (sB.heap.push { cls := .type "dict", data := .dict #[] }) sc.names } := ⟨_, rfl⟩
  rw [← hC] at IC ⊢
  generalize hce : compEnvC sc cl sB.heap.objs.size X.env = ce at IC pg pi1 pg1 pk px locC ⊢
  generalize hH : upd HA D (.dK []) = HB at IB IC pg pi1 pg1 pk px w0 noneB fpB
  have stC : tn 0 sC.heap := T.keep _ _ _ stB fun b _ o e => by rw [hC]; exact pushCells_keeps _ _ _ _ (Heap.get?_push_of_some _ e)
  have fpY : ∀ {τ : L2.St} {G : Hp} {z : Shared}, Inv (X.blk sB HB sc ce fp) [] τ G z → (∀ b ∈ fp, G b = none) → ∀ b ∈ fp, FpOk (X.blk sB HB sc ce fp) [] G b :=
    fun {τ G z} K hn b hb => ⟨hn b hb, (K.ok.exf b hb).1, K.ok.exfs b hb, .inl hb, fun x c e => (K.ok.exf b hb).2 x c e, fun p hp => absurd (show p ∈ ([] : List (Addr × Obj)) ++ [] from hp) (by simp)⟩
  obtain ⟨base, hbase⟩ : ∃ b : L2.St, b = wipe σ (own.map (·.2)) := ⟨_, rfl⟩
  -- what stands between two turns of the first clause
  let Z : Nat → Shared → Prop := fun n z => ∃ i G, Inv (X.blk sB HB sc ce fp) [] base G z ∧ tn i z.heap ∧ (∀ b ∈ fp, G b = none) ∧ W i n G
  have loop : codeAny (model X.prog X.w) X.A (.compLoop (dc2 kx vx t0 i0 t1 i1 sc ps) 0 (.ref it) (.ref D) ce) (compPost (model X.prog X.w) X.A X.xe use Qf (.ref D) sB.heap.objs.size) sC := by
    refine loopOut (hs1 ce) Z ?_ m0 ⟨0, HB, by rw [hbase]; exact IC, stC, noneB, w0⟩
    rintro n z ⟨i, G, Iz, stz, nz, wz⟩
    rcases turn i n G wz with ⟨stop, qq⟩ | ⟨go, Nx, hNx, step⟩
    · have td := T.done (X.blk sB HB sc ce fp) rfl rfl rfl hc i [] z base G (fun _ _ => False) Iz (fpY Iz nz) stz stop
      refine thnF td fun r z2 ⟨hr, I2⟩ => ?_
      subst hr
      have I3 : Inv X pins σ G z2 := IB.call' (ch := fp) I2.os I2.base I2.hok I2.bare fun b hb =>
        have f := (fpB b hb).1.2
        ⟨f.2.2.1, f.1, f.2.2.2.1, f.2.2.2.2⟩
      have nC : G sB.heap.objs.size = none := by have k : G ce.locals = none := I2.free; rwa [locC] at k
      obtain ⟨m, hn, _⟩ := I2.loc
      have hn : z2.heap.Ns ce.locals m := hn
      rw [locC] at hn
      exact fin D sB.heap.objs.size z2 m G I3 qq hn (IB.fpOk (Nat.le_refl _) nC)
    · have ti := T.item (X.blk sB HB sc ce fp) rfl rfl rfl hc i [] z base G (fun _ _ => False) Iz (fpY Iz nz) stz go
      refine thnF ti fun r z2 ⟨u, hr, h2⟩ => ?_
      subst hr
      refine thnF h2 fun _ z3 ⟨x, G3, I3, r3, y3, st3, n3⟩ => ?_
      have P3 := I3.pinned (fpY I3 n3) (T.obj _ _ st3)
      rw [hbase] at P3
      have a4 := pg.run _ z3 _ G3 x u _ P3 r3 (step x G3 y3)
      refine thnF a4 fun _ z4 ⟨τ, G4, I4, hw4, q4⟩ => ?_
      have baseL : base.length = τ.length := by rw [hbase, ← hw4, wipe_length]
      have baseV : ∀ (j : Nat) v, base[j]? = some (some v) → τ[j]? = some (some v) := fun j v e => by
        rw [hbase, ← hw4] at e
        exact (wipe_some e).1
      have baseV1 : ∀ (j : Nat) v, base[j]? = some (some v) → (wipe τ vs1)[j]? = some (some v) := fun j v e =>
        (wipe_keep hv hw4 (by rw [← hbase]; exact e)).1
      -- the end of a turn, whatever the slots
      have ends : ∀ {ρ : L2.St} {y : Shared} {G' : Hp}, Inv (X.blk sB HB sc ce fp) ([] ++ pinsAt fp z3.heap) ρ G' y → base.length = ρ.length → (∀ (j : Nat) v, base[j]? = some (some v) → ρ[j]? = some (some v)) → Nx G' → ∃ m, m < n ∧ Z m y := by
        intro ρ y G' K hl hk nx
        obtain ⟨m2, lt2, w2⟩ := hNx G' nx
        have stay : ∀ b ∈ fp, ∀ o, z3.heap.get? b = some o → y.heap.get? b = some o ∧ G' b = none := fun b hb o e =>
          have k := K.pin (b, o) (List.mem_append_right _ (List.mem_append_right _ (mem_pinsAt hb e)))
          ⟨k.1, k.2.1⟩
        refine ⟨m2, lt2, i + 1, G', (K.unpinned (pins := [])).weak hl hk, T.keep _ _ _ st3 fun b hb o e => (stay b hb o e).1, fun b hb => ?_, w2⟩
        obtain ⟨o, e, _⟩ := T.obj _ _ st3 b hb
        exact (stay b hb o e).2
      have a5 := pi1.run _ z4 τ G4 _ I4 q4
      refine thnF a5 fun _ z5 h5 => ?_
      refine thnF h5 fun _ z6 h6 => ?_
      obtain ⟨it1, fp1, tn1, J1, G6, rfl, I6, T1, st6, f6, W1, ⟨m1, w1⟩, turn1⟩ := h6
      have ok1 : ∀ {G' : Hp}, (∀ b ∈ fp1, G' b = none) → ∀ b ∈ fp1, FpOk (X.blk sB HB sc ce fp) ([] ++ pinsAt fp z3.heap) G' b := fun hn b hb => ⟨hn b hb, (f6 b hb).2⟩
      let Z1 : Nat → Shared → Prop := fun k y => ∃ j G', Inv (X.blk sB HB sc ce fp) ([] ++ pinsAt fp z3.heap) (wipe τ vs1) G' y ∧ tn1 j y.heap ∧ (∀ b ∈ fp1, G' b = none) ∧ W1 j k G'
      have loop1 : codeAny (model X.prog X.w) X.A (.compLoop (dc2 kx vx t0 i0 t1 i1 sc ps) 1 (.ref it1) (.ref D) ce) (fun q y => match q with | .ok _ => ∃ m, m < n ∧ Z m y | .error _ => False) z6 := by
        refine loopIn Z1 ?_ m1 ⟨0, G6, I6.weak (wipe_length _ _) (fun j v e => (wipe_some e).1), st6, fun b hb => (f6 b hb).1, w1⟩
        rintro k y ⟨j, G7, I7, st7, n7, w7⟩
        rcases turn1 j k G7 w7 with ⟨stop1, nx⟩ | ⟨go1, N1, hN1, step1⟩
        · have td := T1.done (X.blk sB HB sc ce fp) rfl rfl rfl hc j _ y (wipe τ vs1) G7 (fun _ _ => False) I7 (ok1 n7) st7 stop1
          refine thnF td fun r y2 ⟨hr, I8⟩ => ?_
          subst hr
          exact ends I8 (baseL.trans (wipe_length τ vs1).symm) baseV1 nx
        · have ti := T1.item (X.blk sB HB sc ce fp) rfl rfl rfl hc j _ y (wipe τ vs1) G7 (fun _ _ => False) I7 (ok1 n7) st7 go1
          refine thnF ti fun r y2 ⟨u1, hr, h8⟩ => ?_
          subst hr
          refine thnF h8 fun _ y3 ⟨x1, G9, I9, r9, y9, st9, n9⟩ => ?_
          have P9 := I9.pinned (ok1 n9) (T1.obj _ _ st9)
          have b1 := pg1.run _ y3 (wipe τ vs1) G9 x1 u1 _ P9 r9 (step1 x1 G9 y9)
          refine thnF b1 fun _ y4 ⟨ρ, G10, I10, hw10, q10⟩ => ?_
          have back : ∀ {y' : Shared} {G' : Hp}, Inv (X.blk sB HB sc ce fp) (([] ++ pinsAt fp z3.heap) ++ pinsAt fp1 y3.heap) ρ G' y' → N1 G' → ∃ m, m < k ∧ Z1 m y' := by
            intro y' G' K nx
            obtain ⟨k2, lt2, w2⟩ := hN1 G' nx
            have stay : ∀ b ∈ fp1, ∀ o, y3.heap.get? b = some o → y'.heap.get? b = some o ∧ G' b = none := fun b hb o e =>
              have p := K.pin (b, o) (List.mem_append_right _ (List.mem_append_right _ (mem_pinsAt hb e)))
              ⟨p.1, p.2.1⟩
            refine ⟨k2, lt2, j + 1, G', K.unpinned.weak (by rw [← hw10, wipe_length]) (fun i v e => by rw [← hw10] at e; exact (wipe_some e).1), T1.keep _ _ _ st9 fun b hb o e => (stay b hb o e).1, fun b hb => ?_, w2⟩
            obtain ⟨o, e, _⟩ := T1.obj _ _ st9 b hb
            exact (stay b hb o e).2
          have b2 := pk.run _ y4 ρ G10 _ I10 q10
          refine thnF b2 fun _ y5 ⟨ky, G11, I11, r11, q11⟩ => ?_
          have b3 := px.run _ y5 ρ G11 _ I11 q11
          refine thnF b3 fun _ y6 ⟨vy, G12, I12, r12, kvs, k0, ek, hD12, hz12, nx⟩ => ?_
          subst ek
          have b4 := d_dictSet (E := fun _ _ => False) (Q := fun _ y' => ∃ m, m < k ∧ Z1 m y') I12 hD12 hz12 r11 r12 fun y7 I13 => back I13 nx
          exact thnF b4 fun _ _ z => z
      exact startIn loop1 (T1.self X.A 0 _ _ _ st6 loop1)
  exact codeAny_compStart_dict loop (T.self X.A 0 _ _ _ stC loop)
end
end Two

set_option Elab.async false
set_option linter.all false
set_option maxRecDepth 100000
set_option maxHeartbeats 4000000
namespace Two
open PySem PySem.Spec PyProof.Rows L2
section
variable {X : Cx}
theorem pe_dc2 {kx vx t0 i0 t1 i1 : Expr} {sc : Scope} {ps : Pos} {own : List (Str × Nat)} {vs1 : List Nat} {wi wi1 : TI} {g g1 : TG} {tk tv : TE}
    (hc : X.calm = true) (hN : X.N.Nodup) (hi : PI X t0 i0 wi) (ok : BlkOk X.N X.env.scope sc own) (hv : ∀ i ∈ vs1, i ∈ own.map (·.2))
    (hg : ∀ s H C cl fp, PG (cxB X s H sc C cl fp) t0 g) (hi1 : ∀ s H C cl fp, PI (cxB X s H sc C cl fp) t1 i1 wi1) (hg1 : ∀ s H C cl fp, PG (cxB X s H sc C cl fp) t1 g1)
    (hk : ∀ s H C cl fp, PE (cxB X s H sc C cl fp) kx tk) (hx : ∀ s H C cl fp, PE (cxB X s H sc C cl fp) vx tv)
    (hs : ∀ x, foldedSetIterable i0 X.env x = pure x := by intro _; rfl) (hs1 : ∀ en x, foldedSetIterable i1 en x = pure x := by intro _ _; rfl) :
    PE X (dc2 kx vx t0 i0 t1 i1 sc ps) (tDc2 wi g wi1 g1 tk tv (own.map (·.2)) vs1) := by
  refine ⟨fun pins s σ H Q I h => ?_⟩
  rw [arm_eval_DictComp]
  refine dc2_core hc hN I hi ok hv hg hi1 hg1 hk hx hs hs1 h fun D C z m G K q hn f => ⟨m, hn, fun h2 sb => ?_⟩
  exact ⟨.ref D, G, K.turned (t' := z.toks) (fun b o hb e => (sb.2 b hb).trans e) f.1 f.2.1 f.2.2.2.1 f.2.2.2.2.1 f.2.2.2.2.2, rfl, q⟩

theorem ps_setDc2 {i : Nat} {y : Str} {py : Pos} {kx vx t0 i0 t1 i1 : Expr} {sc : Scope} {ps sp : Pos} {own : List (Str × Nat)} {vs1 : List Nat} {wi wi1 : TI} {g g1 : TG} {tk tv : TE}
    (hc : X.calm = true) (hN : X.N.Nodup) (hy : X.N[i]? = some y) (hyl : X.env.scope.names.lookup y = some .local)
    (sw : swapsWith (dc2 kx vx t0 i0 t1 i1 sc ps) (some (.Name y py)) sp.line X.env = pure true)
    (hi : PI X t0 i0 wi) (ok : BlkOk X.N X.env.scope sc own) (hv : ∀ i ∈ vs1, i ∈ own.map (·.2))
    (hg : ∀ s H C cl fp, PG (cxB X s H sc C cl fp) t0 g) (hi1 : ∀ s H C cl fp, PI (cxB X s H sc C cl fp) t1 i1 wi1) (hg1 : ∀ s H C cl fp, PG (cxB X s H sc C cl fp) t1 g1)
    (hk : ∀ s H C cl fp, PE (cxB X s H sc C cl fp) kx tk) (hx : ∀ s H C cl fp, PE (cxB X s H sc C cl fp) vx tv)
    (hs : ∀ x, foldedSetIterable i0 X.env x = pure x := by intro _; rfl) (hs1 : ∀ en x, foldedSetIterable i1 en x = pure x := by intro _ _; rfl) :
    PS X (.Assign [.Name y py] (dc2 kx vx t0 i0 t1 i1 sc ps) sp) (tAsg (tDc2 wi g wi1 g1 tk tv (own.map (·.2)) vs1) (gName i)) := by
  refine ⟨fun pins s σ H D I h => ?_⟩
  rw [exec_Assign_Name_used _ _ _ _ sw]
  refine wpAny_bind (wpAny_standAt (wpAny_bind ?_))
  show wpAny _ X.A (do let _ ← comprehension (dc2 kx vx t0 i0 t1 i1 sc ps) sc X.env (firstIterPos [⟨t0, i0, [], 0⟩, ⟨t1, i1, [], 0⟩] ps) newDict false (eval i0 X.env) (some (assign (.Name y py) X.env))) _ _ s
  have h' : tDc2 wi g wi1 g1 tk tv (own.map (·.2)) vs1 σ H (fun x G => gName i x σ G D.nx) := h
  have fin : ∀ L C z m G, Inv X pins σ G z → gName i (V.ref L) σ G D.nx → z.heap.Ns C m → FpOk X pins G C →
      compPost (model X.prog X.w) X.A X.xe (some (assign (.Name y py) X.env)) (fun _ s' => SP X pins D .next s') (.ref L) C (.ok .next) z := by
    intro L C z m G K q hn f
    show wpAny _ _ (assign (.Name y py) X.env (.ref L)) _ _ _
    refine wpAny_assign_Name (store_ok2 (v := V.ref L) K hN hy (.inl hyl) rfl (fun s2 I2 ⟨a, sb, ha⟩ => ?_) (.inr hyl))
    have ne : C ≠ a := ha.elim (fun q => by rw [q]; exact f.2.1) fun q e => f.2.2.2.2.1 y a q e.symm
    exact ⟨m, hn.sameBut sb ne, fun h3 sb3 => ⟨_, G, I2.turned (t' := s2.toks) (fun b o hb e => (sb3.2 b hb).trans e) f.1 f.2.1 f.2.2.2.1 f.2.2.2.2.1 f.2.2.2.2.2, q⟩⟩
  exact wpAny_bind (thn (dc2_core (Qf := fun _ s' => SP X pins D .next s') hc hN I hi ok hv hg hi1 hg1 hk hx hs hs1 h' fin) fun _ s' hq => wpAny_pure (wpAny_pure hq))
theorem swD {kx vx t0 i0 t1 i1 : Expr} {sc : Scope} {ps py : Pos} {y : Str} {l : Nat} {env : Env} (hk : env.scope.kind = .function) (hy : env.scope.names.lookup y = some .local) (hl : (py.line == ps.line) = true)
    (ha : (sc.names.any fun (n, k) => n == y && (k == .local || k == .cell)) = false) : swapsWith (dc2 kx vx t0 i0 t1 i1 sc ps) (some (.Name y py)) l env = pure true := by
  have k1 : env.kindOf y = some .local := hy
  have k2 : env.blockKind = .function := by unfold Env.blockKind; rw [hk]; rfl
  unfold swapsWith
  simp only [k2, k1, ha, Expr.pos, hl]
  rfl

/-! ### any over data -/
def rAnyD (K : PySem.W.Frag) : List V → Hp → VK → Prop := fun vs H Q => ∃ (a : Addr) (ds : List PyData), vs = [V.ref a] ∧ Dp K H (.ref a) (.list ds) ∧ PyData.plainAll ds = true ∧ (∀ d ∈ ds, d.fits63) ∧ Q (.bl (ds.any PyData.truthy)) H
theorem cr_anyD (hc : X.calm = true) : CallR X (.builtin "any") (rAnyD X.K) := by
  intro pins s σ H vs us Q I r h
  obtain ⟨a, ds, rfl, hd, hp, hf, q⟩ := h
  rw [Vals.ref1 r]
  obtain ⟨as, rr⟩ := Dp.reads I _ _ _ hd rfl
  cases rr with
  | list h1 h2 h3 h4 =>
    refine PySem.W.any_list_data (I.ok.hd hc) ⟨_, h1, h2, _, h3⟩ h4 hp hf fun h' tk hk => ?_
    exact ⟨.bl _, H, I.kept hk, rfl, q⟩

/-! ### {e for x in xs} of ints -/
/-- over the new set D -/
def oneS (w : World) (J : It) (g : TG) (te : TE) (vs : List Nat) (D : Addr) (σ : L2.St) (Qd : Hp → Prop) (G : Hp) : Prop :=
  ∃ W : Nat → Nat → Hp → Prop, (∃ m, W 0 m G) ∧ ∀ i m G1, W i m G1 →
    (J.stop i G1 ∧ Qd G1) ∨ (J.go i G1 ∧ ∃ Nx : Hp → Prop, (∀ G2, Nx G2 → ∃ m2, m2 < m ∧ W (i + 1) m2 G2) ∧
      ∀ x G2, J.yld i G1 x G2 → g x (wipe σ vs) G2 fun σ2 G3 => wipe σ2 vs = wipe σ vs ∧
        te σ2 G3 fun y G4 => ∃ (k : Int) (S : Int → Bool) (n : Nat), y = .int k ∧ G4 D = some (SetO w D S n) ∧ n + 1 < scanBound ∧
          Nx (upd G4 D (SetO w D (fun j => S j || decide (j = k)) (if S k = true then n else n + 1))))
def tScI (w : World) (wi : TI) (g : TG) (te : TE) (vs : List Nat) : TE := fun σ H Q =>
  wi σ H fun J H1 => ∀ D, H1 D = none → oneS w J g te vs D σ (Q (.ref D)) (upd H1 D (SetO w D (fun _ => false) 0))

theorem pe_scI {e0 t0 i0 : Expr} {sc : Scope} {ps : Pos} {own : List (Str × Nat)} {wi : TI} {g : TG} {te : TE}
    (hc : X.calm = true) (hN : X.N.Nodup) (hi : PI X t0 i0 wi) (ok : BlkOk X.N X.env.scope sc own)
    (hg : ∀ s H C cl fp, PG (cxB X s H sc C cl fp) t0 g) (he : ∀ s H C cl fp, PE (cxB X s H sc C cl fp) e0 te)
    (hs : ∀ x, foldedSetIterable i0 X.env x = pure x := by intro _; rfl) :
    PE X (.SetComp e0 [⟨t0, i0, [], 0⟩] sc ps) (tScI X.w wi g te (own.map (·.2))) := by
  refine ⟨fun pins s σ H Q I h => ?_⟩
  rw [PpSet.eval_SetComp]
  have free : ∀ y ∈ sc.names, y.2 = .free → ∃ c, X.env.cells.lookup y.1 = some c := fun y hy e =>
    (ok.free y hy e).elim (fun k => I.ok.has _ (.inl k)) fun k => I.ok.has _ (.inr k)
  refine wpAny_comprehension_free (use := none) rfl hs (closure_ok free) ok.kind (fun y hy e => by rw [ok.uniq y hy, e])
    (thn (hi.run pins s σ H _ I h) fun _ _ h1 => thn h1 fun _ sA hA => ?_)
  obtain ⟨it, fp, tn, J, HA, rfl, IA, T, stA, fpA, q⟩ := hA
  refine PpSet.newSet_ok (newEnv_comp ?_)
  obtain ⟨D, hD⟩ : ∃ D, D = sA.heap.objs.size := ⟨_, rfl⟩
  have freshD : HA D = none := IA.hok.fresh (Nat.le_of_eq hD.symm)
  obtain ⟨W, ⟨m0, w0⟩, turn⟩ := q D freshD
  obtain ⟨ob, hob⟩ : ∃ ob : Obj, ob = { cls := .type "set", dict := none, data := .set #[] 0 (.fresh 0 0 (!X.w.params.followText "set-order")) } := ⟨_, rfl⟩
  obtain ⟨sB, hB⟩ : ∃ z : Shared, z = { sA with heap := sA.heap.push ob } := ⟨_, rfl⟩
  have heapB : sB.heap = sA.heap.push ob := by rw [hB]
  have IB : Inv X pins σ (upd HA D (SetO X.w D (fun _ => false) 0)) sB := by
    rw [hB]
    refine IA.laid (t' := sA.toks) (fun b o e => Heap.get?_push_of_some _ e) (Nat.le_of_eq hD.symm) (setO_new ?_)
    rw [hD, hob]
    exact setR_fresh X.w
  have keepB : ∀ b o, sA.heap.get? b = some o → sB.heap.get? b = some o := fun b o e => by rw [heapB]; exact Heap.get?_push_of_some _ e
  have small : ∀ b ∈ fp, b < sA.heap.objs.size := fun b hb => let ⟨_, e, _⟩ := T.obj _ _ stA b hb; Heap.lt_size e
  have fpB : ∀ b ∈ fp, FpOk X pins (upd HA D (SetO X.w D (fun _ => false) 0)) b ∧ b < sB.heap.objs.size := fun b hb =>
    have lt := small b hb
    ⟨⟨by rw [upd_ne (by rw [hD]; exact Nat.ne_of_lt lt)]; exact (fpA b hb).1, (fpA b hb).2⟩, by rw [heapB, Heap.size_push]; exact Nat.lt_succ_of_lt lt⟩
  have stB : tn 0 sB.heap := T.keep _ _ _ stA fun b _ o e => keepB b o e
  have IC := block_start IB ok hN fpB
  obtain ⟨cl, hcl⟩ : ∃ cl, cl = cellsFrom (sB.heap.objs.size + 1) sc.names (cloFrom X.env.cells sc.names []) := ⟨_, rfl⟩
  rw [← hcl] at IC
  have pg := hg sB (upd HA D (SetO X.w D (fun _ => false) 0)) sB.heap.objs.size cl fp
  have pe := he sB (upd HA D (SetO X.w D (fun _ => false) 0)) sB.heap.objs.size cl fp
  have noneB : ∀ b ∈ fp, (upd HA D (SetO X.w D (fun _ => false) 0)) b = none := fun b hb => (fpB b hb).1.1
  have locC : (compEnvC sc cl sB.heap.objs.size X.env).locals = sB.heap.objs.size := rfl
  unfold cxB at pg pe
  suffices goal : codeAny (model X.prog X.w) X.A (.compStart (.SetComp e0 [⟨t0, i0, [], 0⟩] sc ps) 0 (.ref it) (.ref D) (compEnvC sc cl sB.heap.objs.size X.env))
      (compPost (model X.prog X.w) X.A X.xe none (EP X pins σ Q) (.ref D) sB.heap.objs.size) { sB with heap := pushCells (sB.heap.push { cls := .type "dict", data := .dict #[] }) sc.names } by
    subst hcl hB hD hob
    exact goal
  obtain ⟨sC, hC⟩ : ∃ z : Shared, z = { sB with heap := pushCells (sB.heap.push { cls := .type "dict", data := .dict #[] }) sc.names } := ⟨_, rfl⟩
  rw [← hC] at IC ⊢
  generalize hce : compEnvC sc cl sB.heap.objs.size X.env = ce at IC pg pe locC ⊢
  generalize hH : upd HA D (SetO X.w D (fun _ => false) 0) = HB at IB IC pg pe w0 noneB fpB
  have stC : tn 0 sC.heap := T.keep _ _ _ stB fun b _ o e => by rw [hC]; exact pushCells_keeps _ _ _ _ (Heap.get?_push_of_some _ e)
  have fpY : ∀ {τ : L2.St} {G : Hp} {z : Shared}, Inv (X.blk sB HB sc ce fp) [] τ G z → (∀ b ∈ fp, G b = none) → ∀ b ∈ fp, FpOk (X.blk sB HB sc ce fp) [] G b :=
    fun {τ G z} K hn b hb => ⟨hn b hb, (K.ok.exf b hb).1, K.ok.exfs b hb, .inl hb, fun x c e => (K.ok.exf b hb).2 x c e, fun p hp => absurd (show p ∈ ([] : List (Addr × Obj)) ++ [] from hp) (by simp)⟩
  obtain ⟨base, hbase⟩ : ∃ b : L2.St, b = wipe σ (own.map (·.2)) := ⟨_, rfl⟩
  let Z : Nat → Shared → Prop := fun n z => ∃ i G, Inv (X.blk sB HB sc ce fp) [] base G z ∧ tn i z.heap ∧ (∀ b ∈ fp, G b = none) ∧ W i n G
  have loop : codeAny (model X.prog X.w) X.A (.compLoop (.SetComp e0 [⟨t0, i0, [], 0⟩] sc ps) 0 (.ref it) (.ref D) ce) (compPost (model X.prog X.w) X.A X.xe none (EP X pins σ Q) (.ref D) sB.heap.objs.size) sC := by
    refine PpSet.compLoopS_any Z ?_ m0 ⟨0, HB, by rw [hbase]; exact IC, stC, noneB, w0⟩
    rintro n z ⟨i, G, Iz, stz, nz, wz⟩
    rcases turn i n G wz with ⟨stop, qq⟩ | ⟨go, Nx, hNx, step⟩
    · refine thnF (T.done (X.blk sB HB sc ce fp) rfl rfl rfl hc i [] z base G (fun _ _ => False) Iz (fpY Iz nz) stz stop) fun r z2 ⟨hr, I2⟩ => ?_
      subst hr
      have I3 : Inv X pins σ G z2 := IB.call' (ch := fp) I2.os I2.base I2.hok I2.bare fun b hb =>
        have f := (fpB b hb).1.2
        ⟨f.2.2.1, f.1, f.2.2.2.1, f.2.2.2.2⟩
      have nC : G sB.heap.objs.size = none := by have k : G ce.locals = none := I2.free; rwa [locC] at k
      obtain ⟨m, hn, _⟩ := I2.loc
      have hn : z2.heap.Ns ce.locals m := hn
      rw [locC] at hn
      have f := IB.fpOk (H' := G) (Nat.le_refl _) nC
      exact ⟨m, hn, fun h2 sb => ⟨.ref D, G, I3.turned (t' := z2.toks) (fun b o hb e => (sb.2 b hb).trans e) f.1 f.2.1 f.2.2.2.1 f.2.2.2.2.1 f.2.2.2.2.2, rfl, qq⟩⟩
    · refine thnF (T.item (X.blk sB HB sc ce fp) rfl rfl rfl hc i [] z base G (fun _ _ => False) Iz (fpY Iz nz) stz go) fun r z2 ⟨u, hr, h2⟩ => ?_
      subst hr
      refine thnF h2 fun _ z3 ⟨x, G3, I3, r3, y3, st3, n3⟩ => ?_
      have P3 := I3.pinned (fpY I3 n3) (T.obj _ _ st3)
      rw [hbase] at P3
      refine thnF (pg.run _ z3 _ G3 x u _ P3 r3 (step x G3 y3)) fun _ z4 ⟨τ, G4, I4, hw4, q4⟩ => ?_
      refine thnF ((pts_nil (X := X.blk sB HB sc ce fp)).run _ z4 τ G4 (fun b G' => b = true ∧ G' = G4) I4 ⟨rfl, rfl⟩) fun b z5 ⟨G5, I5, hb, e5⟩ => ?_
      subst hb e5
      simp only [if_true]
      refine thnF (pe.run _ z5 τ G5 _ I5 q4) fun _ z6 ⟨vy, G6, I6, r6, k, S, cnt, ek, hD6, room, nx⟩ => ?_
      subst ek
      obtain ⟨tk, rfl⟩ := r6
      refine setR_add (setO_get (X := X.blk sB HB sc ce fp) I6 hD6) room fun h' sb new => ?_
      have he' : ∃ u, h'.get? D = some u := let ⟨o, _, _, _, ho, _⟩ := new; ⟨o, ho⟩
      have I7 := I6.write (e := D) (t' := z6.toks + 1) (by rw [hD6]; trivial) (.inl rfl) (fun b u hb hu => (sb.2 b hb).trans hu) he' (setO_new new)
      obtain ⟨m2, lt2, w2⟩ := hNx _ nx
      have stay : ∀ b ∈ fp, ∀ o, z3.heap.get? b = some o → h'.get? b = some o ∧ (upd G6 D (SetO X.w D (fun j => S j || decide (j = k)) (if S k = true then cnt else cnt + 1))) b = none := fun b hb o e =>
        have k := I7.pin (b, o) (List.mem_append_right _ (List.mem_append_right _ (mem_pinsAt hb e)))
        ⟨k.1, k.2.1⟩
      refine ⟨m2, lt2, i + 1, _, (I7.unpinned (pins := [])).weak (by rw [hbase, ← hw4, wipe_length]) (fun j v e => ?_), T.keep _ _ _ st3 fun b hb o e => (stay b hb o e).1, fun b hb => ?_, w2⟩
      · rw [hbase, ← hw4] at e
        exact (wipe_some e).1
      · obtain ⟨o, e, _⟩ := T.obj _ _ st3 b hb
        exact (stay b hb o e).2
  exact PpSet.codeAny_compStart_set loop (T.self X.A 0 _ _ _ stC loop)

/-! ### len of a set of ints -/
def rLenS (w : World) : List V → Hp → VK → Prop := fun vs H Q => ∃ (a : Addr) (S : Int → Bool) (n : Nat), vs = [V.ref a] ∧ H a = some (SetO w a S n) ∧ Q (.int (n : Int)) H
theorem cr_lenS : CallR X (.builtin "len") (rLenS X.w) := by
  intro pins s σ H vs us Q I r h
  obtain ⟨a, S, n, rfl, ha, q⟩ := h
  rw [Vals.ref1 r]
  obtain ⟨o, es, ep, t, ho, hex, hd, _, _, _, hb, hf, hn, _⟩ := setO_get I ha
  refine PySem.call_len_set ho hex hd hf (by rw [hn]; unfold scanBound at hb; omega) ⟨.int (n : Int), H, I.tok _, ⟨_, by rw [hn]⟩, q⟩
end
end Two

set_option Elab.async false
set_option linter.all false
set_option maxRecDepth 100000
set_option maxHeartbeats 4000000
/-! repr of data, and defs that are called where nothing is being printed. -/
namespace Two
open PySem PySem.Spec PyProof.Rows L2
section
variable {X : Cx}
def rReprD (K : PySem.W.Frag) : List V → Hp → VK → Prop := fun vs H Q => ∃ (a : Addr) (d : PyData), vs = [V.ref a] ∧ Dp K H (.ref a) d ∧
  d.showable = true ∧ d.hasDict = false ∧ d.depth ≤ 32 ∧ d.shown.length ≤ sizeLine ∧ Q (.str d.shown) H
theorem cr_reprD (hg : X.A.guards = some []) (hu : X.A.units + 64 < cLine) : CallR X (.builtin "repr") (rReprD X.K) := by
  intro pins s σ H vs us Q I r h
  obtain ⟨a, d, rfl, hd, hs, hn, hp, hz, q⟩ := h
  rw [Vals.ref1 r]
  obtain ⟨as, rr⟩ := Dp.reads I _ _ _ hd rfl
  exact repr_of_reads' rr hs (fun k => by rw [hn] at k; cases k) hg (by omega) (fun _ _ e => e) (fun h' u tk hk => ⟨.str d.shown, H, I.kept hk, ⟨u, rfl⟩, q⟩) hz
end

/-- a def's promise where nothing is being printed -/
structure FnG (P : Program) (w : World) (K : PySem.W.Frag) (mg : Str → Option Value) (base : Heap) (CX : CXT) (k : Nat) (f : Addr) (fd : FuncData) (ps : List Str) (sp : Sp) : Prop where
  len : ∀ vs H Q E, sp vs H Q E → vs.length = ps.length
  run : ∀ (A : Around) (outer : List Env) (s : Shared) (H : Hp) (args : Args) (us : List Value) (vs : List V) (Q : VK) (E : XK), Room k A → A.guards = some [] →
    Env0 P w K mg base A outer s H → BindsTo s fd args (ps.zip us) → Vals vs us → sp vs H Q E → codeAny (model P w) A (.call (.ref f) args) (CR CX outer P w H s Q E) s

section
variable {P : Program} {w : World} {K : PySem.W.Frag} {mg : Str → Option Value} {base : Heap}
/-- by its body -/
theorem FnG.of {x qual : Str} {st : Stmt} {f : Addr} {fd : FuncData} {N ps : List Str} {k : Nat} {sp : Sp} (F : Fun K x qual st f fd) (S : FnScope N ps (defScope st)) (len : ∀ vs H Q E, sp vs H Q E → vs.length = ps.length)
    (body : ∀ (cdv : Value) (A : Around) (outer : List Env) (s : Shared) (H : Hp) (vs : List V) (Q : VK) (E : XK), Room k (A.deeper (envOfC qual (defScope st) s.heap.objs.size f cdv)) → A.guards = some [] → sp vs H Q E →
      ∃ t, PSs (cxOf CX0 P w K mg base N qual (defScope st) f cdv A outer s H E).nox (defBody st) t ∧ t { nx := fun _ G => Q .non G, rt := Q } (start N vs) H) : FnG P w K mg base CX0 (k + 1) f fd ps sp := by
  obtain ⟨oc, od, kV, doc, pm, an, cdv, ct, osl, rfl, lk, hcd⟩ := F.ex
  refine ⟨len, fun A outer s H args us vs Q E hr hg e0 hb r hsp => ?_⟩
  have hl := len _ _ _ _ hsp
  have KX : K.In s.heap := e0.mod.kin.keeps fun b o e => (e0.bs b o e).1
  have lim : s.heap.NoLimit := e0.mod.nolimit.keeps fun b o e => (e0.bs b o e).1
  have kinds : ∀ y ∈ ps.zip us, (defScope st).names.lookup y.1 = some .local ∨ ((defScope st).names.lookup y.1 = some .cell ∧ ((cellsFrom (s.heap.objs.size + 1) (defScope st).names []).lookup y.1).isSome = true) := by
    rintro ⟨n, v⟩ hy
    exact (S.par n (List.of_mem_zip hy).1).imp id fun q => ⟨q, PySem.W.cellsFrom_some _ _ _ (.inl q)⟩
  refine codeAny_call_function hr.depth (KX _ _ lk) rfl S.co S.gen rfl (PySem.W.codeRec_of KX hcd) (hb _ _ _ _ ?_)
  refine wpAny_newFunctionEnv_cells S.kind kinds fun env he s1 x => ?_
  subst he
  refine ⟨lim.keeps x.toInCall.keep, codeAny_func ?_⟩
  obtain ⟨t, ht, hq⟩ := body cdv A outer s H vs Q E (hr.deeper _) hg hsp
  have I := inv_start (qual := qual) (f := f) (cd := cdv) (E := E) (CX := CX0) S hr.hd e0 hl r x
  refine wpAny_mono (ht.nox.run [] s1 (start N vs) H _ I hq) (fun fl s' hs => ?_) fun e s' hs => hs
  have done : ∀ {τ : L2.St} {G : Hp} {v : V} {u : Value}, Inv (cxOf CX0 P w K mg base N qual (defScope st) f cdv A outer s H E) [] τ G s' → RelV v u → Q v G → CE outer P w H s Q u s' :=
    fun {τ G v u} J rv q => ⟨v, G, J.os, J.bare, J.base, J.hok, rv, q⟩
  match fl, hs with
  | .ret u, hs => exact let ⟨v, τ, G, J, rv, q⟩ := hs; done J rv q
  | .next, hs => exact let ⟨τ, G, J, q⟩ := hs; done (v := V.non) (u := Value.none) J rfl q
  | .brk, hs => exact let ⟨_, _, _, q⟩ := hs; False.elim q
  | .cont, hs => exact let ⟨_, _, _, q⟩ := hs; False.elim q
end

section
variable {X : Cx} {k : Nat} {f : Addr} {fd : FuncData} {ps : List Str} {sp : Sp} {x : Str} {p pos : Pos} {e : Expr} {es : List Expr} {t : TA} {CX : CXT} {E : XK}
/-- such a def called -/
theorem pe_callG (F : FnG X.prog X.w X.K X.mg X.base CX k f fd ps sp) (hr : Room k X.A) (gd : X.A.guards = some []) (hg : Gl X x) (hm : X.mg x = some (.ref f)) (hk : PySem.W.keepIn X.K (.ref f) = true) (hb : Binds X.K fd ps []) (hx : Passes CX X E)
    (ha : PA X (e :: es) t) (hdb : (x == ("__debug__" : Str)) = false := by decide) (he : starEach (e :: es) X.env = (false, eval e X.env) :: starEach es X.env := by rfl) (hpl : (backTo pos (starEach es X.env)).any (·.1) = false := by rfl) :
    PE X (.Call (.Name x p) (e :: es) [] pos) (tCall sp [] E t) := by
  refine ⟨fun pins s σ H Q I h => wpAny_Call_Name_kw (ld_glob I hg hm ?_ hdb)⟩
  refine PySem.W.callWith_K (h₀ := X.base) I.ok.mod.kin hk (thn (ha.run pos pins s σ H _ I h) fun us s1 ⟨vs, H1, I1, r, q⟩ => ⟨I1.kIn, ?_⟩) he hpl
  have hl : (us ++ []).length = ps.length := by rw [← (r.append .nil).length]; exact F.len _ _ _ _ q
  refine wpAny_call (codeAny_mono (F.run X.A X.stack s1 H1 ⟨us, []⟩ (us ++ []) (vs ++ []) Q E hr gd I1.env0 (hb s1 us I1.kIn hl) (r.append .nil) q) fun q s' hq => ?_)
  match q, hq with
  | .error e, hq => exact hx pins σ H1 s1 e s' I1 hq
  | .ok (.ret u), hq => exact I1.after hq
  | .ok .next, hq => exact False.elim hq
  | .ok .brk, hq => exact False.elim hq
  | .ok .cont, hq => exact False.elim hq
end

/-! ### the end -/
theorem script_ho {P : Program} {w : World} {K : PySem.W.Frag} {h : Heap} {a : Addr} {vs : List Value} {ns : List Int} (KX : K.In h) (ha : h.get? a = some { cls := .type "list", data := .seq vs.toArray }) (hi : IntsAre vs ns) (hl : ns.length ≤ sizeLine) :
    ∃ H : Hp, Only H ∧ SqL K H a (ns.map V.int) ∧ HOk P w H h ∧ ∀ b, H b ≠ none → b = a ∧ K.lookup a = none := by
  have lz : (ns.map V.int).length ≤ sizeLine := by rw [List.length_map]; exact hl
  cases hk : K.lookup a with
  | some o =>
    have e := KX a o hk
    rw [ha] at e
    cases e
    exact ⟨fun _ => none, fun _ => .inl rfl, .inr ⟨_, vs.toArray, _, hk, rfl, rfl, rfl, by rw [List.size_toArray, hi.length]; exact hl, by simpa using vals_ints hi⟩, (fun b u z => nomatch z), fun b z => absurd rfl z⟩
  | none =>
    refine ⟨fun b => if b = a then some (.frz { cls := .type "list", data := .seq vs.toArray } (.lst (ns.map V.int))) else none, fun b => ?_, .inl (.inr ⟨_, if_pos rfl⟩), fun b u z => ?_, fun b z => ⟨?_, rfl⟩⟩
    · by_cases hb : b = a
      · exact .inr ⟨_, _, if_pos hb⟩
      · exact .inl (if_neg hb)
    · by_cases hb : b = a
      · subst hb
        cases (if_pos rfl).symm.trans z
        exact ⟨ha, lz, vs, _, vals_ints hi, ha⟩
      · exact nomatch (if_neg hb).symm.trans z
    · exact Decidable.byContradiction fun hb => z (if_neg hb)

theorem lawG {P : Program} {w : World} {K : PySem.W.Frag} {mg mb : Str → Option Value} {k : Nat} {fa a : Addr} {fd : FuncData} {x : Str} {sp : Sp} {z : Shared} {vs : List Value} {ns : List Int}
    (KX : K.In z.heap) (hns : z.heap.Ns mainGlobals mg) (hb : z.heap.Ns builtinsNs mb) (hbb : ∀ x : Str, x ≠ "__name__" → mb x = bootBuiltins x) (hlim : z.heap.NoLimit) (hg : z.gens = #[])
    (ha : z.heap.get? a = some { cls := .type "list", data := .seq vs.toArray }) (hi : IntsAre vs ns) (hl : ns.length ≤ sizeLine) (hr : Room k callerA)
    (F : ∀ base : Heap, K.In base → base.Ns mainGlobals mg → FnG P w K mg base CX0 k fa fd [x] sp) (hbind : ∀ (s : Shared) (u : Value), BindsTo s fd ⟨[u], []⟩ [(x, u)])
    (hsp : ∀ H : Hp, Only H → SqL K H a (ns.map V.int) → sp [.ref a] H (fun v _ => v = .bl true) fun _ _ _ => False) :
    codeAny (model P w) callerA (.call (.ref fa) ⟨[.ref a], []⟩) (fun r y => r = .ok (.ret (.bool true)) ∧ OldK z.heap y.heap ∧ y.os = z.os ∧ AllBare y.gens) z := by
  obtain ⟨H, hO, hS, hok, only⟩ := script_ho (P := P) (w := w) KX ha hi hl
  -- what isn't the script stands in the base
  have keep : ∀ {b : Addr} {o : Obj}, z.heap.get? b = some o → (b ≠ a ∨ K.lookup a ≠ none) → (hidT z.heap H).get? b = some o := fun {b o} e q =>
    hidT_get e (Decidable.byContradiction fun n => have k := only b n; q.elim (fun q => q k.1) fun q => q k.2)
  have ns : ∀ {b : Addr} {m : Str → Option Value}, z.heap.Ns b m → (hidT z.heap H).Ns b m := fun {b m} ⟨o, es, ep, e, d, r⟩ => by
    refine ⟨o, es, ep, keep e (.inl fun q => ?_), d, r⟩
    rw [q, ha] at e
    cases e
    cases d
  have kin : K.In (hidT z.heap H) := fun b o e => keep (KX b o e) (by
    by_cases q : b = a
    · exact .inr fun n => by rw [q, n] at e; cases e
    · exact .inl q)
  have mod : Mod K mg (hidT z.heap H) := ⟨kin, ns hns, ⟨mb, ns hb, hbb⟩, let ⟨mc, h1, h2⟩ := hlim; ⟨mc, ns h1, h2⟩⟩
  have env : Env0 P w K mg (hidT z.heap H) callerA [] z H := ⟨rfl, mod, fun b o e => of_hidT e, Nat.le_of_eq (hidT_size _ _), trivial, (fun b hb => nomatch hb), hok, .of_eq hg⟩
  refine codeAny_mono ((F _ kin (ns hns)).run callerA [] z H ⟨[.ref a], []⟩ [.ref a] [.ref a] _ _ hr rfl env (hbind z (.ref a)) (.cons rfl .nil) (hsp H hO hS)) fun r y h => ?_
  match r, h with
  | .error e, h => exact h.elim
  | .ok .next, h => exact False.elim h
  | .ok .brk, h => exact False.elim h
  | .ok .cont, h => exact False.elim h
  | .ok (.ret u), h =>
    obtain ⟨v, G, os, bare, un, hokG, rv, q⟩ := h
    have q : v = .bl true := q
    subst q
    cases rv
    refine ⟨rfl, OldK.of_keep fun b o e => ?_, os, bare⟩
    cases t : H b with
    | none => exact un.keep b o e t (fun n => nomatch n) (fun n => nomatch n)
    | some u =>
      rcases hO b with n | ⟨ob, xs, n⟩
      · rw [t] at n; cases n
      · have e1 := (hok b _ n).1
        have e2 := (hokG b _ (un.frzs b ob _ n)).1
        rw [e] at e1
        cases e1
        exact e2

/-- the goal that k_head leaves -/
theorem walkG {l : PySem.W.OpenLaw} {n k : Nat} {q : Program} {loose : List Str} {XP : (Str → Option Value) → Heap → Prop} {YP : World → Heap → Prop} {d : DefRec} {K : Params → PySem.W.Frag} {sp : World → Sp} {x : Str}
    (hn : l.most = some n) (hn2 : n ≤ sizeLine) (hdf : d.params.defaults = []) (hr : Room k callerA) (hY : ∀ (w : World) (h : Heap), YP w h → (K w.params).In h)
    (F : ∀ (w : World) (mg : Str → Option Value) (fa : Addr) (h : Heap), (K w.params).In h → h.Ns mainGlobals mg → mg d.name = some (.ref fa) →
      ∃ fd : FuncData, (∀ (s : Shared) (u : Value), BindsTo s fd ⟨[u], []⟩ [(x, u)]) ∧ ∀ base : Heap, (K w.params).In base → base.Ns mainGlobals mg → FnG l.prog w (K w.params) mg base CX0 k fa fd [x] (sp w))
    (hsp : ∀ (w : World) (H : Hp) (a : Addr) (ns : List Int), ns.length ≤ n → Only H → SqL (K w.params) H a (ns.map V.int) → sp w [.ref a] H (fun v _ => v = .bl true) fun _ _ _ => False) :
    PySem.W.WalkO q loose XP YP l.row.toRowW d [] (fun f vs => PySem.call f vs) := by
  refine Att.attach_call hn hdf fun w s0 z mg mb fa o pm cd doc a vs ns G Y ho hd hcd hmg hobj hints hlen hg => ?_
  obtain ⟨fd, hb, hF⟩ := F w mg fa _ (hY w _ Y) G.T.g hmg
  exact lawG (hY w _ Y) G.T.g G.T.b G.T.builtins G.T.nolimit hg hobj hints (Nat.le_trans hlen hn2) hr hF hb fun H hO hS => hsp w H a ns hlen hO hS
end Two

set_option Elab.async false
set_option linter.all false
set_option maxRecDepth 100000
set_option maxHeartbeats 8000000
/-! set(xs) of a list of ints. -/
namespace Two
open PySem PySem.Spec PyProof.Rows L2
section
variable {P : Program} {w : World} {A : Around} {E : Value → Shared → Prop} {s : Shared}
/-- the object of an empty set -/
abbrev setOb (w : World) : Obj := { cls := .type "set", dict := none, data := .set #[] 0 (.fresh 0 0 (!w.params.followText "set-order")) }
theorem call_set_lstI {l : Addr} {its : Array Value} (ns : List Int) {Q : Value → Shared → Prop} (hh : A.handled = none) (hl : s.heap.IsList l its) (hi : IntsAre its.toList ns) (hb : ns.length + 1 < scanBound)
    (h : ∀ (h' : Heap) (tk c : Nat), SetR w h' s.heap.objs.size (fun j => decide (j ∈ ns)) c → (∀ b o, s.heap.get? b = some o → h'.get? b = some o) → Q (.ref s.heap.objs.size) { s with heap := h', toks := tk }) :
    wpAny (model P w) A (call (.type "set") [.ref l]) Q E s := by
  have size : its.size = ns.length := by have q := hi.length; rwa [Array.length_toList] at q
  obtain ⟨c, tl, hmro⟩ := F.called_set.mro
  have hmade := F.called_set.made
  have hsub := F.called_set.sub
  refine wpAny_call (codeAny_of_tree ?_)
  show wpAny _ _ (callAny (.type "set") _) _ _ _
  refine wpAny_pure ⟨Code.quiet_builtin _ (by decide +kernel), codeAny_builtin F.entry_type_call ?_⟩
  rw [Around.under_plain (weight_type_call_type "set" [.ref l] []) rfl]
  have h1 := F.called_set.notType
  have h2 := F.called_set.canCreate
  have h3 := F.typeCall_set_1 (.ref l)
  repeat (any_goals (first | assumption | wp_step))
  refine codeAny_mono (code_set_led1 (.ref l) (E := E) (Q₁ := fun ob z => ob = .ref s.heap.objs.size ∧ z = { s with heap := s.heap.push (setOb w) }) ⟨rfl, rfl⟩) fun r z hr => ?_
  match r, hr with
  | .error e, hr => exact hr
  | .ok .next, hr => exact hr.elim
  | .ok .brk, hr => exact hr.elim
  | .ok .cont, hr => exact hr.elim
  | .ok (.ret ob), hr =>
    obtain ⟨rfl, rfl⟩ := hr
    have new : (s.heap.push (setOb w)).get? s.heap.objs.size = some (setOb w) := Heap.get?_push_size _ rfl
    have hT : Shared.TypeIs { s with heap := s.heap.push (setOb w) } (.ref s.heap.objs.size) "set" := ⟨_, new, rfl⟩
    have i1 := F.called_set.init.lookup
    have i2 := F.called_set.init.bind (.ref s.heap.objs.size)
    repeat (any_goals (first | assumption | wp_step))
    refine codeAny_mono (codeAny_call_builtin (R := wants (fun r y => r = .none ∧ ∃ h' tk c, y = { s with heap := h', toks := tk } ∧ SetR w h' s.heap.objs.size (fun j => decide (j ∈ ns)) c ∧ (∀ b o, s.heap.get? b = some o → h'.get? b = some o)) E)
      F.called_set.init.plain F.entry_set_init (check_set_init_1 hT ?_)) fun r y hr => ?_
    · obtain ⟨⟨ocls, odict, odata, oslots⟩, hol, hcl, nl, hdl⟩ := hl
      have hcl : ocls = .type "list" := hcl
      have hdl : odata = .seq its nl := hdl
      subst hcl hdl
      have kept : (s.heap.push (setOb w)).get? l = some { cls := .type "list", dict := odict, data := .seq its nl, slots := oslots } := Heap.get?_push_of_some _ hol
      have t1 := F.sub_list_set
      have t2 := F.sub_list_frozenset
      have t3 : (Value.type "list" == Value.type "dict") = false := by decide
      have isL : (s.heap.push (setOb w)).IsList l its := ⟨_, kept, rfl, nl, rfl⟩
      unfold Builtin.«set.__init__» noKeywords Builtin.Frozenset.updateFrom
      generalize hPI : pyIter = PI
      wp_walk
      subst hPI
      refine wpAny_pyIter_list isL ?_
      refine wpAny_bind (wpAny_runValue ?_)
      have lS : l < s.heap.objs.size := Heap.lt_size hol
      have hh3 : A.in1.in1.in1.handled = none := by simp [hh]
      have ne1 : l ≠ (s.heap.push (setOb w)).objs.size := by rw [Heap.size_push]; exact Nat.ne_of_lt (Nat.lt_succ_of_lt lS)
      have out : s.heap.objs.size ∉ [(s.heap.push (setOb w)).objs.size, l] := by
        rw [Heap.size_push]
        simp only [List.mem_cons, List.not_mem_nil, or_false, not_or]
        exact ⟨Nat.ne_of_lt (Nat.lt_succ_self _), Nat.ne_of_gt lS⟩
      have val : ∀ (i : Nat) (v : Value), its[i]? = some v → ∃ k t, ns[i]? = some k ∧ v = .int k t := fun i v hv => by
        have lt : i < ns.length := by rw [← size]; exact (Array.getElem?_eq_some_iff.mp hv).1
        obtain ⟨t, e⟩ := hi.int_at i v (by rw [Array.getElem?_toList]; exact hv)
        exact ⟨ns[i], t, List.getElem?_eq_getElem lt, by rw [e, List.getD_eq_getElem?_getD, List.getElem?_eq_getElem lt] <;> rfl⟩
      refine set_update_ints ((Walks.list hh3 _ l ne1 its).toS) s.heap.objs.size out ns size hb val (its.size - 0) 0 _ (by omega) (Nat.zero_le _) ⟨⟨_, Heap.get?_push_size _ rfl, rfl, rfl⟩, isL.push _⟩
        ⟨0, Nat.le_refl 0, setR_new_at (Heap.get?_push_of_some _ new)⟩ ?_
      intro y c' hm hc' hS
      obtain ⟨h', g2, d', tk', os'⟩ := y
      obtain rfl : g2 = s.gens := hm.gens
      obtain rfl : d' = s.drawn := hm.drawn
      obtain rfl : os' = s.os := hm.os
      show wpAny _ _ _ _ _ _
      refine wpAny_pure ?_
      show wpAny _ _ (ret Value.none) _ _ _
      refine wpAny_pure ⟨rfl, h', tk', c', rfl, hS, fun b o e => ?_⟩
      have lt0 : b < s.heap.objs.size := Heap.lt_size e
      refine hm.heap b o ?_ (Heap.get?_push_of_some _ (Heap.get?_push_of_some _ e))
      simp only [List.mem_cons, List.not_mem_nil, or_false, not_or]
      exact ⟨Nat.ne_of_lt lt0, by rw [Heap.size_push]; exact Nat.ne_of_lt (Nat.lt_succ_of_lt lt0)⟩
    · match r, hr with
      | .error e, hr => exact hr
      | .ok .next, hr => exact hr.elim
      | .ok .brk, hr => exact hr.elim
      | .ok .cont, hr => exact hr.elim
      | .ok (.ret r), hr =>
        obtain ⟨rfl, h', tk, c', rfl, hS, hk⟩ := hr
        repeat (any_goals (first | assumption | wp_step))
        exact h _ _ _ hS hk
end
theorem nodup_le_len : ∀ {l m : List Int}, l.Nodup → (∀ x ∈ l, x ∈ m) → l.length ≤ m.length
  | [], _, _, _ => Nat.zero_le _
  | a :: l, m, nd, h => by
    have nd := List.nodup_cons.mp nd
    have ha := h a List.mem_cons_self
    have q := nodup_le_len (l := l) (m := m.erase a) nd.2 fun x hx => (List.mem_erase_of_ne (fun e : x = a => nd.1 (by rw [← e]; exact hx))).mpr (h x (List.mem_cons_of_mem _ hx))
    have e := List.length_erase_of_mem ha
    have := List.length_pos_of_mem ha
    simp only [List.length_cons]
    omega
section
variable {X : Cx}
/-- set(xs), xs a list of ints that are all of U -/
def rSetL (K : PySem.W.Frag) (w : World) : List V → Hp → VK → Prop := fun vs H Q => ∃ (a : Addr) (ns U : List Int), vs = [V.ref a] ∧ SqL K H a (ns.map V.int) ∧ ns.length ≤ 1000 ∧ (∀ z ∈ ns, z ∈ U) ∧
  ∀ (p : Addr) (c : Nat), H p = none → c ≤ U.length → Q (.ref p) (upd H p (SetO w p (fun j => decide (j ∈ ns)) c))
theorem cr_setL (hc : X.calm = true) : CallR X (.type "set") (rSetL X.K X.w) := by
  intro pins s σ H vs us Q I r h
  obtain ⟨a, ns, U, rfl, hs, hz, hU, q⟩ := h
  rw [Vals.ref1 r]
  obtain ⟨its, rv, pl, _⟩ := I.list hs
  refine call_set_lstI ns (I.ok.hd hc) pl.isList (by simpa using RZ.intsAre_vals rv) (by unfold scanBound; omega) fun h' tk c R k => ?_
  have few : c ≤ U.length := by
    obtain ⟨o, es, ep, t, _, _, _, _, nd, mem, _, _, hn, _⟩ := R
    have e : (es.toList.map keyOf).length = c := by rw [List.length_map, Array.length_toList, hn]
    rw [← e]
    exact nodup_le_len nd fun x hx => hU x (of_decide_eq_true ((mem x).mpr hx))
  exact ⟨.ref _, _, I.laid (t' := tk) k (Nat.le_refl _) (setO_new R), rfl, q _ c (I.hok.fresh (Nat.le_refl _)) few⟩
end
end Two

set_option Elab.async false
set_option linter.all false
set_option maxRecDepth 100000
set_option maxHeartbeats 1000000
/-! What the laws with wells share: cells, wells, draws. -/
namespace Lw
open PySem L2 Two Pr
abbrev sCell : Stmt := top 32
abbrev sWell : Stmt := top 33
abbrev sDraw : Stmt := top 34
abbrev sOne : Stmt := top 35
def But (S : Addr → Prop) (H H' : Hp) : Prop := ∀ b o, ¬ S b → H b = some o → H' b = some o
structure TxtW (mg : Str → Option Value) : Prop where
  int : mg "int" = none
  len : mg "len" = none
/-- a well of draws -/
def Src (H : Hp) (l : Addr) (n : Nat) : Prop := ∃ x y c : Int, H l = some (.lst [.int x, .int y, .int c]) ∧ 0 ≤ x ∧ 0 ≤ c ∧ c ≤ (n : Int)
theorem Src.more {H : Hp} {l : Addr} {n m : Nat} (s : Src H l n) (h : n ≤ m) : Src H l m := by
  obtain ⟨x, y, c, e, a1, a4, a5⟩ := s
  exact ⟨x, y, c, e, a1, a4, by omega⟩
theorem Src.keep {H H' : Hp} {l : Addr} {n : Nat} (s : Src H l n) (k : Same H H') : Src H' l n := by
  obtain ⟨x, y, c, e, r⟩ := s
  exact ⟨x, y, c, k _ _ e, r⟩
theorem but_upd {H : Hp} {l : Addr} {o : HO} : But (· = l) H (upd H l o) := fun b u h e => by rw [upd_ne h]; exact e
theorem but_seq {K : PySem.W.Frag} {H H' : Hp} {l b : Addr} {xs : List V} (k : But (· = l) H H') (ne : b ≠ l) (h : SqL K H b xs) : SqL K H' b xs := by
  rcases h with (h | ⟨o, h⟩) | h
  · exact .inl (.inl (k _ _ ne h))
  · exact .inl (.inr ⟨o, k _ _ ne h⟩)
  · exact .inr h
theorem but_trans {l : Addr} {H H1 H2 : Hp} (a : But (· = l) H H1) (b : But (· = l) H1 H2) : But (· = l) H H2 := fun p o n e => b p o n (a p o n e)
theorem but_same {l : Addr} {H H1 : Hp} (a : Same H H1) : But (· = l) H H1 := fun p o _ e => a p o e
theorem but_new {l p : Addr} {H H1 : Hp} {o : HO} (a : But (· = l) H H1) (n : H p = none) : But (· = l) H (upd H1 p o) := fun b u nb e => by
  rw [upd_ne (ne_of_none e n)]
  exact a b u nb e
theorem but_none {l p : Addr} {H H1 : Hp} (a : But (· = l) H H1) (n : H1 p = none) (ne : p ≠ l) : H p = none := by
  cases h : H p with
  | none => rfl
  | some o => rw [a p o ne h] at n; cases n
theorem src_none {H : Hp} {l p : Addr} {n : Nat} (s : Src H l n) (h : H p = none) : p ≠ l := fun e => by
  obtain ⟨x, y, c, e2, _⟩ := s
  rw [e, e2] at h
  cases h
theorem Src.upd {H : Hp} {l p : Addr} {n : Nat} {o : HO} (s : Src H l n) (h : p ≠ l) : Src (upd H p o) l n := by
  obtain ⟨x, y, c, e2, r⟩ := s
  exact ⟨x, y, c, by rw [upd_ne h.symm]; exact e2, r⟩
section
variable {P : Program} {w : World} {K : PySem.W.Frag} {mg : Str → Option Value} {base : Heap}
/-! ### _law_cell_at -/
def spCell (K : PySem.W.Frag) : Sp := fun vs H Q _ => ∃ (a : Addr) (ns : List Int) (k : Nat), vs = [.ref a, .int k] ∧ SqL K H a (ns.map V.int) ∧ ns.length ≤ 1000 ∧ ∀ z : Int, Q (.int z) H
theorem scCell : FnScope ["_law_script", "_law_k"] ["_law_script", "_law_k"] (defScope sCell) := ⟨rfl, rfl, rfl, by decide +kernel, rfl, by decide +kernel, by decide +kernel⟩
theorem ok_cell {f : Addr} {fd : FuncData} (F : Fun K "_law_cell_at" "_law_cell_at" sCell f fd) (T : TxtW mg) : FnOk P w K mg base CX0 1 f fd ["_law_script", "_law_k"] (spCell K) := by
  refine F.ok scCell (fun vs H Q E h => ?_) (fun cdv A outer s H vs Q E hr h => ?_)
  · obtain ⟨a, ns, k, rfl, _⟩ := h
    rfl
  · obtain ⟨a, ns, j, rfl, hS, hl, k⟩ := h
    refine ⟨_, pss_cons (ps_if (pt_cmpR op_lt (pv 1) (pe_callB call_len_seq (by rfl) T.len PySem.boot_len (pa_cons (pv 0) pa_nil)) (nomark _)) (pss_one (ps_ret (pe_ix ix_list (pv 0) (pv 1) (fun _ _ => rfl)))) pss_nil) (pss_one (ps_ret pe_int)), ?_⟩
    refine ⟨_, rfl, _, rfl, a, _, rfl, .inl hS, _, _, rfl, rfl, _, rfl, ?_⟩
    by_cases h : j < ns.length
    · rw [decide_eq_true (by rw [List.length_map]; omega)]
      refine iteT ⟨_, rfl, _, rfl, a, _, (j : Nat), .int ns[j], rfl, rfl, hS, atI_nat (by rw [List.getElem?_map, List.getElem?_eq_getElem h]; rfl), k _⟩
    · rw [decide_eq_false (by rw [List.length_map]; omega)]
      exact iteF (k 0)
/-! ### _law_well -/
def spWell : Sp := fun vs H Q _ => ∃ z : Int, vs = [.int z] ∧ ∀ (H' : Hp) (l : Addr), Same H H' → H l = none → Src H' l 0 → Q (.ref l) H'
theorem scWell : FnScope ["_law_cell"] ["_law_cell"] (defScope sWell) := ⟨rfl, rfl, rfl, by decide +kernel, rfl, by decide +kernel, by decide +kernel⟩
theorem ok_well {f : Addr} {fd : FuncData} (F : Fun K "_law_well" "_law_well" sWell f fd) (T : TxtW mg) : FnOk P w K mg base CX0 1 f fd ["_law_cell"] spWell := by
  refine F.ok scWell (fun vs H Q E h => ?_) (fun cdv A outer s H vs Q E hr h => ?_)
  · obtain ⟨z, rfl, _⟩ := h
    rfl
  · obtain ⟨z, rfl, k⟩ := h
    refine ⟨_, pss_one (ps_ret (pe_lst (pa_cons (pe_ix ix_list (pe_lst (pa_cons pe_int (pa_cons (pv 0) pa_nil))) (pe_callTy call_int1 (by rfl) T.int (by decide +kernel) (pa_cons (pe_cmpR op_ge (pv 0) (pe_op op_pow pe_int pe_int) (nomark _)) pa_nil)) (fun _ _ => rfl))
      (pa_cons (pv 0) (pa_cons pe_int pa_nil))))), ?_⟩
    refine ⟨_, rfl, by show 2 ≤ sizeLine; decide, fun p hp => ?_⟩
    refine ⟨_, rfl, _, _, rfl, rfl, by unfold CPow; decide, _, _, rfl, rfl, .inr ⟨_, rfl, ?_⟩⟩
    have sq : SqL K (upd H p (.lst [.int 0, .int z])) p [.int 0, .int z] := SqL.of upd_same
    have fin : ∀ x : Int, 0 ≤ x → (upd H p (.lst [.int 0, .int z])) = (upd H p (.lst [.int 0, .int z])) → ∀ l, (upd H p (.lst [.int 0, .int z])) l = none → Q (.ref l) (upd (upd H p (.lst [.int 0, .int z])) l (.lst [.int x, .int z, .int 0])) := fun x hx _ l hl => by
      have s1 : Same H (upd H p (.lst [.int 0, .int z])) := same_new hp
      exact k _ l (ad s1 hl) (none_of_same s1 hl) ⟨x, z, 0, upd_same, hx, by omega, by omega⟩
    by_cases hz : (10 : Int) ^ (18 : Int).toNat ≤ z
    · rw [decide_eq_true hz, if_pos rfl]
      have pos : 0 ≤ z := by
        have : (0 : Int) ≤ 10 ^ (18 : Int).toNat := by decide
        omega
      exact ⟨p, _, 1, .int z, rfl, rfl, sq, rfl, _, rfl, by show 3 ≤ sizeLine; decide, fun l hl => fin z pos rfl l hl⟩
    · rw [decide_eq_false hz, if_neg Bool.false_ne_true]
      exact ⟨p, _, 0, .int 0, rfl, rfl, sq, rfl, _, rfl, by show 3 ≤ sizeLine; decide, fun l hl => fin 0 (by omega) rfl l hl⟩
/-! ### _law_draw -/
def spDraw : Sp := fun vs H Q _ => ∃ (l : Addr) (m : Int) (n : Nat), vs = [.ref l, .int m] ∧ 0 < m ∧ m < 1000000 ∧ Src H l n ∧ n ≤ 1000000 ∧
  ∀ (H' : Hp) (d : Int), But (· = l) H H' → Src H' l (n + 1) → 0 ≤ d → d < m → Q (.int d) H'
theorem scDraw : FnScope ["_law_well_here", "_law_many", "_law_found", "_law_salt", "_law_number"] ["_law_well_here", "_law_many"] (defScope sDraw) := ⟨rfl, rfl, rfl, by decide +kernel, rfl, by decide +kernel, by decide +kernel⟩
theorem wdiv {i : Int} {j : Int} (h : 0 < j) (h2 : j < 2147483648) : CDivW i j := by
  refine wide_div (b := 31) h ?_ (by decide) (by decide)
  have : (2 : Nat) ^ 31 = 2147483648 := by decide
  omega
theorem ok_draw {f : Addr} {fd : FuncData} (F : Fun K "_law_draw" "_law_draw" sDraw f fd) : FnOk P w K mg base CX0 1 f fd ["_law_well_here", "_law_many"] spDraw := by
  refine F.ok scDraw (fun vs H Q E h => ?_) (fun cdv A outer s H vs Q E hr h => ?_)
  · obtain ⟨l, m, n, rfl, _⟩ := h
    rfl
  · obtain ⟨l, m, n, rfl, hm0, hm1, ⟨x, y, c, hl, hx, hc0, hc1⟩, hn, k⟩ := h
    have at0 : atI [V.int x, .int y, .int c] 0 = some (.int x) := rfl
    refine ⟨_, pss_cons (ps_if (pt_cmpR op_gt (pe_ix ix_list (pv 0) pe_int (fun _ _ => rfl)) pe_int (nomark _))
        (pss_cons (ps_set (i := 2) scDraw.nd rfl (Or.inl rfl) (pe_op op_mod (pe_ix ix_list (pv 0) pe_int (fun _ _ => rfl)) (pv 1)))
        (pss_cons (ps_asg (pe_op op_fdiv (pe_ix ix_list (pv 0) pe_int (fun _ _ => rfl)) (pv 1)) (pg_sub (pv 0) pe_int set_list))
        (pss_one (ps_ret (pv 2))))) pss_nil)
      (pss_cons (ps_asg (pe_op op_add (pe_ix ix_list (pv 0) pe_int (fun _ _ => rfl)) pe_int) (pg_sub (pv 0) pe_int set_list))
      (pss_cons (ps_set (i := 3) scDraw.nd rfl (Or.inl rfl) (pe_op op_mod (pe_op op_fdivW (pe_ix ix_list (pv 0) pe_int (fun _ _ => rfl)) pe_int) pe_int))
      (pss_cons (ps_set (i := 4) scDraw.nd rfl (Or.inl rfl) (pe_op op_mod (pe_op op_pow (pe_op op_add (pe_op op_add (pe_op op_add (pe_op op_mod (pe_ix ix_list (pv 0) pe_int (fun _ _ => rfl)) pe_int) (pe_op op_mul pe_int (pe_ix ix_list (pv 0) pe_int (fun _ _ => rfl)))) (pv 3)) pe_int) pe_int) pe_int))
      (pss_cons (ps_set (i := 4) scDraw.nd rfl (Or.inl rfl) (pe_op op_mod (pe_op op_mul (pv 4) (pe_op op_add (pe_op op_add (pe_op op_fdiv (pv 4) pe_int) pe_int) (pe_ix ix_list (pv 0) pe_int (fun _ _ => rfl)))) pe_int))
      (pss_one (ps_ret (pe_op op_mod (pe_op op_mod (pe_op op_mul (pv 4) (pe_op op_add (pe_op op_fdiv (pv 4) pe_int) pe_int)) pe_int) (pv 1)))))))), ?_⟩
    refine ⟨_, rfl, l, _, 0, .int x, rfl, rfl, SqL.of hl, at0, _, _, rfl, rfl, _, rfl, ?_⟩
    by_cases hx1 : 0 < x
    · rw [decide_eq_true hx1]
      refine iteT ?_
      refine ⟨_, rfl, l, _, 0, .int x, rfl, rfl, SqL.of hl, at0, _, rfl, _, _, rfl, rfl, hm0, ?_⟩
      refine ⟨_, rfl, l, _, 0, .int x, rfl, rfl, SqL.of hl, at0, _, rfl, _, _, rfl, rfl, ⟨hm0, by omega⟩, ?_⟩
      refine ⟨_, rfl, l, _, 0, 0, rfl, rfl, hl, rfl, ?_⟩
      refine ⟨_, rfl, ?_⟩
      refine k _ _ but_upd ⟨_, _, _, upd_same, Int.ediv_nonneg hx (by omega), hc0, by omega⟩ (Int.emod_nonneg _ (by omega)) (Int.emod_lt_of_pos _ hm0)
    · rw [decide_eq_false hx1]
      refine iteF ?_
      refine ⟨_, rfl, l, _, 2, .int c, rfl, rfl, SqL.of hl, rfl, _, _, rfl, rfl, ?_⟩
      refine ⟨_, rfl, l, _, 2, 2, rfl, rfl, hl, rfl, ?_⟩
      have hl2 : upd H l (.lst ([V.int x, .int y, .int c].set 2 (.int (c + 1)))) l = some (.lst [.int x, .int y, .int (c + 1)]) := upd_same
      have b2 : But (· = l) H (upd H l (.lst ([V.int x, .int y, .int c].set 2 (.int (c + 1))))) := but_upd
      generalize upd H l (.lst ([V.int x, .int y, .int c].set 2 (.int (c + 1)))) = H2 at hl2 b2
      have sq := SqL.of (K := K) hl2
      refine ⟨_, rfl, l, _, 1, .int y, rfl, rfl, sq, rfl, _, _, rfl, rfl, wdiv (by decide) (by decide), _, _, rfl, rfl, (by show (0 : Int) < 65521; decide), ?_⟩
      obtain ⟨sa, esa⟩ : ∃ z, z = y / 2147483629 % 65521 := ⟨_, rfl⟩
      have ps : 0 ≤ sa := by rw [esa]; exact Int.emod_nonneg _ (by decide)
      have qs : sa < 65521 := by rw [esa]; exact Int.emod_lt_of_pos _ (by decide)
      show tSeq _ _ _ ([some (.ref l), some (.int m), none, none, none].set 3 (some (.int (y / 2147483629 % 65521)))) H2
      rw [← esa]
      obtain ⟨ym, eym⟩ : ∃ z, z = y % 2147483629 := ⟨_, rfl⟩
      have py : 0 ≤ ym := by rw [eym]; exact Int.emod_nonneg _ (by decide)
      have qy : ym < 2147483629 := by rw [eym]; exact Int.emod_lt_of_pos _ (by decide)
      refine ⟨_, rfl, l, _, 1, .int y, rfl, rfl, sq, rfl, _, _, rfl, rfl, (by show (0 : Int) < 2147483629; decide), _, rfl, l, _, 2, .int (c + 1), rfl, rfl, sq, rfl, _, _, rfl, rfl, .inl (by decide), _, _, rfl, rfl, _, rfl, _, _, rfl, rfl, _, _, rfl, rfl, _, _, rfl, rfl, ?_, _, _, rfl, rfl, (by show (0 : Int) < 2147483647; decide), ?_⟩
      · show (0 : Int) ≤ 5 ∧ (5 : Int) ≤ 1000000 ∧ (y % 2147483629 + 7919 * (c + 1) + sa + 1).natAbs < 2 ^ 64
        rw [← eym]
        refine ⟨by decide, by decide, ?_⟩
        omega
      obtain ⟨n1, e1⟩ : ∃ z, z = (y % 2147483629 + 7919 * (c + 1) + sa + 1) ^ (5 : Int).toNat % 2147483647 := ⟨_, rfl⟩
      have p1 : 0 ≤ n1 := by rw [e1]; exact Int.emod_nonneg _ (by decide)
      have q1 : n1 < 2147483647 := by rw [e1]; exact Int.emod_lt_of_pos _ (by decide)
      show tSeq _ _ _ ([some (.ref l), some (.int m), none, some (.int sa), none].set 4 (some (.int ((y % 2147483629 + 7919 * (c + 1) + sa + 1) ^ (5 : Int).toNat % 2147483647)))) H2
      rw [← e1]
      refine ⟨_, rfl, _, rfl, _, _, rfl, rfl, ⟨by decide, by decide⟩, _, _, rfl, rfl, _, rfl, l, _, 2, .int (c + 1), rfl, rfl, sq, rfl, _, _, rfl, rfl, _, _, rfl, rfl, .inl (by omega), _, _, rfl, rfl, (by show (0 : Int) < 2147483629; decide), ?_⟩
      obtain ⟨n2, e2⟩ : ∃ z, z = n1 * (n1 / 1009 + 69621 + (c + 1)) % 2147483629 := ⟨_, rfl⟩
      have p2 : 0 ≤ n2 := by rw [e2]; exact Int.emod_nonneg _ (by decide)
      have q2 : n2 < 2147483629 := by rw [e2]; exact Int.emod_lt_of_pos _ (by decide)
      show gName 4 (V.int (n1 * (n1 / 1009 + 69621 + (c + 1)) % 2147483629)) _ _ _
      rw [← e2]
      refine ⟨_, rfl, _, rfl, _, _, rfl, rfl, ⟨by decide, by decide⟩, _, _, rfl, rfl, _, _, rfl, rfl, .inl (by omega), _, _, rfl, rfl, (by show (0 : Int) < 2147483399; decide), _, rfl, _, _, rfl, rfl, hm0, ?_⟩
      exact k H2 _ b2 ⟨_, _, _, hl2, hx, by omega, by omega⟩ (Int.emod_nonneg _ (by omega)) (Int.emod_lt_of_pos _ hm0)
/-! ### _law_one -/
def spOne (K : PySem.W.Frag) : Sp := fun vs H Q _ => ∃ (l b : Addr) (n : Nat) (xs : List V), vs = [.ref l, .ref b] ∧ Src H l n ∧ n ≤ 1000000 ∧ SqL K H b xs ∧ b ≠ l ∧ xs ≠ [] ∧ xs.length ≤ 1000 ∧
  ∀ (H' : Hp) (x : V), But (· = l) H H' → Src H' l (n + 1) → x ∈ xs → Q x H'
theorem scOne : FnScope ["_law_well_here", "_law_some"] ["_law_well_here", "_law_some"] (defScope sOne) := ⟨rfl, rfl, rfl, by decide +kernel, rfl, by decide +kernel, by decide +kernel⟩
theorem ok_one {f fD : Addr} {fd fdD : FuncData} (F : Fun K "_law_one" "_law_one" sOne f fd) (T : TxtW mg) (gD : mg "_law_draw" = some (.ref fD)) (kD : PySem.W.keepIn K (.ref fD) = true) (bD : Binds K fdD ["_law_well_here", "_law_many"] [])
    (GD : FnOk P w K mg base CX0 1 fD fdD ["_law_well_here", "_law_many"] spDraw) : FnOk P w K mg base CX0 2 f fd ["_law_well_here", "_law_some"] (spOne K) := by
  refine F.ok scOne (fun vs H Q E h => ?_) (fun cdv A outer s H vs Q E hr h => ?_)
  · obtain ⟨l, b, n, xs, rfl, _⟩ := h
    rfl
  · obtain ⟨l, b, n, xs, rfl, src, hn, hS, ne, hx, hz, k⟩ := h
    have pos : 0 < xs.length := List.length_pos_iff.mpr hx
    refine ⟨_, pss_one (ps_ret (pe_ix ix_list (pv 1) (pe_call GD hr rfl gD kD bD .nil pass0 (pa_cons (pv 0) (pa_cons (pe_callB call_len_seq (by rfl) T.len PySem.boot_len (pa_cons (pv 1) pa_nil)) pa_nil))) (fun _ _ => rfl))), ?_⟩
    refine ⟨_, rfl, _, rfl, _, rfl, b, _, rfl, .inl hS, l, _, n, rfl, by omega, by omega, src, hn, fun H' d but src' h0 h1 => ?_⟩
    obtain ⟨d', rfl⟩ := Int.eq_ofNat_of_zero_le h0
    have hd : d' < xs.length := by omega
    exact ⟨b, xs, (d' : Nat), xs[d'], rfl, rfl, but_seq but ne hS, atI_nat (by simp [hd]), k H' _ but src' (List.getElem_mem hd)⟩
end
end Lw

set_option Elab.async false
set_option linter.all false
set_option maxRecDepth 100000
set_option maxHeartbeats 1000000
/-! _law_name, _law_names, _law_fields. -/
namespace Lw
open PySem L2 Two Pr
abbrev sName : Stmt := top 36
abbrev sFields : Stmt := top 37
abbrev sNames : Stmt := top 40
def NM : List Str := ["a", "b", "c", "d", "ab", "eightlet"]
theorem nm_name : ∀ z ∈ NM, isName z = true := by decide +kernel
theorem nm_nodup : NM.Nodup := by decide +kernel
structure TxtR (mg : Str → Option Value) : Prop extends TxtW mg where
  range : mg "range" = none
theorem seq_nat' {n k : Nat} (h : k < n) : seqIndex? (k : Int) n = some k := by
  unfold seqIndex?
  have a : ¬ (k : Int) < 0 := by omega
  simp only [a, if_false]
  have b : (0 ≤ (k : Int)) := by omega
  have c : ((k : Int) < n) := by omega
  rw [decide_eq_true b, decide_eq_true c]
  rfl
theorem map_erase' {α β : Type} (f : α → β) : ∀ (l : List α) (k : Nat), (l.map f).eraseIdx k = (l.eraseIdx k).map f
  | [], _ => rfl
  | _ :: _, 0 => rfl
  | a :: l, k + 1 => congrArg (f a :: ·) (map_erase' f l k)
theorem erase_perm' {α : Type} : ∀ {l : List α} {k : Nat} {y : α}, l[k]? = some y → (y :: l.eraseIdx k).Perm l
  | [], k, y, h => by simp at h
  | a :: l, 0, y, h => by
    have e : a = y := Option.some.inj h
    rw [e]
    exact List.Perm.refl _
  | a :: l, k + 1, y, h => (List.Perm.swap a y _).trans ((erase_perm' (l := l) (k := k) (y := y) h).cons a)
section
variable {P : Program} {w : World} {K : PySem.W.Frag} {mg : Str → Option Value} {base : Heap}
/-! ### _law_name -/
def spName : Sp := fun vs H Q _ => ∃ (l : Addr) (n : Nat), vs = [.ref l] ∧ Src H l n ∧ n ≤ 900000 ∧ ∀ (H' : Hp) (z : Str), But (· = l) H H' → Src H' l (n + 1) → z ∈ NM → Q (.str z) H'
theorem scName : FnScope ["_law_well_here"] ["_law_well_here"] (defScope sName) := ⟨rfl, rfl, rfl, by decide +kernel, rfl, by decide +kernel, by decide +kernel⟩
theorem ok_name {f fO : Addr} {fd dO : FuncData} (F : Fun K "_law_name" "_law_name" sName f fd) (gO : mg "_law_one" = some (.ref fO)) (kO : PySem.W.keepIn K (.ref fO) = true) (bO : Binds K dO ["_law_well_here", "_law_some"] [])
    (GO : FnOk P w K mg base CX0 2 fO dO ["_law_well_here", "_law_some"] (spOne K)) : FnOk P w K mg base CX0 3 f fd ["_law_well_here"] spName := by
  refine F.ok scName (fun vs H Q E h => ?_) (fun cdv A outer s H vs Q E hr h => ?_)
  · obtain ⟨l, n, rfl, _⟩ := h
    rfl
  · obtain ⟨l, n, rfl, src, hn, k⟩ := h
    refine ⟨_, pss_one (ps_ret (pe_call GO hr rfl gO kO bO .nil pass0 (pa_cons (pv 0) (pa_cons (pe_lst (pa_cons pe_str (pa_cons pe_str (pa_cons pe_str (pa_cons pe_str (pa_cons pe_str (pa_cons pe_str pa_nil))))))) pa_nil)))), ?_⟩
    refine ⟨_, rfl, by show 6 ≤ sizeLine; decide, fun p hp => ?_⟩
    have pl := src_none src hp
    refine ⟨l, p, n, NM.map V.str, rfl, src.upd pl, by omega, SqL.of upd_same, pl, (fun z => nomatch z), by decide, fun H' x b s1 hx => ?_⟩
    obtain ⟨z, hz, rfl⟩ := List.mem_map.mp hx
    exact k H' z (but_trans (but_same (same_new hp)) b) s1 hz
/-! ### _law_names -/
def spNames : Sp := fun vs H Q _ => ∃ (l : Addr) (m n : Nat), vs = [.ref l, .int m] ∧ m ≤ 20 ∧ Src H l n ∧ n ≤ 800000 ∧
  ∀ (H' : Hp) (r : Addr) (zs : List Str), But (· = l) H H' → Src H' l (n + 21) → H r = none → H' r = some (.lst (zs.map V.str)) → zs.length ≤ m → (∀ z ∈ zs, z ∈ NM) → Q (.ref r) H'
abbrev nNames : List Str := ["_law_well_here", "_law_most", "_law_k"]
theorem scNames : FnScope nNames ["_law_well_here", "_law_most"] (defScope sNames) := ⟨rfl, rfl, rfl, by decide +kernel, rfl, by decide +kernel, by decide +kernel⟩
theorem ok_names {f fD fN : Addr} {fd dD dN : FuncData} (F : Fun K "_law_names" "_law_names" sNames f fd) (T : TxtR mg) (gD : mg "_law_draw" = some (.ref fD)) (kD : PySem.W.keepIn K (.ref fD) = true) (bD : Binds K dD ["_law_well_here", "_law_many"] [])
    (GD : FnOk P w K mg base CX0 1 fD dD ["_law_well_here", "_law_many"] spDraw) (gN : mg "_law_name" = some (.ref fN)) (kN : PySem.W.keepIn K (.ref fN) = true) (bN : Binds K dN ["_law_well_here"] [])
    (GN : FnOk P w K mg base CX0 3 fN dN ["_law_well_here"] spName) : FnOk P w K mg base CX0 4 f fd ["_law_well_here", "_law_most"] spNames := by
  refine F.ok scNames (fun vs H Q E h => ?_) (fun cdv A outer s H vs Q E hr h => ?_)
  · obtain ⟨l, m, n, rfl, _⟩ := h
    rfl
  · obtain ⟨l, m, n, rfl, hm, src, hn, k⟩ := h
    have hr1 : Room 1 _ := hr.mono (by decide)
    refine ⟨_, pss_one (ps_ret (pe_lc (own := [("_law_k", 2)]) (g := gName 2) (tt := tYes) (te := tCall spName [] E0 (tCons (tVar 0) tNil)) rfl scNames.nd (pi_range1 rfl T.range (pa_cons (pe_call GD hr1 rfl gD kD bD .nil pass0 (pa_cons (pv 0) (pa_cons (pe_op op_add (pv 1) pe_int) pa_nil))) pa_nil)) (blkOk_by (N := nNames) (sc := defScope sNames) (by decide +kernel))
          (fun _ _ _ _ _ => pg_name (i := 2) scNames.nd rfl (Or.inl rfl)) (fun _ _ _ _ _ => pts_nil) (fun _ _ _ _ _ => pe_call GN hr rfl gN kN bN .nil pass0 (pa_cons (pv 0) pa_nil)))), ?_⟩
    refine ⟨_, rfl, _, rfl, _, _, rfl, rfl, l, _, n, rfl, by omega, by omega, src, by omega, fun H1 d b1 s1 d0 d1 => ?_⟩
    obtain ⟨t, rfl⟩ := Int.eq_ofNat_of_zero_le d0
    refine ⟨_, rfl, by omega, by omega, fun D hD => ?_⟩
    have tn : ((t : Nat) : Int).toNat = t := rfl
    rw [tn]
    have Dl : D ≠ l := src_none s1 hD
    have nD : H D = none := but_none b1 hD Dl
    refine lc_range (lo := 0) (n := t) (fun j G => ∃ zs : List Str, But (· = l) H G ∧ Src G l (n + 1 + j) ∧ G D = some (.lst (zs.map V.str)) ∧ zs.length = j ∧ ∀ z ∈ zs, z ∈ NM)
      ⟨[], but_new b1 nD, s1.upd Dl, upd_same, rfl, fun z hz => nomatch hz⟩ (fun j G hj p => ?_) (fun G p => ?_)
    · obtain ⟨zs, b2, s2, hG, lz, hz⟩ := p
      refine ⟨rfl, ?_⟩
      unfold tYes
      simp only [if_true]
      refine ⟨_, rfl, l, n + 1 + j, rfl, s2, by omega, fun G2 z b3 s3 mz => ?_⟩
      have hG2 := b3 _ _ Dl hG
      refine ⟨_, hG2, small1000 (by rw [List.length_map]; omega), zs ++ [z], but_new (but_trans b2 b3) nD, (s3.upd Dl).more (by omega), by rw [upd_same, List.map_append]; rfl, by rw [List.length_append, lz]; rfl, fun y hy => ?_⟩
      rcases List.mem_append.mp hy with q | q
      · exact hz y q
      · rw [List.mem_singleton.mp q]; exact mz
    · obtain ⟨zs, b2, s2, hG, lz, hz⟩ := p
      exact k G D zs b2 (s2.more (by omega)) nD hG (by omega) hz
/-! ### _law_fields -/
def rLenS (K : PySem.W.Frag) : List V → Hp → VK → Prop := fun xs H Q => ∃ p ys, xs = [.ref p] ∧ (SqL K H p ys ∨ SqT K H p ys) ∧ Q (.int ys.length) H
def spFieldsL : Sp := fun vs H Q _ => ∃ (l : Addr) (m n : Nat), vs = [.ref l, .int m] ∧ m ≤ 6 ∧ Src H l n ∧ n ≤ 800000 ∧
  ∀ (H' : Hp) (r : Addr) (zs : List Str), But (· = l) H H' → Src H' l (n + 7) → H r = none → H' r = some (.lst (zs.map V.str)) → zs.length ≤ m → zs.Nodup → (∀ z ∈ zs, z ∈ NM) → Q (.ref r) H'
abbrev nFieldsL : List Str := ["_law_well_here", "_law_most", "_law_left", "_law_k"]
theorem scFieldsL : FnScope nFieldsL ["_law_well_here", "_law_most"] (defScope sFields) := ⟨rfl, rfl, rfl, by decide +kernel, rfl, by decide +kernel, by decide +kernel⟩
theorem ok_fieldsL {f fD : Addr} {fd dD : FuncData} (F : Fun K "_law_fields" "_law_fields" sFields f fd) (T : TxtR mg) (gD : mg "_law_draw" = some (.ref fD)) (kD : PySem.W.keepIn K (.ref fD) = true) (bD : Binds K dD ["_law_well_here", "_law_many"] [])
    (GD : FnOk P w K mg base CX0 1 fD dD ["_law_well_here", "_law_many"] spDraw) : FnOk P w K mg base CX0 2 f fd ["_law_well_here", "_law_most"] spFieldsL := by
  refine F.ok scFieldsL (fun vs H Q E h => ?_) (fun cdv A outer s H vs Q E hr h => ?_)
  · obtain ⟨l, m, n, rfl, _⟩ := h
    rfl
  · obtain ⟨l, m, n, rfl, hm, src, hn, k⟩ := h
    refine ⟨_, pss_cons (ps_set (i := 2) scFieldsL.nd rfl (Or.inr rfl) (pe_lst (pa_cons pe_str (pa_cons pe_str (pa_cons pe_str (pa_cons pe_str (pa_cons pe_str (pa_cons pe_str pa_nil))))))))
      (pss_one (ps_ret (pe_lc (own := [("_law_k", 3)]) (g := gName 3) (tt := tYes) (te := tBM K "list" rPopAt (tVar 2) (tCons (tCall spDraw [] E0 (tCons (tVar 0) (tCons (tCB (rLenS K) (tCons (tVar 2) tNil)) tNil))) tNil)) rfl scFieldsL.nd (pi_range1 rfl T.range (pa_cons (pe_call GD hr rfl gD kD bD .nil pass0 (pa_cons (pv 0) (pa_cons (pe_op op_add (pv 1) pe_int) pa_nil))) pa_nil)) (blkOk_by (N := nFieldsL) (sc := defScope sFields) (by decide +kernel))
          (fun _ _ _ _ _ => pg_name (i := 3) scFieldsL.nd rfl (Or.inl rfl)) (fun _ _ _ _ _ => pts_nil) (fun _ _ _ _ _ => pe_bm PySem.F.plainAttrs_list PySem.F.slot_list_pop PySem.F.type_list_pop mt_popAt (pv 2)
          (pa_cons (pe_call GD hr rfl gD kD bD .nil pass0 (pa_cons (pv 0) (pa_cons (pe_callB call_len_seq (by rfl) T.len PySem.boot_len (pa_cons (pv 2) pa_nil)) pa_nil))) pa_nil))))), ?_⟩
    refine ⟨by show 6 ≤ sizeLine; decide, fun L hL => ?_⟩
    have Ll : L ≠ l := src_none src hL
    have s0 := src.upd (o := .lst (NM.map V.str)) Ll
    have hL0 : (upd H L (.lst (NM.map V.str))) L = some (.lst (NM.map V.str)) := upd_same
    have b0 : But (· = l) H (upd H L (.lst (NM.map V.str))) := but_same (same_new hL)
    refine ⟨_, rfl, _, rfl, _, _, rfl, rfl, l, _, n, rfl, by omega, by omega, s0, by omega, fun H1 d b1 s1 d0 d1 => ?_⟩
    obtain ⟨t, rfl⟩ := Int.eq_ofNat_of_zero_le d0
    have hL1 := b1 _ _ Ll hL0
    refine ⟨_, rfl, by omega, by omega, fun D hD => ?_⟩
    have tn : ((t : Nat) : Int).toNat = t := rfl
    rw [tn]
    have Dl : D ≠ l := src_none s1 hD
    have LD : L ≠ D := ne_of_none hL1 hD
    have nD : H D = none := but_none (but_trans b0 b1) hD Dl
    refine lc_range (lo := 0) (n := t) (fun j G => ∃ zs ls : List Str, But (· = l) H G ∧ Src G l (n + 1 + j) ∧ G D = some (.lst (zs.map V.str)) ∧ G L = some (.lst (ls.map V.str)) ∧ zs.length = j ∧ (zs ++ ls).Perm NM)
      ⟨[], NM, but_new (but_trans b0 b1) nD, s1.upd Dl, upd_same, by rw [upd_ne LD]; exact hL1, rfl, List.Perm.refl _⟩ (fun j G hj p => ?_) (fun G p => ?_)
    · obtain ⟨zs, ls, b2, s2, hG, hGL, lz, pm⟩ := p
      refine ⟨rfl, ?_⟩
      unfold tYes
      simp only [if_true]
      have lp := pm.length_eq
      rw [List.length_append, show NM.length = 6 from rfl] at lp
      refine ⟨_, rfl, .inl ⟨rfl, _, SqL.of hGL⟩, _, rfl, _, rfl, L, _, rfl, .inl (SqL.of hGL), l, _, n + 1 + j, rfl, ?_, ?_, s2, by omega, fun G2 e b3 s3 e0 e1 => ?_⟩
      · rw [List.length_map]; omega
      · rw [List.length_map]; omega
      obtain ⟨i, rfl⟩ := Int.eq_ofNat_of_zero_le e0
      rw [List.length_map] at e1
      have hi : i < ls.length := by omega
      have hG2 := b3 _ _ Dl hG
      have hL2 := b3 _ _ Ll hGL
      refine ⟨L, _, (i : Nat), i, .str ls[i], rfl, rfl, hL2, by omega, by omega, by rw [List.length_map]; exact seq_nat' hi, by rw [List.getElem?_map, List.getElem?_eq_getElem hi]; rfl, ?_⟩
      refine ⟨_, by rw [upd_ne LD.symm]; exact hG2, small1000 (by rw [List.length_map]; omega), zs ++ [ls[i]], ls.eraseIdx i, but_new (but_new (but_trans b2 b3) hL) nD, ((s3.upd Ll).upd Dl).more (by omega), by rw [upd_same, List.map_append]; rfl, by rw [upd_ne LD, upd_same, map_erase'], by rw [List.length_append, lz]; rfl, ?_⟩
      rw [List.append_assoc]
      exact ((erase_perm' (List.getElem?_eq_getElem hi)).append_left zs).trans pm
    · obtain ⟨zs, ls, b2, s2, hG, hGL, lz, pm⟩ := p
      have nd := (pm.nodup_iff.mpr nm_nodup)
      exact k G D zs b2 (s2.more (by omega)) nD hG (by omega) (List.nodup_append.mp nd).1 fun z hz => pm.mem_iff.mp (List.mem_append.mpr (.inl hz))
end
end Lw

set_option Elab.async false
set_option linter.all false
set_option maxRecDepth 100000
set_option maxHeartbeats 1000000
/-! repr of any data, dicts too. -/
namespace Two
open PySem PySem.Spec PyProof.Rows L2
def keyD : Key → PyData
  | .inl i => .int i
  | .inr x => .str x
mutual
inductive Dq (K : PySem.W.Frag) (H : Hp) : V → PyData → Prop
  | non : Dq K H .non .none
  | bl (b : Bool) : Dq K H (.bl b) (.bool b)
  | int (i : Int) : Dq K H (.int i) (.int i)
  | str (x : Str) : Dq K H (.str x) (.str x)
  | lst {a : Addr} {xs : List V} {ds : List PyData} : SqL K H a xs → a ≠ 1 → DqAll K H xs ds → Dq K H (.ref a) (.list ds)
  | tup {a : Addr} {xs : List V} {ds : List PyData} : SqT K H a xs → DqAll K H xs ds → Dq K H (.ref a) (.tuple ds)
  | dic {a : Addr} {kvs : List (Key × Int)} : H a = some (.dK (kvs.map fun p => (p.1, V.int p.2))) → Dq K H (.ref a) (.dict (kvs.map fun p => (keyD p.1, PyData.int p.2)))
inductive DqAll (K : PySem.W.Frag) (H : Hp) : List V → List PyData → Prop
  | nil : DqAll K H [] []
  | cons {v : V} {vs : List V} {d : PyData} {ds : List PyData} : Dq K H v d → DqAll K H vs ds → DqAll K H (v :: vs) (d :: ds)
end
theorem DqAll.len {K : PySem.W.Frag} {H : Hp} : ∀ {vs : List V} {ds : List PyData}, DqAll K H vs ds → vs.length = ds.length
  | [], _, h => by cases h; rfl
  | _ :: _, _, h => by
    cases h with
    | cons h1 h2 => exact congrArg (· + 1) h2.len
section
variable {X : Cx} {pins : List (Addr × Obj)} {σ : L2.St} {H : Hp} {s : Shared}
theorem keys_read {h : Heap} : ∀ {es : List DictEntry} {vs : List (Key × Value)} {kvs : List (Key × Int)}, Pairs (mixKind X.prog X.w) es vs → KV (kvs.map fun p => (p.1, V.int p.2)) vs →
    ReadsAll h (es.map (·.key)) (kvs.map fun p => keyD p.1) [] ∧ ReadsAll h (es.map (·.val)) (kvs.map fun p => PyData.int p.2) []
  | [], _, [], p, k => ⟨.nil, .nil⟩
  | [], _, _ :: _, p, k => by
    cases p
    cases k
  | e :: es, _, [], p, k => by
    cases k
    cases p
  | e :: es, _, (a, i) :: kvs, p, k => by
    cases p with
    | cons h1 h2 h3 =>
      cases k with
      | cons k1 k2 =>
        obtain ⟨r1, r2⟩ := keys_read h3 k2
        have h1 : keyIs _ e.key = true := h1
        rw [← k1.1] at h1
        have one : Reads h e.key (keyD a) [] := by
          rcases keyIs_shape h1 with ⟨i, t, e1, e2⟩ | ⟨x, t, e1, e2⟩
          · have e1 : a = .inl i := e1
            rw [e1, e2]; exact Reads.int i t
          · have e1 : a = .inr x := e1
            rw [e1, e2]; exact Reads.str x t
        have two : Reads h e.val (.int i) [] := by
          obtain ⟨t, et⟩ := k1.2
          rw [h2, et]
          exact Reads.int i t
        exact ⟨ReadsAll.cons (as := []) (bs := []) one r1, ReadsAll.cons (as := []) (bs := []) two r2⟩
mutual
theorem Dq.reads (I : Inv X pins σ H s) : ∀ (d : PyData) (v : V) (u : Value), Dq X.K H v d → RelV v u → ∃ as, Reads s.heap u d as ∧ sysModules ∉ as
  | .none, _, _, h, r => by
    cases h
    cases r
    exact ⟨_, Reads.none, (fun m => nomatch m)⟩
  | .bool b, _, _, h, r => by
    cases h
    cases r
    exact ⟨_, Reads.bool b, (fun m => nomatch m)⟩
  | .int i, _, _, h, r => by
    cases h
    obtain ⟨t, rfl⟩ := r
    exact ⟨_, Reads.int i t, (fun m => nomatch m)⟩
  | .str x, _, _, h, r => by
    cases h
    obtain ⟨t, rfl⟩ := r
    exact ⟨_, Reads.str x t, (fun m => nomatch m)⟩
  | .list ds, _, _, h, r => by
    cases h with
    | lst hs ne ha =>
      cases r
      obtain ⟨its, rv, ⟨o, n, ho, hc, _, hd⟩, _⟩ := I.list hs
      obtain ⟨as, hr, hn⟩ := Dq.readsAll I ds _ its ha rv
      refine ⟨_, Reads.list ho hc hd hr, fun m => ?_⟩
      rcases List.mem_cons.mp m with m | m
      · exact ne m.symm
      · exact hn m
  | .tuple ds, _, _, h, r => by
    cases h with
    | tup hs ha =>
      cases r
      obtain ⟨its, rv, ⟨o, ho, hc, n, hd⟩, _⟩ := I.tuple hs
      obtain ⟨as, hr, hn⟩ := Dq.readsAll I ds _ its ha rv
      exact ⟨_, Reads.tuple ho hc hd hr, hn⟩
  | .dict ps, _, _, h, r => by
    generalize e0 : PyData.dict ps = d0 at h
    cases h with
    | @dic a kvs hs =>
      cases r
      obtain ⟨_, hm, vs, rel, o, es, ep, ho, hx, hd, _, pr, _⟩ := dk_of I.hok hs
      obtain ⟨r1, r2⟩ := keys_read (X := X) (h := s.heap) pr rel
      refine ⟨_, Reads.dict (as := []) (bs := []) ho hx.1 hd (by rw [List.map_map]; exact r1) (by rw [List.map_map]; exact r2), fun m => ?_⟩
      rcases List.mem_cons.mp m with m | m
      · rw [← m] at hm; cases hm
      · cases m
    | _ => cases e0
theorem Dq.readsAll (I : Inv X pins σ H s) : ∀ (ds : List PyData) (vs : List V) (us : List Value), DqAll X.K H vs ds → Vals vs us → ∃ as, ReadsAll s.heap us ds as ∧ sysModules ∉ as
  | [], _, _, h, r => by
    cases h
    cases r
    exact ⟨_, ReadsAll.nil, (fun m => nomatch m)⟩
  | d :: ds, _, _, h, r => by
    cases h with
    | cons h1 h2 =>
      cases r with
      | cons r1 r2 =>
        obtain ⟨as, q1, n1⟩ := Dq.reads I d _ _ h1 r1
        obtain ⟨bs, q2, n2⟩ := Dq.readsAll I ds _ _ h2 r2
        exact ⟨_, ReadsAll.cons q1 q2, fun m => (List.mem_append.mp m).elim n1 n2⟩
end
end
section
variable {X : Cx}
def rReprQ (K : PySem.W.Frag) : List V → Hp → VK → Prop := fun vs H Q => ∃ (x : V) (d : PyData), vs = [x] ∧ Dq K H x d ∧ d.showable = true ∧ d.depth ≤ 32 ∧ d.shown.length ≤ sizeLine ∧ Q (.str d.shown) H
theorem cr_reprQ (hg : X.A.guards = some []) (hu : X.A.units + 64 < cLine) : CallR X (.builtin "repr") (rReprQ X.K) := by
  intro pins s σ H vs us Q I r h
  obtain ⟨x, d, rfl, hd, hs, hp, hz, q⟩ := h
  obtain ⟨u, rfl, ru⟩ := r.one
  have refs : ∀ a : Addr, x = .ref a → wpAny (model X.prog X.w) X.A (call (.builtin "repr") [u]) (EP X pins σ Q) X.xe s := fun a e => by
    subst e
    obtain ⟨as, rr, hn⟩ := Dq.reads I d _ u hd ru
    cases (show u = Value.ref a from ru)
    exact repr_of_reads' rr hs (fun _ => hn) hg (by omega) (fun _ _ e => e) (fun h' u tk hk => ⟨.str d.shown, H, I.kept hk, ⟨u, rfl⟩, q⟩) hz
  cases hd with
  | non =>
    cases (show u = Value.none from ru)
    exact PySem.P.repr_of_none ⟨.str _, H, I.tok _, ⟨_, rfl⟩, q⟩
  | bl b =>
    cases (show u = Value.bool b from ru)
    exact PySem.P.repr_of_bool ⟨.str _, H, I.tok _, ⟨_, rfl⟩, q⟩
  | int i =>
    obtain ⟨t, rfl⟩ := ru
    exact PySem.P.repr_of_int (of_decide_eq_true hs) ⟨.str _, H, I.tok _, ⟨_, rfl⟩, q⟩
  | str y =>
    obtain ⟨t, rfl⟩ := ru
    exact PySem.P.repr_of_str ⟨.str _, H, I.tok _, ⟨_, rfl⟩, q⟩ hz
  | lst _ _ _ => exact refs _ rfl
  | tup _ _ => exact refs _ rfl
  | dic _ => exact refs _ rfl
end
end Two

set_option Elab.async false
set_option linter.all false
set_option maxRecDepth 100000
set_option maxHeartbeats 1000000
/-! A caught error handed on to a def: isinstance, its fields, the call. list.count(True). -/
namespace Two
open PySem PySem.Spec PyProof.Rows L2
/-! ### list.count of a truth value -/
def isBv (b : Bool) (v : Value) : Bool := match v with
  | .bool c => c == b
  | _ => false
theorem bools_vals {b : Bool} : ∀ {bs : List Bool} {us : List Value}, Vals (bs.map V.bl) us → us.countP (isBv b) = bs.count b ∧ ∀ u ∈ us, ∃ c, u = .bool c
  | [], _, h => by cases h; exact ⟨rfl, fun u m => nomatch m⟩
  | c :: bs, _, h => by
    cases h with
    | cons h1 h2 =>
      obtain ⟨e1, e2⟩ := bools_vals (b := b) h2
      cases (show _ = Value.bool c from h1)
      refine ⟨?_, fun u m => ?_⟩
      · rw [List.countP_cons, List.count_cons, e1]
        rfl
      · rcases List.mem_cons.mp m with rfl | m
        · exact ⟨c, rfl⟩
        · exact e2 u m
def rCntB (K : PySem.W.Frag) : V → List V → Hp → VK → Prop := fun x xs H Q => ∃ (p : Addr) (bs : List Bool) (b : Bool), x = .ref p ∧ xs = [.bl b] ∧ SqL K H p (bs.map V.bl) ∧ Q (.int (bs.count b : Nat)) H
theorem mt_countB {X : Cx} : MtR X "list.count" (rCntB X.K) := by
  intro pins s σ H x xs v us Q I rx rxs h
  obtain ⟨p, bs, b, rfl, rfl, hs, q⟩ := h
  cases rx
  obtain ⟨u, rfl, ru⟩ := rxs.one
  cases (show u = Value.bool b from ru)
  obtain ⟨its, rv, ⟨⟨cls, dd, data, sl⟩, n, ho, hc, hdn, hd⟩, hlen⟩ := I.list hs
  simp only at hc hd
  subst hc hd
  obtain ⟨ec, all⟩ := bools_vals (b := b) rv
  refine call_meets PySem.F.slot_list_count ⟨_, ho, rfl⟩ PySem.F.entry_list_count (PySem.F.args_list_count_2 _ _)
    (SeqAt.list_countAt p its.toArray n dd sl (.bool b) (isBv b)) ⟨ho, fun y hy => ?_, ?_⟩
  · obtain ⟨c, rfl⟩ := all y (by simpa using hy)
    exact SeqAt.EqAt.bool_bool c b
  have ec : its.toArray.toList.countP (isBv b) = bs.count b := ec
  refine ⟨.int (bs.count b : Nat), H, I.tok _, ⟨s.toks, ?_⟩, q⟩
  show Value.int ((its.toArray.toList.countP (isBv b) : Nat) : Int) s.toks = Value.int ((bs.count b : Nat) : Int) s.toks
  rw [ec]
/-! ### a pinned error -/
/-- isinstance(e, c), e an error that stands among the pins, with a dict -/
def rIsP (K : PySem.W.Frag) (cls : Value) (d : Option Addr) (a : Addr) : List V → Hp → VK → Prop := fun xs H Q => ∃ (D dd : Addr) (fs : List (Str × V)) (c : V) (cv : Value) (b : Bool), xs = [.ref a, c] ∧ cls = .ref D ∧ d = some dd ∧ H dd = some (.xd fs) ∧ ExcC K D ∧
  (∀ u, RelV c u → u = cv) ∧ PySem.W.kitOne K (.ref D) cv = some b ∧ Q (.bl b) H
theorem call_isP {X : Cx} {a : Addr} {oe : Obj} {cls : Value} {d : Option Addr} (hp : (a, oe) ∈ X.pn) (hz : Zc cls d oe) (hf : ∃ vs, oe.data = .fields vs) : CallR X (.builtin "isinstance") (rIsP X.K cls d a) := by
  intro pins s σ H xs us Q I r h
  obtain ⟨D, dd, fs, c, cv, b, rfl, rfl, rfl, hdd, C, hcv, e, q⟩ := h
  cases r with
  | cons rx rr =>
    cases rr with
    | cons rt rr =>
      cases rr
      cases rx
      have ec := hcv _ rt
      subst ec
      obtain ⟨hget, _⟩ := I.pin (a, oe) (List.mem_append.mpr (.inl hp))
      obtain ⟨vs, hv⟩ := hf
      have hx : ObjOk X.prog X.w H s.heap dd (.xd fs) := I.hok dd _ hdd
      obtain ⟨mA, hns, hr⟩ := hx
      obtain ⟨od, ho, hl⟩ := lookIn_ns hns
      have J : PySem.W.InstAt s.heap a oe D (some od) := ⟨hget, hz.1, by unfold PySem.W.notCls; rw [hv] <;> rfl, by rw [hz.2]; exact ho⟩
      have hcl : (PySem.W.clsIn X.K D).isSome = true := by
        obtain ⟨cd, hc, _⟩ := PySem.W.any_some C.hd
        rw [hc]; rfl
      exact PySem.W.kia_one (PySem.W.kitx_exc hcl C.hg C.hk C.hs C.ha C.hn C.ht C.hm) I.kIn J e (fun z => nomatch z) fun tk => ⟨.bl b, H, I.kept (t' := tk) fun _ _ z => z, rfl, q⟩
def tXfP (K : PySem.W.Frag) (a : Addr) (cls : Value) (d : Option Addr) (f : Str) (te : TE) : TE := fun σ H Q => te σ H fun x H1 => x = .ref a ∧ ∃ (C dd : Addr) (fs : List (Str × V)) (v : V), cls = .ref C ∧ d = some dd ∧ XfC K C ∧ PySem.W.findIn K (.ref C) f = some none ∧
  H1 dd = some (.xd fs) ∧ fs.lookup f = some v ∧ Q v H1
theorem pe_xfP {X : Cx} {a : Addr} {oe : Obj} {cls : Value} {d : Option Addr} {e : Expr} {te : TE} {pos : Pos} {n : Str}
    (hp : (a, oe) ∈ X.pn) (hz : Zc cls d oe) (hf : ∃ vs, oe.data = .fields vs) (he : PE X e te) (hb : attributeBase e n X.env (eval e X.env) = eval e X.env := by rfl) :
    PE X (.Attribute e n pos) (tXfP X.K a cls d n te) := by
  refine ⟨fun pins s σ H Q I h => ?_⟩
  refine attr_of hb (thn (he.run pins s σ H _ I h) fun u s1 hh => ?_)
  obtain ⟨x, H1, I1, rx, ex, C, dd, fs, v, rfl, rfl, T, hno, ea, l, q⟩ := hh
  subst ex
  obtain rfl : u = Value.ref a := rx
  obtain ⟨ha, _⟩ := I1.pin (a, oe) (List.mem_append_left _ hp)
  obtain ⟨vs, hd⟩ := hf
  have hx : ObjOk X.prog X.w H1 s1.heap dd (.xd fs) := I1.hok dd _ ea
  obtain ⟨mA, hns, hr⟩ := hx
  obtain ⟨od, ho, hl⟩ := lookIn_ns hns
  obtain ⟨u, hu, ru⟩ := RelO.some_of (v := v) (o := mA n) (by rw [← l]; exact hr n)
  have J : PySem.W.InstAt s1.heap a oe C (some od) := ⟨ha, hz.1, by unfold PySem.W.notCls; rw [hd] <;> rfl, by rw [hz.2]; exact ho⟩
  exact HandSPX.exc_get I1.kIn J T.ga T.gg T.exC (PySem.W.findObj_own T.hdC hno rfl (by rw [hl, hu])) (handed_of ru) ⟨v, H1, I1.tok _, ru, q⟩
/-! ### a def that is handed an error -/
/-- a promise that speaks of the error at a, of the class cls, its dict at d -/
abbrev SpE := Addr → Value → Option Addr → Sp
structure FnE (P : Program) (w : World) (K : PySem.W.Frag) (mg : Str → Option Value) (base : Heap) (k : Nat) (f : Addr) (fd : FuncData) (ps : List Str) (sp : SpE) : Prop where
  len : ∀ a cls d vs H Q E, sp a cls d vs H Q E → vs.length = ps.length
  run : ∀ (A : Around) (outer : List Env) (s : Shared) (H : Hp) (args : Args) (us : List Value) (vs : List V) (Q : VK) (E : XK) (p : Addr × Obj) (cls : Value) (d : Option Addr), L2H.RoomH k A → A.guards = some [] → Zc cls d p.2 → (∃ vs, p.2.data = .fields vs) → L2H.PinOk outer H s p →
    Env0 P w K mg base A outer s H → BindsTo s fd args (ps.zip us) → Vals vs us → sp p.1 cls d vs H Q E → codeAny (model P w) A (.call (.ref f) args) (CR L2.CX0 outer P w H s Q E) s
theorem FnE.of {P : Program} {w : World} {K : PySem.W.Frag} {mg : Str → Option Value} {base : Heap} {x qual : Str} {st : Stmt} {f : Addr} {fd : FuncData} {N ps : List Str} {k : Nat} {sp : SpE} (F : Fun K x qual st f fd) (S : FnScope N ps (defScope st))
    (len : ∀ a cls d vs H Q E, sp a cls d vs H Q E → vs.length = ps.length)
    (body : ∀ (cdv : Value) (A : Around) (outer : List Env) (s : Shared) (H : Hp) (vs : List V) (Q : VK) (E : XK) (a : Addr) (oe : Obj) (cls : Value) (d : Option Addr), L2H.RoomH k (A.deeper (envOfC qual (defScope st) s.heap.objs.size f cdv)) → A.guards = some [] → Zc cls d oe → (∃ vs, oe.data = .fields vs) → sp a cls d vs H Q E →
      ∃ t, PSs (L2H.cxH CX0 P w K mg base N qual (defScope st) f cdv A outer s H E (a, oe)).nox (defBody st) t ∧ t { nx := fun _ G => Q .non G, rt := Q } (L2.start N vs) H) : FnE P w K mg base (k + 1) f fd ps sp := by
  obtain ⟨oc, od, kV, doc, pm, an, cdv, ct, osl, rfl, lk, hcd⟩ := F.ex
  refine ⟨len, fun A outer s H args us vs Q E p cls d hr hg hz hf hpin e0 hb r hsp => ?_⟩
  have hl := len _ _ _ _ _ _ _ hsp
  have KX : K.In s.heap := e0.mod.kin.keeps fun b o e => (e0.bs b o e).1
  have lim : s.heap.NoLimit := e0.mod.nolimit.keeps fun b o e => (e0.bs b o e).1
  have kinds : ∀ y ∈ ps.zip us, (defScope st).names.lookup y.1 = some .local ∨ ((defScope st).names.lookup y.1 = some .cell ∧ ((cellsFrom (s.heap.objs.size + 1) (defScope st).names []).lookup y.1).isSome = true) := by
    rintro ⟨n, v⟩ hy
    exact (S.par n (List.of_mem_zip hy).1).imp id fun q => ⟨q, PySem.W.cellsFrom_some _ _ _ (.inl q)⟩
  refine codeAny_call_function hr.depth (KX _ _ lk) rfl S.co S.gen rfl (PySem.W.codeRec_of KX hcd) (hb _ _ _ _ ?_)
  refine wpAny_newFunctionEnv_cells S.kind kinds fun env he s1 x => ?_
  subst he
  refine ⟨lim.keeps x.toInCall.keep, codeAny_func ?_⟩
  obtain ⟨t, ht, hq⟩ := body cdv A outer s H vs Q E p.1 p.2 cls d (hr.deeper _) hg hz hf hsp
  have I := L2H.inv_startH (qual := qual) (f := f) (cd := cdv) (E := E) (CX := CX0) S hpin e0 hl r x
  refine wpAny_mono (ht.nox.run [] s1 (L2.start N vs) H _ I hq) (fun fl s' hs => ?_) fun e s' hs => hs
  have done : ∀ {τ : L2.St} {G : Hp} {v : V} {u : Value}, Inv (L2H.cxH CX0 P w K mg base N qual (defScope st) f cdv A outer s H E p) [] τ G s' → RelV v u → Q v G → CE outer P w H s Q u s' :=
    fun {τ G v u} J rv q => ⟨v, G, J.os, J.bare, J.base, J.hok, rv, q⟩
  match fl, hs with
  | .ret u, hs => exact let ⟨v, τ, G, J, rv, q⟩ := hs; done J rv q
  | .next, hs => exact let ⟨τ, G, J, q⟩ := hs; done (v := V.non) (u := Value.none) J rfl q
  | .brk, hs => exact let ⟨_, _, _, q⟩ := hs; False.elim q
  | .cont, hs => exact let ⟨_, _, _, q⟩ := hs; False.elim q
section
variable {X : Cx} {k : Nat} {f : Addr} {fd : FuncData} {ps : List Str} {sp : SpE} {x : Str} {p pos : Pos} {e : Expr} {es : List Expr} {t : TA} {a : Addr} {oe : Obj} {cls : Value} {d : Option Addr}
theorem pe_callE (F : FnE X.prog X.w X.K X.mg X.base k f fd ps sp) (hr : L2H.RoomH k X.A) (gd : X.A.guards = some []) (hpn : (a, oe) ∈ X.pn) (hz : Zc cls d oe) (hf : ∃ vs, oe.data = .fields vs) (hg : Gl X x) (hm : X.mg x = some (.ref f)) (hk : PySem.W.keepIn X.K (.ref f) = true) (hb : Binds X.K fd ps [])
    (ha : PA X (e :: es) t) (hdb : (x == ("__debug__" : Str)) = false := by decide) (he : starEach (e :: es) X.env = (false, eval e X.env) :: starEach es X.env := by rfl) (hpl : (backTo pos (starEach es X.env)).any (·.1) = false := by rfl) :
    PE X (.Call (.Name x p) (e :: es) [] pos) (tCall (sp a cls d) [] E0 t) := by
  refine ⟨fun pins s σ H Q I h => wpAny_Call_Name_kw (ld_glob I hg hm ?_ hdb)⟩
  refine PySem.W.callWith_K (h₀ := X.base) I.ok.mod.kin hk (thn (ha.run pos pins s σ H _ I h) fun us s1 ⟨vs, H1, I1, r, q⟩ => ⟨I1.kIn, ?_⟩) he hpl
  have P1 := I1.pin (a, oe) (List.mem_append_left _ hpn)
  have hpin : L2H.PinOk X.stack H1 s1 (a, oe) := ⟨P1.1, P1.2.1, fun hm => (List.mem_cons.mp (I1.stkSub a hm)).elim P1.2.2.1 P1.2.2.2.1, P1.2.2.2.2⟩
  have q : sp a cls d (vs ++ []) H1 Q E0 := q
  have hl : (us ++ []).length = ps.length := by rw [← (r.append .nil).length]; exact F.len _ _ _ _ _ _ _ q
  refine wpAny_call (codeAny_mono (F.run X.A X.stack s1 H1 ⟨us, []⟩ (us ++ []) (vs ++ []) Q E0 (a, oe) cls d hr gd hz hf hpin I1.env0 (hb s1 us I1.kIn hl) (r.append .nil) q) fun q s' hq => ?_)
  match q, hq with
  | .error e, hq => exact pass0 pins σ H1 s1 e s' I1 hq
  | .ok (.ret u), hq => exact I1.after hq
  | .ok .next, hq => exact False.elim hq
  | .ok .brk, hq => exact False.elim hq
  | .ok .cont, hq => exact False.elim hq
end
end Two

set_option Elab.async false
set_option linter.all false
set_option maxRecDepth 100000
set_option maxHeartbeats 1000000
/-! _law_classes_of. -/
namespace Lw
open PySem L2 Two Pr ClX
abbrev sClasses : Stmt := top 39
/-- the errors' classes, in the order of the law -/
structure RefE (K : PySem.W.Frag) (mg : Str → Option Value) (CL : Addr) (c : List Addr) (js : Nat → Prop) : Prop where
  isinstance : mg "isinstance" = none
  int : mg "int" = none
  str : mg "str" = none
  gL : mg "LineError" = some (.ref CL)
  g0 : mg "BadList" = some (.ref (c.getD 0 0))
  g1 : mg "BadName" = some (.ref (c.getD 1 0))
  g2 : mg "BadOffset" = some (.ref (c.getD 2 0))
  g3 : mg "BadStep" = some (.ref (c.getD 3 0))
  g4 : mg "BadValue" = some (.ref (c.getD 4 0))
  g5 : mg "BelowItself" = some (.ref (c.getD 5 0))
  g6 : mg "Collision" = some (.ref (c.getD 6 0))
  g7 : mg "Duplicate" = some (.ref (c.getD 7 0))
  g8 : mg "HasRoom" = some (.ref (c.getD 8 0))
  g9 : mg "LayoutMoves" = some (.ref (c.getD 9 0))
  g10 : mg "NoClass" = some (.ref (c.getD 10 0))
  g11 : mg "NoName" = some (.ref (c.getD 11 0))
  g12 : mg "NoObject" = some (.ref (c.getD 12 0))
  g13 : mg "NoOrder" = some (.ref (c.getD 13 0))
  g14 : mg "NotSet" = some (.ref (c.getD 14 0))
  g15 : mg "OtherLayout" = some (.ref (c.getD 15 0))
  g16 : mg "TooMany" = some (.ref (c.getD 16 0))
  ex : ∀ j, js j → ExcC K (c.getD j 0) ∧ XfC K (c.getD j 0) ∧ PySem.W.exmOne K (.ref (c.getD j 0)) (.ref CL) = some true ∧ PySem.W.kitOne K (.ref (c.getD j 0)) (.ref CL) = some true
  kit : ∀ j, js j → ∀ i, i < 17 → PySem.W.kitOne K (.ref (c.getD j 0)) (.ref (c.getD i 0)) = some (decide (i = j))
  lt : ∀ j, js j → j < 17
  fw : ∀ j, js j → PySem.W.findIn K (.ref (c.getD j 0)) "why" = some none
theorem one_kind {j : Nat} (h : j < 17) : ([decide (0 = j), decide (1 = j), decide (2 = j), decide (3 = j)] ++ [decide (4 = j), decide (5 = j), decide (6 = j)] ++ [decide (7 = j), decide (8 = j), decide (9 = j)] ++ [decide (10 = j), decide (11 = j), decide (12 = j)] ++
    [decide (13 = j), decide (14 = j)] ++ [decide (15 = j), decide (16 = j)] : List Bool).count true = 1 := by
  have : ∀ j : Fin 17, ([decide (0 = j.1), decide (1 = j.1), decide (2 = j.1), decide (3 = j.1)] ++ [decide (4 = j.1), decide (5 = j.1), decide (6 = j.1)] ++ [decide (7 = j.1), decide (8 = j.1), decide (9 = j.1)] ++ [decide (10 = j.1), decide (11 = j.1), decide (12 = j.1)] ++
    [decide (13 = j.1), decide (14 = j.1)] ++ [decide (15 = j.1), decide (16 = j.1)] : List Bool).count true = 1 := by decide
  exact this ⟨j, h⟩
theorem is_at {K : PySem.W.Frag} {D dd a C : Addr} {i : Nat} {fs : List (Str × V)} {b : Bool} {σ : L2.St} {H : Hp} {Q : VK} (hσ : σ[i]? = some (some (.ref a))) (hdd : H dd = some (.xd fs)) (ex : ExcC K D) (kit : PySem.W.kitOne K (.ref D) (.ref C) = some b) (q : Q (.bl b) H) :
    tCB (rIsP K (.ref D) (some dd) a) (tCons (tVar i) (tCons (tC (.ref C)) tNil)) σ H Q := ⟨_, hσ, D, dd, fs, _, _, b, rfl, rfl, rfl, hdd, ex, fun u h => h, kit, q⟩
/-- an error of the j-th class -/
def ErrAt (c : List Addr) (js : Nat → Prop) (cls : Value) (d : Option Addr) (H : Hp) (j : Nat) (dd : Addr) (fs : List (Str × V)) : Prop := js j ∧ cls = .ref (c.getD j 0) ∧ d = some dd ∧ H dd = some (.xd fs) ∧ ∃ w, fs.lookup ("why" : Str) = some (.str w)
def spClasses (c : List Addr) (js : Nat → Prop) : SpE := fun a cls d vs H Q _ => ∃ j dd fs, vs = [.ref a] ∧ ErrAt c js cls d H j dd fs ∧ ∀ H', Same H H' → Q (.int 1) H'
abbrev nClasses : List Str := ["_law_e", "_law_kinds"]
theorem scClasses : FnScope nClasses ["_law_e"] (defScope sClasses) := ⟨rfl, rfl, rfl, by decide +kernel, rfl, by decide +kernel, by decide +kernel⟩
section
variable {P : Program} {w : World} {K : PySem.W.Frag} {mg : Str → Option Value} {base : Heap}
abbrev EX (P : Program) (w : World) (K : PySem.W.Frag) (mg : Str → Option Value) (base : Heap) (f : Addr) (cdv : Value) (A : Around) (outer : List Env) (s : Shared) (H : Hp) (E : XK) (a : Addr) (oe : Obj) : Cx := (L2H.cxH CX0 P w K mg base nClasses "_law_classes_of" (defScope sClasses) f cdv A outer s H E (a, oe)).nox
theorem ok_classes {f CL : Addr} {fd : FuncData} {c : List Addr} {js : Nat → Prop} (F : Fun K "_law_classes_of" "_law_classes_of" sClasses f fd) (R : RefE K mg CL c js) : FnE P w K mg base 1 f fd ["_law_e"] (spClasses c js) := by
  refine FnE.of F scClasses (fun a cls d vs H Q E h => ?_) (fun cdv A outer s H vs Q E a oe cls d hr hg hz hf h => ?_)
  · obtain ⟨j, dd, fs, rfl, _⟩ := h
    rfl
  · obtain ⟨j, dd, fs, rfl, ⟨hj, rfl, rfl, hdd, wy, hw⟩, k⟩ := h
    have is : ∀ {x : Str} {p0 p px pos : Pos} {t : TE}, PE (EX P w K mg base f cdv A outer s H E a oe) (.Name x px) t →
        PE (EX P w K mg base f cdv A outer s H E a oe) (.Call (.Name "isinstance" p0) [.Name "_law_e" p, .Name x px] [] pos) (tCB (rIsP K (.ref (c.getD j 0)) (some dd) a) (tCons (tVar 0) (tCons t tNil))) :=
          fun he => pe_callB (call_isP List.mem_cons_self hz hf) (by rfl) R.isinstance (by decide +kernel) (pa_cons (pv 0) (pa_cons he pa_nil))
    have gl : ∀ {x : Str} {C : Addr} {pos : Pos}, Gl (EX P w K mg base f cdv A outer s H E a oe) x → mg x = some (.ref C) → (x == ("__debug__" : Str)) = false → PE (EX P w K mg base f cdv A outer s H E a oe) (.Name x pos) (tC (.ref C)) := fun hg hm hd => pe_glob hg hm rfl hd
    obtain ⟨ex, xf, eL, kL⟩ := R.ex j hj
    refine ⟨_, (pss_cons (ps_set (i := 1) scClasses.nd rfl (Or.inl rfl) (pe_lst (pa_cons (is (gl rfl R.g0 (by decide))) (pa_cons (is (gl rfl R.g1 (by decide))) (pa_cons (is (gl rfl R.g2 (by decide))) (pa_cons (is (gl rfl R.g3 (by decide))) pa_nil))))))
        (pss_cons (ps_set (i := 1) scClasses.nd rfl (Or.inl rfl) (pe_op op_cat (pv 1) (pe_lst (pa_cons (is (gl rfl R.g4 (by decide))) (pa_cons (is (gl rfl R.g5 (by decide))) (pa_cons (is (gl rfl R.g6 (by decide))) pa_nil))))))
        (pss_cons (ps_set (i := 1) scClasses.nd rfl (Or.inl rfl) (pe_op op_cat (pv 1) (pe_lst (pa_cons (is (gl rfl R.g7 (by decide))) (pa_cons (is (gl rfl R.g8 (by decide))) (pa_cons (is (gl rfl R.g9 (by decide))) pa_nil))))))
        (pss_cons (ps_set (i := 1) scClasses.nd rfl (Or.inl rfl) (pe_op op_cat (pv 1) (pe_lst (pa_cons (is (gl rfl R.g10 (by decide))) (pa_cons (is (gl rfl R.g11 (by decide))) (pa_cons (is (gl rfl R.g12 (by decide))) pa_nil))))))
        (pss_cons (ps_set (i := 1) scClasses.nd rfl (Or.inl rfl) (pe_op op_cat (pv 1) (pe_lst (pa_cons (is (gl rfl R.g13 (by decide))) (pa_cons (is (gl rfl R.g14 (by decide))) pa_nil)))))
        (pss_cons (ps_set (i := 1) scClasses.nd rfl (Or.inl rfl) (pe_op op_cat (pv 1) (pe_lst (pa_cons (is (gl rfl R.g15 (by decide))) (pa_cons (is (gl rfl R.g16 (by decide))) pa_nil)))))
        (pss_one (ps_ret (pe_op op_add (pe_op op_add (pe_bm PySem.F.plainAttrs_list PySem.F.slot_list_count PySem.F.type_list_count mt_countB (pv 1) (pa_cons pe_bl pa_nil))
        (pe_callTy call_int1 (by rfl) R.int (by decide +kernel) (pa_cons (pe_not (is (gl rfl R.gL (by decide)))) pa_nil)))
        (pe_callTy call_int1 (by rfl) R.int (by decide +kernel) (pa_cons (pe_not (pe_callB call_isi (by rfl) R.isinstance (by decide +kernel) (pa_cons (pe_xfP List.mem_cons_self hz hf (pv 0)) (pa_cons (pe_bltn (v := .ty "str") (by rfl) R.str (by decide +kernel) rfl) pa_nil)))) pa_nil))))))))))), ?_⟩
    refine is_at rfl hdd ex (R.kit j hj 0 (by decide)) (is_at rfl hdd ex (R.kit j hj 1 (by decide)) (is_at rfl hdd ex (R.kit j hj 2 (by decide)) (is_at rfl hdd ex (R.kit j hj 3 (by decide)) (?_))))
    refine ⟨by show 4 ≤ sizeLine; decide, fun l0 n0 => ?_⟩
    have s0 : Same H (upd H l0 (.lst [.bl (decide (0 = j)), .bl (decide (1 = j)), .bl (decide (2 = j)), .bl (decide (3 = j))])) := same_new n0
    have e0 : (upd H l0 (.lst [.bl (decide (0 = j)), .bl (decide (1 = j)), .bl (decide (2 = j)), .bl (decide (3 = j))])) l0 = some (.lst (([decide (0 = j), decide (1 = j), decide (2 = j), decide (3 = j)] : List Bool).map V.bl)) := upd_same
    generalize upd H l0 (.lst [.bl (decide (0 = j)), .bl (decide (1 = j)), .bl (decide (2 = j)), .bl (decide (3 = j))]) = H0 at s0 e0 ⊢
    have d0 := s0 _ _ hdd
    refine ⟨_, rfl, is_at rfl d0 ex (R.kit j hj 4 (by decide)) (is_at rfl d0 ex (R.kit j hj 5 (by decide)) (is_at rfl d0 ex (R.kit j hj 6 (by decide)) (?_)))⟩
    refine ⟨by show 3 ≤ sizeLine; decide, fun m1 k1 => ?_⟩
    refine ⟨l0, m1, _, _, rfl, rfl, app e0 k1, upd_same, by show 4 + 3 ≤ sizeLine; decide, fun l1 n1 => ?_⟩
    have s1 : Same H (upd (upd H0 m1 (.lst [.bl (decide (4 = j)), .bl (decide (5 = j)), .bl (decide (6 = j))])) l1 (.lst (([decide (0 = j), decide (1 = j), decide (2 = j), decide (3 = j)] : List Bool).map V.bl ++ [.bl (decide (4 = j)), .bl (decide (5 = j)), .bl (decide (6 = j))]))) := ad (ad s0 k1) n1
    have e1 : (upd (upd H0 m1 (.lst [.bl (decide (4 = j)), .bl (decide (5 = j)), .bl (decide (6 = j))])) l1 (.lst (([decide (0 = j), decide (1 = j), decide (2 = j), decide (3 = j)] : List Bool).map V.bl ++ [.bl (decide (4 = j)), .bl (decide (5 = j)), .bl (decide (6 = j))]))) l1 = some (HO.lst (([decide (0 = j), decide (1 = j), decide (2 = j), decide (3 = j)] ++ [decide (4 = j), decide (5 = j), decide (6 = j)] : List Bool).map V.bl)) := by rw [upd_same, List.map_append]; rfl
    generalize upd (upd H0 m1 (.lst [.bl (decide (4 = j)), .bl (decide (5 = j)), .bl (decide (6 = j))])) l1 (.lst (([decide (0 = j), decide (1 = j), decide (2 = j), decide (3 = j)] : List Bool).map V.bl ++ [.bl (decide (4 = j)), .bl (decide (5 = j)), .bl (decide (6 = j))])) = H1 at s1 e1 ⊢
    have d1 := s1 _ _ hdd
    refine ⟨_, rfl, is_at rfl d1 ex (R.kit j hj 7 (by decide)) (is_at rfl d1 ex (R.kit j hj 8 (by decide)) (is_at rfl d1 ex (R.kit j hj 9 (by decide)) (?_)))⟩
    refine ⟨by show 3 ≤ sizeLine; decide, fun m2 k2 => ?_⟩
    refine ⟨l1, m2, _, _, rfl, rfl, app e1 k2, upd_same, by show 7 + 3 ≤ sizeLine; decide, fun l2 n2 => ?_⟩
    have s2 : Same H (upd (upd H1 m2 (.lst [.bl (decide (7 = j)), .bl (decide (8 = j)), .bl (decide (9 = j))])) l2 (.lst (([decide (0 = j), decide (1 = j), decide (2 = j), decide (3 = j)] ++ [decide (4 = j), decide (5 = j), decide (6 = j)] : List Bool).map V.bl ++ [.bl (decide (7 = j)), .bl (decide (8 = j)), .bl (decide (9 = j))]))) := ad (ad s1 k2) n2
    have e2 : (upd (upd H1 m2 (.lst [.bl (decide (7 = j)), .bl (decide (8 = j)), .bl (decide (9 = j))])) l2 (.lst (([decide (0 = j), decide (1 = j), decide (2 = j), decide (3 = j)] ++ [decide (4 = j), decide (5 = j), decide (6 = j)] : List Bool).map V.bl ++ [.bl (decide (7 = j)), .bl (decide (8 = j)), .bl (decide (9 = j))]))) l2 = some (HO.lst (([decide (0 = j), decide (1 = j), decide (2 = j), decide (3 = j)] ++ [decide (4 = j), decide (5 = j), decide (6 = j)] ++ [decide (7 = j), decide (8 = j), decide (9 = j)] : List Bool).map V.bl)) := by rw [upd_same, List.map_append]; rfl
    generalize upd (upd H1 m2 (.lst [.bl (decide (7 = j)), .bl (decide (8 = j)), .bl (decide (9 = j))])) l2 (.lst (([decide (0 = j), decide (1 = j), decide (2 = j), decide (3 = j)] ++ [decide (4 = j), decide (5 = j), decide (6 = j)] : List Bool).map V.bl ++ [.bl (decide (7 = j)), .bl (decide (8 = j)), .bl (decide (9 = j))])) = H2 at s2 e2 ⊢
    have d2 := s2 _ _ hdd
    refine ⟨_, rfl, is_at rfl d2 ex (R.kit j hj 10 (by decide)) (is_at rfl d2 ex (R.kit j hj 11 (by decide)) (is_at rfl d2 ex (R.kit j hj 12 (by decide)) (?_)))⟩
    refine ⟨by show 3 ≤ sizeLine; decide, fun m3 k3 => ?_⟩
    refine ⟨l2, m3, _, _, rfl, rfl, app e2 k3, upd_same, by show 10 + 3 ≤ sizeLine; decide, fun l3 n3 => ?_⟩
    have s3 : Same H (upd (upd H2 m3 (.lst [.bl (decide (10 = j)), .bl (decide (11 = j)), .bl (decide (12 = j))])) l3 (.lst (([decide (0 = j), decide (1 = j), decide (2 = j), decide (3 = j)] ++ [decide (4 = j), decide (5 = j), decide (6 = j)] ++ [decide (7 = j), decide (8 = j), decide (9 = j)] : List Bool).map V.bl ++ [.bl (decide (10 = j)), .bl (decide (11 = j)), .bl (decide (12 = j))]))) := ad (ad s2 k3) n3
    have e3 : (upd (upd H2 m3 (.lst [.bl (decide (10 = j)), .bl (decide (11 = j)), .bl (decide (12 = j))])) l3 (.lst (([decide (0 = j), decide (1 = j), decide (2 = j), decide (3 = j)] ++ [decide (4 = j), decide (5 = j), decide (6 = j)] ++ [decide (7 = j), decide (8 = j), decide (9 = j)] : List Bool).map V.bl ++ [.bl (decide (10 = j)), .bl (decide (11 = j)), .bl (decide (12 = j))]))) l3 = some (HO.lst (([decide (0 = j), decide (1 = j), decide (2 = j), decide (3 = j)] ++ [decide (4 = j), decide (5 = j), decide (6 = j)] ++ [decide (7 = j), decide (8 = j), decide (9 = j)] ++ [decide (10 = j), decide (11 = j), decide (12 = j)] : List Bool).map V.bl)) := by rw [upd_same, List.map_append]; rfl
    generalize upd (upd H2 m3 (.lst [.bl (decide (10 = j)), .bl (decide (11 = j)), .bl (decide (12 = j))])) l3 (.lst (([decide (0 = j), decide (1 = j), decide (2 = j), decide (3 = j)] ++ [decide (4 = j), decide (5 = j), decide (6 = j)] ++ [decide (7 = j), decide (8 = j), decide (9 = j)] : List Bool).map V.bl ++ [.bl (decide (10 = j)), .bl (decide (11 = j)), .bl (decide (12 = j))])) = H3 at s3 e3 ⊢
    have d3 := s3 _ _ hdd
    refine ⟨_, rfl, is_at rfl d3 ex (R.kit j hj 13 (by decide)) (is_at rfl d3 ex (R.kit j hj 14 (by decide)) (?_))⟩
    refine ⟨by show 2 ≤ sizeLine; decide, fun m4 k4 => ?_⟩
    refine ⟨l3, m4, _, _, rfl, rfl, app e3 k4, upd_same, by show 13 + 2 ≤ sizeLine; decide, fun l4 n4 => ?_⟩
    have s4 : Same H (upd (upd H3 m4 (.lst [.bl (decide (13 = j)), .bl (decide (14 = j))])) l4 (.lst (([decide (0 = j), decide (1 = j), decide (2 = j), decide (3 = j)] ++ [decide (4 = j), decide (5 = j), decide (6 = j)] ++ [decide (7 = j), decide (8 = j), decide (9 = j)] ++ [decide (10 = j), decide (11 = j), decide (12 = j)] : List Bool).map V.bl ++ [.bl (decide (13 = j)), .bl (decide (14 = j))]))) := ad (ad s3 k4) n4
    have e4 : (upd (upd H3 m4 (.lst [.bl (decide (13 = j)), .bl (decide (14 = j))])) l4 (.lst (([decide (0 = j), decide (1 = j), decide (2 = j), decide (3 = j)] ++ [decide (4 = j), decide (5 = j), decide (6 = j)] ++ [decide (7 = j), decide (8 = j), decide (9 = j)] ++ [decide (10 = j), decide (11 = j), decide (12 = j)] : List Bool).map V.bl ++ [.bl (decide (13 = j)), .bl (decide (14 = j))]))) l4 = some (HO.lst (([decide (0 = j), decide (1 = j), decide (2 = j), decide (3 = j)] ++ [decide (4 = j), decide (5 = j), decide (6 = j)] ++ [decide (7 = j), decide (8 = j), decide (9 = j)] ++ [decide (10 = j), decide (11 = j), decide (12 = j)] ++ [decide (13 = j), decide (14 = j)] : List Bool).map V.bl)) := by rw [upd_same, List.map_append]; rfl
    generalize upd (upd H3 m4 (.lst [.bl (decide (13 = j)), .bl (decide (14 = j))])) l4 (.lst (([decide (0 = j), decide (1 = j), decide (2 = j), decide (3 = j)] ++ [decide (4 = j), decide (5 = j), decide (6 = j)] ++ [decide (7 = j), decide (8 = j), decide (9 = j)] ++ [decide (10 = j), decide (11 = j), decide (12 = j)] : List Bool).map V.bl ++ [.bl (decide (13 = j)), .bl (decide (14 = j))])) = H4 at s4 e4 ⊢
    have d4 := s4 _ _ hdd
    refine ⟨_, rfl, is_at rfl d4 ex (R.kit j hj 15 (by decide)) (is_at rfl d4 ex (R.kit j hj 16 (by decide)) (?_))⟩
    refine ⟨by show 2 ≤ sizeLine; decide, fun m5 k5 => ?_⟩
    refine ⟨l4, m5, _, _, rfl, rfl, app e4 k5, upd_same, by show 15 + 2 ≤ sizeLine; decide, fun l5 n5 => ?_⟩
    have s5 : Same H (upd (upd H4 m5 (.lst [.bl (decide (15 = j)), .bl (decide (16 = j))])) l5 (.lst (([decide (0 = j), decide (1 = j), decide (2 = j), decide (3 = j)] ++ [decide (4 = j), decide (5 = j), decide (6 = j)] ++ [decide (7 = j), decide (8 = j), decide (9 = j)] ++ [decide (10 = j), decide (11 = j), decide (12 = j)] ++ [decide (13 = j), decide (14 = j)] : List Bool).map V.bl ++ [.bl (decide (15 = j)), .bl (decide (16 = j))]))) := ad (ad s4 k5) n5
    have e5 : (upd (upd H4 m5 (.lst [.bl (decide (15 = j)), .bl (decide (16 = j))])) l5 (.lst (([decide (0 = j), decide (1 = j), decide (2 = j), decide (3 = j)] ++ [decide (4 = j), decide (5 = j), decide (6 = j)] ++ [decide (7 = j), decide (8 = j), decide (9 = j)] ++ [decide (10 = j), decide (11 = j), decide (12 = j)] ++ [decide (13 = j), decide (14 = j)] : List Bool).map V.bl ++ [.bl (decide (15 = j)), .bl (decide (16 = j))]))) l5 = some (HO.lst (([decide (0 = j), decide (1 = j), decide (2 = j), decide (3 = j)] ++ [decide (4 = j), decide (5 = j), decide (6 = j)] ++ [decide (7 = j), decide (8 = j), decide (9 = j)] ++ [decide (10 = j), decide (11 = j), decide (12 = j)] ++ [decide (13 = j), decide (14 = j)] ++ [decide (15 = j), decide (16 = j)] : List Bool).map V.bl)) := by rw [upd_same, List.map_append]; rfl
    generalize upd (upd H4 m5 (.lst [.bl (decide (15 = j)), .bl (decide (16 = j))])) l5 (.lst (([decide (0 = j), decide (1 = j), decide (2 = j), decide (3 = j)] ++ [decide (4 = j), decide (5 = j), decide (6 = j)] ++ [decide (7 = j), decide (8 = j), decide (9 = j)] ++ [decide (10 = j), decide (11 = j), decide (12 = j)] ++ [decide (13 = j), decide (14 = j)] : List Bool).map V.bl ++ [.bl (decide (15 = j)), .bl (decide (16 = j))])) = H5 at s5 e5 ⊢
    have d5 := s5 _ _ hdd
    refine ⟨_, rfl, .inl ⟨rfl, _, SqL.of e5⟩, l5, _, true, rfl, rfl, SqL.of e5, ?_⟩
    rw [one_kind (R.lt j hj)]
    refine is_at rfl d5 ex kL ⟨_, rfl, .inr ⟨_, rfl, _, _, rfl, rfl, ?_⟩⟩
    refine ⟨_, rfl, rfl, _, dd, fs, _, rfl, rfl, xf, R.fw j hj, d5, hw, _, .ty "str", .type "str", .type "str", true, rfl, .ty _, .base (.str _), kit_ty (by decide +kernel), _, rfl, .inr ⟨_, rfl, _, _, rfl, rfl, ?_⟩⟩
    exact k _ s5
end
end Lw

set_option Elab.async false
set_option linter.all false
set_option maxRecDepth 100000
set_option maxHeartbeats 1000000
/-! _law_error. -/
namespace Two
open PySem PySem.Spec PyProof.Rows L2
theorem seqL_keep {K : PySem.W.Frag} {H H' : Hp} {a : Addr} {xs : List V} (s : Same H H') (h : SqL K H a xs) : SqL K H' a xs := s.seq h
mutual
theorem Dq.keep {K : PySem.W.Frag} {H H' : Hp} (s : Same H H') : ∀ {v : V} {d : PyData}, Dq K H v d → Dq K H' v d
  | _, _, .non => .non
  | _, _, .bl b => .bl b
  | _, _, .int i => .int i
  | _, _, .str x => .str x
  | _, _, .lst h n a => .lst (s.seq h) n (DqAll.keep s a)
  | _, _, .tup h a => .tup (by
      rcases h with (h | ⟨o, h⟩) | h
      · exact .inl (.inl (s _ _ h))
      · exact .inl (.inr ⟨o, s _ _ h⟩)
      · exact .inr h) (DqAll.keep s a)
  | _, _, .dic h => .dic (s _ _ h)
theorem DqAll.keep {K : PySem.W.Frag} {H H' : Hp} (s : Same H H') : ∀ {v : List V} {d : List PyData}, DqAll K H v d → DqAll K H' v d
  | _, _, .nil => .nil
  | _, _, .cons a b => .cons (Dq.keep s a) (DqAll.keep s b)
end
end Two
namespace Lw
open PySem L2 Two Pr ClX
abbrev sError : Stmt := top 41
/-- x can be shown, as d -/
structure Sh (K : PySem.W.Frag) (H : Hp) (x : V) (d : PyData) : Prop where
  dq : Dq K H x d
  ok : d.showable = true
  deep : d.depth ≤ 32
  len : d.shown.length ≤ sizeLine
theorem Sh.keep {K : PySem.W.Frag} {H H' : Hp} {x : V} {d : PyData} (h : Sh K H x d) (s : Same H H') : Sh K H' x d := ⟨h.dq.keep s, h.ok, h.deep, h.len⟩
inductive Er
  | off (x : V) (d : PyData)
  | name (x : V) (d : PyData)
  | list (w : Str)
  | twice (x : V) (d : PyData)
  | many (n : Int)
namespace Er
def j : Er → Nat
  | off _ _ => 2
  | name _ _ => 1
  | list _ => 0
  | twice _ _ => 7
  | many _ => 16
def data : Er → PyData
  | off _ d => .tuple [.str "offset", .str d.shown]
  | name _ d => .tuple [.str "name", .str d.shown]
  | list w => .tuple [.str "list", .str w]
  | twice _ d => .tuple [.str "twice", .str d.shown]
  | many n => .tuple [.str "many", .int n]
def has (K : PySem.W.Frag) (H : Hp) (fs : List (Str × V)) : Er → Prop
  | off x d => fs.lookup ("why" : Str) = some (.str "offset") ∧ fs.lookup ("offset" : Str) = some x ∧ Sh K H x d
  | name x d => fs.lookup ("why" : Str) = some (.str "name") ∧ fs.lookup ("name" : Str) = some x ∧ Sh K H x d
  | list w => fs.lookup ("why" : Str) = some (.str w)
  | twice x d => (∃ w, fs.lookup ("why" : Str) = some (.str w)) ∧ fs.lookup ("thing" : Str) = some x ∧ Sh K H x d
  | many n => (∃ w, fs.lookup ("why" : Str) = some (.str w)) ∧ fs.lookup ("limit" : Str) = some (.int n)
theorem why {K : PySem.W.Frag} {H : Hp} {fs : List (Str × V)} : ∀ {e : Er}, e.has K H fs → ∃ w, fs.lookup ("why" : Str) = some (.str w)
  | off _ _, h => ⟨_, h.1⟩
  | name _ _, h => ⟨_, h.1⟩
  | list _, h => ⟨_, h⟩
  | twice _ _, h => h.1
  | many _, h => h.1
theorem has.keep {K : PySem.W.Frag} {H H' : Hp} {fs : List (Str × V)} (s : Same H H') : ∀ {e : Er}, e.has K H fs → e.has K H' fs
  | off _ _, h => ⟨h.1, h.2.1, h.2.2.keep s⟩
  | name _ _, h => ⟨h.1, h.2.1, h.2.2.keep s⟩
  | list _, h => h
  | twice _ _, h => ⟨h.1, h.2.1, h.2.2.keep s⟩
  | many _, h => h
end Er
def isEr (j : Nat) : Prop := j = 0 ∨ j = 1 ∨ j = 2 ∨ j = 7 ∨ j = 16
theorem Er.is (e : Er) : isEr e.j := by
  cases e with
  | off => exact .inr (.inr (.inl rfl))
  | name => exact .inr (.inl rfl)
  | list => exact .inl rfl
  | twice => exact .inr (.inr (.inr (.inl rfl)))
  | many => exact .inr (.inr (.inr (.inr rfl)))
structure RefF (K : PySem.W.Frag) (mg : Str → Option Value) (CL : Addr) (c : List Addr) : Prop where
  e : RefE K mg CL c isEr
  repr : mg "repr" = none
  fo : PySem.W.findIn K (.ref (c.getD 2 0)) "offset" = some none
  fn : PySem.W.findIn K (.ref (c.getD 1 0)) "name" = some none
  ft : PySem.W.findIn K (.ref (c.getD 7 0)) "thing" = some none
  fl : PySem.W.findIn K (.ref (c.getD 16 0)) "limit" = some none
def spError (K : PySem.W.Frag) (c : List Addr) : SpE := fun a cls d vs H Q _ => ∃ (er : Er) (dd : Addr) (fs : List (Str × V)), vs = [.ref a] ∧ cls = .ref (c.getD er.j 0) ∧ d = some dd ∧ H dd = some (.xd fs) ∧ er.has K H fs ∧ ∀ v H', Same H H' → Dp K H' v er.data → Q v H'
theorem scError : FnScope ["_law_e"] ["_law_e"] (defScope sError) := ⟨rfl, rfl, rfl, by decide +kernel, rfl, by decide +kernel, by decide +kernel⟩
section
variable {P : Program} {w : World} {K : PySem.W.Frag} {mg : Str → Option Value} {base : Heap}
abbrev FX (P : Program) (w : World) (K : PySem.W.Frag) (mg : Str → Option Value) (base : Heap) (f : Addr) (cdv : Value) (A : Around) (outer : List Env) (s : Shared) (H : Hp) (E : XK) (a : Addr) (oe : Obj) : Cx := (L2H.cxH CX0 P w K mg base ["_law_e"] "_law_error" (defScope sError) f cdv A outer s H E (a, oe)).nox
theorem dp_pair {K : PySem.W.Frag} {H : Hp} {p : Addr} {x y : V} {d e : PyData} (h : H p = some (.tup [x, y])) (a : Dp K H x d) (b : Dp K H y e) : Dp K H (.ref p) (.tuple [d, e]) := .tup (SqT.of h) (.cons a (.cons b .nil))
theorem ok_error {f CL fC : Addr} {fd dC : FuncData} {c : List Addr} (F : Fun K "_law_error" "_law_error" sError f fd) (R : RefF K mg CL c) (gC : mg "_law_classes_of" = some (.ref fC)) (kC : PySem.W.keepIn K (.ref fC) = true) (bC : Binds K dC ["_law_e"] [])
    (GC : FnE P w K mg base 1 fC dC ["_law_e"] (spClasses c isEr)) : FnE P w K mg base 2 f fd ["_law_e"] (spError K c) := by
  refine FnE.of F scError (fun a cls d vs H Q E h => ?_) (fun cdv A outer s H vs Q E a oe cls d hr hg hz hf h => ?_)
  · obtain ⟨er, dd, fs, rfl, _⟩ := h
    rfl
  · obtain ⟨er, dd, fs, rfl, rfl, rfl, hdd, has, k⟩ := h
    have hj := er.is
    obtain ⟨ex, xf, eL, kL⟩ := R.e.ex er.j hj
    have is : ∀ {x : Str} {p0 p px pos : Pos} {t : TE}, PE (FX P w K mg base f cdv A outer s H E a oe) (.Name x px) t →
        PE (FX P w K mg base f cdv A outer s H E a oe) (.Call (.Name "isinstance" p0) [.Name "_law_e" p, .Name x px] [] pos) (tCB (rIsP K (.ref (c.getD er.j 0)) (some dd) a) (tCons (tVar 0) (tCons t tNil))) :=
          fun he => pe_callB (call_isP List.mem_cons_self hz hf) (by rfl) R.e.isinstance (by decide +kernel) (pa_cons (pv 0) (pa_cons he pa_nil))
    have gl : ∀ {x : Str} {C : Addr} {pos : Pos}, Gl (FX P w K mg base f cdv A outer s H E a oe) x → mg x = some (.ref C) → (x == ("__debug__" : Str)) = false → PE (FX P w K mg base f cdv A outer s H E a oe) (.Name x pos) (tC (.ref C)) := fun hg hm hd => pe_glob hg hm rfl hd
    have hu : (FX P w K mg base f cdv A outer s H E a oe).A.units + 64 < cLine := by
      have h := hr.un
      exact (by omega : (A.deeper (PyProof.Rows.envOfC "_law_error" (defScope sError) s.heap.objs.size f cdv)).units + 64 < cLine)
    refine ⟨_, pss_cons (ps_if (pt_cmpR op_ne (pe_callE GC hr hg List.mem_cons_self hz hf rfl gC kC bC (pa_cons (pv 0) pa_nil)) pe_int (nomark _)) (pss_one (ps_ret pe_str)) pss_nil)
      (pss_cons (ps_if (pt_val (is (gl rfl R.e.g2 (by decide)))) (pss_one (ps_ret (pe_tup (pa_cons (pe_xfP List.mem_cons_self hz hf (pv 0)) (pa_cons (pe_callB (cr_reprQ hg hu) (by rfl) R.repr (by decide +kernel) (pa_cons (pe_xfP List.mem_cons_self hz hf (pv 0)) pa_nil)) pa_nil))))) pss_nil)
      (pss_cons (ps_if (pt_val (is (gl rfl R.e.g1 (by decide)))) (pss_one (ps_ret (pe_tup (pa_cons (pe_xfP List.mem_cons_self hz hf (pv 0)) (pa_cons (pe_callB (cr_reprQ hg hu) (by rfl) R.repr (by decide +kernel) (pa_cons (pe_xfP List.mem_cons_self hz hf (pv 0)) pa_nil)) pa_nil))))) pss_nil)
      (pss_cons (ps_if (pt_val (is (gl rfl R.e.g7 (by decide)))) (pss_one (ps_ret (pe_tup (pa_cons pe_str (pa_cons (pe_callB (cr_reprQ hg hu) (by rfl) R.repr (by decide +kernel) (pa_cons (pe_xfP List.mem_cons_self hz hf (pv 0)) pa_nil)) pa_nil))))) pss_nil)
      (pss_cons (ps_if (pt_val (is (gl rfl R.e.g16 (by decide)))) (pss_one (ps_ret (pe_tup (pa_cons pe_str (pa_cons (pe_xfP List.mem_cons_self hz hf (pv 0)) pa_nil))))) pss_nil)
      (pss_one (ps_ret (pe_ifExp (pt_val (is (gl rfl R.e.g0 (by decide)))) (pe_tup (pa_cons pe_str (pa_cons (pe_xfP List.mem_cons_self hz hf (pv 0)) pa_nil))) pe_str))))))), ?_⟩
    refine ⟨_, rfl, er.j, dd, fs, rfl, ⟨hj, rfl, rfl, hdd, Er.why (e := er) has⟩, fun H1 s1 => ⟨rfl, _, rfl, iteF ?_⟩⟩
    have d1 := s1 _ _ hdd
    have has1 := Er.has.keep (e := er) s1 has
    refine is_at rfl d1 ex (R.e.kit _ hj 2 (by decide)) ⟨_, rfl, ?_⟩
    cases er with
    | off x d =>
      refine iteT ?_
      obtain ⟨h1, h2, sh⟩ := has1
      refine ⟨_, rfl, rfl, _, dd, fs, _, rfl, rfl, xf, R.e.fw _ hj, d1, h1, _, rfl, rfl, _, dd, fs, _, rfl, rfl, xf, R.fo, d1, h2, x, d, rfl, sh.dq, sh.ok, sh.deep, sh.len, by show 2 ≤ sizeLine; decide, fun p hp => ?_⟩
      exact k _ _ (ad s1 hp) (dp_pair upd_same (.str _) (.str _))
    | name x d =>
      refine iteF ?_
      refine is_at rfl d1 ex (R.e.kit _ hj 1 (by decide)) ⟨_, rfl, iteT ?_⟩
      obtain ⟨h1, h2, sh⟩ := has1
      refine ⟨_, rfl, rfl, _, dd, fs, _, rfl, rfl, xf, R.e.fw _ hj, d1, h1, _, rfl, rfl, _, dd, fs, _, rfl, rfl, xf, R.fn, d1, h2, x, d, rfl, sh.dq, sh.ok, sh.deep, sh.len, by show 2 ≤ sizeLine; decide, fun p hp => ?_⟩
      exact k _ _ (ad s1 hp) (dp_pair upd_same (.str _) (.str _))
    | twice x d =>
      refine iteF ?_
      refine is_at rfl d1 ex (R.e.kit _ hj 1 (by decide)) ⟨_, rfl, iteF ?_⟩
      refine is_at rfl d1 ex (R.e.kit _ hj 7 (by decide)) ⟨_, rfl, iteT ?_⟩
      obtain ⟨h1, h2, sh⟩ := has1
      refine ⟨_, rfl, rfl, _, dd, fs, _, rfl, rfl, xf, R.ft, d1, h2, x, d, rfl, sh.dq, sh.ok, sh.deep, sh.len, by show 2 ≤ sizeLine; decide, fun p hp => ?_⟩
      exact k _ _ (ad s1 hp) (dp_pair upd_same (.str _) (.str _))
    | many n =>
      refine iteF ?_
      refine is_at rfl d1 ex (R.e.kit _ hj 1 (by decide)) ⟨_, rfl, iteF ?_⟩
      refine is_at rfl d1 ex (R.e.kit _ hj 7 (by decide)) ⟨_, rfl, iteF ?_⟩
      refine is_at rfl d1 ex (R.e.kit _ hj 16 (by decide)) ⟨_, rfl, iteT ?_⟩
      obtain ⟨h1, h2⟩ := has1
      refine ⟨_, rfl, rfl, _, dd, fs, _, rfl, rfl, xf, R.fl, d1, h2, by show 2 ≤ sizeLine; decide, fun p hp => ?_⟩
      exact k _ _ (ad s1 hp) (dp_pair upd_same (.str _) (.int _))
    | list w =>
      refine iteF ?_
      refine is_at rfl d1 ex (R.e.kit _ hj 1 (by decide)) ⟨_, rfl, iteF ?_⟩
      refine is_at rfl d1 ex (R.e.kit _ hj 7 (by decide)) ⟨_, rfl, iteF ?_⟩
      refine is_at rfl d1 ex (R.e.kit _ hj 16 (by decide)) ⟨_, rfl, iteF ?_⟩
      refine is_at rfl d1 ex (R.e.kit _ hj 0 (by decide)) ⟨_, rfl, iteT ?_⟩
      refine ⟨_, rfl, rfl, _, dd, fs, _, rfl, rfl, xf, R.e.fw _ hj, d1, has1, by show 2 ≤ sizeLine; decide, fun p hp => ?_⟩
      exact k _ _ (ad s1 hp) (dp_pair upd_same (.str _) (.str _))
end
end Lw

set_option Elab.async false
set_option linter.all false
set_option maxRecDepth 100000
set_option maxHeartbeats 1000000
/-! _law_asked. -/
namespace Two
open PySem PySem.Spec PyProof.Rows L2 SlX
theorem passT {X : Cx} {W : WX} {E : XK} (tk : Takes X W) (hW : ∀ cls d σ H, E cls d H → σ.length = X.N.length → W cls d σ H) : Passes (L2.CX X.prog X.w) X E := fun pins σ H s e s' I c => tk e s' (XE.of_call I (fun cls d H' h => hW _ _ _ _ h I.len) c)
theorem pss_by {X : Cx} {ss : List Stmt} {T : TS} (h : ∀ D σ H, T D σ H → ∃ t, PSs X ss t ∧ t D σ H) : PSs X ss T := ⟨fun pins s σ H D I a => let ⟨_, h1, h2⟩ := h D σ H a; h1.run pins s σ H D I h2⟩
section
variable {X : Cx} {CX : CXT} {C g : Addr} {n : Nat} {sp : Sp} {E : XK}
/-- an operator's other side is of a built-in type that does not know it -/
def OtherT (K : PySem.W.Frag) (T : String) : Prop := ∃ fo ro, PySem.W.findIn K (.type T) "__add__" = some fo ∧ PySem.W.findIn K (.type T) "__radd__" = some ro ∧ ((fo.isSome && !isSeqSlot fo) || (ro.isSome && !isSeqSlot ro)) = false
def rAddAny (K : PySem.W.Frag) (C : Addr) (sp : Sp) (E : XK) : R2 := fun x y H Q => ∃ a dx vs T, x = .ref a ∧ Slt H a C dx vs ∧ TyX K H y (.type T) ∧ OtherT K T ∧ sp [x, y] H Q E
theorem op_addAny (hc : PySem.W.selfFirst X.K C = true) (hs : PySem.W.findIn X.K (.ref C) "__add__" = some (some (.ref g))) (hf : PySem.W.isFn X.K (.ref g) = true)
    (F : FnR X.prog X.w X.K X.mg X.base CX n g sp) (hr : Room n X.A) (hx : Passes CX X E) : OpR X (binaryOp .Add) (rAddAny X.K C sp E) := by
  intro pins s σ H x y v u Q I rx ry h
  obtain ⟨a, dx, vs, T, rfl, ha, ty, ⟨fo, ro, h1, h2, no⟩, q⟩ := h
  cases (show v = Value.ref a from rx)
  obtain ⟨sl, od, _, J, _⟩ := slt_inst I ha
  obtain ⟨mF, hF⟩ := I.fr
  obtain ⟨Pk, kx, pk, _⟩ := kit_of I ry ty
  refine PySem.W.bin_other (op := .Add) (T := T) hF I.ok.mod.kin J (fun h k => (kx.ty _ _ I.kIn pk).keeps k) hc hs hf h1 h2 no ?_
  refine wpAny_mono (wpAny_call (run_fnR (us := [.ref a, u]) (vs := [.ref a, y]) F hr hx I (.cons rfl (.cons ry .nil)) q)) (fun w s' z => ?_) fun _ _ x => x
  obtain ⟨z', H', I', rz, qz⟩ := z
  exact cmpback rz ⟨z', H', I', rz, qz⟩
end
end Two
namespace Lw
open PySem L2 Two Pr ClX SlX
abbrev sAsked : Stmt := top 42
section
variable (P : Program) (w : World) (K : PySem.W.Frag) (mg : Str → Option Value) (base : Heap)
/-- a method's promise -/
def MM (CX : CXT) (C : Addr) (k : Nat) (x : Str) (sp : Sp) : Prop := ∃ g, Meth K C x g ∧ FnR P w K mg base CX k g sp
/-- an operator's promise -/
def OO (CX : CXT) (C : Addr) (k : Nat) (x : Str) (sp : Sp) : Prop := ∃ g, PySem.W.findIn K (.ref C) x = some (some (.ref g)) ∧ PySem.W.isFn K (.ref g) = true ∧ PySem.W.fnIn K g = true ∧ FnR P w K mg base CX k g sp
end
/-- what is known of Layout; c: the errors' classes -/
structure LayD (P : Program) (w : World) (K : PySem.W.Frag) (mg : Str → Option Value) (base : Heap) (C p0 p1 fI : Addr) (dI : FuncData) (c : List Addr) : Prop where
  T : Txt mg
  L : LayC K mg C p0 p1
  M : Mk K C fI
  bI : Binds K dI ["self", "fields", "has_room"] []
  bI1 : Binds K dI ["self", "fields", "has_room"] [.bool false]
  GI : FnOk P w K mg base (L2.CX P w) 6 fI dI ["self", "fields", "has_room"] (spLInit K C (c.getD 0 0) (c.getD 1 0))
  fields : MM P w K mg base CX0 C 1 "fields" (spFields K C)
  has : MM P w K mg base CX0 C 1 "has_room" (spHas K C)
  with_ : MM P w K mg base CX0 C 8 "with_room" (spWith K C)
  off : MM P w K mg base (L2.CX P w) C 5 "offset_of" (spOff K C (c.getD 1 0))
  first : MM P w K mg base CX0 C 2 "first_difference" (spFirst K C)
  len : OO P w K mg base CX0 C 1 "__len__" (spLen K C)
  get : OO P w K mg base (L2.CX P w) C 4 "__getitem__" (spGet K C (c.getD 2 0))
  cont : OO P w K mg base CX0 C 2 "__contains__" (spCont K C)
  add : OO P w K mg base (L2.CX P w) C 8 "__add__" (spAdd K C (c.getD 0 0) (c.getD 1 0) (c.getD 7 0) (c.getD 16 0))
  le : OO P w K mg base CX0 C 1 "__le__" (spLe K C)
  eq : OO P w K mg base CX0 C 1 "__eq__" (spEq K C)
  self1 : PySem.W.selfFirst K C = true
  nf : PySem.W.notFirst K C (.ref C) = true
  others : ∀ T : String, T = "list" ∨ T = "tuple" ∨ T = "str" ∨ T = "dict" ∨ T = "NoneType" → OtherT K T ∧ PySem.W.notFirst K C (.type T) = true ∧ PySem.W.kitOne K (.type T) (.ref C) = some false
/-- what layout + x comes to -/
inductive AddArg (K : PySem.W.Frag) (H : Hp) (fs : List Str) : V → PyData → Prop
  | notL {x : V} {T : String} (ty : TyX K H x (.type T)) (o : T = "tuple" ∨ T = "str" ∨ T = "dict" ∨ T = "NoneType") : AddArg K H fs x (.tuple [.str "list", .str "fields"])
  | bad {l : Addr} {xs : List V} {i : Nat} {y : V} {d : PyData} (h : H l = some (.lst xs)) (it : ∀ y ∈ xs, ItemK K H y) (hi : xs[i]? = some y) (ok : (xs.take i).all isNm = true) (no : isNm y = false) (sh : Sh K H y d) : AddArg K H fs (.ref l) (.tuple [.str "name", .str d.shown])
  | twice {l : Addr} {gs : List Str} {z : Str} (h : H l = some (.lst (gs.map V.str))) (nm : ∀ z ∈ gs, isName z = true) (sz : gs.length ≤ 1000) (tw : TwiceS gs z) : AddArg K H fs (.ref l) (.tuple [.str "twice", .str (PyData.str z).shown])
  | many {l : Addr} {gs : List Str} (h : H l = some (.lst (gs.map V.str))) (nm : ∀ z ∈ gs, isName z = true) (sz : gs.length ≤ 1000) (nd : gs.Nodup) (m : 6 < gs.length) : AddArg K H fs (.ref l) (.tuple [.str "many", .int 6])
  | fine {l : Addr} {gs : List Str} (h : H l = some (.lst (gs.map V.str))) (nm : ∀ z ∈ gs, isName z = true) (nd : gs.Nodup) (m : gs.length ≤ 6) : AddArg K H fs (.ref l) (.tuple [.str "told", .list ((fs ++ gs).map PyData.str)])
/-- what is asked of the layout at a -/
inductive Asked (K : PySem.W.Frag) (C : Addr) (H : Hp) : List V → PyData → Prop
  | off {a : Addr} {fs : List Str} {r : Bool} {x : V} {d : PyData} (l : IsLay K C H a fs r) (sh : Sh K H x d) (no : NotInt K H x ∨ ∃ i : Int, x = .int i ∧ ¬ (0 ≤ i ∧ i < fs.length)) : Asked K C H [.int 0, .ref a, x] (.tuple [.str "offset", .str d.shown])
  | name {a : Addr} {fs : List Str} {r : Bool} {x : V} {d : PyData} (l : IsLay K C H a fs r) (sz : fs.length ≤ 1000) (sh : Sh K H x d) (it : ItemK K H x) (no : isNm x = false) : Asked K C H [.int 1, .ref a, x] (.tuple [.str "name", .str d.shown])
  | add {a : Addr} {fs : List Str} {r : Bool} {x : V} {res : PyData} (l : IsLay K C H a fs r) (sz : fs.length ≤ 1000) (h : AddArg K H fs x res) : Asked K C H [.int 2, .ref a, x] res
  | list {v : V} {t : Addr} (h : H t = some (.tup [.non, .int 1])) : Asked K C H [.int 3, v, .ref t] (.tuple [.str "list", .str "fields"])
  | bad {v : V} {t l : Addr} {xs : List V} {i : Nat} {y : V} {d : PyData} (h : H t = some (.tup [.ref l, .int 1])) (hl : H l = some (.lst xs)) (it : ∀ y ∈ xs, ItemK K H y) (hi : xs[i]? = some y) (ok : (xs.take i).all isNm = true) (no : isNm y = false) (sh : Sh K H y d) : Asked K C H [.int 3, v, .ref t] (.tuple [.str "name", .str d.shown])
  | room {v : V} {t l : Addr} {gs : List Str} (h : H t = some (.tup [.ref l, .int 1])) (hl : H l = some (.lst (gs.map V.str))) (nm : ∀ z ∈ gs, isName z = true) : Asked K C H [.int 3, v, .ref t] (.tuple [.str "list", .str "room"])
def spAsked (K : PySem.W.Frag) (C : Addr) : Sp := fun vs H Q _ => ∃ res, Asked K C H vs res ∧ ∀ v H', Same H H' → Dp K H' v res → Q v H'
abbrev nAsked : List Str := ["_law_way", "_law_layout", "_law_thing", "_law_e"]
theorem scAsked : FnScope nAsked ["_law_way", "_law_layout", "_law_thing"] (defScope sAsked) := ⟨rfl, rfl, rfl, by decide +kernel, rfl, by decide +kernel, by decide +kernel⟩
/-- what is wished of an error that is raised -/
def Ech (K : PySem.W.Frag) (c : List Addr) (Q : VK) : XK := fun cls d H' => ∃ (er : Er) (dd : Addr) (fs : List (Str × V)), cls = .ref (c.getD er.j 0) ∧ d = some dd ∧ H' dd = some (.xd fs) ∧ er.has K H' fs ∧ ∀ v H2, Same H' H2 → Dp K H2 v er.data → Q v H2
theorem thr {K : PySem.W.Frag} {c : List Addr} {Q : VK} {H1 : Hp} {fs : List (Str × V)} (er : Er) (hfs : ∀ H', Same H1 H' → er.has K H' fs) (q : ∀ v H2, Same H1 H2 → Dp K H2 v er.data → Q v H2) : Thrown H1 (Ech K c Q) (c.getD er.j 0) fs := fun d H' s _ hd => ⟨er, d, fs, rfl, rfl, hd, hfs H' s, fun v H2 s2 dp => q v H2 (s.trans s2) dp⟩
theorem first_bad {xs : List V} {i j : Nat} {y z : V} (hi : xs[i]? = some y) (a : (xs.take i).all isNm = true) (b : isNm y = false) (hj : xs[j]? = some z) (a2 : (xs.take j).all isNm = true) (b2 : isNm z = false) : y = z := by
  have key : ∀ {i j : Nat} {y : V}, xs[i]? = some y → isNm y = false → (xs.take j).all isNm = true → ¬ i < j := fun {i j y} hi b a lt => by
    have m : y ∈ xs.take j := by
      have : (xs.take j)[i]? = some y := by rw [List.getElem?_take]; simp [lt, hi]
      exact List.mem_of_getElem? this
    rw [List.all_eq_true.mp a y m] at b
    cases b
  have e1 := key hi b a2
  have e2 := key hj b2 a
  have e : i = j := by omega
  subst e
  rw [hi] at hj
  exact Option.some.inj hj
theorem not_all {xs : List V} {i : Nat} {y : V} (hi : xs[i]? = some y) (b : isNm y = false) : ¬ xs.all isNm = true := fun a => by
  rw [List.all_eq_true.mp a y (List.mem_of_getElem? hi)] at b
  cases b
theorem twiceK_uni {ks : List Key} {k k2 : Key} (h : TwiceK ks k) (g : TwiceK ks k2) : k = k2 := by
  obtain ⟨i, h1, h2, h3⟩ := h
  obtain ⟨j, g1, g2, g3⟩ := g
  have key : ∀ {i j : Nat} {z : Key}, ks[i]? = some z → z ∈ ks.take i → (ks.take j).Nodup → ¬ i < j := fun {i j z} h1 h2 g3 lt => by
    have nd2 : (ks.take (i + 1)).Nodup := g3.sublist (by rw [show ks.take (i + 1) = (ks.take j).take (i + 1) from by rw [List.take_take, Nat.min_eq_left (by omega)]]; exact List.take_sublist _ _)
    rw [take_snoc h1] at nd2
    exact (List.nodup_append.mp nd2).2.2 _ h2 _ (List.mem_singleton.mpr rfl) rfl
  have a := key h1 h2 g3
  have b := key g1 g2 h3
  have e : i = j := by omega
  subst e
  rw [h1] at g1
  exact Option.some.inj g1
theorem twiceK_not {ks : List Key} {k : Key} (t : TwiceK ks k) : ¬ ks.Nodup := fun nd => by
  obtain ⟨i, h1, h2, _⟩ := t
  have nd2 : (ks.take (i + 1)).Nodup := nd.sublist (List.take_sublist _ _)
  rw [take_snoc h1] at nd2
  exact (List.nodup_append.mp nd2).2.2 _ h2 _ (List.mem_singleton.mpr rfl) rfl
theorem names_all {gs : List Str} (nm : ∀ z ∈ gs, isName z = true) : (gs.map V.str).all isNm = true := by rw [all_names]; exact List.all_eq_true.mpr nm
theorem names_item {K : PySem.W.Frag} {H : Hp} {gs : List Str} (nm : ∀ z ∈ gs, isName z = true) : ∀ y ∈ gs.map V.str, ItemK K H y := fun y hy => by
  obtain ⟨z, hz, rfl⟩ := List.mem_map.mp hy
  exact .inl ⟨z, rfl, name_len (nm z hz)⟩
theorem names_nobad {gs : List Str} (nm : ∀ z ∈ gs, isName z = true) {i : Nat} {y : V} (hy : (gs.map V.str)[i]? = some y) (b : isNm y = false) : False := by
  obtain ⟨z, hz, rfl⟩ := List.mem_map.mp (List.mem_of_getElem? hy)
  rw [show isNm (V.str z) = true from nm z hz] at b
  cases b
theorem isName_shown {z : Str} (h : isName z = true) : (PyData.str z).shown.length ≤ sizeLine := by
  have ok := name_strOk h
  unfold PyData.strOk at ok
  rw [← Array.all_toList, List.all_eq_true] at ok
  have e : (16 : Nat) ^ 8 = 4294967296 := by decide
  have l := StrLaws.reprText_len z fun c hc => by
    have h1 := ok c hc
    have h2 : c < 1114112 := by
      first
        | exact of_decide_eq_true h1
        | (simp at h1; omega)
    omega
  have h8 : z.length ≤ 8 := by
    unfold isName at h
    rw [Bool.and_eq_true, Bool.and_eq_true] at h
    exact of_decide_eq_true h.1.2
  have s : (1000 : Nat) ≤ sizeLine := by decide
  show (reprText z).length ≤ sizeLine
  omega
theorem sh_name {K : PySem.W.Frag} {H : Hp} {z : Str} (h : isName z = true) : Sh K H (.str z) (.str z) := ⟨.str z, rfl, by show 0 ≤ 32; decide, isName_shown h⟩
section
variable {P : Program} {w : World} {K : PySem.W.Frag} {mg : Str → Option Value} {base : Heap}
theorem ok_asked {f fE C p0 p1 fI CL : Addr} {fd dE dI : FuncData} {c : List Addr} (F : Fun K "_law_asked" "_law_asked" sAsked f fd) (D : LayD P w K mg base C p0 p1 fI dI c) (R : RefF K mg CL c)
    (gE : mg "_law_error" = some (.ref fE)) (kE : PySem.W.keepIn K (.ref fE) = true) (bE : Binds K dE ["_law_e"] []) (GE : FnE P w K mg base 2 fE dE ["_law_e"] (spError K c)) :
    FnG P w K mg base CX0 10 f fd ["_law_way", "_law_layout", "_law_thing"] (spAsked K C) := by
  refine FnG.of F scAsked (fun vs H Q E h => ?_) (fun cdv A outer s H vs Q E hr hg h => ?_)
  · obtain ⟨res, h, _⟩ := h
    cases h <;> rfl
  · obtain ⟨res, h, k⟩ := h
    obtain ⟨gF, mF, RF⟩ := D.fields
    obtain ⟨gO, mO, RO⟩ := D.off
    obtain ⟨gG, hG1, hG2, hG3, RG⟩ := D.get
    obtain ⟨gA, hA1, hA2, hA3, RA⟩ := D.add
    refine ⟨_, pss_one (ps_try_as (i := 3) (X := (cxOf CX0 P w K mg base nAsked "_law_asked" (defScope sAsked) f cdv A outer s H E).nox) (c := .ref CL)
      (ts := fun a cls d => tRet (tCall (spError K c a cls d) [] E0 (tCons (tVar 3) tNil)))
      (tb := fun W D' σ G => ∃ Eh : XK, (∀ cls d (σ' : L2.St) G', Eh cls d G' → σ'.length = 4 → W cls d σ' G') ∧ (∃ v3, σ = vs.map some ++ [v3]) ∧ G = H ∧ Eh = Ech K c D'.rt ∧ D'.rt = Q)
      rfl rfl scAsked.nd rfl rfl ⟨rfl, by decide, .inl R.e.gL⟩ L2.takes0 (fun W pn xe tk _ => ?_) (fun a oe cls d pn hz hf => ?_)), ?_⟩
    · refine pss_by fun D' σ G ⟨Eh, hW, ⟨v3, hσ⟩, hG, hE, hQ⟩ => ?_
      have hx := passT (E := Eh) tk hW
      have hrs : ∀ k, k ≤ 9 → Room k ((cxOf CX0 P w K mg base nAsked "_law_asked" (defScope sAsked) f cdv A outer s H E).nox.tr pn xe).A := fun k hk => hr.mono hk
      refine ⟨_, pss_cons (ps_if (pt_cmpR op_eq (pv 0) pe_int (nomark _)) (pss_one (ps_ret (pe_tup (pa_cons pe_str (pa_cons (pe_subSl (pv 1) (pv 2) (fun _ _ => rfl) hG1 hG3 hG2 RG (hrs 5 (by decide)) hx) pa_nil))))) pss_nil)
        (pss_cons (ps_if (pt_cmpR op_eq (pv 0) pe_int (nomark _)) (pss_one (ps_ret (pe_tup (pa_cons pe_str (pa_cons (pe_methSl (pv 1) D.L.c mO RO (hrs 5 (by decide)) hx (pa_cons (pv 2) pa_nil)) pa_nil))))) pss_nil)
        (pss_cons (ps_if (pt_cmpR op_eq (pv 0) pe_int (nomark _)) (pss_one (ps_ret (pe_tup (pa_cons pe_str (pa_cons (pe_methSl0 (pe_op (op_addAny D.self1 hA1 hA2 RA (hrs 8 (by decide)) hx) (pv 1) (pv 2)) D.L.c mF RF (hrs 1 (by decide)) pass0) pa_nil))))) pss_nil)
        (pss_one (ps_ret (pe_tup (pa_cons pe_str (pa_cons (pe_methSl0 (pe_make D.M D.GI (hrs 7 (by decide)) (by rfl) D.L.g D.bI .nil hx (pa_cons (pe_ix ix_tup (pv 2) pe_int (fun _ _ => rfl)) (pa_cons (pe_ix ix_tup (pv 2) pe_int (fun _ _ => rfl)) pa_nil))) D.L.c mF RF (hrs 1 (by decide)) pass0) pa_nil))))))), ?_⟩
      subst hσ hG hE hQ
      cases h with
      | @off a fs r x d l sh no =>
        refine ⟨_, rfl, rfl, _, rfl, iteT ?_⟩
        obtain ⟨dx, t, hs, ht, nm⟩ := l
        have th : Thrown G (Ech K c D'.rt) (c.getD 2 0) [("offset", x), ("why", .str "offset")] := thr (.off x d) (fun H' s => ⟨rfl, rfl, sh.keep s⟩) k
        refine ⟨_, rfl, _, rfl, a, dx, _, rfl, hs, a, fs, r, x, rfl, ⟨dx, t, hs, ht, nm⟩, ?_⟩
        rcases no with no | ⟨i, rfl, no⟩
        · exact .inl ⟨no, th⟩
        · exact .inr ⟨i, rfl, fun n z e hz => absurd ⟨by omega, by have := (List.getElem?_eq_some_iff.mp hz).1; omega⟩ no, fun _ => th⟩
      | @name a fs r x d l sz sh it no =>
        refine ⟨_, rfl, rfl, _, rfl, iteF ⟨_, rfl, rfl, _, rfl, iteT ?_⟩⟩
        obtain ⟨dx, t, hs, ht, nm⟩ := l
        refine ⟨_, rfl, a, dx, _, rfl, hs, _, rfl, a, fs, r, x, rfl, ⟨dx, t, hs, ht, nm⟩, sz, it, fun _ H' s => ?_, fun z e hz => ?_⟩
        · exact thr (.name x d) (fun H2 s2 => ⟨rfl, rfl, sh.keep (s.trans s2)⟩) fun v H2 s2 dp => k v H2 (s.trans s2) dp
        · subst e; rw [show isNm (V.str z) = true from hz] at no; cases no
      | @add a fs r x res l sz h =>
        refine ⟨_, rfl, rfl, _, rfl, iteF ⟨_, rfl, rfl, _, rfl, iteF ⟨_, rfl, rfl, _, rfl, iteT ?_⟩⟩⟩
        have l0 := l
        obtain ⟨dx, t, hs, ht, nm⟩ := l
        have go : ∀ T : String, TyX K G x (.type T) → (T = "list" ∨ T = "tuple" ∨ T = "str" ∨ T = "dict" ∨ T = "NoneType") → ∀ Q2 : VK, spAdd K C (c.getD 0 0) (c.getD 1 0) (c.getD 7 0) (c.getD 16 0) [.ref a, x] G Q2 (Ech K c D'.rt) →
            tOp (rAddAny K C (spAdd K C (c.getD 0 0) (c.getD 1 0) (c.getD 7 0) (c.getD 16 0)) (Ech K c D'.rt)) (tVar 1) (tVar 2) ([some (.int 2), some (.ref a), some x] ++ [v3]) G Q2 := fun T ty o Q2 q => ⟨_, rfl, _, rfl, a, dx, _, T, rfl, hs, ty, (D.others T o).1, q⟩
        cases h with
        | @notL x T ty o =>
          refine go T ty (.inr o) _ ⟨a, fs, r, x, rfl, l0, sz, x, rfl, .inl ⟨_, ty, ?_, ?_⟩⟩
          · rcases o with rfl | rfl | rfl | rfl <;> exact kit_ty (by decide +kernel)
          · exact thr (.list "fields") (fun H2 _ => rfl) k
        | @bad l xs i y d h it hi ok no sh =>
          refine go "list" (.base (.lst h)) (.inl rfl) _ ⟨a, fs, r, _, rfl, l0, sz, _, rfl, .inr ⟨l, xs, rfl, SqL.of h, it, fun al => absurd al (not_all hi no), fun i2 y2 hi2 ok2 no2 H' s => ?_⟩⟩
          have e := first_bad hi ok no hi2 ok2 no2
          subst e
          exact thr (.name y d) (fun H2 s2 => ⟨rfl, rfl, sh.keep (s.trans s2)⟩) fun v H2 s2 dp => k v H2 (s.trans s2) dp
        | @twice l gs z h nm2 sz2 tw =>
          refine go "list" (.base (.lst h)) (.inl rfl) _ ⟨a, fs, r, _, rfl, l0, sz, _, rfl, .inr ⟨l, _, rfl, SqL.of h, names_item nm2, fun _ H' s => ⟨l, gs, s, rfl, s.seq (SqL.of h), sz2, fun nd => absurd (nodup_inr.mpr nd) (twiceK_not tw), fun z2 tw2 H2 s2 => ?_, fun nd => absurd (nodup_inr.mpr nd) (twiceK_not tw)⟩, fun i y hy _ b => (names_nobad nm2 hy b).elim⟩⟩
          have e : z = z2 := Sum.inr.inj (twiceK_uni tw tw2)
          subst e
          obtain ⟨i, hi, _⟩ := tw
          obtain ⟨z', hz', e⟩ := get_map hi
          have hz : isName z = true := by rw [Sum.inr.inj e]; exact nm2 _ (List.mem_of_getElem? hz')
          exact thr (.twice (.str z) (.str z)) (fun H3 s3 => ⟨⟨_, rfl⟩, rfl, sh_name hz⟩) fun v H3 s3 dp => k v H3 ((s.trans s2).trans s3) dp
        | @many l gs h nm2 sz2 nd m =>
          refine go "list" (.base (.lst h)) (.inl rfl) _ ⟨a, fs, r, _, rfl, l0, sz, _, rfl, .inr ⟨l, _, rfl, SqL.of h, names_item nm2, fun _ H' s => ⟨l, gs, s, rfl, s.seq (SqL.of h), sz2, fun _ l6 => absurd m (by omega), fun z2 tw2 => absurd (nodup_inr.mpr nd) (twiceK_not tw2), fun _ _ H2 s2 => ?_⟩, fun i y hy _ b => (names_nobad nm2 hy b).elim⟩⟩
          exact thr (.many 6) (fun H3 s3 => ⟨⟨_, rfl⟩, rfl⟩) fun v H3 s3 dp => k v H3 ((s.trans s2).trans s3) dp
        | @fine l gs h nm2 nd m =>
          refine go "list" (.base (.lst h)) (.inl rfl) _ ⟨a, fs, r, _, rfl, l0, sz, _, rfl, .inr ⟨l, _, rfl, SqL.of h, names_item nm2, fun _ H' s => ⟨l, gs, s, rfl, s.seq (SqL.of h), by omega, fun _ _ H2 s2 => ?_, fun z2 tw2 => absurd (nodup_inr.mpr nd) (twiceK_not tw2), fun _ m2 => absurd m2 (by omega)⟩, fun i y hy _ b => (names_nobad nm2 hy b).elim⟩⟩
          have s3 := s.trans s2
          refine ⟨l, gs, s3, rfl, s3 _ _ h, by omega, nm2, fun b H3 s4 hb => ?_⟩
          obtain ⟨dy, u, hsb, hu, nmb⟩ := hb
          refine ⟨b, dy, _, rfl, hsb, b, _, r, rfl, ⟨dy, u, hsb, hu, nmb⟩, fun p np => ⟨by show 2 ≤ sizeLine; decide, fun q nq => ?_⟩⟩
          exact k _ _ (ad (ad (s3.trans s4) np) nq) (dp_pair upd_same (.str _) (.lst (SqL.of (app upd_same nq)) (dpAll_strs _)))
      | @list v t h =>
        refine ⟨_, rfl, rfl, _, rfl, iteF ⟨_, rfl, rfl, _, rfl, iteF ⟨_, rfl, rfl, _, rfl, iteF ?_⟩⟩⟩
        refine ⟨_, rfl, t, _, 0, .non, rfl, rfl, SqT.of h, rfl, _, rfl, t, _, 1, .int 1, rfl, rfl, SqT.of h, rfl, fun b dx nb nd ne => ?_⟩
        have s0 : Same G (upd (upd G dx (.own b)) b (.ins C dx [])) := same_upd (same_new nd) nb
        refine ⟨b, dx, _, _, rfl, upd_same, by rw [upd_ne ne]; exact upd_same, ne, _, rfl, .inl ⟨_, .base .non, kit_ty (by decide +kernel), ?_⟩⟩
        exact thr (.list "fields") (fun H2 _ => rfl) fun v H2 s2 dp => k v H2 (s0.trans s2) dp
      | @bad v t l xs i y d h hl it hi ok no sh =>
        refine ⟨_, rfl, rfl, _, rfl, iteF ⟨_, rfl, rfl, _, rfl, iteF ⟨_, rfl, rfl, _, rfl, iteF ?_⟩⟩⟩
        refine ⟨_, rfl, t, _, 0, .ref l, rfl, rfl, SqT.of h, rfl, _, rfl, t, _, 1, .int 1, rfl, rfl, SqT.of h, rfl, fun b dx nb nd ne => ?_⟩
        have s0 : Same G (upd (upd G dx (.own b)) b (.ins C dx [])) := same_upd (same_new nd) nb
        refine ⟨b, dx, _, _, rfl, upd_same, by rw [upd_ne ne]; exact upd_same, ne, _, rfl, .inr ⟨l, xs, rfl, s0.seq (SqL.of hl), fun y hy => (it y hy).keep s0, fun al => absurd al (not_all hi no), fun i2 y2 hi2 ok2 no2 H' s => ?_⟩⟩
        have e := first_bad hi ok no hi2 ok2 no2
        subst e
        exact thr (.name y d) (fun H2 s2 => ⟨rfl, rfl, sh.keep ((s0.trans s).trans s2)⟩) fun v H2 s2 dp => k v H2 ((s0.trans s).trans s2) dp
      | @room v t l gs h hl nm =>
        refine ⟨_, rfl, rfl, _, rfl, iteF ⟨_, rfl, rfl, _, rfl, iteF ⟨_, rfl, rfl, _, rfl, iteF ?_⟩⟩⟩
        refine ⟨_, rfl, t, _, 0, .ref l, rfl, rfl, SqT.of h, rfl, _, rfl, t, _, 1, .int 1, rfl, rfl, SqT.of h, rfl, fun b dx nb nd ne => ?_⟩
        have s0 : Same G (upd (upd G dx (.own b)) b (.ins C dx [])) := same_upd (same_new nd) nb
        refine ⟨b, dx, _, _, rfl, upd_same, by rw [upd_ne ne]; exact upd_same, ne, _, rfl, .inr ⟨l, _, rfl, s0.seq (SqL.of hl), names_item nm, fun _ H' s => ⟨l, gs, s, rfl, (s0.trans s).seq (SqL.of hl), .inr ⟨⟨_, .base (.int 1), kit_ty (by decide +kernel)⟩, ?_⟩⟩, fun i y hy _ b => (names_nobad nm hy b).elim⟩⟩
        exact thr (.list "room") (fun H2 _ => rfl) fun v H2 s2 dp => k v H2 ((s0.trans s).trans s2) dp
    · exact pss_one (ps_ret (pe_callE GE ⟨(hr.mono (by decide : 2 ≤ 9)).dp, (hr.mono (by decide : 2 ≤ 9)).un⟩ hg List.mem_cons_self hz hf rfl gE kE bE (pa_cons (pv 3) pa_nil)))
    · refine ⟨Ech K c Q, fun cls d σ' G' he hl => ?_, ⟨none, ?_⟩, rfl, rfl, rfl⟩
      · obtain ⟨er, dd, fs, rfl, rfl, hd, has, q⟩ := he
        refine ⟨true, (R.e.ex er.j er.is).2.2.1, fun _ a _ => ?_, fun z => nomatch z⟩
        obtain ⟨v0, v1, v2, v3, rfl⟩ : ∃ v0 v1 v2 v3, σ' = [v0, v1, v2, v3] := by
          match σ', hl with
          | [v0, v1, v2, v3], _ => exact ⟨v0, v1, v2, v3, rfl⟩
        exact ⟨_, rfl, er, dd, fs, rfl, rfl, rfl, hd, has, q⟩
      · cases h <;> rfl
end
end Lw

set_option Elab.async false
set_option linter.all false
set_option maxRecDepth 100000
set_option maxHeartbeats 1000000
/-! _law_is_name, _law_added, _law_difference. -/
namespace Lw
open PySem L2 Two Pr ClX SlX
abbrev sLIsName : Stmt := top 43
abbrev sAdded : Stmt := top 44
abbrev sDiffer : Stmt := top 45
structure TxtX (mg : Str → Option Value) : Prop extends TxtR mg where
  isinstance : mg "isinstance" = none
  str : mg "str" = none
  list : mg "list" = none
  min : mg "min" = none
  repr : mg "repr" = none
/-! ### _law_is_name -/
def spLIsName (K : PySem.W.Frag) : Sp := fun vs H Q _ => ∃ x, vs = [x] ∧ ((NotStr K H x ∧ Q (.bl false) H) ∨ ∃ z : Str, x = .str z ∧ PyData.strOk z = true ∧ z.length ≤ sizeLine ∧ ∀ H', Same H H' → Q (.bl (isName z)) H')
theorem scLIsName : FnScope ["_law_thing", "_law_sign"] ["_law_thing"] (defScope sLIsName) := ⟨rfl, rfl, rfl, by decide +kernel, rfl, by decide +kernel, by decide +kernel⟩
def oneS (c : Nat) : Str := ⟨#[c]⟩
theorem letters_mem (c : Nat) : decide (c ∈ ("abcdefghijklmnopqrstuvwxyz" : Str).cps.toList) = isLetter c := by
  have e : ("abcdefghijklmnopqrstuvwxyz" : Str).cps.toList = (List.range 26).map (· + 97) := by decide +kernel
  rw [e]
  unfold isLetter
  by_cases h : 97 ≤ c ∧ c ≤ 122
  · rw [decide_eq_true h.1, decide_eq_true h.2, decide_eq_true (List.mem_map.mpr ⟨c - 97, List.mem_range.mpr (by omega), by omega⟩)]
    rfl
  · rw [decide_eq_false fun m => h (by obtain ⟨d, hd, rfl⟩ := List.mem_map.mp m; have := List.mem_range.mp hd; omega)]
    by_cases h1 : 97 ≤ c
    · rw [decide_eq_true h1, decide_eq_false (by omega)]; rfl
    · rw [decide_eq_false h1]; rfl
theorem dpAll_ones {K : PySem.W.Frag} {H : Hp} : ∀ cs : List Nat, DpAll K H (cs.map fun c => V.str (oneS c)) (cs.map fun c => PyData.str (oneS c))
  | [] => .nil
  | _ :: cs => .cons (.str _) (dpAll_ones cs)
theorem canLay_ones : ∀ cs : List Nat, (∀ c ∈ cs, PyData.strOk (oneS c) = true) → PyData.canLayAll0 (cs.map fun c => PyData.str (oneS c)) = true
  | [], _ => rfl
  | c :: cs, h => by
    show (PyData.strOk (oneS c) && PyData.canLayAll0 (cs.map fun c => PyData.str (oneS c))) = true
    rw [h c List.mem_cons_self, canLay_ones cs fun y hy => h y (List.mem_cons_of_mem _ hy)]
    rfl
theorem depth_ones : ∀ cs : List Nat, PyData.depthAll (cs.map fun c => PyData.str (oneS c)) ≤ 1
  | [] => Nat.zero_le _
  | c :: cs => by
    show max 0 (PyData.depthAll (cs.map fun c => PyData.str (oneS c))) ≤ 1
    have := depth_ones cs
    omega
theorem shaped_ones {cs : List Nat} (h : ∀ c ∈ cs, PyData.strOk (oneS c) = true) : SeqAt.shaped (.list (cs.map fun c => PyData.str (oneS c))) = true := by
  unfold SeqAt.shaped
  have a : (PyData.list (cs.map fun c => PyData.str (oneS c))).canLay0 = true := canLay_ones cs h
  have b : (PyData.list (cs.map fun c => PyData.str (oneS c))).depth ≤ 64 := by
    show PyData.depthAll (cs.map fun c => PyData.str (oneS c)) + 1 ≤ 64
    have := depth_ones cs
    omega
  rw [a, decide_eq_true b]
  rfl
theorem eqv_ones (cs : List Nat) : PyData.eqv (.list (cs.map fun c => PyData.str (oneS c))) (.list []) = cs.isEmpty := by
  cases cs <;> rfl
theorem dp_nil {K : PySem.W.Frag} {H : Hp} {a : Addr} (h : H a = some (.lst [])) : Dp K H (.ref a) (.list []) := .lst (SqL.of h) .nil
theorem shaped_nil : SeqAt.shaped (.list []) = true := rfl
theorem strOk_one {z : Str} (h : PyData.strOk z = true) : ∀ c ∈ z.cps.toList, PyData.strOk (oneS c) = true := fun c hc => by
  unfold PyData.strOk at h ⊢
  rw [← Array.all_toList, List.all_eq_true] at h ⊢
  intro d hd
  have e : d = c := by simpa [oneS] using hd
  rw [e]
  exact h c hc
section
variable {P : Program} {w : World} {K : PySem.W.Frag} {mg : Str → Option Value} {base : Heap}
theorem ok_lIsName {f : Addr} {fd : FuncData} (F : Fun K "_law_is_name" "_law_is_name" sLIsName f fd) (T : TxtX mg) : FnOk P w K mg base CX0 1 f fd ["_law_thing"] (spLIsName K) := by
  refine F.ok scLIsName (fun vs H Q E h => ?_) (fun cdv A outer s H vs Q E hr h => ?_)
  · obtain ⟨x, rfl, _⟩ := h
    rfl
  · obtain ⟨x, rfl, h⟩ := h
    refine ⟨_, pss_cons (ps_if (PW.pt (pw_or (pt_not (pt_val (pe_callB call_isi (by rfl) T.isinstance (by decide +kernel) (pa_cons (pv 0) (pa_cons (pe_bltn (v := .ty "str") (by rfl) T.str (by decide +kernel) rfl) pa_nil)))))
        (pw_or1 (pt_not (pt_chain op_le op_le pe_int (pe_callB call_len_str (by rfl) T.len PySem.boot_len (pa_cons (pv 0) pa_nil)) pe_int))))) (pss_one (ps_ret pe_bl)) pss_nil)
      (pss_one (ps_ret (pe_cmpR (op_eqD hr.units) (pe_lc (own := [("_law_sign", 1)]) (g := gName 1) (tt := tTest (tOp (fun x y H Q => ∃ (c : Nat) (z : Str), x = .str ⟨#[c]⟩ ∧ y = .str z ∧ Q (.bl (!decide (c ∈ z.cps.toList))) H) (tVar 1) (tC (.str "abcdefghijklmnopqrstuvwxyz")))) (te := tVar 1) rfl scLIsName.nd (pi_str (pv 0)) (blkOk_by (N := ["_law_thing", "_law_sign"]) (sc := defScope sLIsName) (by decide +kernel))
        (fun _ _ _ _ _ => pg_name (i := 1) scLIsName.nd rfl (Or.inl rfl)) (fun _ _ _ _ _ => pts_one (pt_cmpR op_notIn_sign (pv 1) pe_str (by rfl))) (fun _ _ _ _ _ => pv 1)) (pe_lst pa_nil) (nomark _)))), ?_⟩
    rcases h with ⟨⟨t, ty, kt⟩, q⟩ | ⟨z, rfl, ok, hz, q⟩
    · exact ⟨_, rfl, x, .ty "str", t, .type "str", false, rfl, .ty _, ty, kt, false, rfl, iteT q⟩
    · refine ⟨_, rfl, _, .ty "str", .type "str", .type "str", true, rfl, .ty _, .base (.str z), kit_ty (by decide +kernel), true, rfl, iteF ?_⟩
      refine ⟨_, rfl, z, rfl, hz, _, _, rfl, rfl, _, rfl, ?_⟩
      have hlen : ∀ b, (decide (1 ≤ z.length) && decide (z.length ≤ 8)) = b → b = false → isName z = false := fun b e1 e2 => by
        unfold isName; rw [e1, e2]; rfl
      by_cases h1 : 1 ≤ z.length
      · refine ite_true_of (decide_eq_true (by exact_mod_cast h1)) ⟨_, _, rfl, rfl, _, rfl, ?_⟩
        by_cases h2 : z.length ≤ 8
        · refine ite_neg_of (decide_eq_true (by exact_mod_cast h2)) ?_
          have e1 : (decide (1 ≤ z.length) && decide (z.length ≤ 8)) = true := by rw [decide_eq_true h1, decide_eq_true h2]; rfl
          refine ⟨_, rfl, z, rfl, fun D hD => lc_it walk_str (fun j H' => Same H H' ∧ H' D = some (.lst (((z.cps.toList.take j).filter fun c => !isLetter c).map fun c => V.str (oneS c)))) ⟨same_new hD, upd_same⟩ (fun _ _ _ _ => trivial) (fun j x H1 H2 hj p y => ?_) (fun H1 p => ?_)⟩
          · obtain ⟨rfl, c, hc, rfl⟩ := y
            refine ⟨rfl, ?_⟩
            have hc2 : z.cps.toList[j]? = some c := by rw [← hc]; simp
            refine ⟨_, rfl, c, _, rfl, rfl, _, rfl, ?_⟩
            rw [letters_mem]
            cases hl : isLetter c with
            | true =>
              refine iteF ⟨p.1, ?_⟩
              rw [take_snoc hc2, List.filter_append, List.filter_cons_of_neg (by rw [hl]; decide)]
              simpa using p.2
            | false =>
              refine iteT ⟨_, rfl, _, p.2, ?_, same_upd p.1 hD, ?_⟩
              · refine small1000 ?_
                have a1 := List.length_filter_le (fun c => !isLetter c) (z.cps.toList.take j)
                rw [List.length_map]
                rw [List.length_take] at a1
                have : z.cps.toList.length ≤ 8 := by rw [Array.length_toList]; exact h2
                omega
              · rw [upd_same, take_snoc hc2, List.filter_append, List.filter_cons_of_pos (by rw [hl]; decide), List.map_append]; rfl
          · have e := p.2
            rw [show z.cps.toList.take z.cps.size = z.cps.toList from List.take_of_length_le (by rw [Array.length_toList]; exact Nat.le_refl _)] at e
            refine ⟨Nat.zero_le _, fun p2 np2 => ?_⟩
            refine ⟨_, _, .lst (SqL.of (app e np2)) (dpAll_ones _), dp_nil upd_same, shaped_ones fun c hc => strOk_one ok c (List.mem_filter.mp hc).1, shaped_nil, ?_⟩
            rw [eqv_ones]
            have e2 := q _ (ad (o := .lst []) p.1 np2)
            have e3 : isName z = (z.cps.toList.filter fun c => !isLetter c).isEmpty := by
              unfold isName
              rw [e1, Bool.true_and, Bool.eq_iff_iff, List.all_eq_true, List.isEmpty_iff, List.filter_eq_nil_iff]
              exact ⟨fun h c hc => by rw [h c hc]; decide, fun h c hc => by have := h c hc; cases hh : isLetter c with | true => rfl | false => rw [hh] at this; exact absurd rfl this⟩
            rw [e3] at e2
            exact e2
        · refine ite_pos_of (decide_eq_false (by exact_mod_cast h2)) ?_
          have e := q H (Same.refl H)
          rw [hlen _ rfl (by rw [decide_eq_false h2, Bool.and_false])] at e
          exact e
      · refine ite_false_of (decide_eq_false (by exact_mod_cast h1)) ⟨_, rfl, iteT ?_⟩
        have e := q H (Same.refl H)
        rw [hlen _ rfl (by rw [decide_eq_false h1]; rfl)] at e
        exact e
end
end Lw

set_option Elab.async false
set_option linter.all false
set_option maxRecDepth 100000
set_option maxHeartbeats 1000000
/-! _law_added, _law_difference. -/
namespace Lw
open PySem L2 Two Pr ClX SlX
/-- the items are such that the law can look at them -/
def ItemL (K : PySem.W.Frag) (H : Hp) (y : V) : Prop := (∃ z : Str, y = .str z ∧ PyData.strOk z = true ∧ z.length ≤ sizeLine) ∨ ∀ H', Same H H' → NotStr K H' y ∧ ∀ z, y ≠ .str z
theorem ItemL.item {K : PySem.W.Frag} {H : Hp} {y : V} (h : ItemL K H y) : ItemK K H y := h.imp (fun ⟨z, a, _, b⟩ => ⟨z, a, b⟩) id
theorem ItemL.keep {K : PySem.W.Frag} {H H' : Hp} {y : V} (h : ItemL K H y) (s : Same H H') : ItemL K H' y := h.imp id fun g G t => g G (s.trans t)
theorem itemL_name {K : PySem.W.Frag} {H : Hp} {z : Str} (h : isName z = true) : ItemL K H (.str z) := .inl ⟨z, rfl, name_strOk h, name_len h⟩
/-- what the law's def makes of it -/
inductive AddL (K : PySem.W.Frag) (H : Hp) (fs : List Str) : V → PyData → Prop
  | notL {x : V} {T : String} (ty : ∀ H', Same H H' → TyX K H' x (.type T)) (o : T = "tuple" ∨ T = "str" ∨ T = "dict" ∨ T = "NoneType") : AddL K H fs x (.tuple [.str "list", .str "fields"])
  | bad {l : Addr} {xs : List V} {i : Nat} {y : V} {d : PyData} (h : H l = some (.lst xs)) (it : ∀ y ∈ xs, ItemL K H y) (hi : xs[i]? = some y) (ok : (xs.take i).all isNm = true) (no : isNm y = false) (sh : Sh K H y d) : AddL K H fs (.ref l) (.tuple [.str "name", .str d.shown])
  | twice {l : Addr} {gs : List Str} {z : Str} (h : H l = some (.lst (gs.map V.str))) (nm : ∀ z ∈ gs, isName z = true) (sz : gs.length ≤ 1000) (tw : TwiceS gs z) : AddL K H fs (.ref l) (.tuple [.str "twice", .str (PyData.str z).shown])
  | many {l : Addr} {gs : List Str} (h : H l = some (.lst (gs.map V.str))) (nm : ∀ z ∈ gs, isName z = true) (sz : gs.length ≤ 1000) (nd : gs.Nodup) (m : 6 < gs.length) : AddL K H fs (.ref l) (.tuple [.str "many", .int 6])
  | fine {l : Addr} {gs : List Str} (h : H l = some (.lst (gs.map V.str))) (nm : ∀ z ∈ gs, isName z = true) (nd : gs.Nodup) (m : gs.length ≤ 6) : AddL K H fs (.ref l) (.tuple [.str "told", .list ((fs ++ gs).map PyData.str)])
theorem AddL.arg {K : PySem.W.Frag} {H : Hp} {fs : List Str} {x : V} {d : PyData} (h : AddL K H fs x d) : AddArg K H fs x d := by
  cases h with
  | notL ty o => exact .notL (ty _ (Same.refl _)) o
  | bad h it hi ok no sh => exact .bad h (fun y hy => (it y hy).item) hi ok no sh
  | twice h nm sz tw => exact .twice h nm sz tw
  | many h nm sz nd m => exact .many h nm sz nd m
  | fine h nm nd m => exact .fine h nm nd m
theorem AddL.keep {K : PySem.W.Frag} {H H' : Hp} {fs : List Str} {x : V} {d : PyData} (h : AddL K H fs x d) (s : Same H H') : AddL K H' fs x d := by
  cases h with
  | notL ty o => exact .notL (fun G g => ty G (s.trans g)) o
  | bad h it hi ok no sh => exact .bad (s _ _ h) (fun y hy => (it y hy).keep s) hi ok no (sh.keep s)
  | twice h nm sz tw => exact .twice (s _ _ h) nm sz tw
  | many h nm sz nd m => exact .many (s _ _ h) nm sz nd m
  | fine h nm nd m => exact .fine (s _ _ h) nm nd m
def spAdded (K : PySem.W.Frag) : Sp := fun vs H Q _ => ∃ (a : Addr) (fs : List Str) (x : V) (res : PyData), vs = [.ref a, x] ∧ H a = some (.lst (fs.map V.str)) ∧ fs.length ≤ 900 ∧ AddL K H fs x res ∧ (∀ T : String, T = "tuple" ∨ T = "str" ∨ T = "dict" ∨ T = "NoneType" → PySem.W.kitOne K (.type T) (.type "list") = some false) ∧
  ∀ v H', Same H H' → Dp K H' v res → Q v H'
abbrev nAdded : List Str := ["_law_names_here", "_law_thing", "_law_name_here", "_law_at"]
theorem scAdded : FnScope nAdded ["_law_names_here", "_law_thing"] (defScope sAdded) := ⟨rfl, rfl, rfl, by decide +kernel, rfl, by decide +kernel, by decide +kernel⟩
section
variable {P : Program} {w : World} {K : PySem.W.Frag} {mg : Str → Option Value} {base : Heap}
theorem ok_added {f fN : Addr} {fd dN : FuncData} (F : Fun K "_law_added" "_law_added" sAdded f fd) (T : TxtX mg) (gN : mg "_law_is_name" = some (.ref fN)) (kN : PySem.W.keepIn K (.ref fN) = true) (bN : Binds K dN ["_law_thing"] [])
    (GN : FnOk P w K mg base CX0 1 fN dN ["_law_thing"] (spLIsName K)) : FnG P w K mg base CX0 2 f fd ["_law_names_here", "_law_thing"] (spAdded K) := by
  refine FnG.of F scAdded (fun vs H Q E h => ?_) (fun cdv A outer s H vs Q E hr hg h => ?_)
  · obtain ⟨a, fs, x, res, rfl, _⟩ := h
    rfl
  · obtain ⟨a, fs, x, res, rfl, ha, hfs, h, kit, k⟩ := h
    have hu : (cxOf CX0 P w K mg base nAdded "_law_added" (defScope sAdded) f cdv A outer s H E).nox.A.units + 64 < cLine := by
      have h := hr.un
      exact (by omega : (A.deeper (PyProof.Rows.envOfC "_law_added" (defScope sAdded) s.heap.objs.size f cdv)).units + 64 < cLine)
    refine ⟨_, pss_cons (ps_if (pt_not (pt_val (pe_callB call_isi (by rfl) T.isinstance (by decide +kernel) (pa_cons (pv 1) (pa_cons (pe_bltn (v := .ty "list") (by rfl) T.list (by decide +kernel) rfl) pa_nil))))) (pss_one (ps_ret (pe_tup (pa_cons pe_str (pa_cons pe_str pa_nil))))) pss_nil)
      (pss_cons (ps_for PassesOwn.never rfl (pi_list (pv 1)) (pg_name (i := 2) scAdded.nd rfl (Or.inl rfl))
        (pss_one (ps_if (pt_not (pt_val (pe_call GN hr rfl gN kN bN .nil pass0 (pa_cons (pv 2) pa_nil)))) (pss_one (ps_ret (pe_tup (pa_cons pe_str (pa_cons (pe_callB (cr_reprQ hg hu) (by rfl) T.repr (by decide +kernel) (pa_cons (pv 2) pa_nil)) pa_nil))))) pss_nil)))
      (pss_cons (ps_for PassesOwn.never rfl (pi_range1 rfl T.range (pa_cons (pe_callB call_len_seq (by rfl) T.len PySem.boot_len (pa_cons (pv 1) pa_nil)) pa_nil)) (pg_name (i := 3) scAdded.nd rfl (Or.inl rfl))
        (pss_one (ps_if (pt_cmpR op_in_seq (pe_ix ix_list (pv 1) (pv 3) (fun _ _ => rfl)) (pe_slice sl_list (pv 1) po_none (po_some (pv 3))) (by rfl)) (pss_one (ps_ret (pe_tup (pa_cons pe_str (pa_cons (pe_callB (cr_reprQ hg hu) (by rfl) T.repr (by decide +kernel) (pa_cons (pe_ix ix_list (pv 1) (pv 3) (fun _ _ => rfl)) pa_nil)) pa_nil))))) pss_nil)))
      (pss_one (ps_ret (pe_ifExp (pt_cmpR op_gt (pe_callB call_len_seq (by rfl) T.len PySem.boot_len (pa_cons (pv 1) pa_nil)) pe_int (nomark _)) (pe_tup (pa_cons pe_str (pa_cons pe_int pa_nil))) (pe_tup (pa_cons pe_str (pa_cons (pe_op op_cat (pv 0) (pv 1)) pa_nil)))))))), ?_⟩
    rcases Classical.em (∃ (l : Addr) (gs : List Str), x = .ref l ∧ H l = some (.lst (gs.map V.str)) ∧ (∀ z ∈ gs, isName z = true) ∧ gs.length ≤ 1000 ∧
        ((∃ z, TwiceS gs z ∧ res = .tuple [.str "twice", .str (PyData.str z).shown]) ∨ (gs.Nodup ∧ ((6 < gs.length ∧ res = .tuple [.str "many", .int 6]) ∨ (gs.length ≤ 6 ∧ res = .tuple [.str "told", .list ((fs ++ gs).map PyData.str)]))))) with ⟨l, gs, rfl, hl, nm, sz, hd⟩ | hn
    · have hS : SqL K H l (gs.map V.str) := SqL.of hl
      refine ⟨_, rfl, _, .ty "list", .type "list", .type "list", true, rfl, .ty _, .base (.lst hl), kit_ty (by decide +kernel), true, rfl, iteF ?_⟩
      refine ⟨_, rfl, l, rfl, ⟨_, hS⟩, for_list (K := K) (a := l) (xs := gs.map V.str) (fun j σ G => (∃ v2 v3 : Option V, σ = [some (.ref a), some (.ref l), v2, v3]) ∧ Same H G) ⟨⟨_, _, rfl⟩, Same.refl _⟩ (fun j σ G _ p => p.2.seq hS) ?_ ?_⟩
      · rintro j x σ G hx ⟨⟨v2, v3, rfl⟩, s1⟩
        obtain ⟨z, hz, rfl⟩ := get_map hx
        have hnz := nm z (List.mem_of_getElem? hz)
        refine ⟨_, rfl, _, rfl, .inr ⟨z, rfl, name_strOk hnz, name_len hnz, fun G2 s2 => ⟨_, rfl, ?_⟩⟩⟩
        rw [hnz]
        exact iteF ⟨⟨_, _, rfl⟩, s1.trans s2⟩
      · rintro σ G ⟨⟨v2, v3, rfl⟩, s1⟩
        have tn : ((((gs.map V.str).length : Nat) : Int) - 0).toNat = gs.length := by rw [List.length_map]; omega
        refine ⟨_, rfl, l, _, rfl, .inl (s1.seq hS), _, rfl, by omega, by rw [List.length_map]; omega, ?_⟩
        have tn : (((gs.map V.str).length : Nat) : Int).toNat = gs.length := by rw [List.length_map]; omega
        rw [tn]
        refine for_range (lo := 0) (n := gs.length) (fun j σ G => (∃ v2 v3 : Option V, σ = [some (.ref a), some (.ref l), v2, v3]) ∧ Same H G ∧ (gs.take j).Nodup) ⟨⟨_, _, rfl⟩, s1, by simp⟩ ?_ ?_
        · rintro j σ G hj ⟨⟨v2, v3, rfl⟩, s2, nd⟩
          have z0 : (0 : Int) + (j : Nat) = ((j : Nat) : Int) := by omega
          rw [z0]
          have ej : (gs.map V.str)[j]? = some (.str gs[j]) := by rw [List.getElem?_map, List.getElem?_eq_getElem hj]; rfl
          have hS2 := s2.seq hS
          refine ⟨_, rfl, _, rfl, l, _, (j : Nat), .str gs[j], rfl, rfl, hS2, atI_nat ej, _, rfl, _, rfl, j, rfl, l, _, rfl, hS2, fun L3 hL3 => ⟨L3, _, rfl, .inl (SqL.of upd_same), rfl, ?_, _, rfl, ?_⟩⟩
          · rw [cutTo, ← List.map_take]; exact Pr.flat_strs _
          · have s3 : Same H (upd G L3 (.lst (cutV (gs.map V.str) none (some (j : Int))))) := ad s2 hL3
            generalize upd G L3 (.lst (cutV (gs.map V.str) none (some (j : Int)))) = G3 at s3 ⊢
            rw [cutTo, ← List.map_take]
            show (if inV (.str gs[j]) ((gs.take j).map V.str) = true then _ else _)
            rw [inV_strs]
            have ejs : gs[j]? = some gs[j] := List.getElem?_eq_getElem hj
            by_cases m : gs[j] ∈ gs.take j
            · rw [decide_eq_true m]
              refine iteT ?_
              have tw : TwiceS gs gs[j] := ⟨j, by rw [List.getElem?_map, ejs]; rfl, by rw [← List.map_take]; exact List.mem_map.mpr ⟨_, m, rfl⟩, by rw [← List.map_take]; exact nodup_inr.mpr nd⟩
              have er : res = .tuple [.str "twice", .str (PyData.str gs[j]).shown] := by
                rcases hd with ⟨z, tz, er⟩ | ⟨nd2, _⟩
                · rw [er, show z = gs[j] from Sum.inr.inj (twiceK_uni tz tw)]
                · exact absurd (nodup_inr.mpr nd2) (twiceK_not tw)
              have sh : Sh K G3 (.str gs[j]) (.str gs[j]) := sh_name (nm _ (List.mem_of_getElem? ejs))
              refine ⟨_, rfl, _, rfl, l, _, (j : Nat), .str gs[j], rfl, rfl, s3.seq hS, atI_nat ej, _, _, rfl, sh.dq, sh.ok, sh.deep, sh.len, by show 2 ≤ sizeLine; decide, fun p hp => ?_⟩
              exact k _ _ (ad s3 hp) (by rw [er]; exact dp_pair upd_same (.str _) (.str _))
            · rw [decide_eq_false m]
              refine iteF ⟨⟨_, _, rfl⟩, s3, ?_⟩
              rw [take_snoc ejs]
              exact List.nodup_append.mpr ⟨nd, by simp, fun x hx y hy => by rw [List.mem_singleton.mp hy]; rintro rfl; exact m hx⟩
        · rintro σ G ⟨⟨v2, v3, rfl⟩, s2, nd⟩
          rw [List.take_length] at nd
          rcases hd with ⟨z, tz, _⟩ | ⟨_, hd⟩
          · exact absurd (nodup_inr.mpr nd) (twiceK_not tz)
          · refine ⟨_, rfl, l, _, rfl, .inl (s2.seq hS), _, _, rfl, rfl, _, rfl, ?_⟩
            rw [List.length_map]
            rcases hd with ⟨m, er⟩ | ⟨m, er⟩
            · refine ite_true_of (decide_eq_true (by exact_mod_cast m)) ⟨by show 2 ≤ sizeLine; decide, fun p hp => ?_⟩
              exact k _ _ (ad s2 hp) (by rw [er]; exact dp_pair upd_same (.str _) (.int _))
            · refine ite_false_of (decide_eq_false (by exact_mod_cast (by omega : ¬ 6 < gs.length))) ?_
              refine ⟨_, rfl, _, rfl, a, l, _, _, rfl, rfl, s2 _ _ ha, s2 _ _ hl, Nat.le_of_lt (small1000 ?_), fun p hp => ⟨by show 2 ≤ sizeLine; decide, fun q hq => ?_⟩⟩
              · rw [List.length_map, List.length_map]; omega
              · exact k _ _ (ad (ad s2 hp) hq) (by rw [er]; exact dp_pair upd_same (.str _) (.lst (SqL.of (by rw [app upd_same hq, List.map_append])) (dpAll_strs _)))
    cases h with
    | @notL x T2 ty o => exact ⟨_, rfl, x, .ty "list", .type T2, .type "list", false, rfl, .ty _, ty _ (Same.refl _), kit T2 o, false, rfl, iteT ⟨by show 2 ≤ sizeLine; decide, fun p hp => k _ _ (same_new hp) (dp_pair upd_same (.str _) (.str _))⟩⟩
    | @bad l xs i y d h it hi ok no sh =>
      refine ⟨_, rfl, _, .ty "list", .type "list", .type "list", true, rfl, .ty _, .base (.lst h), kit_ty (by decide +kernel), true, rfl, iteF ?_⟩
      have hS : SqL K H l xs := SqL.of h
      refine ⟨_, rfl, l, rfl, ⟨_, hS⟩, for_list (K := K) (a := l) (xs := xs) (fun j σ G => (∃ v2 v3 : Option V, σ = [some (.ref a), some (.ref l), v2, v3]) ∧ Same H G ∧ j ≤ i) ⟨⟨_, _, rfl⟩, Same.refl _, Nat.zero_le _⟩ (fun j σ G _ p => p.2.1.seq hS) ?_ ?_⟩
      · rintro j x σ G hx ⟨⟨v2, v3, rfl⟩, s1, hj⟩
        have hix := (it x (List.mem_of_getElem? hx)).keep s1
        by_cases ej : j = i
        · subst ej
          rw [hi] at hx
          cases hx
          have fin : ∀ G2, Same G G2 → tRet (tTup (tCons (tC (.str "name")) (tCons (tCB (rReprQ K) (tCons (tVar 2) tNil)) tNil))) { nx := fun _ G => Q .non G, rt := Q } [some (.ref a), some (.ref l), some y, v3] G2 := fun G2 s2 =>
            ⟨_, rfl, y, d, rfl, (sh.keep (s1.trans s2)).dq, sh.ok, sh.deep, sh.len, by show 2 ≤ sizeLine; decide, fun p hp => k _ _ (ad (s1.trans s2) hp) (dp_pair upd_same (.str _) (.str _))⟩
          refine ⟨_, rfl, y, rfl, ?_⟩
          rcases hix with ⟨z, rfl, oz, lz⟩ | hn
          · refine .inr ⟨z, rfl, oz, lz, fun G2 s2 => ⟨_, rfl, ?_⟩⟩
            rw [show isName z = false from no]
            exact iteT (fin G2 s2)
          · exact .inl ⟨(hn G (Same.refl _)).1, _, rfl, iteT (fin G (Same.refl _))⟩
        · have lt : j < i := by omega
          have nm : isNm x = true := List.all_eq_true.mp ok x (by
            have : (xs.take i)[j]? = some x := by rw [List.getElem?_take]; simp [lt, hx]
            exact List.mem_of_getElem? this)
          obtain ⟨z, rfl⟩ : ∃ z, x = .str z := by
            cases x with
            | str z => exact ⟨z, rfl⟩
            | _ => cases nm
          refine ⟨_, rfl, _, rfl, .inr ⟨z, rfl, name_strOk nm, name_len nm, fun G2 s2 => ⟨_, rfl, ?_⟩⟩⟩
          rw [show isName z = true from nm]
          exact iteF ⟨⟨_, _, rfl⟩, s1.trans s2, by omega⟩
      · rintro σ G ⟨_, _, hj⟩
        have := (List.getElem?_eq_some_iff.mp hi).1
        omega
    | twice h nm sz tw => exact absurd ⟨_, _, rfl, h, nm, sz, .inl ⟨_, tw, rfl⟩⟩ hn
    | many h nm sz nd m => exact absurd ⟨_, _, rfl, h, nm, sz, .inr ⟨nd, .inl ⟨m, rfl⟩⟩⟩ hn
    | fine h nm nd m => exact absurd ⟨_, _, rfl, h, nm, by omega, .inr ⟨nd, .inr ⟨m, rfl⟩⟩⟩ hn
end
end Lw

set_option Elab.async false
set_option linter.all false
set_option maxRecDepth 100000
set_option maxHeartbeats 1000000
/-! _law_difference; what is small; _law_bad_fields. -/
namespace Lw
open PySem L2 Two Pr ClX SlX
/-! ### _law_difference -/
def pairD (fs : List Str) (r : Bool) : PyData := .tuple [.list (fs.map PyData.str), .bool r]
theorem eqv_pair (fs gs : List Str) (r r2 : Bool) : PyData.eqv (pairD fs r) (pairD gs r2) = (decide (fs = gs) && decide (r = r2)) := by
  have e := eqv_strs fs gs
  have e : PyData.eqvAll (fs.map PyData.str) (gs.map PyData.str) = decide (fs = gs) := e
  show (PyData.eqvAll (fs.map PyData.str) (gs.map PyData.str) && ((r == r2) && true)) = _
  rw [e, Bool.and_true]
  cases r <;> cases r2 <;> rfl
theorem shaped_pair {fs : List Str} (r : Bool) (h : ∀ z ∈ fs, isName z = true) : SeqAt.shaped (pairD fs r) = true := by
  unfold SeqAt.shaped
  have a : (pairD fs r).canLay0 = true := by
    show (PyData.canLayAll0 (fs.map PyData.str) && (true && true)) = true
    rw [lay_strs fs h]
    rfl
  have b : (pairD fs r).depth ≤ 64 := by
    show max (PyData.depthAll (fs.map PyData.str) + 1) (max 0 0) + 1 ≤ 64
    have := depth_strs fs
    omega
  rw [a, decide_eq_true b]
  rfl
theorem dp_pairL {K : PySem.W.Frag} {H : Hp} {t a : Addr} {fs : List Str} {r : Bool} (ht : H t = some (.tup [.ref a, .bl r])) (ha : H a = some (.lst (fs.map V.str))) : Dp K H (.ref t) (pairD fs r) := dp_pair ht (.lst (SqL.of ha) (dpAll_strs _)) (.bl r)
def spDiffer : Sp := fun vs H Q _ => ∃ (t u a b : Addr) (fs gs : List Str) (r r2 : Bool), vs = [.ref t, .ref u] ∧ H t = some (.tup [.ref a, .bl r]) ∧ H a = some (.lst (fs.map V.str)) ∧ H u = some (.tup [.ref b, .bl r2]) ∧ H b = some (.lst (gs.map V.str)) ∧ (∀ z ∈ fs, isName z = true) ∧ (∀ z ∈ gs, isName z = true) ∧ fs.length ≤ 1000 ∧ gs.length ≤ 1000 ∧
  (fs = gs ∧ r = r2 → Q .non H) ∧ (¬ (fs = gs ∧ r = r2) → Q (.int (firstDiff fs gs : Nat)) H)
abbrev nDiffer : List Str := ["_law_one_here", "_law_other", "_law_at"]
theorem scDiffer : FnScope nDiffer ["_law_one_here", "_law_other"] (defScope sDiffer) := ⟨rfl, rfl, rfl, by decide +kernel, rfl, by decide +kernel, by decide +kernel⟩
section
variable {P : Program} {w : World} {K : PySem.W.Frag} {mg : Str → Option Value} {base : Heap}
theorem ok_differ {f : Addr} {fd : FuncData} (F : Fun K "_law_difference" "_law_difference" sDiffer f fd) (T : TxtX mg) : FnOk P w K mg base CX0 1 f fd ["_law_one_here", "_law_other"] spDiffer := by
  refine F.ok scDiffer (fun vs H Q E h => ?_) (fun cdv A outer s H vs Q E hr h => ?_)
  · obtain ⟨t, u, a, b, fs, gs, r, r2, rfl, _⟩ := h
    rfl
  · obtain ⟨t, u, a, b, fs, gs, r, r2, rfl, ht, ha, hu, hb, nm, nm2, lf, lg, same, diff⟩ := h
    have l0 := fun (i : Nat) => (i, i)
    refine ⟨_, pss_cons (ps_if (pt_cmpR (op_eqD hr.units) (pv 0) (pv 1) (nomark _)) (pss_one (ps_ret pe_non)) pss_nil)
      (pss_cons (ps_for PassesOwn.never rfl (pi_range1 rfl T.range (pa_cons (pe_callB (call_min2 rfl) (by rfl) T.min (by decide +kernel) (pa_cons (pe_callB call_len_seq (by rfl) T.len PySem.boot_len (pa_cons (pe_ix ix_tup (pv 0) pe_int (fun _ _ => rfl)) pa_nil)) (pa_cons (pe_callB call_len_seq (by rfl) T.len PySem.boot_len (pa_cons (pe_ix ix_tup (pv 1) pe_int (fun _ _ => rfl)) pa_nil)) pa_nil))) pa_nil)) (pg_name (i := 2) scDiffer.nd rfl (Or.inl rfl))
        (pss_one (ps_if (pt_cmpR op_ne (pe_ix ix_list (pe_ix ix_tup (pv 0) pe_int (fun _ _ => rfl)) (pv 2) (fun _ _ => rfl)) (pe_ix ix_list (pe_ix ix_tup (pv 1) pe_int (fun _ _ => rfl)) (pv 2) (fun _ _ => rfl)) (nomark _)) (pss_one (ps_ret (pv 2))) pss_nil)))
      (pss_one (ps_ret (pe_callB (call_min2 rfl) (by rfl) T.min (by decide +kernel) (pa_cons (pe_callB call_len_seq (by rfl) T.len PySem.boot_len (pa_cons (pe_ix ix_tup (pv 0) pe_int (fun _ _ => rfl)) pa_nil)) (pa_cons (pe_callB call_len_seq (by rfl) T.len PySem.boot_len (pa_cons (pe_ix ix_tup (pv 1) pe_int (fun _ _ => rfl)) pa_nil)) pa_nil)))))), ?_⟩
    refine ⟨_, rfl, _, rfl, _, _, dp_pairL ht ha, dp_pairL hu hb, shaped_pair r nm, shaped_pair r2 nm2, _, rfl, ?_⟩
    rw [eqv_pair]
    by_cases e : fs = gs ∧ r = r2
    · refine ite_true_of (by rw [decide_eq_true e.1, decide_eq_true e.2]; rfl) (same e)
    · have ef : (decide (fs = gs) && decide (r = r2)) = false := by
        rw [Bool.eq_false_iff]
        intro q
        rw [Bool.and_eq_true, decide_eq_true_iff, decide_eq_true_iff] at q
        exact e q
      refine ite_false_of ef ?_
      have k := diff e
      have em : (if (gs.length : Int) < (fs.length : Int) then (gs.length : Int) else (fs.length : Int)) = ((min fs.length gs.length : Nat) : Int) := by
        by_cases q : gs.length < fs.length
        · rw [if_pos (by exact_mod_cast q), Nat.min_eq_right (by omega)]
        · rw [if_neg (by exact_mod_cast q), Nat.min_eq_left (by omega)]
      refine ⟨_, rfl, t, _, 0, .ref a, rfl, rfl, SqT.of ht, rfl, a, _, rfl, .inl (SqL.of ha), _, rfl, u, _, 0, .ref b, rfl, rfl, SqT.of hu, rfl, b, _, rfl, .inl (SqL.of hb), _, _, rfl, ?_⟩
      rw [List.length_map, List.length_map, em]
      refine ⟨_, rfl, ?_, ?_, for_range (lo := 0) (n := min fs.length gs.length) (fun i σ G => (∃ v : Option V, σ = [some (.ref t), some (.ref u), v]) ∧ G = H ∧ fs.take i = gs.take i) ⟨⟨_, rfl⟩, rfl, rfl⟩ ?_ ?_⟩
      · omega
      · omega
      · rintro i σ G hi ⟨⟨v, rfl⟩, rfl, et⟩
        have h1 : i < fs.length := by omega
        have h2 : i < gs.length := by omega
        have ei : (0 + (i : Nat) : Int) = (i : Nat) := by omega
        rw [ei]
        refine ⟨_, rfl, t, _, 0, .ref a, rfl, rfl, SqT.of ht, rfl, _, rfl, a, _, _, .str fs[i], rfl, rfl, SqL.of ha, atI_nat (by rw [List.getElem?_map, List.getElem?_eq_getElem h1]; rfl), _, rfl, u, _, 0, .ref b, rfl, rfl, SqT.of hu, rfl, _, rfl, b, _, _, .str gs[i], rfl, rfl, SqL.of hb, atI_nat (by rw [List.getElem?_map, List.getElem?_eq_getElem h2]; rfl), rfl, _, rfl, ?_⟩
        by_cases q : fs[i] = gs[i]
        · refine ite_false_of (by rw [q]; simp) ⟨⟨_, rfl⟩, rfl, ?_⟩
          rw [take_snoc (List.getElem?_eq_getElem h1), take_snoc (List.getElem?_eq_getElem h2), et, q]
        · refine ite_true_of (by simp [q]) ⟨_, rfl, ?_⟩
          rw [← firstDiff_at et (List.getElem?_eq_getElem h1) (List.getElem?_eq_getElem h2) q]
          exact k
      · rintro σ G ⟨⟨v, rfl⟩, rfl, et⟩
        refine ⟨_, rfl, t, _, 0, .ref a, rfl, rfl, SqT.of ht, rfl, a, _, rfl, .inl (SqL.of ha), _, rfl, u, _, 0, .ref b, rfl, rfl, SqT.of hu, rfl, b, _, rfl, .inl (SqL.of hb), _, _, rfl, ?_⟩
        rw [List.length_map, List.length_map, em, ← firstDiff_end et]
        exact k
end
/-! ### what is small -/
structure Sm (K : PySem.W.Frag) (H : Hp) (v : V) (d : PyData) : Prop where
  dq : Dq K H v d
  ok : d.showable = true
  deep : d.depth ≤ 2
  short : d.leavesShort 13 = true
  wt : d.weight ≤ 20
theorem Sm.keep {K : PySem.W.Frag} {H H' : Hp} {v : V} {d : PyData} (h : Sm K H v d) (s : Same H H') : Sm K H' v d := ⟨h.dq.keep s, h.ok, h.deep, h.short, h.wt⟩
theorem le20 {n : Nat} (h : n ≤ 20) : n ≤ 2 ^ 20 := by
  have e : (2 : Nat) ^ 20 = 1048576 := by decide
  omega
theorem Sm.sh {K : PySem.W.Frag} {H : Hp} {v : V} {d : PyData} (h : Sm K H v d) : Sh K H v d := ⟨h.dq, h.ok, by have := h.deep; omega, PyData.shown_fits (B := 13) (by decide) (by decide) h.short (le20 h.wt)⟩
theorem short_name {z : Str} (h : isName z = true) : (PyData.str z).leavesShort 13 = true := by
  have := name_strOk h
  unfold PyData.strOk at this
  rw [← Array.all_toList, List.all_eq_true] at this
  show (z.cps.toList.all fun c => decide (c < 16 ^ 8)) = true
  rw [List.all_eq_true]
  intro c hc
  have h1 := this c hc
  refine decide_eq_true ?_
  have e : (16 : Nat) ^ 8 = 4294967296 := by decide
  have h2 : c < 1114112 := by
    first
      | exact of_decide_eq_true h1
      | (simp at h1; omega)
  omega
theorem sm_name {K : PySem.W.Frag} {H : Hp} {z : Str} (h : isName z = true) : Sm K H (.str z) (.str z) := ⟨.str z, rfl, by show 0 ≤ 2; decide, short_name h, by
  unfold isName at h
  rw [Bool.and_eq_true, Bool.and_eq_true] at h
  have h8 : z.length ≤ 8 := of_decide_eq_true h.1.2
  show z.cps.size ≤ 20
  have : z.length = z.cps.size := rfl
  omega⟩
theorem sm_all {K : PySem.W.Frag} {H : Hp} : ∀ {xs : List V}, (∀ v ∈ xs, ∃ d, Sm K H v d) → ∃ ds, DqAll K H xs ds ∧ PyData.showableAll ds = true ∧ PyData.depthAll ds ≤ 2 ∧ PyData.leavesShortAll 13 ds = true ∧ PyData.weightAll ds ≤ 21 * xs.length
  | [], _ => ⟨[], .nil, rfl, Nat.zero_le _, rfl, Nat.zero_le _⟩
  | v :: xs, h => by
    obtain ⟨d, hd⟩ := h v List.mem_cons_self
    obtain ⟨ds, h1, h2, h3, h4, h5⟩ := sm_all (xs := xs) fun y hy => h y (List.mem_cons_of_mem _ hy)
    refine ⟨d :: ds, .cons hd.dq h1, ?_, ?_, ?_, ?_⟩
    · show (d.showable && PyData.showableAll ds) = true
      rw [hd.ok, h2]; rfl
    · show max d.depth (PyData.depthAll ds) ≤ 2
      have := hd.deep
      omega
    · show (d.leavesShort 13 && PyData.leavesShortAll 13 ds) = true
      rw [hd.short, h4]; rfl
    · show d.weight + 1 + PyData.weightAll ds ≤ 21 * (xs.length + 1)
      have := hd.wt
      omega
theorem sh_lst {K : PySem.W.Frag} {H : Hp} {l : Addr} {xs : List V} (hl : H l = some (.lst xs)) (ne : l ≠ 1) (sz : xs.length ≤ 1000) (h : ∀ v ∈ xs, ∃ d, Sm K H v d) : ∃ d, Sh K H (.ref l) d := by
  obtain ⟨ds, h1, h2, h3, h4, h5⟩ := sm_all h
  refine ⟨.list ds, .lst (SqL.of hl) ne h1, h2, ?_, PyData.shown_fits (B := 13) (by decide) (by decide) h4 ?_⟩
  · show PyData.depthAll ds + 1 ≤ 32
    omega
  · show PyData.weightAll ds ≤ 2 ^ 20
    have e : (2 : Nat) ^ 20 = 1048576 := by decide
    omega
theorem sh_tup {K : PySem.W.Frag} {H : Hp} {l : Addr} {xs : List V} (hl : H l = some (.tup xs)) (sz : xs.length ≤ 1000) (h : ∀ v ∈ xs, ∃ d, Sm K H v d) : ∃ d, Sh K H (.ref l) d := by
  obtain ⟨ds, h1, h2, h3, h4, h5⟩ := sm_all h
  refine ⟨.tuple ds, .tup (SqT.of hl) h1, h2, ?_, PyData.shown_fits (B := 13) (by decide) (by decide) h4 ?_⟩
  · show PyData.depthAll ds + 1 ≤ 32
    omega
  · show PyData.weightAll ds ≤ 2 ^ 20
    have e : (2 : Nat) ^ 20 = 1048576 := by decide
    omega
end Lw

set_option Elab.async false
set_option linter.all false
set_option maxRecDepth 100000
set_option maxHeartbeats 1000000
/-! _law_bad_fields. -/
namespace Lw
open PySem L2 Two Pr ClX SlX
abbrev sBadF : Stmt := top 47
/-- the object of sys.modules stands, apart -/
def Sys (H : Hp) : Prop := ∃ o, H 1 = some (.frz o (.own 0))
theorem Sys.ne {H : Hp} {p : Addr} (s : Sys H) (h : H p = none) : p ≠ 1 := fun e => by
  obtain ⟨o, h1⟩ := s
  rw [e, h1] at h
  cases h
theorem Sys.src {H : Hp} {l : Addr} {n : Nat} (s : Sys H) (h : Src H l n) : (1 : Addr) ≠ l := fun e => by
  obtain ⟨o, h1⟩ := s
  obtain ⟨x, y, c, h2, _⟩ := h
  rw [← e, h1] at h2
  cases h2
theorem Sys.keep {H H' : Hp} (s : Sys H) (k : Same H H') : Sys H' := let ⟨o, h⟩ := s; ⟨o, k _ _ h⟩
theorem Sys.but {H H' : Hp} {l : Addr} {n : Nat} (s : Sys H) (h : Src H l n) (k : But (· = l) H H') : Sys H' := let ⟨o, h1⟩ := s; ⟨o, k _ _ (s.src h) h1⟩
structure OddS (K : PySem.W.Frag) (H : Hp) (y : V) (d : PyData) : Prop where
  sm : Sm K H y d
  item : ItemL K H y
  no : isNm y = false
  txt : PyData.strOk d.shown = true
theorem OddS.keep {K : PySem.W.Frag} {H H' : Hp} {y : V} {d : PyData} (h : OddS K H y d) (s : Same H H') : OddS K H' y d := ⟨h.sm.keep s, h.item.keep s, h.no, h.txt⟩
def BadF (K : PySem.W.Frag) (H : Hp) (x : V) : Prop := (∃ d, Sh K H x d) ∧ ∀ fs : List Str, (∀ z ∈ fs, isName z = true) → ∃ res, AddL K H fs x res ∧ SeqAt.shaped res = true
def spBadF (K : PySem.W.Frag) : Sp := fun vs H Q _ => ∃ (l : Addr) (nv : V) (n : Nat), vs = [.ref l, nv] ∧ Src H l n ∧ n ≤ 700000 ∧ Sys H ∧ ∀ H' x, But (· = l) H H' → Src H' l (n + 20) → BadF K H' x → Q x H'
abbrev nBadF : List Str := ["_law_well_here", "_law_names_here", "_law_some", "_law_at", "_law_odd", "_law_ways"]
theorem scBadF : FnScope nBadF ["_law_well_here", "_law_names_here"] (defScope sBadF) := ⟨rfl, rfl, rfl, by decide +kernel, rfl, by decide +kernel, by decide +kernel⟩
theorem cutFrom (xs : List V) (p : Nat) : cutV xs (some (p : Int)) none = xs.drop p := by
  unfold cutV
  have e : HT.sIx xs.length 0 (some (p : Int)) = min p xs.length := HT.sIx_nat xs.length 0 p
  rw [e, HT.sIx_none]
  by_cases h : p ≤ xs.length
  · rw [Nat.min_eq_left h, List.take_of_length_le (by rw [List.length_drop]; omega)]
  · rw [Nat.min_eq_right (by omega), List.drop_of_length_le (Nat.le_refl _), List.drop_of_length_le (by omega)]
    simp
theorem notStr_ty {K : PySem.W.Frag} {H : Hp} {x : V} {T : String} (ty : ∀ H', Same H H' → TyX K H' x (.type T)) (k : PySem.W.kitOne K (.type T) (.type "str") = some false) (n : ∀ z, x ≠ .str z) : ItemL K H x := .inr fun H' s => ⟨⟨_, ty H' s, k⟩, n⟩
section
variable {K : PySem.W.Frag} {H : Hp}
theorem odd_str {z : Str} (h1 : PyData.strOk z = true) (h2 : z.length ≤ 20) (h3 : (PyData.str z).leavesShort 13 = true) (h4 : isName z = false) (h5 : PyData.strOk (PyData.str z).shown = true) : OddS K H (.str z) (.str z) :=
  ⟨⟨.str z, rfl, by show 0 ≤ 2; decide, h3, h2⟩, .inl ⟨z, rfl, h1, Nat.le_trans h2 (by decide)⟩, h4, h5⟩
theorem odd_non : OddS K H .non .none := ⟨⟨.non, rfl, by decide, rfl, by decide⟩, notStr_ty (T := "NoneType") (fun _ _ => .base .non) (kit_ty (by decide +kernel)) (fun _ z => nomatch z), rfl, by decide +kernel⟩
theorem odd_bl (b : Bool) : OddS K H (.bl b) (.bool b) := ⟨⟨.bl b, rfl, by cases b <;> decide, by cases b <;> rfl, by cases b <;> decide⟩, notStr_ty (T := "bool") (fun _ _ => .base (.bl b)) (kit_ty (by decide +kernel)) (fun _ z => nomatch z), rfl, by cases b <;> decide +kernel⟩
theorem odd_seven : OddS K H (.int 7) (.int 7) := ⟨⟨.int 7, by decide +kernel, by decide, by decide +kernel, by decide +kernel⟩, notStr_ty (T := "int") (fun _ _ => .base (.int 7)) (kit_ty (by decide +kernel)) (fun _ z => nomatch z), rfl, by decide +kernel⟩
theorem odd_tup {p : Addr} (h : H p = some (.tup [.str "a"])) : OddS K H (.ref p) (.tuple [.str "a"]) := ⟨⟨.tup (SqT.of h) (.cons (.str _) .nil), rfl, by decide, by decide +kernel, by decide +kernel⟩, notStr_ty (T := "tuple") (fun _ s => .base (.tup (s _ _ h))) (kit_ty (by decide +kernel)) (fun _ z => nomatch z), rfl, by decide +kernel⟩
theorem odd_lst {p : Addr} (h : H p = some (.lst [.str "a"])) (ne : p ≠ 1) : OddS K H (.ref p) (.list [.str "a"]) := ⟨⟨.lst (SqL.of h) ne (.cons (.str _) .nil), rfl, by decide, by decide +kernel, by decide +kernel⟩, notStr_ty (T := "list") (fun _ s => .base (.lst (s _ _ h))) (kit_ty (by decide +kernel)) (fun _ z => nomatch z), rfl, by decide +kernel⟩
theorem odd_dic {p : Addr} (h : H p = some (.dK [])) : OddS K H (.ref p) (.dict []) := ⟨⟨.dic (kvs := []) h, rfl, by decide, by decide +kernel, by decide +kernel⟩, notStr_ty (T := "dict") (fun _ s => .base (.dK (s _ _ h))) (kit_ty (by decide +kernel)) (fun _ z => nomatch z), rfl, by decide +kernel⟩
theorem shaped_name {z : Str} (h : PyData.strOk z = true) : SeqAt.shaped (.tuple [.str "name", .str z]) = true := by
  unfold SeqAt.shaped
  have a : (PyData.tuple [.str "name", .str z]).canLay0 = true := by
    show (PyData.strOk "name" && (PyData.strOk z && true)) = true
    rw [h, show PyData.strOk "name" = true from by decide +kernel]
    rfl
  rw [a]
  rfl
theorem shaped_told {fs : List Str} (h : ∀ z ∈ fs, isName z = true) : SeqAt.shaped (.tuple [.str "told", .list (fs.map PyData.str)]) = true := by
  unfold SeqAt.shaped
  have a : (PyData.tuple [.str "told", .list (fs.map PyData.str)]).canLay0 = true := by
    show (PyData.strOk "told" && (PyData.canLayAll0 (fs.map PyData.str) && true)) = true
    rw [lay_strs fs h, show PyData.strOk "told" = true from by decide +kernel]
    rfl
  have b : (PyData.tuple [.str "told", .list (fs.map PyData.str)]).depth ≤ 64 := by
    show max 0 (max (PyData.depthAll (fs.map PyData.str) + 1) 0) + 1 ≤ 64
    have := depth_strs fs
    omega
  rw [a, decide_eq_true b]
  rfl
theorem badF_notL {x : V} {T : String} {d : PyData} (sh : Sh K H x d) (ty : ∀ H', Same H H' → TyX K H' x (.type T)) (o : T = "tuple" ∨ T = "str" ∨ T = "dict" ∨ T = "NoneType") : BadF K H x := ⟨⟨d, sh⟩, fun fs _ => ⟨_, .notL ty o, by decide +kernel⟩⟩
theorem badF_odd {l : Addr} {as bs : List Str} {y : V} {d : PyData} (h : H l = some (.lst (as.map V.str ++ [y] ++ bs.map V.str))) (ne : l ≠ 1) (na : ∀ z ∈ as, isName z = true) (nb : ∀ z ∈ bs, isName z = true) (sz : as.length + bs.length ≤ 900) (o : OddS K H y d) : BadF K H (.ref l) := by
  refine ⟨sh_lst h ne (by simp only [List.length_append, List.length_map, List.length_singleton]; omega) fun v hv => ?_, fun fs _ => ⟨_, .bad (i := as.length) (y := y) (d := d) h (fun v hv => ?_) ?_ ?_ o.no o.sm.sh, shaped_name o.txt⟩⟩
  · rcases List.mem_append.mp hv with hv | hv
    · rcases List.mem_append.mp hv with hv | hv
      · obtain ⟨z, hz, rfl⟩ := List.mem_map.mp hv
        exact ⟨_, sm_name (na z hz)⟩
      · rw [List.mem_singleton.mp hv]; exact ⟨_, o.sm⟩
    · obtain ⟨z, hz, rfl⟩ := List.mem_map.mp hv
      exact ⟨_, sm_name (nb z hz)⟩
  · rcases List.mem_append.mp hv with hv | hv
    · rcases List.mem_append.mp hv with hv | hv
      · obtain ⟨z, hz, rfl⟩ := List.mem_map.mp hv
        exact itemL_name (na z hz)
      · rw [List.mem_singleton.mp hv]; exact o.item
    · obtain ⟨z, hz, rfl⟩ := List.mem_map.mp hv
      exact itemL_name (nb z hz)
  · rw [List.append_assoc, List.getElem?_append_right (by rw [List.length_map]; exact Nat.le_refl _), List.length_map, Nat.sub_self]
    rfl
  · rw [List.append_assoc, List.take_left' (by rw [List.length_map])]
    exact names_all na
theorem badF_fine {l : Addr} {gs : List Str} (h : H l = some (.lst (gs.map V.str))) (ne : l ≠ 1) (nm : ∀ z ∈ gs, isName z = true) (nd : gs.Nodup) (m : gs.length ≤ 6) : BadF K H (.ref l) :=
  ⟨sh_lst h ne (by rw [List.length_map]; omega) fun v hv => by obtain ⟨z, hz, rfl⟩ := List.mem_map.mp hv; exact ⟨_, sm_name (nm z hz)⟩, fun fs nf => ⟨_, .fine h nm nd m, shaped_told fun z hz => (List.mem_append.mp hz).elim (nf z) (nm z)⟩⟩
theorem badF_twice {l : Addr} {gs : List Str} {z : Str} (h : H l = some (.lst ((z :: gs ++ [z]).map V.str))) (ne : l ≠ 1) (nz : z ∈ NM) (nm : ∀ z ∈ gs, isName z = true) (nd : (z :: gs).Nodup) (m : gs.length ≤ 6) : BadF K H (.ref l) := by
  have nzz := nm_name z nz
  have nms : ∀ y ∈ z :: gs ++ [z], isName y = true := fun y hy => by
    rcases List.mem_append.mp hy with hy | hy
    · rcases List.mem_cons.mp hy with rfl | hy
      · exact nzz
      · exact nm y hy
    · rw [List.mem_singleton.mp hy]; exact nzz
  refine ⟨sh_lst h ne (by simp only [List.length_map, List.length_append, List.length_cons, List.length_nil]; omega) fun v hv => ?_, fun fs nf => ⟨_, .twice h nms (by simp only [List.length_append, List.length_cons, List.length_nil]; omega) (z := z) ?_, ?_⟩⟩
  · obtain ⟨y, hy, rfl⟩ := List.mem_map.mp hv
    exact ⟨_, sm_name (nms y hy)⟩
  · refine ⟨(z :: gs).length, ?_, ?_, ?_⟩
    · rw [List.map_append, List.getElem?_append_right (by rw [List.length_map]; exact Nat.le_refl _), List.length_map, Nat.sub_self]; rfl
    · rw [List.map_append, List.take_left' (by rw [List.length_map])]; exact List.mem_map.mpr ⟨z, List.mem_cons_self, rfl⟩
    · rw [List.map_append, List.take_left' (by rw [List.length_map])]; exact nodup_inr.mpr nd
  · have : ∀ z ∈ NM, SeqAt.shaped (.tuple [.str "twice", .str (PyData.str z).shown]) = true := by decide +kernel
    exact this z nz
end
section
variable {P : Program} {w : World} {K : PySem.W.Frag} {mg : Str → Option Value} {base : Heap}
theorem ok_badF {f fD fO fF : Addr} {fd dD dO dF : FuncData} (F : Fun K "_law_bad_fields" "_law_bad_fields" sBadF f fd) (T : TxtX mg) (tup : mg "tuple" = none)
    (gD : mg "_law_draw" = some (.ref fD)) (kD : PySem.W.keepIn K (.ref fD) = true) (bD : Binds K dD ["_law_well_here", "_law_many"] []) (GD : FnOk P w K mg base CX0 1 fD dD ["_law_well_here", "_law_many"] spDraw)
    (gO : mg "_law_one" = some (.ref fO)) (kO : PySem.W.keepIn K (.ref fO) = true) (bO : Binds K dO ["_law_well_here", "_law_some"] []) (GO : FnOk P w K mg base CX0 2 fO dO ["_law_well_here", "_law_some"] (spOne K))
    (gF : mg "_law_fields" = some (.ref fF)) (kF : PySem.W.keepIn K (.ref fF) = true) (bF : Binds K dF ["_law_well_here", "_law_most"] []) (GF : FnOk P w K mg base CX0 2 fF dF ["_law_well_here", "_law_most"] spFieldsL) :
    FnOk P w K mg base CX0 3 f fd ["_law_well_here", "_law_names_here"] (spBadF K) := by
  refine F.ok scBadF (fun vs H Q E h => ?_) (fun cdv A outer s H vs Q E hr h => ?_)
  · obtain ⟨l, nv, n, rfl, _⟩ := h
    rfl
  · obtain ⟨l, nv, n, rfl, src, hn, sys, k⟩ := h
    have hr1 : Room 1 _ := hr.mono (by decide)
    refine ⟨_, pss_cons (ps_set (i := 2) scBadF.nd rfl (Or.inl rfl) (pe_call GF hr rfl gF kF bF .nil pass0 (pa_cons (pv 0) (pa_cons pe_int pa_nil))))
      (pss_cons (ps_set (i := 3) scBadF.nd rfl (Or.inl rfl) (pe_call GD hr1 rfl gD kD bD .nil pass0 (pa_cons (pv 0) (pa_cons (pe_op op_add (pe_callB call_len_seq (by rfl) T.len PySem.boot_len (pa_cons (pv 2) pa_nil)) pe_int) pa_nil))))
      (pss_cons (ps_set (i := 4) scBadF.nd rfl (Or.inl rfl) (pe_call GO hr rfl gO kO bO .nil pass0 (pa_cons (pv 0) (pa_cons (pe_lst (pa_cons pe_str (pa_cons pe_str (pa_cons pe_str (pa_cons pe_str (pa_cons pe_non (pa_cons pe_bl (pa_cons pe_int (pa_cons (pe_tup (pa_cons pe_str pa_nil)) (pa_cons (pe_lst (pa_cons pe_str pa_nil)) (pa_cons pe_dnewK (pa_cons pe_str pa_nil)))))))))))) pa_nil))))
      (pss_cons (ps_set (i := 5) scBadF.nd rfl (Or.inl rfl) (pe_lst (pa_cons (pv 2) (pa_cons (pe_op op_cat (pe_op op_cat (pe_slice sl_list (pv 2) po_none (po_some (pv 3))) (pe_lst (pa_cons (pv 4) pa_nil))) (pe_slice sl_list (pv 2) (po_some (pv 3)) po_none)) (pa_cons (pe_op op_cat (pv 2) (pe_slice sl_list (pv 2) po_none (po_some pe_int)))
        (pa_cons (pe_callTy call_tuple_of (by rfl) tup (by decide +kernel) (pa_cons (pv 2) pa_nil)) (pa_cons pe_non (pa_cons pe_str (pa_cons pe_dnewK pa_nil)))))))))
      (pss_one (ps_ret (pe_call GO hr rfl gO kO bO .nil pass0 (pa_cons (pv 0) (pa_cons (pe_op op_cat (pv 5) (pe_lst (pa_cons (pe_lst (pa_cons pe_str (pa_cons pe_str (pa_cons pe_str (pa_cons pe_str (pa_cons pe_str (pa_cons pe_str (pa_cons pe_str pa_nil)))))))) (pa_cons (pe_op op_cat (pe_op op_cat (pv 2) (pv 2)) (pe_lst (pa_cons (pv 4) pa_nil))) pa_nil)))) pa_nil)))))))), ?_⟩
    refine ⟨_, rfl, l, 6, n, rfl, by decide, src, by omega, fun H1 S so b1 src1 nS hS lenS ndS nmS => ?_⟩
    have Sl := src_none src nS
    have sys1 := sys.but src b1
    have Sne : S ≠ 1 := sys.ne nS
    refine ⟨_, rfl, _, rfl, S, _, rfl, .inl (SqL.of hS), _, _, rfl, rfl, l, _, n + 7, rfl, by rw [List.length_map]; omega, by rw [List.length_map]; omega, src1, by omega, fun H2 d b2 src2 d0 d1 => ?_⟩
    obtain ⟨pl, rfl⟩ := Int.eq_ofNat_of_zero_le d0
    rw [List.length_map] at d1
    have hpl : pl ≤ so.length := by omega
    replace hS := b2 _ _ Sl hS
    have sys2 := sys1.but src1 b2
    have b12 := but_trans b1 b2
    refine ⟨_, rfl, by show 1 ≤ sizeLine; decide, fun p1 m1 => ?_⟩
    have tp1 : Same H2 (upd H2 p1 (.tup [.str "a"])) := same_new m1
    have ep1 : (upd H2 p1 (.tup [.str "a"])) p1 = some (.tup [.str "a"]) := upd_same
    have yp1 : p1 ≠ 1 := sys2.ne m1
    have lp1 : p1 ≠ l := src_none src2 m1
    generalize upd H2 p1 (.tup [.str "a"]) = Gp1 at tp1 ep1 ⊢
    have sysp1 := sys2.keep tp1
    have srcp1 := src2.keep tp1
    replace hS := tp1 _ _ hS
    refine ⟨by show 1 ≤ sizeLine; decide, fun p2 m2 => ?_⟩
    have tp2 : Same Gp1 (upd Gp1 p2 (.lst [.str "a"])) := same_new m2
    have ep2 : (upd Gp1 p2 (.lst [.str "a"])) p2 = some (.lst [.str "a"]) := upd_same
    have yp2 : p2 ≠ 1 := sysp1.ne m2
    have lp2 : p2 ≠ l := src_none srcp1 m2
    generalize upd Gp1 p2 (.lst [.str "a"]) = Gp2 at tp2 ep2 ⊢
    have sysp2 := sysp1.keep tp2
    have srcp2 := srcp1.keep tp2
    replace hS := tp2 _ _ hS
    replace ep1 := tp2 _ _ ep1
    refine fun p3 m3 => ?_
    have tp3 : Same Gp2 (upd Gp2 p3 (.dK [])) := same_new m3
    have ep3 : (upd Gp2 p3 (.dK [])) p3 = some (.dK []) := upd_same
    have yp3 : p3 ≠ 1 := sysp2.ne m3
    have lp3 : p3 ≠ l := src_none srcp2 m3
    generalize upd Gp2 p3 (.dK []) = Gp3 at tp3 ep3 ⊢
    have sysp3 := sysp2.keep tp3
    have srcp3 := srcp2.keep tp3
    replace hS := tp3 _ _ hS
    replace ep1 := tp3 _ _ ep1
    replace ep2 := tp3 _ _ ep2
    refine ⟨by show 11 ≤ sizeLine; decide, fun p4 m4 => ?_⟩
    have tp4 : Same Gp3 (upd Gp3 p4 (.lst [.str "", .str "A", .str "a1", .str "abcdefghi", .non, .bl true, .int 7, .ref p1, .ref p2, .ref p3, .str "a\n"])) := same_new m4
    have ep4 : (upd Gp3 p4 (.lst [.str "", .str "A", .str "a1", .str "abcdefghi", .non, .bl true, .int 7, .ref p1, .ref p2, .ref p3, .str "a\n"])) p4 = some (.lst [.str "", .str "A", .str "a1", .str "abcdefghi", .non, .bl true, .int 7, .ref p1, .ref p2, .ref p3, .str "a\n"]) := upd_same
    have yp4 : p4 ≠ 1 := sysp3.ne m4
    have lp4 : p4 ≠ l := src_none srcp3 m4
    generalize upd Gp3 p4 (.lst [.str "", .str "A", .str "a1", .str "abcdefghi", .non, .bl true, .int 7, .ref p1, .ref p2, .ref p3, .str "a\n"]) = Gp4 at tp4 ep4 ⊢
    have sysp4 := sysp3.keep tp4
    have srcp4 := srcp3.keep tp4
    replace hS := tp4 _ _ hS
    replace ep1 := tp4 _ _ ep1
    replace ep2 := tp4 _ _ ep2
    replace ep3 := tp4 _ _ ep3
    refine ⟨l, p4, n + 8, _, rfl, srcp4, by omega, SqL.of ep4, lp4, (fun z => nomatch z), by show 11 ≤ 1000; decide, fun H3 y b3 src3 hy => ?_⟩
    have bA : But (· = l) H H3 := but_trans b12 (but_trans (but_same (((tp1.trans tp2).trans tp3).trans tp4)) b3)
    replace hS := b3 _ _ Sl hS
    replace ep1 := b3 _ _ lp1 ep1
    replace ep2 := b3 _ _ lp2 ep2
    replace ep3 := b3 _ _ lp3 ep3
    have sys3 := sysp4.but srcp4 b3
    clear ep4
    have sz1 : ∀ n : Nat, n ≤ 100 → n ≤ sizeLine := fun n h => Nat.le_trans h (by decide)
    refine ⟨_, rfl, _, rfl, _, rfl, pl, rfl, S, _, rfl, SqL.of hS, fun q1 w1 => ?_⟩
    have tq1 : Same H3 (upd H3 q1 (.lst (cutV (so.map V.str) none (some (pl : Int))))) := same_new w1
    have eq1 : (upd H3 q1 (.lst (cutV (so.map V.str) none (some (pl : Int))))) q1 = some (.lst (cutV (so.map V.str) none (some (pl : Int)))) := upd_same
    have yq1 : q1 ≠ 1 := sys3.ne w1
    have lq1 : q1 ≠ l := src_none src3 w1
    generalize upd H3 q1 (.lst (cutV (so.map V.str) none (some (pl : Int)))) = Gq1 at tq1 eq1 ⊢
    rw [cutTo, ← List.map_take] at eq1
    have sysq1 := sys3.keep tq1
    have srcq1 := src3.keep tq1
    replace hS := tq1 _ _ hS
    replace ep1 := tq1 _ _ ep1
    replace ep2 := tq1 _ _ ep2
    replace ep3 := tq1 _ _ ep3
    refine ⟨_, rfl, by show 1 ≤ sizeLine; decide, fun q2 w2 => ?_⟩
    have tq2 : Same Gq1 (upd Gq1 q2 (.lst [y])) := same_new w2
    have eq2 : (upd Gq1 q2 (.lst [y])) q2 = some (.lst [y]) := upd_same
    have yq2 : q2 ≠ 1 := sysq1.ne w2
    have lq2 : q2 ≠ l := src_none srcq1 w2
    generalize upd Gq1 q2 (.lst [y]) = Gq2 at tq2 eq2 ⊢
    have sysq2 := sysq1.keep tq2
    have srcq2 := srcq1.keep tq2
    replace hS := tq2 _ _ hS
    replace ep1 := tq2 _ _ ep1
    replace ep2 := tq2 _ _ ep2
    replace ep3 := tq2 _ _ ep3
    replace eq1 := tq2 _ _ eq1
    refine ⟨q1, q2, _, _, rfl, rfl, eq1, eq2, sz1 _ (by rw [List.length_map, List.length_take]; show _ + 1 ≤ 100; omega), fun q3 w3 => ?_⟩
    have tq3 : Same Gq2 (upd Gq2 q3 (.lst ((so.take pl).map V.str ++ [y]))) := same_new w3
    have eq3 : (upd Gq2 q3 (.lst ((so.take pl).map V.str ++ [y]))) q3 = some (.lst ((so.take pl).map V.str ++ [y])) := upd_same
    have yq3 : q3 ≠ 1 := sysq2.ne w3
    have lq3 : q3 ≠ l := src_none srcq2 w3
    generalize upd Gq2 q3 (.lst ((so.take pl).map V.str ++ [y])) = Gq3 at tq3 eq3 ⊢
    have sysq3 := sysq2.keep tq3
    have srcq3 := srcq2.keep tq3
    replace hS := tq3 _ _ hS
    replace ep1 := tq3 _ _ ep1
    replace ep2 := tq3 _ _ ep2
    replace ep3 := tq3 _ _ ep3
    replace eq1 := tq3 _ _ eq1
    replace eq2 := tq3 _ _ eq2
    refine ⟨_, rfl, _, rfl, pl, rfl, S, _, rfl, SqL.of hS, fun q4 w4 => ?_⟩
    have tq4 : Same Gq3 (upd Gq3 q4 (.lst (cutV (so.map V.str) (some (pl : Int)) none))) := same_new w4
    have eq4 : (upd Gq3 q4 (.lst (cutV (so.map V.str) (some (pl : Int)) none))) q4 = some (.lst (cutV (so.map V.str) (some (pl : Int)) none)) := upd_same
    have yq4 : q4 ≠ 1 := sysq3.ne w4
    have lq4 : q4 ≠ l := src_none srcq3 w4
    generalize upd Gq3 q4 (.lst (cutV (so.map V.str) (some (pl : Int)) none)) = Gq4 at tq4 eq4 ⊢
    rw [cutFrom, ← List.map_drop] at eq4
    have sysq4 := sysq3.keep tq4
    have srcq4 := srcq3.keep tq4
    replace hS := tq4 _ _ hS
    replace ep1 := tq4 _ _ ep1
    replace ep2 := tq4 _ _ ep2
    replace ep3 := tq4 _ _ ep3
    replace eq1 := tq4 _ _ eq1
    replace eq2 := tq4 _ _ eq2
    replace eq3 := tq4 _ _ eq3
    refine ⟨q3, q4, _, _, rfl, rfl, eq3, eq4, sz1 _ (by rw [List.length_append, List.length_map, List.length_map, List.length_take, List.length_drop]; show _ + 1 + _ ≤ 100; omega), fun q5 w5 => ?_⟩
    have tq5 : Same Gq4 (upd Gq4 q5 (.lst ((so.take pl).map V.str ++ [y] ++ (so.drop pl).map V.str))) := same_new w5
    have eq5 : (upd Gq4 q5 (.lst ((so.take pl).map V.str ++ [y] ++ (so.drop pl).map V.str))) q5 = some (.lst ((so.take pl).map V.str ++ [y] ++ (so.drop pl).map V.str)) := upd_same
    have yq5 : q5 ≠ 1 := sysq4.ne w5
    have lq5 : q5 ≠ l := src_none srcq4 w5
    generalize upd Gq4 q5 (.lst ((so.take pl).map V.str ++ [y] ++ (so.drop pl).map V.str)) = Gq5 at tq5 eq5 ⊢
    have sysq5 := sysq4.keep tq5
    have srcq5 := srcq4.keep tq5
    replace hS := tq5 _ _ hS
    replace ep1 := tq5 _ _ ep1
    replace ep2 := tq5 _ _ ep2
    replace ep3 := tq5 _ _ ep3
    replace eq1 := tq5 _ _ eq1
    replace eq2 := tq5 _ _ eq2
    replace eq3 := tq5 _ _ eq3
    replace eq4 := tq5 _ _ eq4
    refine ⟨_, rfl, _, rfl, 1, rfl, S, _, rfl, SqL.of hS, fun q6 w6 => ?_⟩
    have tq6 : Same Gq5 (upd Gq5 q6 (.lst (cutV (so.map V.str) none (some 1)))) := same_new w6
    have eq6 : (upd Gq5 q6 (.lst (cutV (so.map V.str) none (some 1)))) q6 = some (.lst (cutV (so.map V.str) none (some 1))) := upd_same
    have yq6 : q6 ≠ 1 := sysq5.ne w6
    have lq6 : q6 ≠ l := src_none srcq5 w6
    generalize upd Gq5 q6 (.lst (cutV (so.map V.str) none (some 1))) = Gq6 at tq6 eq6 ⊢
    rw [show cutV (so.map V.str) none (some 1) = (so.take 1).map V.str from by rw [List.map_take]; exact cutTo _ 1] at eq6
    have sysq6 := sysq5.keep tq6
    have srcq6 := srcq5.keep tq6
    replace hS := tq6 _ _ hS
    replace ep1 := tq6 _ _ ep1
    replace ep2 := tq6 _ _ ep2
    replace ep3 := tq6 _ _ ep3
    replace eq1 := tq6 _ _ eq1
    replace eq2 := tq6 _ _ eq2
    replace eq3 := tq6 _ _ eq3
    replace eq4 := tq6 _ _ eq4
    replace eq5 := tq6 _ _ eq5
    refine ⟨S, q6, _, _, rfl, rfl, hS, eq6, sz1 _ (by rw [List.length_map, List.length_map, List.length_take]; omega), fun q7 w7 => ?_⟩
    have tq7 : Same Gq6 (upd Gq6 q7 (.lst ((so.map V.str) ++ (so.take 1).map V.str))) := same_new w7
    have eq7 : (upd Gq6 q7 (.lst ((so.map V.str) ++ (so.take 1).map V.str))) q7 = some (.lst ((so.map V.str) ++ (so.take 1).map V.str)) := upd_same
    have yq7 : q7 ≠ 1 := sysq6.ne w7
    have lq7 : q7 ≠ l := src_none srcq6 w7
    generalize upd Gq6 q7 (.lst ((so.map V.str) ++ (so.take 1).map V.str)) = Gq7 at tq7 eq7 ⊢
    have sysq7 := sysq6.keep tq7
    have srcq7 := srcq6.keep tq7
    replace hS := tq7 _ _ hS
    replace ep1 := tq7 _ _ ep1
    replace ep2 := tq7 _ _ ep2
    replace ep3 := tq7 _ _ ep3
    replace eq1 := tq7 _ _ eq1
    replace eq2 := tq7 _ _ eq2
    replace eq3 := tq7 _ _ eq3
    replace eq4 := tq7 _ _ eq4
    replace eq5 := tq7 _ _ eq5
    replace eq6 := tq7 _ _ eq6
    refine ⟨_, rfl, S, _, rfl, .inl ⟨SqL.of hS, fun q8 w8 => ?_⟩⟩
    have tq8 : Same Gq7 (upd Gq7 q8 (.tup (so.map V.str))) := same_new w8
    have eq8 : (upd Gq7 q8 (.tup (so.map V.str))) q8 = some (.tup (so.map V.str)) := upd_same
    have yq8 : q8 ≠ 1 := sysq7.ne w8
    have lq8 : q8 ≠ l := src_none srcq7 w8
    generalize upd Gq7 q8 (.tup (so.map V.str)) = Gq8 at tq8 eq8 ⊢
    have sysq8 := sysq7.keep tq8
    have srcq8 := srcq7.keep tq8
    replace hS := tq8 _ _ hS
    replace ep1 := tq8 _ _ ep1
    replace ep2 := tq8 _ _ ep2
    replace ep3 := tq8 _ _ ep3
    replace eq1 := tq8 _ _ eq1
    replace eq2 := tq8 _ _ eq2
    replace eq3 := tq8 _ _ eq3
    replace eq4 := tq8 _ _ eq4
    replace eq5 := tq8 _ _ eq5
    replace eq6 := tq8 _ _ eq6
    replace eq7 := tq8 _ _ eq7
    refine fun q9 w9 => ?_
    have tq9 : Same Gq8 (upd Gq8 q9 (.dK [])) := same_new w9
    have eq9 : (upd Gq8 q9 (.dK [])) q9 = some (.dK []) := upd_same
    have yq9 : q9 ≠ 1 := sysq8.ne w9
    have lq9 : q9 ≠ l := src_none srcq8 w9
    generalize upd Gq8 q9 (.dK []) = Gq9 at tq9 eq9 ⊢
    have sysq9 := sysq8.keep tq9
    have srcq9 := srcq8.keep tq9
    replace hS := tq9 _ _ hS
    replace ep1 := tq9 _ _ ep1
    replace ep2 := tq9 _ _ ep2
    replace ep3 := tq9 _ _ ep3
    replace eq1 := tq9 _ _ eq1
    replace eq2 := tq9 _ _ eq2
    replace eq3 := tq9 _ _ eq3
    replace eq4 := tq9 _ _ eq4
    replace eq5 := tq9 _ _ eq5
    replace eq6 := tq9 _ _ eq6
    replace eq7 := tq9 _ _ eq7
    replace eq8 := tq9 _ _ eq8
    refine ⟨by show 7 ≤ sizeLine; decide, fun qa wa => ?_⟩
    have tqa : Same Gq9 (upd Gq9 qa (.lst [.ref S, .ref q5, .ref q7, .ref q8, .non, .str "ab", .ref q9])) := same_new wa
    have eqa : (upd Gq9 qa (.lst [.ref S, .ref q5, .ref q7, .ref q8, .non, .str "ab", .ref q9])) qa = some (.lst [.ref S, .ref q5, .ref q7, .ref q8, .non, .str "ab", .ref q9]) := upd_same
    have yqa : qa ≠ 1 := sysq9.ne wa
    have lqa : qa ≠ l := src_none srcq9 wa
    generalize upd Gq9 qa (.lst [.ref S, .ref q5, .ref q7, .ref q8, .non, .str "ab", .ref q9]) = Gqa at tqa eqa ⊢
    have sysqa := sysq9.keep tqa
    have srcqa := srcq9.keep tqa
    replace hS := tqa _ _ hS
    replace ep1 := tqa _ _ ep1
    replace ep2 := tqa _ _ ep2
    replace ep3 := tqa _ _ ep3
    replace eq1 := tqa _ _ eq1
    replace eq2 := tqa _ _ eq2
    replace eq3 := tqa _ _ eq3
    replace eq4 := tqa _ _ eq4
    replace eq5 := tqa _ _ eq5
    replace eq6 := tqa _ _ eq6
    replace eq7 := tqa _ _ eq7
    replace eq8 := tqa _ _ eq8
    replace eq9 := tqa _ _ eq9
    refine ⟨_, rfl, _, rfl, by show 7 ≤ sizeLine; decide, fun qb wb => ?_⟩
    have tqb : Same Gqa (upd Gqa qb (.lst [.str "a", .str "b", .str "c", .str "d", .str "ab", .str "eightlet", .str "g"])) := same_new wb
    have eqb : (upd Gqa qb (.lst [.str "a", .str "b", .str "c", .str "d", .str "ab", .str "eightlet", .str "g"])) qb = some (.lst [.str "a", .str "b", .str "c", .str "d", .str "ab", .str "eightlet", .str "g"]) := upd_same
    have yqb : qb ≠ 1 := sysqa.ne wb
    have lqb : qb ≠ l := src_none srcqa wb
    generalize upd Gqa qb (.lst [.str "a", .str "b", .str "c", .str "d", .str "ab", .str "eightlet", .str "g"]) = Gqb at tqb eqb ⊢
    have sysqb := sysqa.keep tqb
    have srcqb := srcqa.keep tqb
    replace hS := tqb _ _ hS
    replace ep1 := tqb _ _ ep1
    replace ep2 := tqb _ _ ep2
    replace ep3 := tqb _ _ ep3
    replace eq1 := tqb _ _ eq1
    replace eq2 := tqb _ _ eq2
    replace eq3 := tqb _ _ eq3
    replace eq4 := tqb _ _ eq4
    replace eq5 := tqb _ _ eq5
    replace eq6 := tqb _ _ eq6
    replace eq7 := tqb _ _ eq7
    replace eq8 := tqb _ _ eq8
    replace eq9 := tqb _ _ eq9
    replace eqa := tqb _ _ eqa
    refine ⟨_, rfl, _, rfl, S, S, _, _, rfl, rfl, hS, hS, sz1 _ (by rw [List.length_map]; omega), fun qc wc => ?_⟩
    have tqc : Same Gqb (upd Gqb qc (.lst ((so.map V.str) ++ (so.map V.str)))) := same_new wc
    have eqc : (upd Gqb qc (.lst ((so.map V.str) ++ (so.map V.str)))) qc = some (.lst ((so.map V.str) ++ (so.map V.str))) := upd_same
    have yqc : qc ≠ 1 := sysqb.ne wc
    have lqc : qc ≠ l := src_none srcqb wc
    generalize upd Gqb qc (.lst ((so.map V.str) ++ (so.map V.str))) = Gqc at tqc eqc ⊢
    have sysqc := sysqb.keep tqc
    have srcqc := srcqb.keep tqc
    replace hS := tqc _ _ hS
    replace ep1 := tqc _ _ ep1
    replace ep2 := tqc _ _ ep2
    replace ep3 := tqc _ _ ep3
    replace eq1 := tqc _ _ eq1
    replace eq2 := tqc _ _ eq2
    replace eq3 := tqc _ _ eq3
    replace eq4 := tqc _ _ eq4
    replace eq5 := tqc _ _ eq5
    replace eq6 := tqc _ _ eq6
    replace eq7 := tqc _ _ eq7
    replace eq8 := tqc _ _ eq8
    replace eq9 := tqc _ _ eq9
    replace eqa := tqc _ _ eqa
    replace eqb := tqc _ _ eqb
    refine ⟨_, rfl, by show 1 ≤ sizeLine; decide, fun qd wd => ?_⟩
    have tqd : Same Gqc (upd Gqc qd (.lst [y])) := same_new wd
    have eqd : (upd Gqc qd (.lst [y])) qd = some (.lst [y]) := upd_same
    have yqd : qd ≠ 1 := sysqc.ne wd
    have lqd : qd ≠ l := src_none srcqc wd
    generalize upd Gqc qd (.lst [y]) = Gqd at tqd eqd ⊢
    have sysqd := sysqc.keep tqd
    have srcqd := srcqc.keep tqd
    replace hS := tqd _ _ hS
    replace ep1 := tqd _ _ ep1
    replace ep2 := tqd _ _ ep2
    replace ep3 := tqd _ _ ep3
    replace eq1 := tqd _ _ eq1
    replace eq2 := tqd _ _ eq2
    replace eq3 := tqd _ _ eq3
    replace eq4 := tqd _ _ eq4
    replace eq5 := tqd _ _ eq5
    replace eq6 := tqd _ _ eq6
    replace eq7 := tqd _ _ eq7
    replace eq8 := tqd _ _ eq8
    replace eq9 := tqd _ _ eq9
    replace eqa := tqd _ _ eqa
    replace eqb := tqd _ _ eqb
    replace eqc := tqd _ _ eqc
    refine ⟨qc, qd, _, _, rfl, rfl, eqc, eqd, sz1 _ (by rw [List.length_append, List.length_map]; show _ + 1 ≤ 100; omega), fun qe we => ?_⟩
    have tqe : Same Gqd (upd Gqd qe (.lst ((so.map V.str) ++ (so.map V.str) ++ [y]))) := same_new we
    have eqe : (upd Gqd qe (.lst ((so.map V.str) ++ (so.map V.str) ++ [y]))) qe = some (.lst ((so.map V.str) ++ (so.map V.str) ++ [y])) := upd_same
    have yqe : qe ≠ 1 := sysqd.ne we
    have lqe : qe ≠ l := src_none srcqd we
    generalize upd Gqd qe (.lst ((so.map V.str) ++ (so.map V.str) ++ [y])) = Gqe at tqe eqe ⊢
    have sysqe := sysqd.keep tqe
    have srcqe := srcqd.keep tqe
    replace hS := tqe _ _ hS
    replace ep1 := tqe _ _ ep1
    replace ep2 := tqe _ _ ep2
    replace ep3 := tqe _ _ ep3
    replace eq1 := tqe _ _ eq1
    replace eq2 := tqe _ _ eq2
    replace eq3 := tqe _ _ eq3
    replace eq4 := tqe _ _ eq4
    replace eq5 := tqe _ _ eq5
    replace eq6 := tqe _ _ eq6
    replace eq7 := tqe _ _ eq7
    replace eq8 := tqe _ _ eq8
    replace eq9 := tqe _ _ eq9
    replace eqa := tqe _ _ eqa
    replace eqb := tqe _ _ eqb
    replace eqc := tqe _ _ eqc
    replace eqd := tqe _ _ eqd
    refine ⟨by show 2 ≤ sizeLine; decide, fun qf wf => ?_⟩
    have tqf : Same Gqe (upd Gqe qf (.lst [.ref qb, .ref qe])) := same_new wf
    have eqf : (upd Gqe qf (.lst [.ref qb, .ref qe])) qf = some (.lst [.ref qb, .ref qe]) := upd_same
    have yqf : qf ≠ 1 := sysqe.ne wf
    have lqf : qf ≠ l := src_none srcqe wf
    generalize upd Gqe qf (.lst [.ref qb, .ref qe]) = Gqf at tqf eqf ⊢
    have sysqf := sysqe.keep tqf
    have srcqf := srcqe.keep tqf
    replace hS := tqf _ _ hS
    replace ep1 := tqf _ _ ep1
    replace ep2 := tqf _ _ ep2
    replace ep3 := tqf _ _ ep3
    replace eq1 := tqf _ _ eq1
    replace eq2 := tqf _ _ eq2
    replace eq3 := tqf _ _ eq3
    replace eq4 := tqf _ _ eq4
    replace eq5 := tqf _ _ eq5
    replace eq6 := tqf _ _ eq6
    replace eq7 := tqf _ _ eq7
    replace eq8 := tqf _ _ eq8
    replace eq9 := tqf _ _ eq9
    replace eqa := tqf _ _ eqa
    replace eqb := tqf _ _ eqb
    replace eqc := tqf _ _ eqc
    replace eqd := tqf _ _ eqd
    replace eqe := tqf _ _ eqe
    refine ⟨qa, qf, _, _, rfl, rfl, eqa, eqf, by show 7 + 2 ≤ sizeLine; decide, fun qg wg => ?_⟩
    have tqg : Same Gqf (upd Gqf qg (.lst ([.ref S, .ref q5, .ref q7, .ref q8, .non, .str "ab", .ref q9] ++ [.ref qb, .ref qe]))) := same_new wg
    have eqg : (upd Gqf qg (.lst ([.ref S, .ref q5, .ref q7, .ref q8, .non, .str "ab", .ref q9] ++ [.ref qb, .ref qe]))) qg = some (.lst ([.ref S, .ref q5, .ref q7, .ref q8, .non, .str "ab", .ref q9] ++ [.ref qb, .ref qe])) := upd_same
    have yqg : qg ≠ 1 := sysqf.ne wg
    have lqg : qg ≠ l := src_none srcqf wg
    generalize upd Gqf qg (.lst ([.ref S, .ref q5, .ref q7, .ref q8, .non, .str "ab", .ref q9] ++ [.ref qb, .ref qe])) = Gqg at tqg eqg ⊢
    have sysqg := sysqf.keep tqg
    have srcqg := srcqf.keep tqg
    replace hS := tqg _ _ hS
    replace ep1 := tqg _ _ ep1
    replace ep2 := tqg _ _ ep2
    replace ep3 := tqg _ _ ep3
    replace eq1 := tqg _ _ eq1
    replace eq2 := tqg _ _ eq2
    replace eq3 := tqg _ _ eq3
    replace eq4 := tqg _ _ eq4
    replace eq5 := tqg _ _ eq5
    replace eq6 := tqg _ _ eq6
    replace eq7 := tqg _ _ eq7
    replace eq8 := tqg _ _ eq8
    replace eq9 := tqg _ _ eq9
    replace eqa := tqg _ _ eqa
    replace eqb := tqg _ _ eqb
    replace eqc := tqg _ _ eqc
    replace eqd := tqg _ _ eqd
    replace eqe := tqg _ _ eqe
    replace eqf := tqg _ _ eqf
    have tall : Same H3 Gqg := (((((((((((((((tq1.trans tq2).trans tq3).trans tq4).trans tq5).trans tq6).trans tq7).trans tq8).trans tq9).trans tqa).trans tqb).trans tqc).trans tqd).trans tqe).trans tqf).trans tqg)
    refine ⟨l, qg, n + 9, _, rfl, srcqg, by omega, SqL.of eqg, lqg, (fun z => nomatch z), by show 9 ≤ 1000; decide, fun H4 x b4 src4 hx => ?_⟩
    replace hS := b4 _ _ Sl hS
    replace ep1 := b4 _ _ lp1 ep1
    replace ep2 := b4 _ _ lp2 ep2
    replace ep3 := b4 _ _ lp3 ep3
    replace eq5 := b4 _ _ lq5 eq5
    replace eq7 := b4 _ _ lq7 eq7
    replace eq8 := b4 _ _ lq8 eq8
    replace eq9 := b4 _ _ lq9 eq9
    replace eqb := b4 _ _ lqb eqb
    replace eqe := b4 _ _ lqe eqe
    obtain ⟨yd, od2⟩ : ∃ d, OddS K H4 y d := by
      rcases List.mem_cons.mp hy with rfl | hy
      · exact ⟨_, odd_str (by decide +kernel) (by decide) (by decide +kernel) (by decide +kernel) (by decide +kernel)⟩
      rcases List.mem_cons.mp hy with rfl | hy
      · exact ⟨_, odd_str (by decide +kernel) (by decide) (by decide +kernel) (by decide +kernel) (by decide +kernel)⟩
      rcases List.mem_cons.mp hy with rfl | hy
      · exact ⟨_, odd_str (by decide +kernel) (by decide) (by decide +kernel) (by decide +kernel) (by decide +kernel)⟩
      rcases List.mem_cons.mp hy with rfl | hy
      · exact ⟨_, odd_str (by decide +kernel) (by decide) (by decide +kernel) (by decide +kernel) (by decide +kernel)⟩
      rcases List.mem_cons.mp hy with rfl | hy
      · exact ⟨_, odd_non⟩
      rcases List.mem_cons.mp hy with rfl | hy
      · exact ⟨_, odd_bl true⟩
      rcases List.mem_cons.mp hy with rfl | hy
      · exact ⟨_, odd_seven⟩
      rcases List.mem_cons.mp hy with rfl | hy
      · exact ⟨_, odd_tup ep1⟩
      rcases List.mem_cons.mp hy with rfl | hy
      · exact ⟨_, odd_lst ep2 yp2⟩
      rcases List.mem_cons.mp hy with rfl | hy
      · exact ⟨_, odd_dic ep3⟩
      rw [List.mem_singleton.mp hy]
      exact ⟨_, odd_str (by decide +kernel) (by decide) (by decide +kernel) (by decide +kernel) (by decide +kernel)⟩
    refine k H4 x (but_trans bA (but_trans (but_same tall) b4)) (src4.more (by omega)) ?_
    rcases List.mem_cons.mp hx with rfl | hx
    · exact badF_fine hS Sne (fun z hz => nm_name z (nmS z hz)) ndS (by omega)
    rcases List.mem_cons.mp hx with rfl | hx
    · exact badF_odd eq5 yq5 (fun z hz => nm_name z (nmS z (List.mem_of_mem_take hz))) (fun z hz => nm_name z (nmS z (List.mem_of_mem_drop hz))) (by rw [List.length_take, List.length_drop]; omega) od2
    rcases List.mem_cons.mp hx with rfl | hx
    · cases so with
      | nil => exact badF_fine (gs := []) eq7 yq7 (fun z hz => nomatch hz) List.nodup_nil (by decide)
      | cons z gs => exact badF_twice (z := z) (gs := gs) (by rw [eq7, List.map_append]; rfl) yq7 (nmS z List.mem_cons_self) (fun y hy => nm_name y (nmS y (List.mem_cons_of_mem _ hy))) ndS (by have := lenS; simp only [List.length_cons] at this; omega)
    rcases List.mem_cons.mp hx with rfl | hx
    · obtain ⟨d, sh⟩ := sh_tup eq8 (by rw [List.length_map]; omega) fun v hv => by
        obtain ⟨z, hz, rfl⟩ := List.mem_map.mp hv
        exact ⟨_, sm_name (K := K) (H := H4) (nm_name z (nmS z hz))⟩
      exact badF_notL sh (fun _ t => .base (.tup (t _ _ eq8))) (.inl rfl)
    rcases List.mem_cons.mp hx with rfl | hx
    · exact badF_notL odd_non.sm.sh (fun _ _ => .base .non) (.inr (.inr (.inr rfl)))
    rcases List.mem_cons.mp hx with rfl | hx
    · exact badF_notL (sm_name (by decide +kernel)).sh (fun _ _ => .base (.str _)) (.inr (.inl rfl))
    rcases List.mem_cons.mp hx with rfl | hx
    · exact badF_notL (odd_dic eq9).sm.sh (fun _ t => .base (.dK (t _ _ eq9))) (.inr (.inr (.inl rfl)))
    rcases List.mem_cons.mp hx with rfl | hx
    · have nm7 : ∀ z ∈ (["a", "b", "c", "d", "ab", "eightlet", "g"] : List Str), isName z = true := by decide +kernel
      refine ⟨sh_lst eqb yqb (by decide) fun v hv => ?_, fun fs nf => ⟨_, .many (gs := ["a", "b", "c", "d", "ab", "eightlet", "g"]) eqb nm7 (by decide) (by decide +kernel) (by decide), by decide +kernel⟩⟩
      obtain ⟨z, hz, rfl⟩ := List.mem_map.mp (show v ∈ (["a", "b", "c", "d", "ab", "eightlet", "g"] : List Str).map V.str from hv)
      exact ⟨_, sm_name (nm7 z hz)⟩
    · rw [List.mem_singleton.mp hx]
      refine badF_odd (as := so ++ so) (bs := []) (by rw [eqe, List.map_append, List.map_nil, List.append_nil]) yqe (fun z hz => nm_name z (nmS z ((List.mem_append.mp hz).elim id id))) (fun z hz => nomatch hz) (by rw [List.length_append]; show _ + 0 ≤ 900; omega) od2
end
end Lw

set_option Elab.async false
set_option linter.all false
set_option maxRecDepth 100000
set_option maxHeartbeats 1000000
/-! x != y by one's own __eq__; repr(x) by one's own __repr__; {list}, {bool} in an f-string. -/
namespace PySem.W
open PySem PySem.Spec PySem.Calls PyProof.Rows
section
variable {prog : Program} {w : World} {A : Around} {E : Value → Shared → Prop} {s : Shared} {K : Frag} {x C L f : Addr} {h0 : Heap} {m : Str → Option Value} {ox : Obj} {od : Option Obj} {y : Value}
theorem ifBound_slot {M : Model} {args : List Value} {name : Str} {id : String} {Q : Option Value → Shared → Prop} (X : K.In s.heap) (I : InstAt s.heap x ox C od) (hs : findIn K (.ref C) name = some (some (.builtin id))) (hb : ∀ self, bindSpecial (.builtin id) self = pure (.builtin id, [self]))
    (h : wpAny M A (call (.builtin id) (.ref x :: args)) (fun v => Q (some v)) E s) : wpAny M A (callSpecialIfBound? (.ref x) name args) Q E s := by
  simp only [callSpecialIfBound?, bindSpecialIfBound?]
  refine wpAny_holding (wpAny_bind (wpAny_bind (wpAny_bind (I.type.here ((looks_findIn X hs).here ?_)))))
  simp only [hb]
  refine wpAny_bind (wpAny_askSetting (wpAny_ite ?_))
  have fin : wpAny M A (call (.builtin id) ([.ref x] ++ args) >>= fun v => pure (some v)) Q E s := wpAny_bind (wpAny_mono h (fun v s' h' => wpAny_pure h') fun _ _ h' => h')
  split
  · exact wpAny_bind (wpAny_pure (wpAny_pure fin))
  · exact wpAny_tryCatch (wpAny_bind (wpAny_pure (wpAny_pure fin)))
theorem ne_entry {Q : Fin → Shared → Prop} (X : K.In s.heap) (I : InstAt s.heap x ox C od) (hs : findIn K (.ref C) "__eq__" = some (some (.ref f))) (hf : isFn K (.ref f) = true) (hu : A.units < cLine)
    (h : wpAny (model prog w) A (call (.ref f) [.ref x, y]) (fun v s' => ∃ b, v = .bool b ∧ Q (.done (.ret (.bool (!b)))) s') E s) : wpAny (model prog w) A (Builtin.«object.__ne__» ⟨[.ref x, y], []⟩) Q E s := by
  unfold Builtin.«object.__ne__»
  repeat (first
    | with_reducible refine wpAny_cRoomFor hu ?_
    | (refine wpAny_bind (m := callSpecialIfBound? (.ref x) (Str.ofString "__eq__") [y])
        (ifBound_K X I hs hf (wpAny_mono h (fun r s' hr => by
          obtain ⟨b, rfl, hq⟩ := hr
          repeat (first | exact hq | exact wpAny_pure hq | exact wpAny_truthy_bool hq | (refine wpAny_bind (m := truthy (.bool _)) (wpAny_truthy_bool ?_)) | wp_step)) fun _ _ e => e)))
    | wp_step)
theorem check_slot_K {M : Model} {id owner n : String} {rest : List Value} {Q : Unit → Shared → Prop} (hk : builtinKind id = some .slot) (hsp : splitId id = some (owner, n)) (ha : argsOk id ⟨.ref x :: rest, []⟩) (X : K.In s.heap) (I : InstAt s.heap x ox C od) (hob : subIn K (.ref C) (.type owner) = some true) (hq : Q () s) :
    wpAny M A (checkBuiltinCall id ⟨.ref x :: rest, []⟩) Q E s := by
  simp only [checkBuiltinCall, hk, hsp]
  refine wpAny_bind ?_
  unfold isInstance
  refine wpAny_bind (I.type.here ((looks_subIn X hob).here ?_))
  simp only [Bool.not_true, Bool.false_eq_true, if_false]
  cases hsig : Manifest.signature? id with
  | none => exact wpAny_pure hq
  | some sig =>
    simp only [argsOk, hsig] at ha
    have h2 : Bind.checkArgs id sig ⟨.ref x :: rest, []⟩ = pure () := ha
    show wpAny M A (Bind.checkArgs id sig ⟨.ref x :: rest, []⟩) Q E _
    rw [h2]; exact wpAny_pure hq
theorem ne_K {Q : Value → Shared → Prop} {tb : Value} (hu : A.units + 1 < cLine) (F : Fr h0 L s.heap m) (X0 : K.In h0) (I : InstAt s.heap x ox C od) (hb : Looks (model prog w) s.heap (typeOf y) tb) (hn : notFirst K C tb = true)
    (hne : findIn K (.ref C) "__ne__" = some (some (.builtin "object.__ne__"))) (hob : subIn K (.ref C) (.type "object") = some true) (hs : findIn K (.ref C) "__eq__" = some (some (.ref f))) (hf : isFn K (.ref f) = true)
    (h : wpAny (model prog w) A.in1 (call (.ref f) [.ref x, y]) (fun v s' => ∃ b, v = .bool b ∧ Q (.bool (!b)) s') E s) : wpAny (model prog w) A (richCompare .NotEq (.ref x) y) Q E s := by
  have X := X0.keeps F.keep
  have one : wpAny (model prog w) A (tryCompare (.ref x) "__ne__" y) (fun r s' => ∃ v, r = some v ∧ Q v s') E s := by
    unfold tryCompare
    refine wpAny_bind (ifBound_slot X I hne (fun self => PySem.F.cmp_object.ne.bind self) (wpAny_call (codeAny_call_builtin PySem.F.cmp_object.ne.plain PySem.F.cmpEntry_ne
      (check_slot_K PySem.F.cmpKind_ne PySem.F.cmpSplit_ne (PySem.F.cmpArgs_ne _ _) X I hob (ne_entry (A := A.in1) X I hs hf hu (wpAny_mono h (fun v s' hv => ?_) fun _ _ e => e))))))
    obtain ⟨b, rfl, hq⟩ := hv
    exact ⟨b, rfl, wpAny_pure ⟨_, rfl, hq⟩⟩
  unfold richCompare
  simp only [oneThing_ref]
  refine wpAny_holding (wpAny_bind (wpAny_cRoomFor (by omega) ?_))
  refine wpAny_bind (I.type.here (wpAny_bind (hb.here ?_)))
  rw [cmpInfo_NotEq]
  dsimp only
  split
  · rename_i q
    have e : subIn K tb (.ref C) = some false := by
      rcases Bool.or_eq_true_iff.mp hn with e | e
      · rw [beq_iff_eq.mp e] at q; simp at q
      · exact beq_iff_eq.mp e
    refine wpAny_bind ((looks_subIn X e).here ?_)
    simp only [Bool.false_eq_true, if_false]
    refine wpAny_bind (wpAny_mono one (fun r s' z => ?_) fun _ _ e => e)
    obtain ⟨v, rfl, hq⟩ := z
    exact wpAny_pure hq
  · refine wpAny_bind (wpAny_pure ?_)
    simp only [Bool.false_eq_true, if_false]
    refine wpAny_bind (wpAny_mono one (fun r s' z => ?_) fun _ _ e => e)
    obtain ⟨v, rfl, hq⟩ := z
    exact wpAny_pure hq
end
end PySem.W
namespace Two
open PySem PySem.Spec PyProof.Rows L2 SlX
section
variable {X : Cx} {CX : CXT} {C g : Addr} {n : Nat} {sp : Sp} {E : XK}
/-- x != y, y of one's own class -/
def rNeOwn (K : PySem.W.Frag) (C : Addr) (sp : Sp) (E : XK) : R2 := fun x y H Q => ∃ a dx vs b C' dy ws, x = .ref a ∧ y = .ref b ∧ Slt H a C dx vs ∧ Slt H b C' dy ws ∧ PySem.W.notFirst K C (.ref C') = true ∧ sp [x, y] H (fun z H' => ∃ c, z = .bl c ∧ Q (.bl !c) H') E
theorem op_neOwn (hne : PySem.W.findIn X.K (.ref C) "__ne__" = some (some (.builtin "object.__ne__"))) (hob : PySem.W.subIn X.K (.ref C) (.type "object") = some true) (hs : PySem.W.findIn X.K (.ref C) "__eq__" = some (some (.ref g))) (hf : PySem.W.isFn X.K (.ref g) = true) (F : FnR X.prog X.w X.K X.mg X.base CX n g sp)
    (hr : Room (n + 1) X.A) (hx : Passes CX X E) : OpR X (compareOp .NotEq) (rNeOwn X.K C sp E) := by
  intro pins s σ H x y v u Q I rx ry h
  obtain ⟨a, dx, vs, b, C', dy, ws, rfl, rfl, ha, hb, hn, q⟩ := h
  cases (show v = Value.ref a from rx)
  cases (show u = Value.ref b from ry)
  obtain ⟨sl, od, _, J, _⟩ := slt_inst I ha
  obtain ⟨sl', od', _, J', _⟩ := slt_inst I hb
  obtain ⟨m, hF⟩ := I.fr
  have hu := hr.un
  show wpAny _ _ (richCompare .NotEq (.ref a) (.ref b)) _ _ s
  refine PySem.W.ne_K (by omega) hF I.ok.mod.kin J J'.type hn hne hob hs hf (wpAny_mono (wpAny_call (run_at (us := [.ref a, .ref b]) (ws := [.ref a, .ref b]) F (show Room n X.A.in1 from Room.in1 hr) I.env0.in1 hx I (.cons rfl (.cons rfl .nil)) q)) (fun w s' z => ?_) fun _ _ x => x)
  obtain ⟨z', H', I', rz, c, ez, qz⟩ := z
  subst ez
  cases (show w = Value.bool c from rz)
  exact ⟨c, rfl, .bl !c, H', I', rfl, qz⟩
end
/-! ### repr(x) by one's own __repr__ -/
def FnRG (P : Program) (w : World) (K : PySem.W.Frag) (mg : Str → Option Value) (base : Heap) (CX : CXT) (k : Nat) (g : Addr) (sp : Sp) : Prop := ∀ (A : Around) (outer : List Env) (s : Shared) (H : Hp) (us : List Value) (vs : List V) (Q : VK) (E : XK), Room k A → A.guards = some [] → Env0 P w K mg base A outer s H → Vals vs us → sp vs H Q E →
  codeAny (model P w) A (.call (.ref g) ⟨us, []⟩) (CR CX outer P w H s Q E) s
theorem FnG.raw {P : Program} {w : World} {K : PySem.W.Frag} {mg : Str → Option Value} {base : Heap} {CX : CXT} {k : Nat} {f : Addr} {fd : FuncData} {ps : List Str} {sp : Sp} (F : FnG P w K mg base CX k f fd ps sp) (hb : Binds K fd ps []) : FnRG P w K mg base CX k f sp := by
  intro A outer s H us vs Q E hr hg e0 r hs
  have hl : (us ++ []).length = ps.length := by rw [List.append_nil, ← r.length]; exact F.len _ _ _ _ hs
  have b := hb s us (e0.mod.kin.keeps fun b o e => (e0.bs b o e).1) hl
  rw [List.append_nil] at b
  exact F.run A outer s H ⟨us, []⟩ us vs Q E hr hg e0 b r hs
section
variable {X : Cx} {CX : CXT} {C g : Addr} {n : Nat} {sp : Sp} {E : XK}
def rReprOwn (C : Addr) (sp : Sp) (E : XK) : List V → Hp → VK → Prop := fun xs H Q => ∃ a dx vs, xs = [V.ref a] ∧ Slt H a C dx vs ∧ sp [.ref a] H (fun z H' => ∃ t, z = .str t ∧ Q (.str t) H') E
theorem call_reprOwn (hs : PySem.W.findIn X.K (.ref C) "__repr__" = some (some (.ref g))) (hf : PySem.W.isFn X.K (.ref g) = true) (F : FnRG X.prog X.w X.K X.mg X.base CX n g sp) (hr : Room (n + 1) X.A) (hg : X.A.guards = some []) (hx : Passes CX X E) : CallR X (.builtin "repr") (rReprOwn C sp E) := by
  intro pins s σ H xs us Q I r h
  obtain ⟨a, dx, vs, rfl, hsl, q⟩ := h
  obtain ⟨u, rfl, ru⟩ := r.one
  cases (show u = Value.ref a from ru)
  obtain ⟨sl, od, _, J, _⟩ := slt_inst I hsl
  obtain ⟨mF, hF⟩ := I.fr
  have hu := hr.un
  have hr1 : Room n X.A.in1 := Room.in1 hr
  refine PySem.W.repr_K (by have := hr1.un; omega) hF I.ok.mod.kin J hs hf (wpAny_mono (wpAny_call (codeAny_mono (F X.A.in1 X.stack s H [.ref a] [.ref a] _ E hr1 hg I.env0.in1 (.cons rfl .nil) q) fun r s' hq => ?_)) (fun w s' z => z) fun _ _ x => x)
  match r, hq with
  | .error e, hq => exact hx pins σ H s e s' I hq
  | .ok (.ret u), hq =>
    obtain ⟨z', H', I', rz, t, ez, qz⟩ := I.after hq
    subst ez
    obtain ⟨tk, e⟩ := (show ∃ tk, u = Value.str t tk from rz)
    subst e
    exact ⟨.str t, H', I', ⟨tk, rfl⟩, qz⟩
  | .ok .next, hq => exact False.elim hq
  | .ok .brk, hq => exact False.elim hq
  | .ok .cont, hq => exact False.elim hq
end
/-! ### in an f-string -/
section
variable {X : Cx}
def tFmtD (K : PySem.W.Frag) (te : TE) : TE := fun σ H Q => te σ H fun x H1 => ∃ a d, x = .ref a ∧ Dp K H1 (.ref a) d ∧ d.showable = true ∧ d.hasDict = false ∧ d.depth ≤ 32 ∧ d.shown.length ≤ sizeLine ∧ Q (.str d.shown) H1
theorem pe_fmtD {e : Expr} {te : TE} {pos : Pos} (hg : X.A.guards = some []) (hu : X.A.units + 64 < cLine) (he : PE X e te) : PE X (.FormattedValue e (-1) none pos) (tFmtD X.K te) := by
  refine ⟨fun pins s σ H Q I h => ?_⟩
  refine wpAny_FormattedValue_plain (thn (he.run pins s σ H _ I h) fun v s1 hv => ?_)
  obtain ⟨x, H1, I1, r1, a, d, rfl, hd, hs, hn, hp, hz, q⟩ := hv
  cases (show v = Value.ref a from r1)
  obtain ⟨as, rr⟩ := Dp.reads I1 _ _ _ hd rfl
  exact formatField_of_reads rr hs (fun k => by rw [hn] at k; cases k) hg (by omega) (fun _ _ e => e) (fun h' u tk hk => ⟨.str d.shown, H1, I1.kept hk, ⟨u, rfl⟩, q⟩) hz
def tFmtB (te : TE) : TE := fun σ H Q => te σ H fun x H1 => ∃ b, x = .bl b ∧ Q (.str (if b then "True" else "False")) H1
theorem pe_fmtB {e : Expr} {te : TE} {pos : Pos} (he : PE X e te) : PE X (.FormattedValue e (-1) none pos) (tFmtB te) := by
  refine ⟨fun pins s σ H Q I h => ?_⟩
  refine wpAny_FormattedValue_plain (thn (he.run pins s σ H _ I h) fun v s1 hv => ?_)
  obtain ⟨x, H1, I1, r1, b, rfl, q⟩ := hv
  cases (show v = Value.bool b from r1)
  exact wpAny_formatField_bool ⟨.str _, H1, I1.tok _, ⟨_, rfl⟩, q⟩
end
end Two

set_option Elab.async false
set_option linter.all false
set_option maxRecDepth 100000
set_option maxHeartbeats 1000000
/-! Layout: __repr__. -/
namespace Lw
open PySem L2 Two Pr ClX SlX
def strsL (fs : List Str) : PyData := .list (fs.map PyData.str)
def layText (fs : List Str) (r : Bool) : Str := ((((Str.empty ++ "Layout(") ++ (strsL fs).shown) ++ ", ") ++ (if r then ("True" : Str) else ("False" : Str))) ++ ")"
theorem short_all : ∀ {fs : List Str}, (∀ z ∈ fs, isName z = true) → PyData.leavesShortAll 13 (fs.map PyData.str) = true ∧ PyData.weightAll (fs.map PyData.str) ≤ 21 * fs.length ∧ PyData.showableAll (fs.map PyData.str) = true ∧ PyData.hasDictAll (fs.map PyData.str) = false
  | [], _ => ⟨rfl, Nat.zero_le _, rfl, rfl⟩
  | z :: fs, h => by
    obtain ⟨h1, h2, h3, h4⟩ := short_all (fs := fs) fun y hy => h y (List.mem_cons_of_mem _ hy)
    have hz := h z List.mem_cons_self
    have w := (sm_name (K := []) (H := fun _ => none) hz).wt
    refine ⟨?_, ?_, ?_, ?_⟩
    · show ((PyData.str z).leavesShort 13 && PyData.leavesShortAll 13 (fs.map PyData.str)) = true
      rw [short_name hz, h1]; rfl
    · show (PyData.str z).weight + 1 + PyData.weightAll (fs.map PyData.str) ≤ 21 * (fs.length + 1)
      omega
    · exact h3
    · exact h4
theorem shown_short {fs : List Str} (h : ∀ z ∈ fs, isName z = true) (sz : fs.length ≤ 1000) : (strsL fs).shown.length ≤ 400000 := by
  obtain ⟨h1, h2, _⟩ := short_all h
  have := PyData.shown_le 13 (by decide) (strsL fs) h1
  have e : (strsL fs).weight = PyData.weightAll (fs.map PyData.str) := rfl
  rw [e] at this
  omega
theorem big_line : 500000 ≤ sizeLine := by decide
def spReprL (K : PySem.W.Frag) (C : Addr) : Sp := fun vs H Q _ => ∃ a fs r, vs = [.ref a] ∧ IsLay K C H a fs r ∧ fs.length ≤ 1000 ∧ ∀ H', Same H H' → Q (.str (layText fs r)) H'
theorem scLRepr : FnScope ["self"] ["self"] (defScope mRepr) := ⟨rfl, rfl, rfl, by decide +kernel, rfl, by decide +kernel, by decide +kernel⟩
section
variable {P : Program} {w : World} {K : PySem.W.Frag} {mg : Str → Option Value} {base : Heap}
theorem ok_lRepr {f g C p0 p1 : Addr} {fd gd : FuncData} (F : Fun K "__repr__" "Layout.__repr__" mRepr f fd) (L : LayC K mg C p0 p1) (mF : Meth K C "fields" g) (bF : Binds K gd ["self"] []) (GF : FnOk P w K mg base CX0 1 g gd ["self"] (spFields K C)) :
    FnG P w K mg base CX0 2 f fd ["self"] (spReprL K C) := by
  refine FnG.of F scLRepr (fun vs H Q E h => ?_) (fun cdv A outer s H vs Q E hr hg h => ?_)
  · obtain ⟨a, fs, r, rfl, _⟩ := h
    rfl
  · obtain ⟨a, fs, r, rfl, hL, sz, k⟩ := h
    have hu : (cxOf CX0 P w K mg base ["self"] "Layout.__repr__" (defScope mRepr) f cdv A outer s H E).nox.A.units + 64 < cLine := by
      have h := hr.un
      exact (by omega : (A.deeper (PyProof.Rows.envOfC "Layout.__repr__" (defScope mRepr) s.heap.objs.size f cdv)).units + 64 < cLine)
    refine ⟨_, pss_one (ps_ret (pe_joined (.cons pe_str (.cons (pe_fmtD hg hu (pe_methSl0 (pv 0) L.c mF (GF.raw bF .nil) hr pass0)) (.cons pe_str (.cons (pe_fmtB (pe_sl (pv 0))) (.cons pe_str .nil))))))), ?_⟩
    have hL0 := hL
    obtain ⟨dx, t, hs, ht, nm⟩ := hL
    have sh := shown_short nm sz
    obtain ⟨h1, h2, h3, h4⟩ := short_all nm
    have bl := big_line
    refine ⟨_, rfl, by decide +kernel, ?_⟩
    refine ⟨_, rfl, a, dx, _, rfl, hs, a, fs, r, rfl, hL0, fun p np => ⟨p, strsL fs, rfl, .lst (SqL.of upd_same) (dpAll_strs _), h3, h4, ?_, by omega, ?_⟩⟩
    · show PyData.depthAll (fs.map PyData.str) + 1 ≤ 32
      have := depth_strs fs
      omega
    have l0 : (Str.empty ++ "Layout(" : Str).length = 7 := by decide +kernel
    have l1 : (", " : Str).length = 2 := by decide +kernel
    have l2 : (")" : Str).length = 1 := by decide +kernel
    have l3 : (if r then ("True" : Str) else ("False" : Str)).length ≤ 5 := by cases r <;> decide +kernel
    refine ⟨_, rfl, by rw [strLen_append, l0]; omega, _, rfl, by rw [strLen_append, strLen_append, l0, l1]; omega, ?_⟩
    refine ⟨_, rfl, a, C, dx, p1, _, 1, _, rfl, slt_keep (same_new np) hs, L.c, L.s1, rfl, r, rfl, _, rfl, by rw [strLen_append, strLen_append, strLen_append, l0, l1]; omega, _, rfl, by rw [strLen_append, strLen_append, strLen_append, strLen_append, l0, l1, l2]; omega, ?_⟩
    have q := k _ (same_new (o := .lst (fs.map V.str)) np)
    unfold layText at q
    exact q
end
end Lw

set_option Elab.async false
set_option linter.all false
set_option maxRecDepth 100000
set_option maxHeartbeats 1000000
/-! _law_right. -/
namespace Two
open PySem PySem.Spec PyProof.Rows L2
/-- statement by statement: what holds ahead, what holds behind -/
def tStep (P0 P1 : L2.St → Hp → Prop) : TS := fun D σ H => P0 σ H ∧ ∀ σ' H', P1 σ' H' → D.nx σ' H'
section
variable {X : Cx} {s : Stmt} {ss : List Stmt} {t : TS} {P0 P1 P2 : L2.St → Hp → Prop}
theorem st_by (h : ∀ D σ H, P0 σ H → (∀ σ' H', P1 σ' H' → D.nx σ' H') → ∃ t, PS X s t ∧ t D σ H) : PS X s (tStep P0 P1) := ⟨fun pins s σ H D I ⟨a, k⟩ => let ⟨_, h1, h2⟩ := h D σ H a k; h1.run pins s σ H D I h2⟩
theorem st_cons (h1 : PS X s (tStep P0 P1)) (h2 : PSs X ss (tStep P1 P2)) : PSs X (s :: ss) (tStep P0 P2) := ⟨fun pins s σ H D I ⟨a, k⟩ => (pss_cons h1 h2).run pins s σ H D I ⟨a, fun _ _ p1 => ⟨p1, k⟩⟩⟩
theorem st_one (h1 : PS X s (tStep P0 P1)) : PSs X [s] (tStep P0 P1) := ⟨fun pins s σ H D I h => (pss_one h1).run pins s σ H D I h⟩
/-- and at last what is handed back -/
theorem st_end {ss2 : List Stmt} {t2 : TS} (h1 : PS X s (tStep P0 P1)) (h2 : PSs X ss2 t2) : PSs X (s :: ss2) (fun D σ H => P0 σ H ∧ ∀ σ' H', P1 σ' H' → t2 D σ' H') := ⟨fun pins s σ H D I ⟨a, k⟩ => (pss_cons h1 h2).run pins s σ H D I ⟨a, fun _ _ p1 => k _ _ p1⟩⟩
end
end Two
namespace Lw
open PySem L2 Two Pr ClX SlX
abbrev sRight : Stmt := top 46
abbrev nRight : List Str := ["_law_names_here", "_law_room", "_law_other", "_law_handed", "_law_layout", "_law_second", "_law_begins"]
theorem scRight : FnScope nRight ["_law_names_here", "_law_room", "_law_other"] (defScope sRight) := ⟨rfl, rfl, rfl, by decide +kernel, rfl, by decide +kernel, by decide +kernel⟩
structure LayE (P : Program) (w : World) (K : PySem.W.Frag) (mg : Str → Option Value) (base : Heap) (C p0 p1 fI : Addr) (dI : FuncData) (c : List Addr) : Prop where
  d : LayD P w K mg base C p0 p1 fI dI c
  repr : ∃ g, PySem.W.findIn K (.ref C) "__repr__" = some (some (.ref g)) ∧ PySem.W.isFn K (.ref g) = true ∧ FnRG P w K mg base CX0 2 g (spReprL K C)
  ne : PySem.W.findIn K (.ref C) "__ne__" = some (some (.builtin "object.__ne__"))
  ob : PySem.W.subIn K (.ref C) (.type "object") = some true
def spRight (K : PySem.W.Frag) : Sp := fun vs H Q _ => ∃ (a o b : Addr) (fs gs : List Str) (r r2 : Bool), vs = [.ref a, .bl r, .ref o] ∧ H a = some (.lst (fs.map V.str)) ∧ H o = some (.tup [.ref b, .bl r2]) ∧ H b = some (.lst (gs.map V.str)) ∧ (∀ z ∈ fs, isName z = true) ∧ (∀ z ∈ gs, isName z = true) ∧ fs.length ≤ 900 ∧ gs.length ≤ 900 ∧
  ∀ H', Same H H' → Q (.bl true) H'
/-- what stands -/
structure Rb (H : Hp) (a o b : Addr) (fs gs : List Str) (r r2 : Bool) : Prop where
  ha : H a = some (.lst (fs.map V.str))
  ho : H o = some (.tup [.ref b, .bl r2])
  hb : H b = some (.lst (gs.map V.str))
  nm : ∀ z ∈ fs, isName z = true
  nm2 : ∀ z ∈ gs, isName z = true
  lf : fs.length ≤ 900
  lg : gs.length ≤ 900
theorem Rb.keep {H H' : Hp} {a o b : Addr} {fs gs : List Str} {r r2 : Bool} (h : Rb H a o b fs gs r r2) (s : Same H H') : Rb H' a o b fs gs r r2 := ⟨s _ _ h.ha, s _ _ h.ho, s _ _ h.hb, h.nm, h.nm2, h.lf, h.lg⟩
theorem lay_upd {K : PySem.W.Frag} {C : Addr} {H : Hp} {l p : Addr} {fs : List Str} {r : Bool} {xs : List V} {u : HO} (h : IsLay K C H l fs r) (hp : H p = some (.lst xs)) : IsLay K C (upd H p u) l fs r := by
  obtain ⟨dx, t, hs, ht, nm⟩ := h
  have ne : ∀ {q : Addr} {o : HO}, H q = some o → o ≠ .lst xs → q ≠ p := fun e d z => by
    rw [z, hp] at e
    exact d (Option.some.inj e).symm
  refine ⟨dx, t, ?_, by rw [upd_ne (ne ht (fun z => nomatch z))]; exact ht, nm⟩
  exact hs.imp (fun ⟨x, y⟩ => ⟨by rw [upd_ne (ne x (fun z => nomatch z))]; exact x, y⟩) (fun ⟨x, y⟩ => ⟨by rw [upd_ne (ne x (fun z => nomatch z))]; exact x, by rw [upd_ne (ne y (fun z => nomatch z))]; exact y⟩)
section
variable {P : Program} {w : World} {K : PySem.W.Frag} {mg : Str → Option Value} {base : Heap} {C p0 p1 fI fDf : Addr} {dI dDf : FuncData} {c : List Addr} {f : Addr} {cdv : Value} {A : Around} {outer : List Env} {s : Shared} {Hs : Hp} {E : XK} {a o b : Addr} {fs gs : List Str} {r r2 : Bool} {H : Hp}
abbrev RX (P : Program) (w : World) (K : PySem.W.Frag) (mg : Str → Option Value) (base : Heap) (f : Addr) (cdv : Value) (A : Around) (outer : List Env) (s : Shared) (Hs : Hp) (E : XK) : Cx := (cxOf CX0 P w K mg base nRight "_law_right" (defScope sRight) f cdv A outer s Hs E).nox
abbrev rst (k : Nat) : Stmt := (defBody sRight).getD k (.Pass ⟨0, 0, 0, 0⟩)
def Q0 (a o : Addr) (r : Bool) (H : Hp) : L2.St → Hp → Prop := fun σ G => σ = [some (.ref a), some (.bl r), some (.ref o), none, none, none, none] ∧ G = H
def Q1 (a o : Addr) (r : Bool) (fs : List Str) (H : Hp) : L2.St → Hp → Prop := fun σ G => ∃ hd, σ = [some (.ref a), some (.bl r), some (.ref o), some (.ref hd), none, none, none] ∧ Same H G ∧ H hd = none ∧ G hd = some (.lst (fs.map V.str))
def Q2 (K : PySem.W.Frag) (C : Addr) (a o : Addr) (r : Bool) (fs : List Str) (H : Hp) : L2.St → Hp → Prop := fun σ G => ∃ hd lay, σ = [some (.ref a), some (.bl r), some (.ref o), some (.ref hd), some (.ref lay), none, none] ∧ Same H G ∧ H hd = none ∧ G hd = some (.lst (fs.map V.str)) ∧ IsLay K C G lay fs r
def Q3 (K : PySem.W.Frag) (C : Addr) (a o : Addr) (r : Bool) (fs : List Str) (H : Hp) : L2.St → Hp → Prop := fun σ G => ∃ (hd : Addr) (lay : Addr), σ = [some (.ref a), some (.bl r), some (.ref o), some (.ref hd), some (.ref lay), none, none] ∧ Same H G ∧ IsLay K C G lay fs r
def Q7 (K : PySem.W.Frag) (C : Addr) (a o : Addr) (r : Bool) (fs gs : List Str) (r2 : Bool) (H : Hp) : L2.St → Hp → Prop := fun σ G => ∃ (hd lay sec : Addr), σ = [some (.ref a), some (.bl r), some (.ref o), some (.ref hd), some (.ref lay), some (.ref sec), none] ∧ Same H G ∧ IsLay K C G lay fs r ∧ IsLay K C G sec gs r2
def Q8 (K : PySem.W.Frag) (C : Addr) (a o : Addr) (r : Bool) (fs gs : List Str) (r2 : Bool) (H : Hp) : L2.St → Hp → Prop := fun σ G => ∃ (hd lay sec : Addr), σ = [some (.ref a), some (.bl r), some (.ref o), some (.ref hd), some (.ref lay), some (.ref sec), some (.bl (leL fs gs r r2))] ∧ Same H G ∧ IsLay K C G lay fs r ∧ IsLay K C G sec gs r2
theorem r1 (B : Rb H a o b fs gs r r2) (T : TxtX mg) : PS (RX P w K mg base f cdv A outer s Hs E) (rst 0) (tStep (Q0 a o r H) (Q1 a o r fs H)) := by
  refine st_by fun D' σ G pre k => ?_
  obtain ⟨rfl, rfl⟩ := pre
  refine ⟨_, ps_set (i := 3) scRight.nd rfl (Or.inl rfl) (pe_callTy call_list_of (by rfl) T.list (by decide +kernel) (pa_cons (pv 0) pa_nil)), ?_⟩
  exact ⟨_, rfl, a, _, rfl, .inl (SqL.of B.ha), fun p np => k _ _ ⟨p, rfl, same_new np, np, upd_same⟩⟩
theorem r2' (B : Rb H a o b fs gs r r2) (L : LayE P w K mg base C p0 p1 fI dI c) (hr : Room 9 (RX P w K mg base f cdv A outer s Hs E).A) : PS (RX P w K mg base f cdv A outer s Hs E) (rst 1) (tStep (Q1 a o r fs H) (Q2 K C a o r fs H)) := by
  refine st_by fun D' σ G pre k => ?_
  obtain ⟨hd, rfl, s1, nh, hh⟩ := pre
  refine ⟨_, ps_set (i := 4) scRight.nd rfl (Or.inl rfl) (pe_make L.d.M L.d.GI (hr.mono (by decide)) (by rfl) L.d.L.g L.d.bI .nil (passE (E := fun _ _ _ => False) fun _ _ _ z => z) (pa_cons (pv 3) (pa_cons (pv 1) pa_nil))), ?_⟩
  exact ⟨_, rfl, _, rfl, lay_made (K := K) (fs := fs) (Q := fun x H2 => gName 4 x [some (.ref a), some (.bl r), some (.ref o), some (.ref hd), none, none, none] H2 D'.nx) (SqL.of hh) B.nm fun q H2 s2 hq => k _ _ ⟨hd, q, rfl, s1.trans s2, nh, s2 _ _ hh, hq⟩⟩
theorem r3 (B : Rb H a o b fs gs r r2) : PS (RX P w K mg base f cdv A outer s Hs E) (rst 2) (tStep (Q2 K C a o r fs H) (Q3 K C a o r fs H)) := by
  refine st_by fun D' σ G pre k => ?_
  obtain ⟨hd, lay, rfl, s1, nh, hh, hL⟩ := pre
  refine ⟨_, ps_expr (pe_bm PySem.F.plainAttrs_list PySem.F.slot_list_append PySem.F.type_list_append mt_append (pv 3) (pa_cons pe_str pa_nil)), ?_⟩
  refine ⟨_, rfl, .inl ⟨rfl, _, SqL.of hh⟩, hd, _, _, rfl, rfl, hh, small1000 (by rw [List.length_map]; have := B.lf; omega), k _ _ ⟨hd, lay, rfl, same_upd s1 nh, lay_upd hL hh⟩⟩
theorem r4 (B : Rb H a o b fs gs r r2) (L : LayE P w K mg base C p0 p1 fI dI c) (hr : Room 9 (RX P w K mg base f cdv A outer s Hs E).A) : PS (RX P w K mg base f cdv A outer s Hs E) (rst 3) (tStep (Q3 K C a o r fs H) (Q3 K C a o r fs H)) := by
  refine st_by fun D' σ G pre k => ?_
  obtain ⟨hd, lay, rfl, s1, hL⟩ := pre
  obtain ⟨gF, mF, RF⟩ := L.d.fields
  refine ⟨_, ps_expr (pe_bm PySem.F.plainAttrs_list PySem.F.slot_list_append PySem.F.type_list_append mt_append (pe_methSl0 (pv 4) L.d.L.c mF RF (hr.mono (by decide)) pass0) (pa_cons pe_str pa_nil)), ?_⟩
  have hL0 := hL
  obtain ⟨dx, t, hs, ht, nm⟩ := hL
  refine ⟨_, rfl, lay, dx, _, rfl, hs, lay, fs, r, rfl, hL0, fun p np => ⟨.inl ⟨rfl, _, SqL.of upd_same⟩, p, _, _, rfl, rfl, upd_same, small1000 (by rw [List.length_map]; have := B.lf; omega), k _ _ ⟨hd, lay, rfl, ?_, ?_⟩⟩⟩
  · exact same_upd (ad s1 np) (none_of_same s1 np)
  · exact lay_upd (hL0.keep (same_new np)) upd_same
theorem shaped_strsL {fs : List Str} (h : ∀ z ∈ fs, isName z = true) : SeqAt.shaped (strsL fs) = true := by
  unfold SeqAt.shaped
  have a : (strsL fs).canLay0 = true := lay_strs fs h
  have b : (strsL fs).depth ≤ 64 := by
    show PyData.depthAll (fs.map PyData.str) + 1 ≤ 64
    have := depth_strs fs
    omega
  rw [a, decide_eq_true b]
  rfl
theorem rRepr_bl {X : Cx} {b : Bool} {H : Hp} {Q : VK} (q : Q (.str (if b then "True" else "False")) H) : rReprQ X.K [.bl b] H Q := by
  refine ⟨.bl b, .bool b, rfl, .bl b, rfl, by cases b <;> decide, by cases b <;> decide +kernel, ?_⟩
  exact q
theorem r5 (B : Rb H a o b fs gs r r2) (T : TxtX mg) (L : LayE P w K mg base C p0 p1 fI dI c) (hr : Room 9 (RX P w K mg base f cdv A outer s Hs E).A) (hg : (RX P w K mg base f cdv A outer s Hs E).A.guards = some []) : PS (RX P w K mg base f cdv A outer s Hs E) (rst 4) (tStep (Q3 K C a o r fs H) (Q3 K C a o r fs H)) := by
  refine st_by fun D' σ G pre k => ?_
  obtain ⟨hd, lay, rfl, s1, hL⟩ := pre
  obtain ⟨gF, mF, RF⟩ := L.d.fields
  obtain ⟨gH, mH, RH⟩ := L.d.has
  obtain ⟨gL, l1, l2, l3, RL⟩ := L.d.len
  have hu : (RX P w K mg base f cdv A outer s Hs E).A.units + 64 < cLine := by have h := hr.un; omega
  refine ⟨_, ps_if (PW.pt (pw_or (pt_cmpR (op_neD hr.units) (pe_methSl0 (pv 4) L.d.L.c mF RF (hr.mono (by decide)) pass0) (pv 0) (nomark _))
    (pw_or (pt_cmpR op_ne (pe_callB (cr_reprQ hg hu) (by rfl) T.repr (by decide +kernel) (pa_cons (pe_methSl0 (pv 4) L.d.L.c mH RH (hr.mono (by decide)) pass0) pa_nil)) (pe_callB (cr_reprQ hg hu) (by rfl) T.repr (by decide +kernel) (pa_cons (pv 1) pa_nil)) (nomark _))
    (pw_or1 (pt_cmpR op_ne (pe_callB (call_lenSl l1 l2 RL (hr.mono (by decide)) pass0) (by rfl) T.len PySem.boot_len (pa_cons (pv 4) pa_nil)) (pe_callB call_len_seq (by rfl) T.len PySem.boot_len (pa_cons (pv 0) pa_nil)) (nomark _)))))) pss_never pss_nil, ?_⟩
  have hL0 := hL
  obtain ⟨dx, t, hs, ht, nm⟩ := hL
  have B1 := B.keep s1
  have shp := shaped_strsL nm
  refine ⟨_, rfl, lay, dx, _, rfl, hs, lay, fs, r, rfl, hL0, fun p np => ⟨_, rfl, strsL fs, strsL fs, .lst (SqL.of upd_same) (dpAll_strs _), .lst (SqL.of (app B1.ha np)) (dpAll_strs _), shp, shp, _, rfl, ?_⟩⟩
  rw [SeqAt.eqv_refl _ (SeqAt.canLay_of_shaped shp)]
  refine iteF ?_
  have s2 := ad (o := .lst (fs.map V.str)) s1 np
  have t2 : Same G (upd G p (.lst (fs.map V.str))) := same_new np
  generalize upd G p (.lst (fs.map V.str)) = G2 at s2 t2 ⊢
  have hL2 := hL0.keep t2
  have hs2 := slt_keep t2 hs
  have B2 := B.keep s2
  refine ⟨_, rfl, lay, dx, _, rfl, hs2, lay, fs, r, rfl, hL2, .bl r, .bool r, rfl, .bl r, rfl, by cases r <;> decide, by cases r <;> decide +kernel, ?_⟩
  refine ⟨_, rfl, .bl r, .bool r, rfl, .bl r, rfl, by cases r <;> decide, by cases r <;> decide +kernel, rfl, _, rfl, ite_neg_of (decide_eq_true rfl) ?_⟩
  refine ⟨_, rfl, lay, dx, _, rfl, hs2, lay, fs, r, rfl, hL2, fs.length, rfl, by have := B.lf; omega, _, rfl, a, _, rfl, .inl (SqL.of B2.ha), rfl, _, rfl, ite_neg_of (decide_eq_true (by rw [List.length_map])) ?_⟩
  exact k _ _ ⟨hd, lay, rfl, s2, hL2⟩
theorem r6 (B : Rb H a o b fs gs r r2) (T : TxtX mg) (L : LayE P w K mg base C p0 p1 fI dI c) (hr : Room 9 (RX P w K mg base f cdv A outer s Hs E).A) (hg : (RX P w K mg base f cdv A outer s Hs E).A.guards = some []) : PS (RX P w K mg base f cdv A outer s Hs E) (rst 5) (tStep (Q3 K C a o r fs H) (Q3 K C a o r fs H)) := by
  refine st_by fun D' σ G pre k => ?_
  obtain ⟨hd, lay, rfl, s1, hL⟩ := pre
  obtain ⟨gR, q1, q2, RR⟩ := L.repr
  obtain ⟨gE, e1, e2, e3, RE⟩ := L.d.eq
  have hu : (RX P w K mg base f cdv A outer s Hs E).A.units + 64 < cLine := by have h := hr.un; omega
  refine ⟨_, ps_if (PW.pt (pw_or (pt_cmpR op_ne (pe_callB (call_reprOwn q1 q2 RR (hr.mono (by decide)) hg pass0) (by rfl) T.repr (by decide +kernel) (pa_cons (pv 4) pa_nil))
      (pe_op op_add_str (pe_op op_add_str (pe_op op_add_str (pe_op op_add_str pe_str (pe_callB (cr_reprD hg hu) (by rfl) T.repr (by decide +kernel) (pa_cons (pv 0) pa_nil))) pe_str) (pe_callB (cr_reprQ hg hu) (by rfl) T.repr (by decide +kernel) (pa_cons (pv 1) pa_nil))) pe_str) (nomark _))
    (pw_or (pt_cmpR (op_cmpSl (op := .Eq) (fun _ _ => rfl) e1 e2 RE (hr.mono (by decide)) pass0) (pv 4) (pv 0) (nomark _))
    (pw_or1 (pt_cmpR (op_cmpSl (op := .Eq) (fun _ _ => rfl) e1 e2 RE (hr.mono (by decide)) pass0) (pv 4) pe_non (nomark _)))))) pss_never pss_nil, ?_⟩
  have hL0 := hL
  obtain ⟨dx, t, hs, ht, nm⟩ := hL
  have B1 := B.keep s1
  have sh := shown_short nm (by have := B.lf; omega)
  obtain ⟨h1, h2, h3, h4⟩ := short_all nm
  have bl := big_line
  have l1 : (", " : Str).length = 2 := by decide +kernel
  have l2 : (")" : Str).length = 1 := by decide +kernel
  have l0 : ("Layout(" : Str).length = 7 := by decide +kernel
  have l3 : (PyData.bool r).shown.length ≤ 5 := by cases r <;> decide +kernel
  refine ⟨_, rfl, lay, dx, _, rfl, hs, lay, fs, r, rfl, hL0, by have := B.lf; omega, fun G2 t2 => ⟨_, rfl, ?_⟩⟩
  have hL2 := hL0.keep t2
  have hs2 := slt_keep t2 hs
  have B2 := B1.keep t2
  refine ⟨_, rfl, a, strsL fs, rfl, .lst (SqL.of B2.ha) (dpAll_strs _), h3, h4, ?_, by omega, _, _, rfl, rfl, by rw [l0]; omega, _, _, rfl, rfl, by rw [strLen_append, l0, l1]; omega, ?_⟩
  · show PyData.depthAll (fs.map PyData.str) + 1 ≤ 32
    have := depth_strs fs
    omega
  refine ⟨_, rfl, .bl r, .bool r, rfl, .bl r, rfl, by cases r <;> decide, by cases r <;> decide +kernel, _, _, rfl, rfl, by rw [strLen_append, strLen_append, l0, l1]; omega, _, _, rfl, rfl, by rw [strLen_append, strLen_append, strLen_append, l0, l1, l2]; omega, ?_⟩
  have et : layText fs r = (((("Layout(" : Str) ++ (strsL fs).shown) ++ (", " : Str)) ++ (PyData.bool r).shown) ++ (")" : Str) := by
    unfold layText
    rw [show (Str.empty ++ "Layout(" : Str) = "Layout(" from by decide +kernel]
    rfl
  refine ⟨rfl, _, rfl, ite_neg_of (decide_eq_true (congrArg V.str et)) ?_⟩
  refine ⟨_, rfl, _, rfl, lay, dx, _, _, rfl, hs2, .base (.lst B2.ha), (L.d.others "list" (.inl rfl)).2.1, lay, fs, r, _, rfl, hL2, .inl ⟨_, .base (.lst B2.ha), (L.d.others "list" (.inl rfl)).2.2, _, rfl, iteF ?_⟩⟩
  refine ⟨_, rfl, lay, dx, _, _, rfl, hs2, .base .non, (L.d.others "NoneType" (.inr (.inr (.inr (.inr rfl))))).2.1, lay, fs, r, _, rfl, hL2, .inl ⟨_, .base .non, (L.d.others "NoneType" (.inr (.inr (.inr (.inr rfl))))).2.2, _, rfl, iteF ?_⟩⟩
  exact k _ _ ⟨hd, lay, rfl, s1.trans t2, hL2⟩
end
end Lw

set_option Elab.async false
set_option linter.all false
set_option maxRecDepth 100000
set_option maxHeartbeats 1000000
/-! _law_right, its second half. -/
namespace Lw
open PySem L2 Two Pr ClX SlX
theorem eqv_strsL (xs ys : List Str) : PyData.eqv (strsL xs) (strsL ys) = decide (xs = ys) := eqv_strs xs ys
theorem lay_made2 {K : PySem.W.Frag} {C CB CN : Addr} {H0 : Hp} {l a dx : Addr} {fs : List Str} {rb : Bool} {Qp : VK} {E : XK} (hS : SqL K H0 l (fs.map V.str)) (nm : ∀ z ∈ fs, isName z = true) (na : H0 a = none) (nd : H0 dx = none) (ne : dx ≠ a)
    (k : ∀ H2, Same H0 H2 → IsLay K C H2 a fs rb → Qp .non H2) : spLInit K C CB CN [.ref a, .ref l, .bl rb] (upd (upd H0 dx (.own a)) a (.ins C dx [])) Qp E := by
  have s0 : Same H0 (upd (upd H0 dx (.own a)) a (.ins C dx [])) := same_upd (same_new nd) na
  have ea : (upd (upd H0 dx (.own a)) a (.ins C dx [])) a = some (.ins C dx []) := upd_same
  have ed : (upd (upd H0 dx (.own a)) a (.ins C dx [])) dx = some (.own a) := by rw [upd_ne ne]; exact upd_same
  refine ⟨a, dx, _, _, rfl, ea, ed, ne, _, rfl, .inr ⟨l, fs.map V.str, rfl, s0.seq hS, fun y hy => ?_, fun _ H1 s1 => ⟨l, fs, s1, rfl, (s0.trans s1).seq hS, .inl ⟨rb, rfl, fun t nt => k _ (fun b o e => ?_) ⟨dx, t, slH_slt ne, ?_, nm⟩⟩⟩, fun i y hy _ bad => ?_⟩⟩
  · obtain ⟨z, hz, rfl⟩ := List.mem_map.mp hy
    exact .inl ⟨z, rfl, name_len (nm z hz)⟩
  · have b1 : b ≠ a := ne_of_none e na
    have b2 : b ≠ dx := ne_of_none e nd
    rw [slH_ne b1 b2]
    exact app (s1 _ _ (s0 _ _ e)) nt
  · have t1 : t ≠ a := (ne_of_none (s1 _ _ ea) nt).symm
    have t2 : t ≠ dx := (ne_of_none (s1 _ _ ed) nt).symm
    rw [slH_ne t1 t2]
    exact upd_same
  · obtain ⟨z, hz, rfl⟩ := List.mem_map.mp (List.mem_of_getElem? hy)
    rw [show isNm (V.str z) = true from nm z hz] at bad
    cases bad
section
variable {P : Program} {w : World} {K : PySem.W.Frag} {mg : Str → Option Value} {base : Heap} {C p0 p1 fI fDf : Addr} {dI dDf : FuncData} {c : List Addr} {f : Addr} {cdv : Value} {A : Around} {outer : List Env} {s : Shared} {Hs : Hp} {E : XK} {a o b : Addr} {fs gs : List Str} {r r2 : Bool} {H : Hp}
theorem r7 (B : Rb H a o b fs gs r r2) (T : TxtX mg) (L : LayE P w K mg base C p0 p1 fI dI c) (hr : Room 9 (RX P w K mg base f cdv A outer s Hs E).A) : PS (RX P w K mg base f cdv A outer s Hs E) (rst 6) (tStep (Q3 K C a o r fs H) (Q7 K C a o r fs gs r2 H)) := by
  refine st_by fun D' σ G pre k => ?_
  obtain ⟨hd, lay, rfl, s1, hL⟩ := pre
  have B1 := B.keep s1
  refine ⟨_, ps_set (i := 5) scRight.nd rfl (Or.inl rfl) (pe_make L.d.M L.d.GI (hr.mono (by decide)) (by rfl) L.d.L.g L.d.bI .nil (passE (E := fun _ _ _ => False) fun _ _ _ z => z) (pa_cons (pe_callTy call_list_of (by rfl) T.list (by decide +kernel) (pa_cons (pe_ix ix_tup (pv 2) pe_int (fun _ _ => rfl)) pa_nil)) (pa_cons (pe_ix ix_tup (pv 2) pe_int (fun _ _ => rfl)) pa_nil))), ?_⟩
  refine ⟨_, rfl, o, _, 0, .ref b, rfl, rfl, SqT.of B1.ho, rfl, b, _, rfl, .inl (SqL.of B1.hb), fun p np => ?_⟩
  have t2 : Same G (upd G p (.lst (gs.map V.str))) := same_new np
  exact ⟨_, rfl, o, _, 1, .bl r2, rfl, rfl, SqT.of (t2 _ _ B1.ho), rfl, lay_made (K := K) (fs := gs) (Q := fun x H2 => gName 5 x [some (.ref a), some (.bl r), some (.ref o), some (.ref hd), some (.ref lay), none, none] H2 D'.nx) (SqL.of upd_same) B.nm2 fun q H2 s2 hq => k _ _ ⟨hd, lay, q, rfl, (s1.trans t2).trans s2, hL.keep (t2.trans s2), hq⟩⟩
theorem r8 (B : Rb H a o b fs gs r r2) (T : TxtX mg) (hr : Room 9 (RX P w K mg base f cdv A outer s Hs E).A) : PS (RX P w K mg base f cdv A outer s Hs E) (rst 7) (tStep (Q7 K C a o r fs gs r2 H) (Q8 K C a o r fs gs r2 H)) := by
  refine st_by fun D' σ G pre k => ?_
  obtain ⟨hd, lay, sec, rfl, s1, hL, hS⟩ := pre
  have B1 := B.keep s1
  refine ⟨_, ps_set (i := 6) scRight.nd rfl (Or.inl rfl) (pe_and (pe_cmpR (op_eqD hr.units) (pe_slice sl_list (pe_ix ix_tup (pv 2) pe_int (fun _ _ => rfl)) po_none (po_some (pe_callB call_len_seq (by rfl) T.len PySem.boot_len (pa_cons (pv 0) pa_nil)))) (pv 0) (nomark _)) (pe_one (pe_or (pe_ix ix_tup (pv 2) pe_int (fun _ _ => rfl)) (pe_one (pe_not (pv 1)))))), ?_⟩
  have nm3 : ∀ z ∈ gs.take fs.length, isName z = true := fun z hz => B.nm2 z (List.mem_of_mem_take hz)
  refine ⟨_, rfl, o, _, 0, .ref b, rfl, rfl, SqT.of B1.ho, rfl, _, rfl, a, _, rfl, .inl (SqL.of B1.ha), _, rfl, b, _, rfl, SqL.of B1.hb, fun p np => ?_⟩
  have cut : cutV (gs.map V.str) none (some (((fs.map V.str).length : Nat) : Int)) = (gs.take fs.length).map V.str := by rw [List.length_map, cutTo, List.map_take]
  refine ⟨_, rfl, strsL (gs.take fs.length), strsL fs, .lst (SqL.of (by rw [upd_same, cut])) (dpAll_strs _), .lst (SqL.of (app B1.ha np)) (dpAll_strs _), shaped_strsL nm3, shaped_strsL B.nm, _, rfl, ?_⟩
  have t2 : Same G (upd G p (.lst (cutV (gs.map V.str) none (some (((fs.map V.str).length : Nat) : Int))))) := same_new np
  generalize upd G p (.lst (cutV (gs.map V.str) none (some (((fs.map V.str).length : Nat) : Int)))) = G2 at t2 ⊢
  have q := k _ _ ⟨hd, lay, sec, rfl, s1.trans t2, hL.keep t2, hS.keep t2⟩
  unfold leL at q
  rw [eqv_strsL]
  by_cases e : fs = gs.take fs.length
  · rw [decide_eq_true e.symm]
    rw [decide_eq_true e] at q
    refine iteT ⟨_, rfl, o, _, 1, .bl r2, rfl, rfl, SqT.of (t2 _ _ B1.ho), rfl, r2, rfl, ?_⟩
    cases r2 with
    | true => exact iteT q
    | false => exact iteF ⟨_, rfl, r, rfl, q⟩
  · rw [decide_eq_false fun z => e z.symm]
    rw [decide_eq_false e] at q
    exact iteF q
theorem r9 (B : Rb H a o b fs gs r r2) (T : TxtX mg) (L : LayE P w K mg base C p0 p1 fI dI c) (hr : Room 9 (RX P w K mg base f cdv A outer s Hs E).A) : PS (RX P w K mg base f cdv A outer s Hs E) (rst 8) (tStep (Q8 K C a o r fs gs r2 H) (Q8 K C a o r fs gs r2 H)) := by
  refine st_by fun D' σ G pre k => ?_
  obtain ⟨hd, lay, sec, rfl, s1, hL, hS⟩ := pre
  have B1 := B.keep s1
  obtain ⟨gE, e1, e2, e3, RE⟩ := L.d.eq
  obtain ⟨gLe, le1, le2, le3, RLe⟩ := L.d.le
  refine ⟨_, ps_if (pt_cmpR (op_neD hr.units) (pe_lst (pa_cons (pe_cmpR (op_own (op := .LtE) (fun _ _ => rfl) le1 le2 RLe (hr.mono (by decide)) pass0) (pv 4) (pv 5) (nomark _)) (pa_cons (pe_cmpR (op_own (op := .Eq) (fun _ _ => rfl) e1 e2 RE (hr.mono (by decide)) pass0) (pv 4) (pv 5) (nomark _)) pa_nil)))
    (pe_lst (pa_cons (pv 6) (pa_cons (pe_cmpR (op_eqD hr.units) (pe_tup (pa_cons (pv 0) (pa_cons (pv 1) pa_nil))) (pv 2) (nomark _)) pa_nil))) (nomark _)) pss_never pss_nil, ?_⟩
  have go : ∀ {G : Hp}, IsLay K C G lay fs r → ∃ dx vs, Slt G lay C dx vs := fun h => let ⟨dx, t, hs, _⟩ := h; ⟨dx, _, hs⟩
  have go2 : ∀ {G : Hp}, IsLay K C G sec gs r2 → ∃ dx vs, Slt G sec C dx vs := fun h => let ⟨dx, t, hs, _⟩ := h; ⟨dx, _, hs⟩
  obtain ⟨dx, vx, hx⟩ := go hL
  obtain ⟨dy, vy, hy⟩ := go2 hS
  refine ⟨_, rfl, _, rfl, lay, dx, _, sec, C, dy, _, rfl, rfl, hx, hy, L.d.nf, lay, fs, r, sec, gs, r2, rfl, hL, hS, fun G2 t2 => ?_⟩
  have hL2 := hL.keep t2
  have hS2 := hS.keep t2
  have B2 := B1.keep t2
  refine ⟨_, rfl, _, rfl, lay, dx, _, sec, C, dy, _, rfl, rfl, slt_keep t2 hx, slt_keep t2 hy, L.d.nf, lay, fs, r, _, rfl, hL2, .inr ⟨sec, gs, r2, rfl, hS2, by show 2 ≤ sizeLine; decide, fun p np => ?_⟩⟩
  have t3 : Same G2 (upd G2 p (.lst [.bl (leL fs gs r r2), .bl (decide (fs = gs) && decide (r = r2))])) := same_new np
  have ep : (upd G2 p (.lst [.bl (leL fs gs r r2), .bl (decide (fs = gs) && decide (r = r2))])) p = some (.lst [.bl (leL fs gs r r2), .bl (decide (fs = gs) && decide (r = r2))]) := upd_same
  generalize upd G2 p (.lst [.bl (leL fs gs r r2), .bl (decide (fs = gs) && decide (r = r2))]) = G3 at t3 ep ⊢
  have B3 := B2.keep t3
  refine ⟨_, rfl, _, rfl, _, rfl, by show 2 ≤ sizeLine; decide, fun t nt => ?_⟩
  refine ⟨_, rfl, pairD fs r, pairD gs r2, dp_pairL upd_same (app B3.ha nt), dp_pairL (app B3.ho nt) (app B3.hb nt), shaped_pair r B.nm, shaped_pair r2 B.nm2, by show 2 ≤ sizeLine; decide, fun p2 np2 => ?_⟩
  refine ⟨.list [.bool (leL fs gs r r2), .bool (decide (fs = gs) && decide (r = r2))], .list [.bool (leL fs gs r r2), .bool (PyData.eqv (pairD fs r) (pairD gs r2))], .lst (SqL.of (app (app ep nt) np2)) (.cons (.bl _) (.cons (.bl _) .nil)), .lst (SqL.of upd_same) (.cons (.bl _) (.cons (.bl _) .nil)), rfl, rfl, _, rfl, ?_⟩
  rw [eqv_pair]
  have e : PyData.eqv (.list [.bool (leL fs gs r r2), .bool (decide (fs = gs) && decide (r = r2))]) (.list [.bool (leL fs gs r r2), .bool (decide (fs = gs) && decide (r = r2))]) = true := by
    cases leL fs gs r r2 <;> cases (decide (fs = gs) && decide (r = r2)) <;> rfl
  rw [e]
  refine iteF (k _ _ ⟨hd, lay, sec, rfl, ?_, ?_, ?_⟩)
  · exact ad (ad (s1.trans (t2.trans t3)) nt) np2
  · exact (hL2.keep t3).keep (ad (same_new nt) np2)
  · exact (hS2.keep t3).keep (ad (same_new nt) np2)
theorem r10 (B : Rb H a o b fs gs r r2) (L : LayE P w K mg base C p0 p1 fI dI c) (hr : Room 9 (RX P w K mg base f cdv A outer s Hs E).A) (gD : mg "_law_difference" = some (.ref fDf)) (kD : PySem.W.keepIn K (.ref fDf) = true) (bD : Binds K dDf ["_law_one_here", "_law_other"] [])
    (GD : FnOk P w K mg base CX0 1 fDf dDf ["_law_one_here", "_law_other"] spDiffer) : PS (RX P w K mg base f cdv A outer s Hs E) (rst 9) (tStep (Q8 K C a o r fs gs r2 H) (Q8 K C a o r fs gs r2 H)) := by
  refine st_by fun D' σ G pre k => ?_
  obtain ⟨hd, lay, sec, rfl, s1, hL, hS⟩ := pre
  have B1 := B.keep s1
  obtain ⟨gFi, mFi, RFi⟩ := L.d.first
  refine ⟨_, ps_if (pt_cmpR op_ne (pe_methSl (pv 4) L.d.L.c mFi RFi (hr.mono (by decide)) pass0 (pa_cons (pv 5) pa_nil)) (pe_call GD (hr.mono (by decide)) (by rfl) gD kD bD .nil pass0 (pa_cons (pe_tup (pa_cons (pv 0) (pa_cons (pv 1) pa_nil))) (pa_cons (pv 2) pa_nil))) (nomark _)) pss_never pss_nil, ?_⟩
  obtain ⟨dx, vx, hx⟩ : ∃ dx vs, Slt G lay C dx vs := let ⟨dx, t, hs, _⟩ := hL; ⟨dx, _, hs⟩
  have lf := B.lf
  have lg := B.lg
  have fin : ∀ t, G t = none → (fs = gs ∧ r = r2 → True) → D'.nx [some (.ref a), some (.bl r), some (.ref o), some (.ref hd), some (.ref lay), some (.ref sec), some (.bl (leL fs gs r r2))] (upd G t (.tup [.ref a, .bl r])) := fun t nt _ => k _ _ ⟨hd, lay, sec, rfl, ad s1 nt, hL.keep (same_new nt), hS.keep (same_new nt)⟩
  refine ⟨_, rfl, lay, dx, _, rfl, hx, _, rfl, lay, fs, r, sec, gs, r2, rfl, hL, hS, by omega, by omega, fun e => ?_, fun e => ?_⟩
  · refine ⟨_, rfl, _, rfl, by show 2 ≤ sizeLine; decide, fun t nt => ⟨_, rfl, t, o, a, b, fs, gs, r, r2, rfl, upd_same, app B1.ha nt, app B1.ho nt, app B1.hb nt, B.nm, B.nm2, by omega, by omega, fun _ => ⟨rfl, _, rfl, ite_neg_of (decide_eq_true rfl) (fin t nt fun _ => trivial)⟩, fun n => absurd e n⟩⟩
  · refine ⟨_, rfl, _, rfl, by show 2 ≤ sizeLine; decide, fun t nt => ⟨_, rfl, t, o, a, b, fs, gs, r, r2, rfl, upd_same, app B1.ha nt, app B1.ho nt, app B1.hb nt, B.nm, B.nm2, by omega, by omega, fun z => absurd z e, fun _ => ⟨rfl, _, rfl, ite_neg_of (decide_eq_true rfl) (fin t nt fun _ => trivial)⟩⟩⟩
theorem r11 (B : Rb H a o b fs gs r r2) (T : TxtX mg) (L : LayE P w K mg base C p0 p1 fI dI c) (hr : Room 9 (RX P w K mg base f cdv A outer s Hs E).A) : PS (RX P w K mg base f cdv A outer s Hs E) (rst 10) (tStep (Q8 K C a o r fs gs r2 H) (Q8 K C a o r fs gs r2 H)) := by
  refine st_by fun D' σ G pre k => ?_
  obtain ⟨hd, lay, sec, rfl, s1, hL, hS⟩ := pre
  have B1 := B.keep s1
  obtain ⟨gE, e1, e2, e3, RE⟩ := L.d.eq
  refine ⟨_, ps_if (pt_cmpR (op_neOwn L.ne L.ob e1 e2 RE (hr.mono (by decide)) pass0) (pe_make L.d.M L.d.GI (hr.mono (by decide)) (by rfl) L.d.L.g L.d.bI1 (.cons (show RelV (.bl false) (.bool false) from rfl) .nil) (passE (E := fun _ _ _ => False) fun _ _ _ z => z) (pa_cons (pe_callTy call_list_of (by rfl) T.list (by decide +kernel) (pa_cons (pv 0) pa_nil)) pa_nil))
    (pe_make L.d.M L.d.GI (hr.mono (by decide)) (by rfl) L.d.L.g L.d.bI .nil (passE (E := fun _ _ _ => False) fun _ _ _ z => z) (pa_cons (pe_callTy call_list_of (by rfl) T.list (by decide +kernel) (pa_cons (pv 0) pa_nil)) (pa_cons pe_bl pa_nil))) (nomark _)) pss_never pss_nil, ?_⟩
  refine ⟨_, rfl, a, _, rfl, .inl (SqL.of B1.ha), fun q1 n1 => ?_⟩
  have t1 : Same G (upd G q1 (.lst (fs.map V.str))) := same_new n1
  refine fun x dx0 nx nd0 ne0 => lay_made2 (K := K) (fs := fs) (rb := false) (SqL.of upd_same) B.nm nx nd0 ne0 fun H2 s2 hx => ⟨rfl, ?_⟩
  have B2 := B1.keep (t1.trans s2)
  refine ⟨_, rfl, a, _, rfl, .inl (SqL.of B2.ha), fun q2 n2 => ?_⟩
  have t3 : Same H2 (upd H2 q2 (.lst (fs.map V.str))) := same_new n2
  refine fun y dx1 ny nd1 ne1 => lay_made2 (K := K) (fs := fs) (rb := false) (SqL.of upd_same) B.nm ny nd1 ne1 fun H3 s3 hy => ⟨rfl, ?_⟩
  have hx3 := hx.keep (t3.trans s3)
  have all : Same G H3 := (t1.trans s2).trans (t3.trans s3)
  obtain ⟨dx, vx, ex⟩ : ∃ dx vs, Slt H3 x C dx vs := let ⟨dx, t, hs, _⟩ := hx3; ⟨dx, _, hs⟩
  obtain ⟨dy, vy, ey⟩ : ∃ dx vs, Slt H3 y C dx vs := let ⟨dx, t, hs, _⟩ := hy; ⟨dx, _, hs⟩
  refine ⟨x, dx, _, y, C, dy, _, rfl, rfl, ex, ey, L.d.nf, x, fs, false, _, rfl, hx3, .inr ⟨y, fs, false, rfl, hy, _, rfl, _, rfl, ?_⟩⟩
  refine ite_neg_of (by rw [decide_eq_true rfl]; rfl) ?_
  exact k _ _ ⟨hd, lay, sec, rfl, s1.trans all, hL.keep all, hS.keep all⟩
theorem r12 (B : Rb H a o b fs gs r r2) (T : TxtX mg) (L : LayE P w K mg base C p0 p1 fI dI c) (hr : Room 9 (RX P w K mg base f cdv A outer s Hs E).A) (hg : (RX P w K mg base f cdv A outer s Hs E).A.guards = some []) : PSs (RX P w K mg base f cdv A outer s Hs E) [rst 11] (fun D' σ G => Q8 K C a o r fs gs r2 H σ G ∧ ∀ H', Same H H' → D'.rt (.bl true) H') := by
  refine pss_by fun D' σ G ⟨pre, k⟩ => ?_
  obtain ⟨hd, lay, sec, rfl, s1, hL, hS⟩ := pre
  have B1 := B.keep s1
  obtain ⟨gE, e1, e2, e3, RE⟩ := L.d.eq
  obtain ⟨gW, mW, RW⟩ := L.d.with_
  obtain ⟨gH, mH, RH⟩ := L.d.has
  have hu : (RX P w K mg base f cdv A outer s Hs E).A.units + 64 < cLine := by have h := hr.un; omega
  refine ⟨_, pss_one (ps_ret (pe_and (pe_cmpR (op_own (op := .Eq) (fun _ _ => rfl) e1 e2 RE (hr.mono (by decide)) pass0) (pe_methSl0 (pv 4) L.d.L.c mW RW (hr.mono (by decide)) pass0)
      (pe_make L.d.M L.d.GI (hr.mono (by decide)) (by rfl) L.d.L.g L.d.bI .nil (passE (E := fun _ _ _ => False) fun _ _ _ z => z) (pa_cons (pe_callTy call_list_of (by rfl) T.list (by decide +kernel) (pa_cons (pv 0) pa_nil)) (pa_cons pe_bl pa_nil))) (nomark _))
    (pe_one (pe_cmpR op_eq (pe_callB (cr_reprQ hg hu) (by rfl) T.repr (by decide +kernel) (pa_cons (pe_methSl0 (pv 4) L.d.L.c mH RH (hr.mono (by decide)) pass0) pa_nil)) (pe_callB (cr_reprQ hg hu) (by rfl) T.repr (by decide +kernel) (pa_cons (pv 1) pa_nil)) (nomark _))))), ?_⟩
  obtain ⟨dx, vx, hx⟩ : ∃ dx vs, Slt G lay C dx vs := let ⟨dx, t, hs, _⟩ := hL; ⟨dx, _, hs⟩
  refine ⟨_, rfl, lay, dx, _, rfl, hx, lay, fs, r, rfl, hL, fun x H2 s2 hx2 => ?_⟩
  have B2 := B1.keep s2
  refine ⟨_, rfl, a, _, rfl, .inl (SqL.of B2.ha), fun q2 n2 => ?_⟩
  have t3 : Same H2 (upd H2 q2 (.lst (fs.map V.str))) := same_new n2
  refine fun y dx1 ny nd1 ne1 => lay_made2 (K := K) (fs := fs) (rb := true) (SqL.of upd_same) B.nm ny nd1 ne1 fun H3 s3 hy => ⟨rfl, ?_⟩
  have hx3 := hx2.keep (t3.trans s3)
  have all : Same G H3 := s2.trans (t3.trans s3)
  obtain ⟨dx2, vx2, ex⟩ : ∃ dx vs, Slt H3 x C dx vs := let ⟨dx, t, hs, _⟩ := hx3; ⟨dx, _, hs⟩
  obtain ⟨dy, vy, ey⟩ : ∃ dx vs, Slt H3 y C dx vs := let ⟨dx, t, hs, _⟩ := hy; ⟨dx, _, hs⟩
  refine ⟨x, dx2, _, y, C, dy, _, rfl, rfl, ex, ey, L.d.nf, x, fs, true, _, rfl, hx3, .inr ⟨y, fs, true, rfl, hy, _, rfl, ?_⟩⟩
  refine ite_true_of (by rw [decide_eq_true rfl]; rfl) ?_
  have hL3 := hL.keep all
  refine ⟨_, rfl, lay, dx, _, rfl, slt_keep all hx, lay, fs, r, rfl, hL3, .bl r, .bool r, rfl, .bl r, rfl, by cases r <;> decide, by cases r <;> decide +kernel, ?_⟩
  refine ⟨_, rfl, .bl r, .bool r, rfl, .bl r, rfl, by cases r <;> decide, by cases r <;> decide +kernel, rfl, ?_⟩
  rw [decide_eq_true rfl]
  exact k _ (s1.trans all)
end
end Lw

set_option Elab.async false
set_option linter.all false
set_option maxRecDepth 100000
set_option maxHeartbeats 1000000
/-! _law_right whole; law begun. -/
namespace Two
open PySem PySem.Spec PyProof.Rows L2
theorem st_fin {X : Cx} {s : Stmt} {ss : List Stmt} {P0 P1 : L2.St → Hp → Prop} {R : Ends → Prop} (h1 : PS X s (tStep P0 P1)) (h2 : PSs X ss (fun D σ G => P1 σ G ∧ R D)) (hR : ∀ D : Ends, ∀ nx, R D → R { D with nx := nx } := by intro D nx h; exact h) : PSs X (s :: ss) (fun D σ G => P0 σ G ∧ R D) := ⟨fun pins s σ H D I ⟨a, r⟩ => (pss_cons h1 h2).run pins s σ H D I ⟨a, fun _ _ p1 => ⟨p1, r⟩⟩⟩
end Two
namespace Lw
open PySem L2 Two Pr ClX SlX
section
variable {P : Program} {w : World} {K : PySem.W.Frag} {mg : Str → Option Value} {base : Heap} {C p0 p1 fI fDf : Addr} {dI dDf : FuncData} {c : List Addr}
theorem ok_right {f : Addr} {fd : FuncData} (F : Fun K "_law_right" "_law_right" sRight f fd) (T : TxtX mg) (L : LayE P w K mg base C p0 p1 fI dI c) (gD : mg "_law_difference" = some (.ref fDf)) (kD : PySem.W.keepIn K (.ref fDf) = true) (bD : Binds K dDf ["_law_one_here", "_law_other"] [])
    (GD : FnOk P w K mg base CX0 1 fDf dDf ["_law_one_here", "_law_other"] spDiffer) : FnG P w K mg base CX0 10 f fd ["_law_names_here", "_law_room", "_law_other"] (spRight K) := by
  refine FnG.of F scRight (fun vs H Q E h => ?_) (fun cdv A outer s H vs Q E hr hg h => ?_)
  · obtain ⟨a, o, b, fs, gs, r, r2, rfl, _⟩ := h
    rfl
  · obtain ⟨a, o, b, fs, gs, r, r2, rfl, ha, ho, hb, nm, nm2, lf, lg, k⟩ := h
    have B : Rb H a o b fs gs r r2 := ⟨ha, ho, hb, nm, nm2, lf, lg⟩
    have all : PSs (RX P w K mg base f cdv A outer s H E) [rst 0, rst 1, rst 2, rst 3, rst 4, rst 5, rst 6, rst 7, rst 8, rst 9, rst 10, rst 11] (fun D' σ G => Q0 a o r H σ G ∧ ∀ H', Same H H' → D'.rt (.bl true) H') :=
      st_fin (R := fun D' => ∀ H', Same H H' → D'.rt (.bl true) H') (r1 B T) (st_fin (R := fun D' => ∀ H', Same H H' → D'.rt (.bl true) H') (r2' B L hr) (st_fin (R := fun D' => ∀ H', Same H H' → D'.rt (.bl true) H') (r3 B) (st_fin (R := fun D' => ∀ H', Same H H' → D'.rt (.bl true) H') (r4 B L hr) (st_fin (R := fun D' => ∀ H', Same H H' → D'.rt (.bl true) H') (r5 B T L hr hg)
        (st_fin (R := fun D' => ∀ H', Same H H' → D'.rt (.bl true) H') (r6 B T L hr hg) (st_fin (R := fun D' => ∀ H', Same H H' → D'.rt (.bl true) H') (r7 B T L hr) (st_fin (R := fun D' => ∀ H', Same H H' → D'.rt (.bl true) H') (r8 B T hr) (st_fin (R := fun D' => ∀ H', Same H H' → D'.rt (.bl true) H') (r9 B T L hr) (st_fin (R := fun D' => ∀ H', Same H H' → D'.rt (.bl true) H') (r10 B L hr gD kD bD GD) (st_fin (R := fun D' => ∀ H', Same H H' → D'.rt (.bl true) H') (r11 B T L hr) (r12 B T L hr hg)))))))))))
    refine ⟨_, (show PSs (RX P w K mg base f cdv A outer s H E) (defBody sRight) _ from all), ⟨rfl, rfl⟩, k⟩
end
abbrev sLaw : Stmt := top 48
abbrev nLaw : List Str := ["_law_script", "_law_cell", "_law_well_here", "_law_names_here", "_law_room", "_law_cut", "_law_near", "_law_other", "_law_layout", "_law_offset", "_law_odd", "_law_name_here", "_law_found", "_law_due", "_law_turn", "_law_thing", "_law_kept", "_law_at"]
theorem scLaw : FnScope nLaw ["_law_script"] (defScope sLaw) := ⟨rfl, rfl, rfl, by decide +kernel, rfl, by decide +kernel, by decide +kernel⟩
def loopBody : List Stmt := match (defBody sLaw).getD 0 (.Pass ⟨0, 0, 0, 0⟩) with
  | .For _ _ b _ _ => b
  | _ => []
abbrev stm (k : Nat) : Stmt := loopBody.getD k (.Pass ⟨0, 0, 0, 0⟩)
structure Defs (P : Program) (w : World) (K : PySem.W.Frag) (mg : Str → Option Value) (base : Heap) (C : Addr) (fC fW fD fN fB fA fR fV : Addr) (dC dW dD dN dB dA dR dV : FuncData) : Prop where
  gC : mg "_law_cell_at" = some (.ref fC)
  kC : PySem.W.keepIn K (.ref fC) = true
  bC : Binds K dC ["_law_script", "_law_k"] []
  GC : FnOk P w K mg base CX0 1 fC dC ["_law_script", "_law_k"] (spCell K)
  gW : mg "_law_well" = some (.ref fW)
  kW : PySem.W.keepIn K (.ref fW) = true
  bW : Binds K dW ["_law_cell"] []
  GW : FnOk P w K mg base CX0 1 fW dW ["_law_cell"] spWell
  gD : mg "_law_draw" = some (.ref fD)
  kD : PySem.W.keepIn K (.ref fD) = true
  bD : Binds K dD ["_law_well_here", "_law_many"] []
  GD : FnOk P w K mg base CX0 1 fD dD ["_law_well_here", "_law_many"] spDraw
  gN : mg "_law_names" = some (.ref fN)
  kN : PySem.W.keepIn K (.ref fN) = true
  bN : Binds K dN ["_law_well_here", "_law_most"] []
  GN : FnOk P w K mg base CX0 4 fN dN ["_law_well_here", "_law_most"] spNames
  gB : mg "_law_bad_fields" = some (.ref fB)
  kB : PySem.W.keepIn K (.ref fB) = true
  bB : Binds K dB ["_law_well_here", "_law_names_here"] []
  GB : FnOk P w K mg base CX0 3 fB dB ["_law_well_here", "_law_names_here"] (spBadF K)
  gA : mg "_law_asked" = some (.ref fA)
  kA : PySem.W.keepIn K (.ref fA) = true
  bA : Binds K dA ["_law_way", "_law_layout", "_law_thing"] []
  GA : FnG P w K mg base CX0 10 fA dA ["_law_way", "_law_layout", "_law_thing"] (spAsked K C)
  gR : mg "_law_right" = some (.ref fR)
  kR : PySem.W.keepIn K (.ref fR) = true
  bR : Binds K dR ["_law_names_here", "_law_room", "_law_other"] []
  GR : FnG P w K mg base CX0 10 fR dR ["_law_names_here", "_law_room", "_law_other"] (spRight K)
  gV : mg "_law_added" = some (.ref fV)
  kV : PySem.W.keepIn K (.ref fV) = true
  bV : Binds K dV ["_law_names_here", "_law_thing"] []
  GV : FnG P w K mg base CX0 2 fV dV ["_law_names_here", "_law_thing"] (spAdded K)
/-- what stands at every statement -/
structure Bs (Cs : Addr) (cells : List Int) (G : Hp) : Prop where
  cs : G Cs = some (.lst (cells.map V.int))
  sys : Sys G
theorem Bs.same {Cs cells G G'} (b : Bs Cs cells G) (s : Same G G') : Bs Cs cells G' := ⟨s _ _ b.cs, b.sys.keep s⟩
/-- the well at l -/
structure Wl (Cs : Addr) (cells : List Int) (l : Addr) (m : Nat) (G : Hp) : Prop where
  bs : Bs Cs cells G
  ne : Cs ≠ l
  src : Src G l m
theorem Wl.same {Cs cells l m G G'} (b : Wl Cs cells l m G) (s : Same G G') : Wl Cs cells l m G' := ⟨b.bs.same s, b.ne, b.src.keep s⟩
theorem Wl.but {Cs cells l m m' G G'} (b : Wl Cs cells l m G) (s : But (· = l) G G') (src : Src G' l m') : Wl Cs cells l m' G' := ⟨⟨s _ _ b.ne b.bs.cs, b.bs.sys.but b.src s⟩, b.ne, src⟩
/-- the names -/
structure Nm (l nm : Addr) (fs : List Str) (G : Hp) : Prop where
  at_ : G nm = some (.lst (fs.map V.str))
  ne : nm ≠ l
  few : fs.length ≤ 8
  from_ : ∀ z ∈ fs, z ∈ NM
theorem Nm.same {l nm fs G G'} (b : Nm l nm fs G) (s : Same G G') : Nm l nm fs G' := ⟨s _ _ b.at_, b.ne, b.few, b.from_⟩
theorem Nm.but {l nm fs G G'} (b : Nm l nm fs G) (s : But (· = l) G G') : Nm l nm fs G' := ⟨s _ _ b.ne b.at_, b.ne, b.few, b.from_⟩
theorem Nm.nm {l nm fs G} (b : Nm l nm fs G) : ∀ z ∈ fs, isName z = true := fun z hz => nm_name z (b.from_ z hz)
abbrev LX (P : Program) (w : World) (K : PySem.W.Frag) (mg : Str → Option Value) (base : Heap) (f : Addr) (cdv : Value) (A : Around) (outer : List Env) (s : Shared) (Hs : Hp) (E : XK) : Cx := (cxOf CX0 P w K mg base nLaw "law" (defScope sLaw) f cdv A outer s Hs E).nox
section
variable (a Cs : Addr) (cells : List Int)
def L0 (σ : L2.St) (G : Hp) : Prop := ∃ (y : Int) (v2 v3 v4 v5 v6 v7 v8 v9 v10 v11 v12 v13 v14 v15 v16 v17 : Option V), σ = [some (.ref a), some (.int y), v2, v3, v4, v5, v6, v7, v8, v9, v10, v11, v12, v13, v14, v15, v16, v17] ∧ Bs Cs cells G
def L1 (σ : L2.St) (G : Hp) : Prop := ∃ (y : Int) (l : Addr) (v3 v4 v5 v6 v7 v8 v9 v10 v11 v12 v13 v14 v15 v16 v17 : Option V), σ = [some (.ref a), some (.int y), some (.ref l), v3, v4, v5, v6, v7, v8, v9, v10, v11, v12, v13, v14, v15, v16, v17] ∧ Wl Cs cells l 0 G
def L2' (σ : L2.St) (G : Hp) : Prop := ∃ (y : Int) (l nm : Addr) (fs : List Str) (r : Bool) (v5 v6 v7 v8 v9 v10 v11 v12 v13 v14 v15 v16 v17 : Option V), σ = [some (.ref a), some (.int y), some (.ref l), some (.ref nm), some (.bl r), v5, v6, v7, v8, v9, v10, v11, v12, v13, v14, v15, v16, v17] ∧ Wl Cs cells l 100 G ∧ Nm l nm fs G
def L3 (σ : L2.St) (G : Hp) : Prop := ∃ (y : Int) (l nm : Addr) (fs : List Str) (r : Bool) (cut : Nat) (v6 v7 v8 v9 v10 v11 v12 v13 v14 v15 v16 v17 : Option V), σ = [some (.ref a), some (.int y), some (.ref l), some (.ref nm), some (.bl r), some (.int (cut : Nat)), v6, v7, v8, v9, v10, v11, v12, v13, v14, v15, v16, v17] ∧ Wl Cs cells l 200 G ∧ Nm l nm fs G ∧ cut ≤ fs.length
end
section
variable {P : Program} {w : World} {K : PySem.W.Frag} {mg : Str → Option Value} {base : Heap} {C p0 p1 fI : Addr} {dI : FuncData} {c : List Addr} {fC fW fD fN fB fA fR fV : Addr} {dC dW dD dN dB dA dR dV : FuncData} {f : Addr} {cdv : Value} {A : Around} {outer : List Env} {s : Shared} {Hs : Hp} {E : XK} {a Cs : Addr} {cells : List Int}
theorem t0 (D : Defs P w K mg base C fC fW fD fN fB fA fR fV dC dW dD dN dB dA dR dV) (hr : Room 10 (LX P w K mg base f cdv A outer s Hs E).A) : PS (LX P w K mg base f cdv A outer s Hs E) (stm 0) (tStep (L0 a Cs cells) (L1 a Cs cells)) := by
  refine st_by fun D' σ G pre k => ?_
  obtain ⟨y, v2, v3, v4, v5, v6, v7, v8, v9, v10, v11, v12, v13, v14, v15, v16, v17, rfl, b⟩ := pre
  refine ⟨_, ps_set (i := 2) scLaw.nd rfl (Or.inl rfl) (pe_call D.GW (hr.mono (by decide)) rfl D.gW D.kW D.bW .nil pass0 (pa_cons (pv 1) pa_nil)), ?_⟩
  exact ⟨_, rfl, y, rfl, fun G1 l s1 nl src => k _ _ ⟨y, l, v3, v4, v5, v6, v7, v8, v9, v10, v11, v12, v13, v14, v15, v16, v17, rfl, b.same s1, ne_of_none b.cs nl, src⟩⟩
theorem t1 (D : Defs P w K mg base C fC fW fD fN fB fA fR fV dC dW dD dN dB dA dR dV) (hr : Room 10 (LX P w K mg base f cdv A outer s Hs E).A) : PS (LX P w K mg base f cdv A outer s Hs E) (stm 1) (tStep (L1 a Cs cells) (L2' a Cs cells)) := by
  refine st_by fun D' σ G pre k => ?_
  obtain ⟨y, l, v3, v4, v5, v6, v7, v8, v9, v10, v11, v12, v13, v14, v15, v16, v17, rfl, W⟩ := pre
  refine ⟨_, ps_asg (pe_tup (pa_cons (pe_call D.GN (hr.mono (by decide)) rfl D.gN D.kN D.bN .nil pass0 (pa_cons (pv 2) (pa_cons pe_int pa_nil))) (pa_cons (pe_cmpR op_eq (pe_call D.GD (hr.mono (by decide)) rfl D.gD D.kD D.bD .nil pass0 (pa_cons (pv 2) (pa_cons pe_int pa_nil))) pe_int (nomark _)) pa_nil)))
    (pg_tup rfl (pgs_cons (pg_name (i := 3) scLaw.nd rfl (Or.inr rfl)) (pgs_cons (pg_name (i := 4) scLaw.nd rfl (Or.inl rfl)) pgs_nil))), ?_⟩
  refine ⟨_, rfl, l, 8, 0, rfl, by decide, W.src, by decide, fun G1 nm fs b1 s1 nn hn ln mn => ?_⟩
  have nl := src_none W.src nn
  refine ⟨_, rfl, l, 2, _, rfl, by decide, by decide, s1, by decide, fun G2 d b2 s2 d0 d1 => ⟨rfl, by show 2 ≤ sizeLine; decide, fun t nt => ?_⟩⟩
  have N1 : Nm l nm fs G1 := ⟨hn, nl, ln, mn⟩
  refine ⟨t, _, rfl, SqT.of upd_same, rfl, ?_⟩
  exact ⟨_, _, rfl, _, _, rfl, rfl, k _ _ ⟨y, l, nm, fs, _, v5, v6, v7, v8, v9, v10, v11, v12, v13, v14, v15, v16, v17, rfl, ((W.but b1 s1).but b2 (s2.more (by decide))).same (same_new nt), (N1.but b2).same (same_new nt)⟩⟩
theorem t2 (T : TxtX mg) (D : Defs P w K mg base C fC fW fD fN fB fA fR fV dC dW dD dN dB dA dR dV) (hr : Room 10 (LX P w K mg base f cdv A outer s Hs E).A) : PS (LX P w K mg base f cdv A outer s Hs E) (stm 2) (tStep (L2' a Cs cells) (L3 a Cs cells)) := by
  refine st_by fun D' σ G pre k => ?_
  obtain ⟨y, l, nm, fs, r, v5, v6, v7, v8, v9, v10, v11, v12, v13, v14, v15, v16, v17, rfl, W, N⟩ := pre
  refine ⟨_, ps_set (i := 5) scLaw.nd rfl (Or.inl rfl) (pe_call D.GD (hr.mono (by decide)) rfl D.gD D.kD D.bD .nil pass0 (pa_cons (pv 2) (pa_cons (pe_op op_add (pe_callB call_len_seq (by rfl) T.len PySem.boot_len (pa_cons (pv 3) pa_nil)) pe_int) pa_nil))), ?_⟩
  have lf := N.few
  refine ⟨_, rfl, _, rfl, nm, _, rfl, .inl (SqL.of N.at_), _, _, rfl, rfl, l, _, 100, rfl, by rw [List.length_map]; omega, by rw [List.length_map]; omega, W.src, by decide, fun G2 d b2 s2 d0 d1 => ?_⟩
  obtain ⟨cut, rfl⟩ := Int.eq_ofNat_of_zero_le d0
  rw [List.length_map] at d1
  exact k _ _ ⟨y, l, nm, fs, r, cut, v6, v7, v8, v9, v10, v11, v12, v13, v14, v15, v16, v17, rfl, W.but b2 (s2.more (by decide)), N.but b2, (show cut ≤ fs.length from by have d2 : (cut : Int) < (fs.length : Int) + 1 := d1; omega)⟩
end
end Lw

set_option Elab.async false
set_option linter.all false
set_option maxRecDepth 100000
set_option maxHeartbeats 1000000
/-! law, statements 3 to 6. -/
namespace Lw
open PySem L2 Two Pr ClX SlX
/-- a pair of names and a room -/
def Pp (l t : Addr) (G : Hp) : Prop := t ≠ l ∧ ∃ (b : Addr) (gs : List Str) (r2 : Bool), G t = some (.tup [.ref b, .bl r2]) ∧ G b = some (.lst (gs.map V.str)) ∧ b ≠ l ∧ (∀ z ∈ gs, z ∈ NM) ∧ gs.length ≤ 20
theorem Pp.but {l t G G'} (h : Pp l t G) (b : But (· = l) G G') : Pp l t G' := let ⟨n, q, gs, r2, h1, h2, h3, h4⟩ := h; ⟨n, q, gs, r2, b _ _ n h1, b _ _ h3 h2, h3, h4⟩
theorem Pp.same {l t G G'} (h : Pp l t G) (b : Same G G') : Pp l t G' := h.but (but_same b)
section
variable (a Cs : Addr) (cells : List Int)
def L4 (σ : L2.St) (G : Hp) : Prop := ∃ (y : Int) (l nm : Addr) (fs : List Str) (r : Bool) (near q1 q2 q3 : Addr) (v5 v7 v8 v9 v10 v11 v12 v13 v14 v15 v16 v17 : Option V), σ = [some (.ref a), some (.int y), some (.ref l), some (.ref nm), some (.bl r), v5, some (.ref near), v7, v8, v9, v10, v11, v12, v13, v14, v15, v16, v17] ∧ Wl Cs cells l 300 G ∧ Nm l nm fs G ∧ near ≠ l ∧ G near = some (.lst [.ref q1, .ref q2, .ref q3]) ∧ Pp l q1 G ∧ Pp l q2 G ∧ Pp l q3 G
def L5 (σ : L2.St) (G : Hp) : Prop := ∃ (y : Int) (l nm : Addr) (fs : List Str) (r : Bool) (v5 v6 v7 v8 v9 v10 v11 v12 v13 v14 v15 v16 v17 : Option V), σ = [some (.ref a), some (.int y), some (.ref l), some (.ref nm), some (.bl r), v5, v6, v7, v8, v9, v10, v11, v12, v13, v14, v15, v16, v17] ∧ Wl Cs cells l 400 G ∧ Nm l nm fs G
def L6 (K : PySem.W.Frag) (C : Addr) (σ : L2.St) (G : Hp) : Prop := ∃ (y : Int) (l nm lay : Addr) (fs : List Str) (r : Bool) (v5 v6 v7 v9 v10 v11 v12 v13 v14 v15 v16 v17 : Option V), σ = [some (.ref a), some (.int y), some (.ref l), some (.ref nm), some (.bl r), v5, v6, v7, some (.ref lay), v9, v10, v11, v12, v13, v14, v15, v16, v17] ∧ Wl Cs cells l 400 G ∧ Nm l nm fs G ∧ IsLay K C G lay fs r
end
theorem IsLay.but {K : PySem.W.Frag} {C : Addr} {G G' : Hp} {l lay : Addr} {fs : List Str} {r : Bool} {n : Nat} (h : IsLay K C G lay fs r) (src : Src G l n) (b : But (· = l) G G') : IsLay K C G' lay fs r := by
  obtain ⟨x, y, c, hl, _⟩ := src
  obtain ⟨dx, t, hs, ht, nm⟩ := h
  have ne : ∀ {q : Addr} {o : HO}, G q = some o → o ≠ .lst [.int x, .int y, .int c] → q ≠ l := fun e d z => by
    rw [z, hl] at e
    exact d (Option.some.inj e).symm
  refine ⟨dx, t, ?_, b _ _ (ne ht (fun z => nomatch z)) ht, nm⟩
  exact hs.imp (fun ⟨x, y⟩ => ⟨b _ _ (ne x (fun z => nomatch z)) x, y⟩) (fun ⟨x, y⟩ => ⟨b _ _ (ne x (fun z => nomatch z)) x, b _ _ (ne y (fun z => nomatch z)) y⟩)
section
variable {P : Program} {w : World} {K : PySem.W.Frag} {mg : Str → Option Value} {base : Heap} {C p0 p1 fI : Addr} {dI : FuncData} {c : List Addr} {fC fW fD fN fB fA fR fV : Addr} {dC dW dD dN dB dA dR dV : FuncData} {f : Addr} {cdv : Value} {A : Around} {outer : List Env} {s : Shared} {Hs : Hp} {E : XK} {a Cs : Addr} {cells : List Int}
theorem t3 (T : TxtX mg) (D : Defs P w K mg base C fC fW fD fN fB fA fR fV dC dW dD dN dB dA dR dV) (hr : Room 10 (LX P w K mg base f cdv A outer s Hs E).A) : PS (LX P w K mg base f cdv A outer s Hs E) (stm 3) (tStep (L3 a Cs cells) (L4 a Cs cells)) := by
  refine st_by fun D' σ G pre k => ?_
  obtain ⟨y, l, nm, fs, r, cut, v6, v7, v8, v9, v10, v11, v12, v13, v14, v15, v16, v17, rfl, W, N, hc⟩ := pre
  refine ⟨_, ps_set (i := 6) scLaw.nd rfl (Or.inl rfl) (pe_lst (pa_cons (pe_tup (pa_cons (pe_callTy call_list_of (by rfl) T.list (by decide +kernel) (pa_cons (pv 3) pa_nil)) (pa_cons (pv 4) pa_nil)))
      (pa_cons (pe_tup (pa_cons (pe_slice sl_list (pv 3) po_none (po_some (pv 5))) (pa_cons (pe_cmpR op_eq (pe_call D.GD (hr.mono (by decide)) rfl D.gD D.kD D.bD .nil pass0 (pa_cons (pv 2) (pa_cons pe_int pa_nil))) pe_int (nomark _)) pa_nil)))
      (pa_cons (pe_tup (pa_cons (pe_op op_cat (pv 3) (pe_call D.GN (hr.mono (by decide)) rfl D.gN D.kN D.bN .nil pass0 (pa_cons (pv 2) (pa_cons pe_int pa_nil)))) (pa_cons (pv 4) pa_nil))) pa_nil)))), ?_⟩
  have lf := N.few
  refine ⟨_, rfl, nm, _, rfl, .inl (SqL.of N.at_), fun p1 n1 => ?_⟩
  have u1 : Same G (upd G p1 (.lst (fs.map V.str))) := same_new n1
  have e1 : (upd G p1 (.lst (fs.map V.str))) p1 = some (.lst (fs.map V.str)) := upd_same
  generalize upd G p1 (.lst (fs.map V.str)) = G1 at u1 e1 ⊢
  have W1 := W.same u1
  have x1 : p1 ≠ l := src_none W.src n1
  refine ⟨_, rfl, by show 2 ≤ sizeLine; decide, fun q1 m1 => ?_⟩
  have u2 : Same G1 (upd G1 q1 (.tup [.ref p1, .bl r])) := same_new m1
  have P1 : Pp l q1 (upd G1 q1 (.tup [.ref p1, .bl r])) := ⟨src_none W1.src m1, p1, fs, r, upd_same, u2 _ _ e1, x1, N.from_, by omega⟩
  generalize upd G1 q1 (.tup [.ref p1, .bl r]) = G2 at u2 P1 ⊢
  have W2 := W1.same u2
  have N2 := (N.same u1).same u2
  refine ⟨_, rfl, _, rfl, cut, rfl, nm, _, rfl, SqL.of N2.at_, fun p2 n2 => ?_⟩
  have cutE : cutV (fs.map V.str) none (some (cut : Int)) = (fs.take cut).map V.str := by rw [cutTo, List.map_take]
  have u3 : Same G2 (upd G2 p2 (.lst (cutV (fs.map V.str) none (some (cut : Int))))) := same_new n2
  have e2 : (upd G2 p2 (.lst (cutV (fs.map V.str) none (some (cut : Int))))) p2 = some (.lst ((fs.take cut).map V.str)) := by rw [upd_same, cutE]
  generalize upd G2 p2 (.lst (cutV (fs.map V.str) none (some (cut : Int)))) = G3 at u3 e2 ⊢
  have W3 := W2.same u3
  have x2 : p2 ≠ l := src_none W2.src n2
  have P1 := P1.same u3
  refine ⟨_, rfl, l, 2, _, rfl, by decide, by decide, W3.src, by decide, fun G4 d b4 s4 d0 d1 => ⟨rfl, by show 2 ≤ sizeLine; decide, fun q2 m2 => ?_⟩⟩
  have W4 := W3.but b4 s4
  have N4 := (N2.same u3).but b4
  have P1 := P1.but b4
  have e2 := b4 _ _ x2 e2
  have u5 : Same G4 (upd G4 q2 (.tup [.ref p2, .bl (decide (V.int d = V.int 0))])) := same_new m2
  have P2 : Pp l q2 (upd G4 q2 (.tup [.ref p2, .bl (decide (V.int d = V.int 0))])) := ⟨src_none W4.src m2, p2, fs.take cut, _, upd_same, u5 _ _ e2, x2, fun z hz => N.from_ z (List.mem_of_mem_take hz), by rw [List.length_take]; omega⟩
  generalize upd G4 q2 (.tup [.ref p2, .bl (decide (V.int d = V.int 0))]) = G5 at u5 P2 ⊢
  have W5 := W4.same u5
  have N5 := N4.same u5
  have P1 := P1.same u5
  refine ⟨_, rfl, _, rfl, l, 3, _, rfl, by decide, W5.src, by decide, fun G6 rr zs b6 s6 nr hrr lz mz => ?_⟩
  have W6 := W5.but b6 s6
  have N6 := N5.but b6
  have P1 := P1.but b6
  have P2 := P2.but b6
  refine ⟨nm, rr, _, _, rfl, rfl, N6.at_, hrr, Nat.le_of_lt (small1000 (by rw [List.length_map, List.length_map]; omega)), fun p3 n3 => ?_⟩
  have u7 : Same G6 (upd G6 p3 (.lst (fs.map V.str ++ zs.map V.str))) := same_new n3
  have e3 : (upd G6 p3 (.lst (fs.map V.str ++ zs.map V.str))) p3 = some (.lst ((fs ++ zs).map V.str)) := by rw [upd_same, List.map_append]
  generalize upd G6 p3 (.lst (fs.map V.str ++ zs.map V.str)) = G7 at u7 e3 ⊢
  have W7 := W6.same u7
  have x3 : p3 ≠ l := src_none W6.src n3
  refine ⟨_, rfl, by show 2 ≤ sizeLine; decide, fun q3 m3 => ?_⟩
  have u8 : Same G7 (upd G7 q3 (.tup [.ref p3, .bl r])) := same_new m3
  have P3 : Pp l q3 (upd G7 q3 (.tup [.ref p3, .bl r])) := ⟨src_none W7.src m3, p3, fs ++ zs, r, upd_same, u8 _ _ e3, x3, fun z hz => (List.mem_append.mp hz).elim (N.from_ z) (mz z), by rw [List.length_append]; omega⟩
  generalize upd G7 q3 (.tup [.ref p3, .bl r]) = G8 at u8 P3 ⊢
  have W8 := W7.same u8
  refine ⟨by show 3 ≤ sizeLine; decide, fun near nn => ?_⟩
  have u9 : Same G8 (upd G8 near (.lst [.ref q1, .ref q2, .ref q3])) := same_new nn
  refine k _ _ ⟨y, l, nm, fs, r, near, q1, q2, q3, _, v7, v8, v9, v10, v11, v12, v13, v14, v15, v16, v17, rfl, ?_, ?_, src_none W8.src nn, upd_same, ?_, ?_, P3.same u9⟩
  · have := W8.same u9
    exact ⟨this.bs, this.ne, this.src.more (by decide)⟩
  · exact ((N6.same u7).same u8).same u9
  · exact ((P1.same u7).same u8).same u9
  · exact ((P2.same u7).same u8).same u9
theorem t4 (T : TxtX mg) (D : Defs P w K mg base C fC fW fD fN fB fA fR fV dC dW dD dN dB dA dR dV) (hr : Room 10 (LX P w K mg base f cdv A outer s Hs E).A) (hg : (LX P w K mg base f cdv A outer s Hs E).A.guards = some []) : PS (LX P w K mg base f cdv A outer s Hs E) (stm 4) (tStep (L4 a Cs cells) (L5 a Cs cells)) := by
  refine st_by fun D' σ G pre k => ?_
  obtain ⟨y, l, nm, fs, r, near, q1, q2, q3, v5, v7, v8, v9, v10, v11, v12, v13, v14, v15, v16, v17, rfl, W, N, nl, hN, P1, P2, P3⟩ := pre
  refine ⟨_, ps_for PassesOwn.never rfl (pi_list (pe_op op_cat (pv 6) (pe_lst (pa_cons (pe_tup (pa_cons (pe_call D.GN (hr.mono (by decide)) rfl D.gN D.kN D.bN .nil pass0 (pa_cons (pv 2) (pa_cons pe_int pa_nil))) (pa_cons pe_bl pa_nil)))
      (pa_cons (pe_tup (pa_cons (pe_callTy call_list_of (by rfl) T.list (by decide +kernel) (pa_cons (pv 3) pa_nil)) (pa_cons (pe_not (pv 4)) pa_nil))) pa_nil))))) (pg_name (i := 7) scLaw.nd rfl (Or.inl rfl))
    (pss_one (ps_if (pt_not (pt_val (pe_callG D.GR (hr.mono (by decide)) hg rfl D.gR D.kR D.bR pass0 (pa_cons (pv 3) (pa_cons (pv 4) (pa_cons (pv 7) pa_nil)))))) pss_never pss_nil)), ?_⟩
  have lf := N.few
  refine ⟨_, rfl, _, rfl, l, 8, _, rfl, by decide, W.src, by decide, fun G1 rr zs b1 s1 nr hrr lz mz => ?_⟩
  have W1 := W.but b1 s1
  have N1 := N.but b1
  have P1 := P1.but b1
  have P2 := P2.but b1
  have P3 := P3.but b1
  have hN := b1 _ _ nl hN
  have rl := src_none W.src nr
  refine ⟨by show 2 ≤ sizeLine; decide, fun q4 m4 => ?_⟩
  have u2 : Same G1 (upd G1 q4 (.tup [.ref rr, .bl true])) := same_new m4
  have P4 : Pp l q4 (upd G1 q4 (.tup [.ref rr, .bl true])) := ⟨src_none W1.src m4, rr, zs, true, upd_same, u2 _ _ hrr, rl, mz, by omega⟩
  generalize upd G1 q4 (.tup [.ref rr, .bl true]) = G2 at u2 P4 ⊢
  have W2 := W1.same u2
  have N2 := N1.same u2
  refine ⟨_, rfl, nm, _, rfl, .inl (SqL.of N2.at_), fun p5 n5 => ?_⟩
  have u3 : Same G2 (upd G2 p5 (.lst (fs.map V.str))) := same_new n5
  have e5 : (upd G2 p5 (.lst (fs.map V.str))) p5 = some (.lst (fs.map V.str)) := upd_same
  generalize upd G2 p5 (.lst (fs.map V.str)) = G3 at u3 e5 ⊢
  have W3 := W2.same u3
  have x5 : p5 ≠ l := src_none W2.src n5
  refine ⟨_, rfl, r, rfl, by show 2 ≤ sizeLine; decide, fun q5 m5 => ?_⟩
  have u4 : Same G3 (upd G3 q5 (.tup [.ref p5, .bl !r])) := same_new m5
  have P5 : Pp l q5 (upd G3 q5 (.tup [.ref p5, .bl !r])) := ⟨src_none W3.src m5, p5, fs, !r, upd_same, u4 _ _ e5, x5, N.from_, by omega⟩
  generalize upd G3 q5 (.tup [.ref p5, .bl !r]) = G4 at u4 P5 ⊢
  refine ⟨by show 2 ≤ sizeLine; decide, fun p6 n6 => ?_⟩
  have u5 : Same G4 (upd G4 p6 (.lst [.ref q4, .ref q5])) := same_new n6
  have e6 : (upd G4 p6 (.lst [.ref q4, .ref q5])) p6 = some (.lst [.ref q4, .ref q5]) := upd_same
  generalize upd G4 p6 (.lst [.ref q4, .ref q5]) = G5 at u5 e6 ⊢
  have u25 : Same G1 G5 := ((u2.trans u3).trans u4).trans u5
  refine ⟨near, p6, _, _, rfl, rfl, u25 _ _ hN, e6, by show 3 + 2 ≤ sizeLine; decide, fun X nX => ?_⟩
  have u6 : Same G5 (upd G5 X (.lst ([.ref q1, .ref q2, .ref q3] ++ [.ref q4, .ref q5]))) := same_new nX
  have eX : (upd G5 X (.lst ([.ref q1, .ref q2, .ref q3] ++ [.ref q4, .ref q5]))) X = some (.lst ([q1, q2, q3, q4, q5].map V.ref)) := upd_same
  generalize upd G5 X (.lst ([.ref q1, .ref q2, .ref q3] ++ [.ref q4, .ref q5])) = G6 at u6 eX ⊢
  have W6 := ((W1.same u25).same u6)
  have N6 := ((N1.same u25).same u6)
  have all : ∀ q ∈ [q1, q2, q3, q4, q5], Pp l q G6 := fun q hq => by
    rcases List.mem_cons.mp hq with rfl | hq
    · exact (P1.same u25).same u6
    rcases List.mem_cons.mp hq with rfl | hq
    · exact (P2.same u25).same u6
    rcases List.mem_cons.mp hq with rfl | hq
    · exact (P3.same u25).same u6
    rcases List.mem_cons.mp hq with rfl | hq
    · exact (((P4.same u3).same u4).same u5).same u6
    · rw [List.mem_singleton.mp hq]; exact (P5.same u5).same u6
  have hS : SqL K G6 X ([q1, q2, q3, q4, q5].map V.ref) := SqL.of eX
  refine ⟨X, rfl, ⟨_, hS⟩, for_list (K := K) (a := X) (xs := [q1, q2, q3, q4, q5].map V.ref) (fun j σ G => (∃ v7 : Option V, σ = [some (.ref a), some (.int y), some (.ref l), some (.ref nm), some (.bl r), v5, some (.ref near), v7, v8, v9, v10, v11, v12, v13, v14, v15, v16, v17]) ∧ Same G6 G) ⟨⟨_, rfl⟩, Same.refl _⟩ (fun j σ G _ p => p.2.seq hS) ?_ ?_⟩
  · rintro j x σ G7 hx ⟨⟨v7, rfl⟩, s7⟩
    obtain ⟨q, hq, rfl⟩ := get_map hx
    obtain ⟨_, b, gs, r2, h1, h2, _, h4, h5⟩ := (all q (List.mem_of_getElem? hq)).same s7
    have N7 := N6.same s7
    refine ⟨_, rfl, _, rfl, _, rfl, nm, q, b, fs, gs, r, r2, rfl, N7.at_, h1, h2, N7.nm, fun z hz => nm_name z (h4 z hz), by omega, by omega, fun G8 s8 => ⟨_, rfl, iteF ⟨⟨_, rfl⟩, s7.trans s8⟩⟩⟩
  · rintro σ G7 ⟨⟨v7, rfl⟩, s7⟩
    have W7 := W6.same s7
    exact k _ _ ⟨y, l, nm, fs, r, _, _, _, _, _, _, _, _, _, _, _, _, _, rfl, ⟨W7.bs, W7.ne, W7.src.more (by decide)⟩, N6.same s7⟩
theorem t5 (T : TxtX mg) (L : LayE P w K mg base C p0 p1 fI dI c) (hr : Room 10 (LX P w K mg base f cdv A outer s Hs E).A) : PS (LX P w K mg base f cdv A outer s Hs E) (stm 5) (tStep (L5 a Cs cells) (L6 a Cs cells K C)) := by
  refine st_by fun D' σ G pre k => ?_
  obtain ⟨y, l, nm, fs, r, v5, v6, v7, v8, v9, v10, v11, v12, v13, v14, v15, v16, v17, rfl, W, N⟩ := pre
  refine ⟨_, ps_set (i := 8) scLaw.nd rfl (Or.inl rfl) (pe_make L.d.M L.d.GI (hr.mono (by decide)) (by rfl) L.d.L.g L.d.bI .nil (passE (E := fun _ _ _ => False) fun _ _ _ z => z) (pa_cons (pe_callTy call_list_of (by rfl) T.list (by decide +kernel) (pa_cons (pv 3) pa_nil)) (pa_cons (pv 4) pa_nil))), ?_⟩
  refine ⟨_, rfl, nm, _, rfl, .inl (SqL.of N.at_), fun p np => ⟨_, rfl, fun x dx nx nd ne => lay_made2 (K := K) (SqL.of upd_same) N.nm nx nd ne fun H2 s2 hx => ⟨rfl, ?_⟩⟩⟩
  have all : Same G H2 := (same_new (o := .lst (fs.map V.str)) np).trans s2
  exact k _ _ ⟨y, l, nm, x, fs, r, _, _, _, _, _, _, _, _, _, _, _, _, rfl, W.same all, N.same all, hx⟩
end
end Lw

set_option Elab.async false
set_option linter.all false
set_option maxRecDepth 100000
set_option maxHeartbeats 1000000
/-! law, statements 6, 7, 9. -/
namespace Two
open PySem PySem.Spec PyProof.Rows L2
mutual
theorem Dp.keep {K : PySem.W.Frag} {H H' : Hp} (s : Same H H') : ∀ {v : V} {d : PyData}, Dp K H v d → Dp K H' v d
  | _, _, .non => .non
  | _, _, .bl b => .bl b
  | _, _, .int i => .int i
  | _, _, .str x => .str x
  | _, _, .lst h a => .lst (s.seq h) (DpAll.keep s a)
  | _, _, .tup h a => .tup (by
      rcases h with (h | ⟨o, h⟩) | h
      · exact .inl (.inl (s _ _ h))
      · exact .inl (.inr ⟨o, s _ _ h⟩)
      · exact .inr h) (DpAll.keep s a)
theorem DpAll.keep {K : PySem.W.Frag} {H H' : Hp} (s : Same H H') : ∀ {v : List V} {d : List PyData}, DpAll K H v d → DpAll K H' v d
  | _, _, .nil => .nil
  | _, _, .cons a b => .cons (Dp.keep s a) (DpAll.keep s b)
end
end Two
namespace Lw
open PySem L2 Two Pr ClX SlX
/-- x asked of a layout of n fields: refused, as d -/
def OffOdd (K : PySem.W.Frag) (n : Nat) (G : Hp) (x : V) : Prop := ∃ d, SeqAt.shaped (.tuple [.str "offset", .str d.shown]) = true ∧ ∀ G', Same G G' → Sh K G' x d ∧ (NotInt K G' x ∨ ∃ i : Int, x = .int i ∧ ¬ (0 ≤ i ∧ i < n))
theorem OffOdd.same {K : PySem.W.Frag} {n : Nat} {G G' : Hp} {x : V} (h : OffOdd K n G x) (s : Same G G') : OffOdd K n G' x := let ⟨d, a, b⟩ := h; ⟨d, a, fun G2 s2 => b G2 (s.trans s2)⟩
def NameOdd (K : PySem.W.Frag) (G : Hp) (x : V) : Prop := ∃ d, SeqAt.shaped (.tuple [.str "name", .str d.shown]) = true ∧ isNm x = false ∧ ∀ G', Same G G' → Sh K G' x d ∧ ItemK K G' x
theorem NameOdd.same {K : PySem.W.Frag} {G G' : Hp} {x : V} (h : NameOdd K G x) (s : Same G G') : NameOdd K G' x := let ⟨d, a, n, b⟩ := h; ⟨d, a, n, fun G2 s2 => b G2 (s.trans s2)⟩
theorem nameOdd_of {K : PySem.W.Frag} {G : Hp} {x : V} {d : PyData} (h : OddS K G x d) : NameOdd K G x := ⟨d, shaped_name h.txt, h.no, fun G' s => ⟨(h.sm.keep s).sh, (h.item.keep s).item⟩⟩
theorem shaped_off {z : Str} (h : PyData.strOk z = true) : SeqAt.shaped (.tuple [.str "offset", .str z]) = true := by
  unfold SeqAt.shaped
  have a : (PyData.tuple [.str "offset", .str z]).canLay0 = true := by
    show (PyData.strOk "offset" && (PyData.strOk z && true)) = true
    rw [h, show PyData.strOk "offset" = true from by decide +kernel]
    rfl
  rw [a]
  rfl
theorem notInt_ty {K : PySem.W.Frag} {G : Hp} {x : V} {T : String} {b1 b2 : Bool} (ty : TyX K G x (.type T)) (k1 : PySem.W.kitOne K (.type T) (.type "int") = some b1) (k2 : PySem.W.kitOne K (.type T) (.type "bool") = some b2) (e : (b1 && !b2) = false) : NotInt K G x := ⟨_, b1, b2, ty, k1, k2, e⟩
section
variable {K : PySem.W.Frag} {n : Nat} {G : Hp}
theorem off_int {i : Int} (hi : ¬ (0 ≤ i ∧ i < n)) (sm : ∀ G', Sh K G' (.int i) (.int i)) (ok : PyData.strOk (PyData.int i).shown = true) : OffOdd K n G (.int i) := ⟨.int i, shaped_off ok, fun G' _ => ⟨sm G', .inr ⟨i, rfl, hi⟩⟩⟩
theorem off_bl (b : Bool) : OffOdd K n G (.bl b) := ⟨.bool b, shaped_off (odd_bl (K := K) (H := G) b).txt, fun G' _ => ⟨(odd_bl b).sm.sh, .inl (notInt_ty (b1 := true) (b2 := true) (.base (.bl b)) (kit_ty (by decide +kernel)) (kit_ty (by decide +kernel)) rfl)⟩⟩
theorem off_non : OffOdd K n G .non := ⟨.none, shaped_off (by decide +kernel), fun G' _ => ⟨odd_non.sm.sh, .inl (notInt_ty (b1 := false) (b2 := false) (.base .non) (kit_ty (by decide +kernel)) (kit_ty (by decide +kernel)) rfl)⟩⟩
theorem off_str0 : OffOdd K n G (.str "0") := ⟨.str "0", shaped_off (by decide +kernel), fun G' _ => ⟨(odd_str (z := "0") (by decide +kernel) (by decide) (by decide +kernel) (by decide +kernel) (by decide +kernel)).sm.sh, .inl (notInt_ty (b1 := false) (b2 := false) (.base (.str _)) (kit_ty (by decide +kernel)) (kit_ty (by decide +kernel)) rfl)⟩⟩
theorem sm_lst0 {p : Addr} (h : G p = some (.lst [.int 0])) (ne : p ≠ 1) : Sm K G (.ref p) (.list [.int 0]) := ⟨.lst (SqL.of h) ne (.cons (.int _) .nil), by decide +kernel, by decide, by decide +kernel, by decide +kernel⟩
theorem off_lst {p : Addr} (h : G p = some (.lst [.int 0])) (ne : p ≠ 1) : OffOdd K n G (.ref p) := ⟨.list [.int 0], shaped_off (by decide +kernel), fun G' s => ⟨(sm_lst0 (s _ _ h) ne).sh, .inl (notInt_ty (b1 := false) (b2 := false) (.base (.lst (s _ _ h))) (kit_ty (by decide +kernel)) (kit_ty (by decide +kernel)) rfl)⟩⟩
theorem off_dic {p : Addr} (h : G p = some (.dK [])) : OffOdd K n G (.ref p) := ⟨.dict [], shaped_off (by decide +kernel), fun G' s => ⟨(odd_dic (s _ _ h)).sm.sh, .inl (notInt_ty (b1 := false) (b2 := false) (.base (.dK (s _ _ h))) (kit_ty (by decide +kernel)) (kit_ty (by decide +kernel)) rfl)⟩⟩
theorem sh_int {i : Int} (h1 : (PyData.int i).showable = true) (h2 : (PyData.int i).shown.length ≤ 100) : ∀ G', Sh K G' (.int i) (.int i) := fun G' => ⟨.int i, h1, by show 0 ≤ 32; decide, Nat.le_trans h2 (by decide)⟩
theorem off_len {m : Nat} (h : m ≤ 8) : OffOdd K m G (.int (m : Nat)) := by
  have key : ∀ m : Fin 9, ((PyData.int ((m.1 : Nat) : Int)).showable && decide ((PyData.int ((m.1 : Nat) : Int)).shown.length ≤ 100) && PyData.strOk (PyData.int ((m.1 : Nat) : Int)).shown) = true := by decide +kernel
  have q := key ⟨m, by omega⟩
  rw [Bool.and_eq_true, Bool.and_eq_true, decide_eq_true_iff] at q
  exact off_int (fun z => by have := z.2; omega) (sh_int q.1.1 q.1.2) q.2
theorem off_neg : OffOdd K n G (.int (-1)) := off_int (fun z => by have := z.1; omega) (sh_int (by decide +kernel) (by decide +kernel)) (by decide +kernel)
theorem off_big (h : n ≤ 8) : OffOdd K n G (.int ((10 : Int) ^ (20 : Int).toNat)) := off_int (fun z => by
  have z2 : (10 : Int) ^ (20 : Int).toNat < (n : Int) := z.2
  have e : (10 : Int) ^ (20 : Int).toNat = 100000000000000000000 := by decide +kernel
  rw [e] at z2
  omega) (sh_int (by decide +kernel) (by decide +kernel)) (by decide +kernel)
end
def L7 (a Cs : Addr) (cells : List Int) (K : PySem.W.Frag) (C : Addr) (σ : L2.St) (G : Hp) : Prop := ∃ (y : Int) (l nm lay : Addr) (fs : List Str) (r : Bool) (v5 v6 v7 v9 v10 v11 v12 v13 v14 v15 v16 v17 : Option V), σ = [some (.ref a), some (.int y), some (.ref l), some (.ref nm), some (.bl r), v5, v6, v7, some (.ref lay), v9, v10, v11, v12, v13, v14, v15, v16, v17] ∧ Wl Cs cells l 1000 G ∧ Nm l nm fs G ∧ IsLay K C G lay fs r
section
variable {P : Program} {w : World} {K : PySem.W.Frag} {mg : Str → Option Value} {base : Heap} {C p0 p1 fI : Addr} {dI : FuncData} {c : List Addr} {fC fW fD fN fB fA fR fV : Addr} {dC dW dD dN dB dA dR dV : FuncData} {f : Addr} {cdv : Value} {A : Around} {outer : List Env} {s : Shared} {Hs : Hp} {E : XK} {a Cs : Addr} {cells : List Int}
theorem t6 (T : TxtX mg) (L : LayE P w K mg base C p0 p1 fI dI c) (hr : Room 10 (LX P w K mg base f cdv A outer s Hs E).A) : PS (LX P w K mg base f cdv A outer s Hs E) (stm 6) (tStep (L6 a Cs cells K C) (L6 a Cs cells K C)) := by
  refine st_by fun D' σ G pre k => ?_
  obtain ⟨y, l, nm, lay, fs, r, v5, v6, v7, v9, v10, v11, v12, v13, v14, v15, v16, v17, rfl, W, N, hL⟩ := pre
  obtain ⟨gG, hG1, hG2, hG3, RG⟩ := L.d.get
  obtain ⟨gO, hO1, hO2, hO3, RO⟩ := L.d.cont
  have hx : Passes (L2.CX (LX P w K mg base f cdv A outer s Hs E).prog (LX P w K mg base f cdv A outer s Hs E).w) (LX P w K mg base f cdv A outer s Hs E) (fun _ _ _ => False) := passE fun _ _ _ z => z
  refine ⟨_, ps_for PassesOwn.never rfl (pi_range1 rfl T.range (pa_cons (pe_callB call_len_seq (by rfl) T.len PySem.boot_len (pa_cons (pv 3) pa_nil)) pa_nil)) (pg_name (i := 9) scLaw.nd rfl (Or.inl rfl))
    (pss_one (ps_if (PW.pt (pw_or (pt_cmpR op_ne (pe_subSl (pv 8) (pv 9) (fun _ _ => rfl) hG1 hG3 hG2 RG (hr.mono (by decide)) hx) (pe_ix ix_list (pv 3) (pv 9) (fun _ _ => rfl)) (nomark _))
      (pw_or1 (pt_cmpR (op_notinSl hO1 hO2 RO (hr.mono (by decide)) pass0) (pe_ix ix_list (pv 3) (pv 9) (fun _ _ => rfl)) (pv 8) (by rfl))))) pss_never pss_nil)), ?_⟩
  have lf := N.few
  refine ⟨_, rfl, nm, _, rfl, .inl (SqL.of N.at_), _, rfl, by omega, by rw [List.length_map]; omega, ?_⟩
  have tn : (((fs.map V.str).length : Nat) : Int).toNat = fs.length := by rw [List.length_map]; omega
  rw [tn]
  refine for_range (lo := 0) (n := fs.length) (fun j σ G7 => (∃ v9 : Option V, σ = [some (.ref a), some (.int y), some (.ref l), some (.ref nm), some (.bl r), v5, v6, v7, some (.ref lay), v9, v10, v11, v12, v13, v14, v15, v16, v17]) ∧ Same G G7) ⟨⟨_, rfl⟩, Same.refl _⟩ ?_ ?_
  · rintro j σ G7 hj ⟨⟨v9, rfl⟩, s7⟩
    have z0 : (0 : Int) + (j : Nat) = ((j : Nat) : Int) := by omega
    rw [z0]
    have ejs : fs[j]? = some fs[j] := List.getElem?_eq_getElem hj
    have ej : (fs.map V.str)[j]? = some (.str fs[j]) := by rw [List.getElem?_map, ejs]; rfl
    have hL7 := hL.keep s7
    have N7 := N.same s7
    have hz := N.nm _ (List.mem_of_getElem? ejs)
    obtain ⟨dx, vx, hx⟩ : ∃ dx vs, Slt G7 lay C dx vs := let ⟨dx, t, hs, _⟩ := hL7; ⟨dx, _, hs⟩
    refine ⟨_, rfl, _, rfl, lay, dx, _, rfl, hx, lay, fs, r, _, rfl, hL7, .inr ⟨(j : Nat), rfl, fun n z e hn => ?_, fun no => absurd ⟨by omega, by omega⟩ no⟩⟩
    have en : n = j := by omega
    subst en
    have ez : z = fs[n] := by rw [ejs] at hn; exact (Option.some.inj hn).symm
    subst ez
    refine ⟨_, rfl, _, rfl, nm, _, (n : Nat), .str fs[n], rfl, rfl, SqL.of N7.at_, atI_nat ej, rfl, _, rfl, ite_neg_of (decide_eq_true rfl) ?_⟩
    refine ⟨_, rfl, _, rfl, nm, _, (n : Nat), .str fs[n], rfl, rfl, SqL.of N7.at_, atI_nat ej, _, rfl, lay, dx, _, rfl, hx, lay, fs, r, _, rfl, hL7, .inl ⟨_, rfl, name_len hz⟩, fun G8 s8 => ⟨_, rfl, ?_⟩⟩
    rw [show hasNm fs (V.str fs[n]) = true from decide_eq_true (List.mem_of_getElem? ejs)]
    exact ⟨_, rfl, iteF ⟨⟨_, rfl⟩, s7.trans s8⟩⟩
  · rintro σ G7 ⟨⟨v9, rfl⟩, s7⟩
    exact k _ _ ⟨y, l, nm, lay, fs, r, _, _, _, _, _, _, _, _, _, _, _, _, rfl, W.same s7, N.same s7, hL.keep s7⟩
theorem t7 (T : TxtX mg) (D : Defs P w K mg base C fC fW fD fN fB fA fR fV dC dW dD dN dB dA dR dV) (hr : Room 10 (LX P w K mg base f cdv A outer s Hs E).A) (hg : (LX P w K mg base f cdv A outer s Hs E).A.guards = some []) : PS (LX P w K mg base f cdv A outer s Hs E) (stm 7) (tStep (L6 a Cs cells K C) (L6 a Cs cells K C)) := by
  refine st_by fun D' σ G pre k => ?_
  obtain ⟨y, l, nm, lay, fs, r, v5, v6, v7, v9, v10, v11, v12, v13, v14, v15, v16, v17, rfl, W, N, hL⟩ := pre
  have hu : (LX P w K mg base f cdv A outer s Hs E).A.units + 64 < cLine := by have h := hr.un; omega
  refine ⟨_, ps_for PassesOwn.never rfl (pi_list (pe_lst (pa_cons (pe_un un_neg pe_int) (pa_cons (pe_callB call_len_seq (by rfl) T.len PySem.boot_len (pa_cons (pv 3) pa_nil)) (pa_cons pe_bl (pa_cons pe_non (pa_cons pe_str (pa_cons (pe_lst (pa_cons pe_int pa_nil)) (pa_cons pe_dnewK (pa_cons (pe_op op_pow pe_int pe_int) pa_nil)))))))))) (pg_name (i := 10) scLaw.nd rfl (Or.inl rfl))
    (pss_one (ps_if (pt_cmpR (op_neD hr.units) (pe_callG D.GA (hr.mono (by decide)) hg rfl D.gA D.kA D.bA pass0 (pa_cons pe_int (pa_cons (pv 8) (pa_cons (pv 10) pa_nil)))) (pe_tup (pa_cons pe_str (pa_cons (pe_callB (cr_reprQ hg hu) (by rfl) T.repr (by decide +kernel) (pa_cons (pv 10) pa_nil)) pa_nil))) (nomark _)) pss_never pss_nil)), ?_⟩
  have lf := N.few
  refine ⟨_, rfl, _, rfl, nm, _, rfl, .inl (SqL.of N.at_), by show 1 ≤ sizeLine; decide, fun p1 n1 => fun p2 n2 => ⟨_, _, rfl, rfl, by unfold CPow; decide, by show 8 ≤ sizeLine; decide, fun X nX => ?_⟩⟩
  have u1 : Same G (upd G p1 (.lst [.int 0])) := same_new n1
  have e1 : (upd G p1 (.lst [.int 0])) p1 = some (.lst [.int 0]) := upd_same
  have y1 : p1 ≠ 1 := W.bs.sys.ne n1
  generalize upd G p1 (.lst [.int 0]) = G1 at u1 e1 n2 nX ⊢
  have u2 : Same G1 (upd G1 p2 (.dK [])) := same_new n2
  have e2 : (upd G1 p2 (.dK [])) p2 = some (.dK []) := upd_same
  have e1 := u2 _ _ e1
  generalize upd G1 p2 (.dK []) = G2 at u2 e1 e2 nX ⊢
  rw [List.length_map]
  have u3 : Same G2 (upd G2 X (.lst [.int (-1), .int (fs.length : Nat), .bl true, .non, .str "0", .ref p1, .ref p2, .int ((10 : Int) ^ (20 : Int).toNat)])) := same_new nX
  have eX : (upd G2 X (.lst [.int (-1), .int (fs.length : Nat), .bl true, .non, .str "0", .ref p1, .ref p2, .int ((10 : Int) ^ (20 : Int).toNat)])) X = some (.lst [.int (-1), .int (fs.length : Nat), .bl true, .non, .str "0", .ref p1, .ref p2, .int ((10 : Int) ^ (20 : Int).toNat)]) := upd_same
  have e1 := u3 _ _ e1
  have e2 := u3 _ _ e2
  generalize upd G2 X (.lst [.int (-1), .int (fs.length : Nat), .bl true, .non, .str "0", .ref p1, .ref p2, .int ((10 : Int) ^ (20 : Int).toNat)]) = G3 at u3 e1 e2 eX ⊢
  have all : ∀ x ∈ ([.int (-1), .int (fs.length : Nat), .bl true, .non, .str "0", .ref p1, .ref p2, .int ((10 : Int) ^ (20 : Int).toNat)] : List V), OffOdd K fs.length G3 x := fun x hx => by
    rcases List.mem_cons.mp hx with rfl | hx
    · exact off_neg
    rcases List.mem_cons.mp hx with rfl | hx
    · exact off_len lf
    rcases List.mem_cons.mp hx with rfl | hx
    · exact off_bl true
    rcases List.mem_cons.mp hx with rfl | hx
    · exact off_non
    rcases List.mem_cons.mp hx with rfl | hx
    · exact off_str0
    rcases List.mem_cons.mp hx with rfl | hx
    · exact off_lst e1 y1
    rcases List.mem_cons.mp hx with rfl | hx
    · exact off_dic e2
    · rw [List.mem_singleton.mp hx]; exact off_big lf
  have s3 : Same G G3 := (u1.trans u2).trans u3
  have hS : SqL K G3 X [.int (-1), .int (fs.length : Nat), .bl true, .non, .str "0", .ref p1, .ref p2, .int ((10 : Int) ^ (20 : Int).toNat)] := SqL.of eX
  generalize ([.int (-1), .int (fs.length : Nat), .bl true, .non, .str "0", .ref p1, .ref p2, .int ((10 : Int) ^ (20 : Int).toNat)] : List V) = xs at all hS
  refine ⟨X, rfl, ⟨_, hS⟩, for_list (K := K) (a := X) (xs := xs) (fun j σ G7 => (∃ v10 : Option V, σ = [some (.ref a), some (.int y), some (.ref l), some (.ref nm), some (.bl r), v5, v6, v7, some (.ref lay), v9, v10, v11, v12, v13, v14, v15, v16, v17]) ∧ Same G3 G7) ⟨⟨_, rfl⟩, Same.refl _⟩ (fun j σ G _ p => p.2.seq hS) ?_ ?_⟩
  · rintro j x σ G7 hx ⟨⟨v10, rfl⟩, s7⟩
    obtain ⟨d, shp, od⟩ := all x (List.mem_of_getElem? hx)
    have hL7 := hL.keep (s3.trans s7)
    refine ⟨_, rfl, _, rfl, _, .off hL7 (od G7 s7).1 (od G7 s7).2, fun v G8 s8 dv => ?_⟩
    have sh := (od G8 (s7.trans s8)).1
    refine ⟨_, rfl, x, d, rfl, sh.dq, sh.ok, sh.deep, sh.len, by show 2 ≤ sizeLine; decide, fun t nt => ?_⟩
    refine ⟨_, _, Dp.keep (same_new nt) dv, dp_pair upd_same (.str _) (.str _), shp, shp, _, rfl, ?_⟩
    rw [SeqAt.eqv_refl _ (SeqAt.canLay_of_shaped shp)]
    exact iteF ⟨⟨_, rfl⟩, ad (s7.trans s8) nt⟩
  · rintro σ G7 ⟨⟨v10, rfl⟩, s7⟩
    have all := s3.trans s7
    exact k _ _ ⟨y, l, nm, lay, fs, r, _, _, _, _, _, _, _, _, _, _, _, _, rfl, W.same all, N.same all, hL.keep all⟩
theorem t9 (T : TxtX mg) (L : LayE P w K mg base C p0 p1 fI dI c) (D : Defs P w K mg base C fC fW fD fN fB fA fR fV dC dW dD dN dB dA dR dV) (hr : Room 10 (LX P w K mg base f cdv A outer s Hs E).A) (hg : (LX P w K mg base f cdv A outer s Hs E).A.guards = some []) : PS (LX P w K mg base f cdv A outer s Hs E) (stm 9) (tStep (L6 a Cs cells K C) (L6 a Cs cells K C)) := by
  refine st_by fun D' σ G pre k => ?_
  obtain ⟨y, l, nm, lay, fs, r, v5, v6, v7, v9, v10, v11, v12, v13, v14, v15, v16, v17, rfl, W, N, hL⟩ := pre
  have hu : (LX P w K mg base f cdv A outer s Hs E).A.units + 64 < cLine := by have h := hr.un; omega
  obtain ⟨gO, hO1, hO2, hO3, RO⟩ := L.d.cont
  refine ⟨_, ps_for PassesOwn.never rfl (pi_list (pe_lst (pa_cons pe_non (pa_cons pe_bl (pa_cons pe_str (pa_cons pe_str (pa_cons pe_int (pa_cons (pe_lst (pa_cons pe_str pa_nil)) (pa_cons pe_dnewK pa_nil))))))))) (pg_name (i := 10) scLaw.nd rfl (Or.inl rfl))
    (pss_one (ps_if (PW.pt (pw_or (pt_cmpR (op_neD hr.units) (pe_callG D.GA (hr.mono (by decide)) hg rfl D.gA D.kA D.bA pass0 (pa_cons pe_int (pa_cons (pv 8) (pa_cons (pv 10) pa_nil)))) (pe_tup (pa_cons pe_str (pa_cons (pe_callB (cr_reprQ hg hu) (by rfl) T.repr (by decide +kernel) (pa_cons (pv 10) pa_nil)) pa_nil))) (nomark _))
      (pw_or1 (pt_cmpR (op_inSl hO1 hO2 RO (hr.mono (by decide)) pass0) (pv 10) (pv 8) (by rfl))))) pss_never pss_nil)), ?_⟩
  have lf := N.few
  refine ⟨by show 1 ≤ sizeLine; decide, fun p1 n1 => fun p2 n2 => ⟨by show 7 ≤ sizeLine; decide, fun X nX => ?_⟩⟩
  have u1 : Same G (upd G p1 (.lst [.str "a"])) := same_new n1
  have e1 : (upd G p1 (.lst [.str "a"])) p1 = some (.lst [.str "a"]) := upd_same
  have y1 : p1 ≠ 1 := W.bs.sys.ne n1
  generalize upd G p1 (.lst [.str "a"]) = G1 at u1 e1 n2 nX ⊢
  have u2 : Same G1 (upd G1 p2 (.dK [])) := same_new n2
  have e2 : (upd G1 p2 (.dK [])) p2 = some (.dK []) := upd_same
  have e1 := u2 _ _ e1
  generalize upd G1 p2 (.dK []) = G2 at u2 e1 e2 nX ⊢
  have u3 : Same G2 (upd G2 X (.lst [.non, .bl true, .str "", .str "A", .int 7, .ref p1, .ref p2])) := same_new nX
  have eX : (upd G2 X (.lst [.non, .bl true, .str "", .str "A", .int 7, .ref p1, .ref p2])) X = some (.lst [.non, .bl true, .str "", .str "A", .int 7, .ref p1, .ref p2]) := upd_same
  have e1 := u3 _ _ e1
  have e2 := u3 _ _ e2
  generalize upd G2 X (.lst [.non, .bl true, .str "", .str "A", .int 7, .ref p1, .ref p2]) = G3 at u3 e1 e2 eX ⊢
  have all : ∀ x ∈ ([.non, .bl true, .str "", .str "A", .int 7, .ref p1, .ref p2] : List V), NameOdd K G3 x := fun x hx => by
    rcases List.mem_cons.mp hx with rfl | hx
    · exact nameOdd_of odd_non
    rcases List.mem_cons.mp hx with rfl | hx
    · exact nameOdd_of (odd_bl true)
    rcases List.mem_cons.mp hx with rfl | hx
    · exact nameOdd_of (odd_str (by decide +kernel) (by decide) (by decide +kernel) (by decide +kernel) (by decide +kernel))
    rcases List.mem_cons.mp hx with rfl | hx
    · exact nameOdd_of (odd_str (by decide +kernel) (by decide) (by decide +kernel) (by decide +kernel) (by decide +kernel))
    rcases List.mem_cons.mp hx with rfl | hx
    · exact nameOdd_of odd_seven
    rcases List.mem_cons.mp hx with rfl | hx
    · exact nameOdd_of (odd_lst e1 y1)
    · rw [List.mem_singleton.mp hx]; exact nameOdd_of (odd_dic e2)
  have s3 : Same G G3 := (u1.trans u2).trans u3
  have hS : SqL K G3 X [.non, .bl true, .str "", .str "A", .int 7, .ref p1, .ref p2] := SqL.of eX
  generalize ([.non, .bl true, .str "", .str "A", .int 7, .ref p1, .ref p2] : List V) = xs at all hS
  refine ⟨X, rfl, ⟨_, hS⟩, for_list (K := K) (a := X) (xs := xs) (fun j σ G7 => (∃ v10 : Option V, σ = [some (.ref a), some (.int y), some (.ref l), some (.ref nm), some (.bl r), v5, v6, v7, some (.ref lay), v9, v10, v11, v12, v13, v14, v15, v16, v17]) ∧ Same G3 G7) ⟨⟨_, rfl⟩, Same.refl _⟩ (fun j σ G _ p => p.2.seq hS) ?_ ?_⟩
  · rintro j x σ G7 hx ⟨⟨v10, rfl⟩, s7⟩
    obtain ⟨d, shp, no, od⟩ := all x (List.mem_of_getElem? hx)
    have hL7 := hL.keep (s3.trans s7)
    refine ⟨_, rfl, _, rfl, _, .name hL7 (by omega) (od G7 s7).1 (od G7 s7).2 no, fun v G8 s8 dv => ?_⟩
    have sh := (od G8 (s7.trans s8)).1
    refine ⟨_, rfl, x, d, rfl, sh.dq, sh.ok, sh.deep, sh.len, by show 2 ≤ sizeLine; decide, fun t nt => ?_⟩
    refine ⟨_, _, Dp.keep (same_new nt) dv, dp_pair upd_same (.str _) (.str _), shp, shp, _, rfl, ?_⟩
    rw [SeqAt.eqv_refl _ (SeqAt.canLay_of_shaped shp)]
    have t9 : Same G3 (upd G8 t (.tup [.str "name", .str d.shown])) := ad (s7.trans s8) nt
    generalize upd G8 t (.tup [.str "name", .str d.shown]) = G9 at t9 ⊢
    have hL9 := hL.keep (s3.trans t9)
    obtain ⟨dx, vx, hx⟩ : ∃ dx vs, Slt G9 lay C dx vs := let ⟨dx, t, hs, _⟩ := hL9; ⟨dx, _, hs⟩
    refine iteF ⟨_, rfl, _, rfl, lay, dx, _, rfl, hx, lay, fs, r, _, rfl, hL9, (od G9 t9).2, fun G10 s10 => ⟨_, rfl, ?_⟩⟩
    have hn : hasNm fs x = false := by
      cases x with
      | str z =>
        refine decide_eq_false fun m => ?_
        have := N.nm z m
        rw [show isNm (V.str z) = isName z from rfl, this] at no
        cases no
      | _ => rfl
    rw [hn]
    exact ⟨_, rfl, iteF ⟨⟨_, rfl⟩, t9.trans s10⟩⟩
  · rintro σ G7 ⟨⟨v10, rfl⟩, s7⟩
    have all := s3.trans s7
    exact k _ _ ⟨y, l, nm, lay, fs, r, _, _, _, _, _, _, _, _, _, _, _, _, rfl, W.same all, N.same all, hL.keep all⟩
theorem t10 (T : TxtX mg) (D : Defs P w K mg base C fC fW fD fN fB fA fR fV dC dW dD dN dB dA dR dV) (hr : Room 10 (LX P w K mg base f cdv A outer s Hs E).A) (hg : (LX P w K mg base f cdv A outer s Hs E).A.guards = some [])
    (kit : ∀ T : String, T = "tuple" ∨ T = "str" ∨ T = "dict" ∨ T = "NoneType" → PySem.W.kitOne K (.type T) (.type "list") = some false) : PS (LX P w K mg base f cdv A outer s Hs E) (stm 10) (tStep (L6 a Cs cells K C) (L7 a Cs cells K C)) := by
  refine st_by fun D' σ G pre k => ?_
  obtain ⟨y, l, nm, lay, fs, r, v5, v6, v7, v9, v10, v11, v12, v13, v14, v15, v16, v17, rfl, W, N, hL⟩ := pre
  have hu : (LX P w K mg base f cdv A outer s Hs E).A.units + 64 < cLine := by have h := hr.un; omega
  refine ⟨_, ps_for PassesOwn.never rfl (pi_range1 rfl T.range (pa_cons pe_int pa_nil)) (pg_name (i := 14) scLaw.nd rfl (Or.inl rfl))
    (pss_cons (ps_set (i := 15) scLaw.nd rfl (Or.inl rfl) (pe_call D.GB (hr.mono (by decide)) rfl D.gB D.kB D.bB .nil pass0 (pa_cons (pv 2) (pa_cons (pv 3) pa_nil))))
    (pss_cons (ps_set (i := 16) scLaw.nd rfl (Or.inl rfl) (pe_callB (cr_reprQ hg hu) (by rfl) T.repr (by decide +kernel) (pa_cons (pv 15) pa_nil)))
    (pss_one (ps_if (PW.pt (pw_or (pt_cmpR (op_neD hr.units) (pe_callG D.GA (hr.mono (by decide)) hg rfl D.gA D.kA D.bA pass0 (pa_cons pe_int (pa_cons (pv 8) (pa_cons (pv 15) pa_nil)))) (pe_callG D.GV (hr.mono (by decide)) hg rfl D.gV D.kV D.bV pass0 (pa_cons (pv 3) (pa_cons (pv 15) pa_nil))) (nomark _))
      (pw_or1 (pt_cmpR op_ne (pe_callB (cr_reprQ hg hu) (by rfl) T.repr (by decide +kernel) (pa_cons (pv 15) pa_nil)) (pv 16) (nomark _))))) pss_never pss_nil)))), ?_⟩
  have lf := N.few
  refine ⟨_, rfl, by decide, by decide, for_range (lo := 0) (n := (3 : Int).toNat) (fun j σ G7 => (∃ v14 v15 v16 : Option V, σ = [some (.ref a), some (.int y), some (.ref l), some (.ref nm), some (.bl r), v5, v6, v7, some (.ref lay), v9, v10, v11, v12, v13, v14, v15, v16, v17]) ∧ Wl Cs cells l (400 + 20 * j) G7 ∧ Nm l nm fs G7 ∧ IsLay K C G7 lay fs r) ⟨⟨_, _, _, rfl⟩, W, N, hL⟩ ?_ ?_⟩
  · rintro j σ G7 hj ⟨⟨v14, v15, v16, rfl⟩, W7, N7, hL7⟩
    have hj : j < 3 := hj
    refine ⟨_, rfl, _, rfl, l, _, 400 + 20 * j, rfl, W7.src, by omega, W7.bs.sys, fun G8 x b8 s8 bf => ?_⟩
    have W8 := W7.but b8 s8
    have N8 := N7.but b8
    have hL8 := IsLay.but hL7 W7.src b8
    obtain ⟨⟨d, sh⟩, ar⟩ := bf
    obtain ⟨res, al, shp⟩ := ar fs N8.nm
    refine ⟨_, rfl, x, d, rfl, sh.dq, sh.ok, sh.deep, sh.len, ?_⟩
    refine ⟨_, rfl, _, rfl, res, .add hL8 (by omega) al.arg, fun v G9 s9 dv => ?_⟩
    have N9 := N8.same s9
    refine ⟨_, rfl, _, rfl, nm, fs, x, res, rfl, N9.at_, by omega, al.keep s9, kit, fun v2 G10 s10 dv2 => ?_⟩
    refine ⟨_, _, Dp.keep s10 dv, dv2, shp, shp, _, rfl, ?_⟩
    rw [SeqAt.eqv_refl _ (SeqAt.canLay_of_shaped shp)]
    have s8a := s9.trans s10
    have sh2 := sh.keep s8a
    refine iteF ⟨_, rfl, x, d, rfl, sh2.dq, sh2.ok, sh2.deep, sh2.len, _, rfl, rfl, _, rfl, ite_neg_of (decide_eq_true rfl) ?_⟩
    have W10 := W8.same s8a
    exact ⟨⟨_, _, _, rfl⟩, ⟨W10.bs, W10.ne, W10.src.more (by omega)⟩, N8.same s8a, hL8.keep s8a⟩
  · rintro σ G7 ⟨⟨v14, v15, v16, rfl⟩, W7, N7, hL7⟩
    exact k _ _ ⟨y, l, nm, lay, fs, r, _, _, _, _, _, _, _, _, _, _, _, _, rfl, ⟨W7.bs, W7.ne, W7.src.more (by decide)⟩, N7, hL7⟩
end
end Lw

set_option Elab.async false
set_option linter.all false
set_option maxRecDepth 100000
set_option maxHeartbeats 1000000
/-! law, statements 8 and 11. -/
namespace Lw
open PySem L2 Two Pr ClX SlX
/-! ### where a name stands -/
def idx (fs : List Str) (z : Str) (j : Nat) : List Nat := (List.range j).filter fun i => decide (fs[i]? = some z)
theorem idx_yes {fs : List Str} {z : Str} {j : Nat} (h : fs[j]? = some z) : idx fs z (j + 1) = idx fs z j ++ [j] := by
  unfold idx
  rw [List.range_succ, List.filter_append, List.filter_cons_of_pos (p := fun i => decide (fs[i]? = some z)) (decide_eq_true h)]
  rfl
theorem idx_no {fs : List Str} {z : Str} {j : Nat} (h : fs[j]? ≠ some z) : idx fs z (j + 1) = idx fs z j := by
  unfold idx
  rw [List.range_succ, List.filter_append, List.filter_cons_of_neg (p := fun i => decide (fs[i]? = some z)) (by rw [decide_eq_false h]; decide)]
  simp
theorem idx_len {fs : List Str} {z : Str} {j : Nat} : (idx fs z j).length ≤ j := by
  have := List.length_filter_le (fun i => decide (fs[i]? = some z)) (List.range j)
  rw [List.length_range] at this
  exact this
theorem idx_mem {fs : List Str} {z : Str} {i : Nat} : i ∈ idx fs z fs.length ↔ fs[i]? = some z := by
  unfold idx
  rw [List.mem_filter, decide_eq_true_iff, List.mem_range]
  exact ⟨fun h => h.2, fun h => ⟨(List.getElem?_eq_some_iff.mp h).1, h⟩⟩
theorem idx_last {fs : List Str} {z : Str} {m : List Nat} {g : Nat} (h : idx fs z fs.length = m ++ [g]) : fs[g]? = some z ∧ ∀ j, g < j → fs[j]? ≠ some z := by
  refine ⟨idx_mem.mp (by rw [h]; exact List.mem_append.mpr (.inr (List.mem_singleton.mpr rfl))), fun j hj e => ?_⟩
  have hm := idx_mem.mpr e
  rw [h] at hm
  have pw : (idx fs z fs.length).Pairwise (· < ·) := List.Pairwise.sublist List.filter_sublist List.pairwise_lt_range
  rw [h] at pw
  rcases List.mem_append.mp hm with q | q
  · have := (List.pairwise_append.mp pw).2.2 j q g (List.mem_singleton.mpr rfl)
    omega
  · rw [List.mem_singleton.mp q] at hj
    omega
theorem idx_in {fs : List Str} {z : Str} : decide (z ∈ fs) = !(idx fs z fs.length).isEmpty := by
  by_cases h : z ∈ fs
  · obtain ⟨i, hi, e⟩ := List.getElem_of_mem h
    have : i ∈ idx fs z fs.length := idx_mem.mpr (by rw [List.getElem?_eq_getElem hi, e])
    rw [decide_eq_true h]
    cases q : idx fs z fs.length with
    | nil => rw [q] at this; cases this
    | cons x xs => rfl
  · rw [decide_eq_false h]
    cases q : idx fs z fs.length with
    | nil => rfl
    | cons x xs => exact absurd (List.mem_of_getElem? (idx_mem.mp (by rw [q]; exact List.mem_cons_self : x ∈ idx fs z fs.length))) h
def natsD (l : List Nat) : PyData := .list (l.map fun i => PyData.int (i : Nat))
theorem dp_nats {K : PySem.W.Frag} {H : Hp} : ∀ l : List Nat, DpAll K H (l.map fun i => V.int (i : Nat)) (l.map fun i => PyData.int (i : Nat))
  | [] => .nil
  | _ :: l => .cons (.int _) (dp_nats l)
theorem canLay_nats : ∀ l : List Nat, PyData.canLayAll0 (l.map fun i => PyData.int (i : Nat)) = true
  | [] => rfl
  | x :: l => by
    show (true && PyData.canLayAll0 (l.map fun i => PyData.int (i : Nat))) = true
    rw [canLay_nats l]
    rfl
theorem depth_nats : ∀ l : List Nat, PyData.depthAll (l.map fun i => PyData.int (i : Nat)) = 0
  | [] => rfl
  | x :: l => by
    show max 0 (PyData.depthAll (l.map fun i => PyData.int (i : Nat))) = 0
    rw [depth_nats l]
    rfl
theorem shaped_nats (l : List Nat) : SeqAt.shaped (natsD l) = true := by
  unfold SeqAt.shaped
  have a : (natsD l).canLay0 = true := canLay_nats l
  have b : (natsD l).depth ≤ 64 := by
    show PyData.depthAll (l.map fun i => PyData.int (i : Nat)) + 1 ≤ 64
    rw [depth_nats]
    decide
  rw [a, decide_eq_true b]
  rfl
theorem eqv_nats (l : List Nat) : PyData.eqv (natsD l) (.list []) = l.isEmpty := by
  cases l <;> rfl
theorem at_last2 {m : List V} {g : V} : atI (m ++ [g] ++ [.non]) (-2) = some g := by
  have hl : (m ++ [g] ++ [V.non]).length = m.length + 2 := by simp
  have e : ixN (m ++ [g] ++ [V.non]).length (-2) = some m.length := by
    unfold ixN
    rw [hl, if_neg (by decide), if_pos (by omega)]
    congr 1
    omega
  unfold atI
  rw [e]
  show (m ++ [g] ++ [V.non])[m.length]? = some g
  rw [List.append_assoc, List.getElem?_append_right (Nat.le_refl _), Nat.sub_self]
  rfl
def nm7 : List Str := ["a", "b", "c", "d", "ab", "eightlet", "zz"]
theorem nm7_ok : ∀ z ∈ nm7, isName z = true := by decide +kernel
section
variable {P : Program} {w : World} {K : PySem.W.Frag} {mg : Str → Option Value} {base : Heap} {C p0 p1 fI : Addr} {dI : FuncData} {c : List Addr} {fC fW fD fN fB fA fR fV : Addr} {dC dW dD dN dB dA dR dV : FuncData} {f : Addr} {cdv : Value} {A : Around} {outer : List Env} {s : Shared} {Hs : Hp} {E : XK} {a Cs : Addr} {cells : List Int}
theorem t8 (T : TxtX mg) (L : LayE P w K mg base C p0 p1 fI dI c) (hr : Room 10 (LX P w K mg base f cdv A outer s Hs E).A) : PS (LX P w K mg base f cdv A outer s Hs E) (stm 8) (tStep (L6 a Cs cells K C) (L6 a Cs cells K C)) := by
  refine st_by fun D' σ G pre k => ?_
  obtain ⟨y, l, nm, lay, fs, r, v5, v6, v7, v9, v10, v11, v12, v13, v14, v15, v16, v17, rfl, W, N, hL⟩ := pre
  obtain ⟨gO, hO1, hO2, hO3, RO⟩ := L.d.cont
  obtain ⟨gF, mF, RF⟩ := L.d.off
  have hx : Passes (L2.CX (LX P w K mg base f cdv A outer s Hs E).prog (LX P w K mg base f cdv A outer s Hs E).w) (LX P w K mg base f cdv A outer s Hs E) (fun _ _ _ => False) := passE fun _ _ _ z => z
  refine ⟨_, ps_for PassesOwn.never rfl (pi_list (pe_lst (pa_cons pe_str (pa_cons pe_str (pa_cons pe_str (pa_cons pe_str (pa_cons pe_str (pa_cons pe_str (pa_cons pe_str pa_nil))))))))) (pg_name (i := 11) scLaw.nd rfl (Or.inr rfl))
    (pss_cons (ps_setLc (i := 12) (own := [("_law_at", 17)]) (g := gName 17) (tt := tTest (tOp rEq (tOp (rIxL K) (tVar 3) (tVar 17)) (tVar 11))) (te := tVar 17) rfl scLaw.nd rfl rfl (sw_true rfl rfl rfl (by decide +kernel)) (pi_range1 rfl T.range (pa_cons (pe_callB call_len_seq (by rfl) T.len PySem.boot_len (pa_cons (pv 3) pa_nil)) pa_nil)) (blkOk_by (N := nLaw) (sc := defScope sLaw) (by decide +kernel))
        (fun _ _ _ _ _ => pg_name (i := 17) scLaw.nd rfl (Or.inl rfl)) (fun _ _ _ _ _ => pts_one (pt_cmpR op_eq (pe_ix ix_list (pv 3) (pv 17) (fun _ _ => rfl)) (pv 11) (nomark _))) (fun _ _ _ _ _ => pv 17))
    (pss_cons (ps_set (i := 13) scLaw.nd rfl (Or.inl rfl) (pe_ix ix_list (pe_op op_cat (pv 12) (pe_lst (pa_cons pe_non pa_nil))) (pe_op op_sub (pe_op op_sub pe_int pe_int) (pe_callTy call_int1 (by rfl) T.int (by decide +kernel) (pa_cons (pe_cmpR (op_neD hr.units) (pv 12) (pe_lst pa_nil) (nomark _)) pa_nil))) (fun _ _ => rfl)))
    (pss_one (ps_if (PW.pt (pw_or (pt_cmpR op_ne (pe_methSl (pv 8) L.d.L.c mF RF (hr.mono (by decide)) hx (pa_cons (pv 11) pa_nil)) (pv 13) (nomark _))
      (pw_or1 (pt_cmpR (op_neD hr.units) (pe_lst (pa_cons (pe_cmpR (op_inSl hO1 hO2 RO (hr.mono (by decide)) pass0) (pv 11) (pv 8) (by rfl)) pa_nil)) (pe_lst (pa_cons (pe_cmpR (op_neD hr.units) (pv 12) (pe_lst pa_nil) (nomark _)) pa_nil)) (nomark _))))) pss_never pss_nil)))), ?_⟩
  have lf := N.few
  refine ⟨by show 7 ≤ sizeLine; decide, fun X nX => ?_⟩
  have u1 : Same G (upd G X (.lst (nm7.map V.str))) := same_new nX
  have eX : (upd G X (.lst (nm7.map V.str))) X = some (.lst (nm7.map V.str)) := upd_same
  have hS : SqL K (upd G X (.lst (nm7.map V.str))) X (nm7.map V.str) := SqL.of eX
  refine ⟨X, rfl, ⟨_, hS⟩, for_list (K := K) (a := X) (xs := nm7.map V.str) (fun j σ G7 => (∃ v11 v12 v13 v17 : Option V, σ = [some (.ref a), some (.int y), some (.ref l), some (.ref nm), some (.bl r), v5, v6, v7, some (.ref lay), v9, v10, v11, v12, v13, v14, v15, v16, v17]) ∧ Same (upd G X (.lst (nm7.map V.str))) G7) ⟨⟨_, _, _, _, rfl⟩, Same.refl _⟩ (fun j σ G _ p => p.2.seq hS) ?_ ?_⟩
  · rintro j x σ G7 hx ⟨⟨v11, v12, v13, v17, rfl⟩, s7⟩
    obtain ⟨z, hz, rfl⟩ := get_map hx
    have hzn := nm7_ok z (List.mem_of_getElem? hz)
    have s07 := u1.trans s7
    have N7 := N.same s07
    have hL7 := hL.keep s07
    refine ⟨_, rfl, nm, _, rfl, .inl (SqL.of N7.at_), _, rfl, by omega, by rw [List.length_map]; omega, ?_⟩
    have tn : (((fs.map V.str).length : Nat) : Int).toNat = fs.length := by rw [List.length_map]; omega
    rw [tn]
    refine fun D hD => lc_range (lo := 0) (n := fs.length) (fun i G8 => Same G7 G8 ∧ G8 D = some (.lst ((idx fs z i).map fun i => V.int (i : Nat)))) ⟨same_new hD, upd_same⟩ (fun i G8 hi p => ?_) (fun G8 p => ?_)
    · obtain ⟨s8, h8⟩ := p
      have z0 : (0 : Int) + (i : Nat) = ((i : Nat) : Int) := by omega
      rw [z0]
      have eis : fs[i]? = some fs[i] := List.getElem?_eq_getElem hi
      refine ⟨rfl, ?_⟩
      refine ⟨_, rfl, _, rfl, nm, _, (i : Nat), .str fs[i], rfl, rfl, SqL.of (N7.same s8).at_, atI_nat (by rw [List.getElem?_map, eis]; rfl), _, rfl, rfl, _, rfl, ?_⟩
      by_cases e : fs[i] = z
      · rw [decide_eq_true (congrArg V.str e)]
        refine iteT ⟨_, rfl, _, h8, small1000 (by rw [List.length_map]; have := idx_len (fs := fs) (z := z) (j := i); omega), same_upd s8 hD, ?_⟩
        rw [upd_same, idx_yes (by rw [eis, e]), List.map_append]
        rfl
      · rw [decide_eq_false (fun q => e (V.str.inj q))]
        refine iteF ⟨s8, ?_⟩
        rw [h8, idx_no (by rw [eis]; exact fun q => e (Option.some.inj q))]
    · obtain ⟨s8, h8⟩ := p
      have s08 := s07.trans s8
      have hL8 := hL.keep s08
      have li := idx_len (fs := fs) (z := z) (j := fs.length)
      refine ⟨_, rfl, by show 1 ≤ sizeLine; decide, fun p1 n1 => ?_⟩
      have t1 : Same G8 (upd G8 p1 (.lst [.non])) := same_new n1
      have e1 : (upd G8 p1 (.lst [.non])) p1 = some (.lst [.non]) := upd_same
      have d1 := t1 _ _ h8
      generalize upd G8 p1 (.lst [.non]) = G9 at t1 e1 d1 ⊢
      refine ⟨D, p1, _, _, rfl, rfl, d1, e1, Nat.le_of_lt (small1000 (by rw [List.length_map]; show _ + 1 ≤ 1000; omega)), fun q nq => ?_⟩
      have t2 : Same G9 (upd G9 q (.lst ((idx fs z fs.length).map (fun i => V.int (i : Nat)) ++ [.non]))) := same_new nq
      have eq : (upd G9 q (.lst ((idx fs z fs.length).map (fun i => V.int (i : Nat)) ++ [.non]))) q = some (.lst ((idx fs z fs.length).map (fun i => V.int (i : Nat)) ++ [.non])) := upd_same
      have d2 := t2 _ _ d1
      generalize upd G9 q (.lst ((idx fs z fs.length).map (fun i => V.int (i : Nat)) ++ [.non])) = G10 at t2 eq d2 ⊢
      refine ⟨_, _, rfl, rfl, _, rfl, Nat.zero_le _, fun e he => ?_⟩
      have t3 : Same G10 (upd G10 e (.lst [])) := same_new he
      have e3 : (upd G10 e (.lst [])) e = some (.lst []) := upd_same
      have d3 := t3 _ _ d2
      have eq := t3 _ _ eq
      generalize upd G10 e (.lst []) = G11 at t3 e3 d3 eq ⊢
      refine ⟨natsD (idx fs z fs.length), .list [], .lst (SqL.of d3) (dp_nats _), dp_nil e3, shaped_nats _, shaped_nil, .inr ⟨_, rfl, _, _, rfl, rfl, ?_⟩⟩
      rw [eqv_nats]
      have s11 : Same G7 G11 := ((s8.trans t1).trans t2).trans t3
      have hL11 := hL.keep (s07.trans s11)
      obtain ⟨dx, vx, hxs⟩ : ∃ dx vs, Slt G11 lay C dx vs := let ⟨dx, t, hs, _⟩ := hL11; ⟨dx, _, hs⟩
      -- what stands there
      obtain ⟨due, hdue, k1, k2⟩ : ∃ due : V, atI ((idx fs z fs.length).map (fun i => V.int (i : Nat)) ++ [.non]) (0 - 1 - (if (!(idx fs z fs.length).isEmpty) = true then 1 else 0)) = some due ∧ (∀ n : Nat, fs[n]? = some z → (∀ j, n < j → fs[j]? ≠ some z) → due = .int (n : Nat)) ∧ ((∀ n : Nat, fs[n]? ≠ some z) → due = .non) := by
        rcases List.eq_nil_or_concat (idx fs z fs.length) with h | ⟨m, g, h⟩
        · refine ⟨.non, by rw [h]; rfl, fun n hn _ => ?_, fun _ => rfl⟩
          have := idx_mem.mpr hn
          rw [h] at this
          cases this
        · rw [List.concat_eq_append] at h
          obtain ⟨l1, l2⟩ := idx_last h
          refine ⟨.int (g : Nat), ?_, fun n hn no => ?_, fun no => absurd l1 (no g)⟩
          · rw [h, show (m ++ [g]).isEmpty = false from by cases m <;> rfl, List.map_append]
            exact at_last2
          · have : n = g := by
              rcases Nat.lt_trichotomy n g with q | q | q
              · exact absurd l1 (no g q)
              · exact q
              · exact absurd hn (l2 n q)
            rw [this]
      refine ⟨q, _, _, due, rfl, rfl, SqL.of eq, hdue, ?_⟩
      refine ⟨_, rfl, lay, dx, _, rfl, hxs, _, rfl, lay, fs, r, _, rfl, hL11, by omega, .inl ⟨z, rfl, name_len hzn⟩, (fun no => by rw [show isNm (V.str z) = isName z from rfl, hzn] at no; cases no), fun z2 ez _ => ?_⟩
      cases ez
      refine ⟨fun n hn no G12 s12 => ?_, fun no G12 s12 => ?_⟩
      · have e := k1 n hn no
        subst e
        refine ⟨_, rfl, rfl, _, rfl, ite_neg_of (decide_eq_true rfl) ?_⟩
        have hL12 := hL11.keep s12
        refine ⟨_, rfl, _, rfl, lay, dx, _, rfl, slt_keep s12 hxs, lay, fs, r, _, rfl, hL12, .inl ⟨z, rfl, name_len hzn⟩, fun G13 s13 => ⟨_, rfl, by show 1 ≤ sizeLine; decide, fun p2 n2 => ?_⟩⟩
        have d13 := s13 _ _ (s12 _ _ d3)
        refine ⟨_, rfl, Nat.zero_le _, fun e4 he4 => ⟨natsD (idx fs z fs.length), .list [], .lst (SqL.of (app (app d13 n2) he4)) (dp_nats _), dp_nil upd_same, shaped_nats _, shaped_nil, by show 1 ≤ sizeLine; decide, fun p3 n3 => ?_⟩⟩
        refine ⟨.list [.bool (hasNm fs (.str z))], .list [.bool (!PyData.eqv (natsD (idx fs z fs.length)) (.list []))], .lst (SqL.of (app (app upd_same he4) n3)) (.cons (.bl _) .nil), .lst (SqL.of upd_same) (.cons (.bl _) .nil), rfl, rfl, _, rfl, ?_⟩
        have ee : PyData.eqv (.list [.bool (hasNm fs (V.str z))]) (.list [.bool (!PyData.eqv (natsD (idx fs z fs.length)) (.list []))]) = true := by
          rw [eqv_nats, show hasNm fs (V.str z) = !(idx fs z fs.length).isEmpty from idx_in]
          cases (idx fs z fs.length).isEmpty <;> rfl
        rw [ee]
        exact iteF ⟨⟨_, _, _, _, rfl⟩, s7.trans (s11.trans (s12.trans (ad (ad (ad s13 n2) he4) n3)))⟩
      · have e := k2 no
        subst e
        refine ⟨_, rfl, rfl, _, rfl, ite_neg_of (decide_eq_true rfl) ?_⟩
        have hL12 := hL11.keep s12
        refine ⟨_, rfl, _, rfl, lay, dx, _, rfl, slt_keep s12 hxs, lay, fs, r, _, rfl, hL12, .inl ⟨z, rfl, name_len hzn⟩, fun G13 s13 => ⟨_, rfl, by show 1 ≤ sizeLine; decide, fun p2 n2 => ?_⟩⟩
        have d13 := s13 _ _ (s12 _ _ d3)
        refine ⟨_, rfl, Nat.zero_le _, fun e4 he4 => ⟨natsD (idx fs z fs.length), .list [], .lst (SqL.of (app (app d13 n2) he4)) (dp_nats _), dp_nil upd_same, shaped_nats _, shaped_nil, by show 1 ≤ sizeLine; decide, fun p3 n3 => ?_⟩⟩
        refine ⟨.list [.bool (hasNm fs (.str z))], .list [.bool (!PyData.eqv (natsD (idx fs z fs.length)) (.list []))], .lst (SqL.of (app (app upd_same he4) n3)) (.cons (.bl _) .nil), .lst (SqL.of upd_same) (.cons (.bl _) .nil), rfl, rfl, _, rfl, ?_⟩
        have ee : PyData.eqv (.list [.bool (hasNm fs (V.str z))]) (.list [.bool (!PyData.eqv (natsD (idx fs z fs.length)) (.list []))]) = true := by
          rw [eqv_nats, show hasNm fs (V.str z) = !(idx fs z fs.length).isEmpty from idx_in]
          cases (idx fs z fs.length).isEmpty <;> rfl
        rw [ee]
        exact iteF ⟨⟨_, _, _, _, rfl⟩, s7.trans (s11.trans (s12.trans (ad (ad (ad s13 n2) he4) n3)))⟩
  · rintro σ G7 ⟨⟨v11, v12, v13, v17, rfl⟩, s7⟩
    have all := u1.trans s7
    exact k _ _ ⟨y, l, nm, lay, fs, r, _, _, _, _, _, _, _, _, _, _, _, _, rfl, W.same all, N.same all, hL.keep all⟩
theorem t11 (D : Defs P w K mg base C fC fW fD fN fB fA fR fV dC dW dD dN dB dA dR dV) (hr : Room 10 (LX P w K mg base f cdv A outer s Hs E).A) (hg : (LX P w K mg base f cdv A outer s Hs E).A.guards = some []) : PS (LX P w K mg base f cdv A outer s Hs E) (stm 11) (tStep (L7 a Cs cells K C) (L7 a Cs cells K C)) := by
  refine st_by fun D' σ G pre k => ?_
  obtain ⟨y, l, nm, lay, fs, r, v5, v6, v7, v9, v10, v11, v12, v13, v14, v15, v16, v17, rfl, W, N, hL⟩ := pre
  refine ⟨_, ps_for PassesOwn.never rfl (pi_list (pe_lst (pa_cons (pe_tup (pa_cons (pe_tup (pa_cons pe_non (pa_cons pe_int pa_nil))) (pa_cons (pe_tup (pa_cons pe_str (pa_cons pe_str pa_nil))) pa_nil)))
      (pa_cons (pe_tup (pa_cons (pe_tup (pa_cons (pe_lst (pa_cons pe_str (pa_cons pe_int (pa_cons pe_str pa_nil)))) (pa_cons pe_int pa_nil))) (pa_cons (pe_tup (pa_cons pe_str (pa_cons pe_str pa_nil))) pa_nil))) pa_nil)))) (pg_tup rfl (pgs_cons (pg_name (i := 15) scLaw.nd rfl (Or.inl rfl)) (pgs_cons (pg_name (i := 13) scLaw.nd rfl (Or.inl rfl)) pgs_nil)))
    (pss_one (ps_if (PW.pt (pw_or (pt_cmpR (op_neD hr.units) (pe_callG D.GA (hr.mono (by decide)) hg rfl D.gA D.kA D.bA pass0 (pa_cons pe_int (pa_cons (pv 8) (pa_cons (pv 15) pa_nil)))) (pv 13) (nomark _))
      (pw_or1 (pt_cmpR (op_neD hr.units) (pe_callG D.GA (hr.mono (by decide)) hg rfl D.gA D.kA D.bA pass0 (pa_cons pe_int (pa_cons (pv 8) (pa_cons (pe_tup (pa_cons (pe_lst (pa_cons pe_str pa_nil)) (pa_cons pe_int pa_nil))) pa_nil)))) (pe_tup (pa_cons pe_str (pa_cons pe_str pa_nil))) (nomark _))))) pss_never pss_nil)), ?_⟩
  refine ⟨by show 2 ≤ sizeLine; decide, fun a1 na1 => ?_⟩
  have ta1 : Same G (upd G a1 (.tup [.non, .int 1])) := same_new na1
  have ea1 : (upd G a1 (.tup [.non, .int 1])) a1 = some (.tup [.non, .int 1]) := upd_same
  generalize upd G a1 (.tup [.non, .int 1]) = Ga1 at ta1 ea1 ⊢
  refine ⟨by show 2 ≤ sizeLine; decide, fun a2 na2 => ?_⟩
  have ta2 : Same Ga1 (upd Ga1 a2 (.tup [.str "list", .str "fields"])) := same_new na2
  have ea2 : (upd Ga1 a2 (.tup [.str "list", .str "fields"])) a2 = some (.tup [.str "list", .str "fields"]) := upd_same
  generalize upd Ga1 a2 (.tup [.str "list", .str "fields"]) = Ga2 at ta2 ea2 ⊢
  have ea1 := ta2 _ _ ea1
  refine ⟨by show 2 ≤ sizeLine; decide, fun a3 na3 => ?_⟩
  have ta3 : Same Ga2 (upd Ga2 a3 (.tup [.ref a1, .ref a2])) := same_new na3
  have ea3 : (upd Ga2 a3 (.tup [.ref a1, .ref a2])) a3 = some (.tup [.ref a1, .ref a2]) := upd_same
  generalize upd Ga2 a3 (.tup [.ref a1, .ref a2]) = Ga3 at ta3 ea3 ⊢
  have ea1 := ta3 _ _ ea1
  have ea2 := ta3 _ _ ea2
  refine ⟨by show 3 ≤ sizeLine; decide, fun a4 na4 => ?_⟩
  have ta4 : Same Ga3 (upd Ga3 a4 (.lst [.str "a", .int 7, .str "A"])) := same_new na4
  have ea4 : (upd Ga3 a4 (.lst [.str "a", .int 7, .str "A"])) a4 = some (.lst [.str "a", .int 7, .str "A"]) := upd_same
  generalize upd Ga3 a4 (.lst [.str "a", .int 7, .str "A"]) = Ga4 at ta4 ea4 ⊢
  have ea1 := ta4 _ _ ea1
  have ea2 := ta4 _ _ ea2
  have ea3 := ta4 _ _ ea3
  refine ⟨by show 2 ≤ sizeLine; decide, fun a5 na5 => ?_⟩
  have ta5 : Same Ga4 (upd Ga4 a5 (.tup [.ref a4, .int 1])) := same_new na5
  have ea5 : (upd Ga4 a5 (.tup [.ref a4, .int 1])) a5 = some (.tup [.ref a4, .int 1]) := upd_same
  generalize upd Ga4 a5 (.tup [.ref a4, .int 1]) = Ga5 at ta5 ea5 ⊢
  have ea1 := ta5 _ _ ea1
  have ea2 := ta5 _ _ ea2
  have ea3 := ta5 _ _ ea3
  have ea4 := ta5 _ _ ea4
  refine ⟨by show 2 ≤ sizeLine; decide, fun a6 na6 => ?_⟩
  have ta6 : Same Ga5 (upd Ga5 a6 (.tup [.str "name", .str "7"])) := same_new na6
  have ea6 : (upd Ga5 a6 (.tup [.str "name", .str "7"])) a6 = some (.tup [.str "name", .str "7"]) := upd_same
  generalize upd Ga5 a6 (.tup [.str "name", .str "7"]) = Ga6 at ta6 ea6 ⊢
  have ea1 := ta6 _ _ ea1
  have ea2 := ta6 _ _ ea2
  have ea3 := ta6 _ _ ea3
  have ea4 := ta6 _ _ ea4
  have ea5 := ta6 _ _ ea5
  refine ⟨by show 2 ≤ sizeLine; decide, fun a7 na7 => ?_⟩
  have ta7 : Same Ga6 (upd Ga6 a7 (.tup [.ref a5, .ref a6])) := same_new na7
  have ea7 : (upd Ga6 a7 (.tup [.ref a5, .ref a6])) a7 = some (.tup [.ref a5, .ref a6]) := upd_same
  generalize upd Ga6 a7 (.tup [.ref a5, .ref a6]) = Ga7 at ta7 ea7 ⊢
  have ea1 := ta7 _ _ ea1
  have ea2 := ta7 _ _ ea2
  have ea3 := ta7 _ _ ea3
  have ea4 := ta7 _ _ ea4
  have ea5 := ta7 _ _ ea5
  have ea6 := ta7 _ _ ea6
  refine ⟨by show 2 ≤ sizeLine; decide, fun X nX => ?_⟩
  have tX : Same Ga7 (upd Ga7 X (.lst [.ref a3, .ref a7])) := same_new nX
  have eX : (upd Ga7 X (.lst [.ref a3, .ref a7])) X = some (.lst [.ref a3, .ref a7]) := upd_same
  generalize upd Ga7 X (.lst [.ref a3, .ref a7]) = GX at tX eX ⊢
  have ea1 := tX _ _ ea1
  have ea2 := tX _ _ ea2
  have ea3 := tX _ _ ea3
  have ea4 := tX _ _ ea4
  have ea5 := tX _ _ ea5
  have ea6 := tX _ _ ea6
  have ea7 := tX _ _ ea7
  have s3 : Same G GX := (((((((ta1.trans ta2).trans ta3).trans ta4).trans ta5).trans ta6).trans ta7).trans tX)
  have seven : (PyData.int 7).shown = "7" := by decide +kernel
  have it : ∀ x ∈ ([.ref a3, .ref a7] : List V), ∃ (q t u : Addr) (res : PyData), x = .ref q ∧ GX q = some (.tup [.ref t, .ref u]) ∧ SeqAt.shaped res = true ∧ ∀ G', Same GX G' → Asked K C G' [.int 3, .ref lay, .ref t] res ∧ Dp K G' (.ref u) res := fun x hx => by
    rcases List.mem_cons.mp hx with rfl | hx
    · exact ⟨a3, a1, a2, _, rfl, ea3, by decide +kernel, fun G' s => ⟨.list (s _ _ ea1), dp_pair (s _ _ ea2) (.str _) (.str _)⟩⟩
    · rw [List.mem_singleton.mp hx]
      refine ⟨a7, a5, a6, .tuple [.str "name", .str (PyData.int 7).shown], rfl, ea7, by decide +kernel, fun G' s => ⟨.bad (i := 1) (y := .int 7) (d := .int 7) (s _ _ ea5) (s _ _ ea4) (fun y hy => ?_) rfl (by decide +kernel) rfl odd_seven.sm.sh, by rw [seven]; exact dp_pair (s _ _ ea6) (.str _) (.str _)⟩⟩
      rcases List.mem_cons.mp hy with rfl | hy
      · exact .inl ⟨_, rfl, by decide +kernel⟩
      rcases List.mem_cons.mp hy with rfl | hy
      · exact odd_seven.item.item
      · rw [List.mem_singleton.mp hy]; exact .inl ⟨_, rfl, by decide +kernel⟩
  have hS : SqL K GX X [.ref a3, .ref a7] := SqL.of eX
  refine ⟨X, rfl, ⟨_, hS⟩, for_list (K := K) (a := X) (xs := [.ref a3, .ref a7]) (fun j σ G7 => (∃ v13 v15 : Option V, σ = [some (.ref a), some (.int y), some (.ref l), some (.ref nm), some (.bl r), v5, v6, v7, some (.ref lay), v9, v10, v11, v12, v13, v14, v15, v16, v17]) ∧ Same GX G7) ⟨⟨_, _, rfl⟩, Same.refl _⟩ (fun j σ G _ p => p.2.seq hS) ?_ ?_⟩
  · rintro j x σ G7 hx ⟨⟨v13, v15, rfl⟩, s7⟩
    obtain ⟨q, t, u, res, rfl, hq, shp, od⟩ := it x (List.mem_of_getElem? hx)
    refine ⟨q, _, rfl, SqT.of (s7 _ _ hq), rfl, _, _, rfl, _, _, rfl, rfl, ?_⟩
    refine ⟨_, rfl, _, rfl, res, (od G7 s7).1, fun v G8 s8 dv => ?_⟩
    have s78 := s7.trans s8
    refine ⟨_, rfl, _, _, dv, (od G8 s78).2, shp, shp, _, rfl, ?_⟩
    rw [SeqAt.eqv_refl _ (SeqAt.canLay_of_shaped shp)]
    refine iteF ⟨_, rfl, by show 1 ≤ sizeLine; decide, fun p1 m1 => ⟨by show 2 ≤ sizeLine; decide, fun p2 m2 => ?_⟩⟩
    refine ⟨_, .room (gs := ["a"]) upd_same (app upd_same m2) (by decide +kernel), fun v2 G9 s9 dv2 => ⟨by show 2 ≤ sizeLine; decide, fun p3 m3 => ?_⟩⟩
    have sh2 : SeqAt.shaped (.tuple [.str "list", .str "room"]) = true := by decide +kernel
    refine ⟨_, _, Dp.keep (same_new m3) dv2, dp_pair upd_same (.str _) (.str _), sh2, sh2, _, rfl, ?_⟩
    rw [SeqAt.eqv_refl _ (SeqAt.canLay_of_shaped sh2)]
    exact iteF ⟨⟨_, _, rfl⟩, ad ((ad (ad s78 m1) m2).trans s9) m3⟩
  · rintro σ G7 ⟨⟨v13, v15, rfl⟩, s7⟩
    have all := s3.trans s7
    exact k _ _ ⟨y, l, nm, lay, fs, r, _, _, _, _, _, _, _, _, _, _, _, _, rfl, W.same all, N.same all, hL.keep all⟩
end
end Lw

set_option Elab.async false
set_option linter.all false
set_option maxRecDepth 100000
set_option maxHeartbeats 1000000
/-! law, whole. -/
namespace Lw
open PySem L2 Two Pr ClX SlX
def spLaw (K : PySem.W.Frag) : Sp := fun vs H Q _ => ∃ (a : Addr) (ns : List Int), vs = [.ref a] ∧ SqL K H a (ns.map V.int) ∧ ns.length ≤ 63 ∧ Sys H ∧ ∀ H', Q (.bl true) H'
def tRound (a : Addr) (K : PySem.W.Frag) (C : Addr) : TS := fun D σ H => ∃ (Cs : Addr) (cells : List Int), L0 a Cs cells σ H ∧ ∀ σ' H', L7 a Cs cells K C σ' H' → D.nx σ' H'
section
variable {P : Program} {w : World} {K : PySem.W.Frag} {mg : Str → Option Value} {base : Heap} {C p0 p1 fI : Addr} {dI : FuncData} {c : List Addr} {fC fW fD fN fB fA fR fV : Addr} {dC dW dD dN dB dA dR dV : FuncData}
theorem ok_law {f : Addr} {fd : FuncData} (F : Fun K "law" "law" sLaw f fd) (T : TxtX mg) (L : LayE P w K mg base C p0 p1 fI dI c) (D : Defs P w K mg base C fC fW fD fN fB fA fR fV dC dW dD dN dB dA dR dV)
    (kit : ∀ T : String, T = "tuple" ∨ T = "str" ∨ T = "dict" ∨ T = "NoneType" → PySem.W.kitOne K (.type T) (.type "list") = some false) : FnG P w K mg base CX0 11 f fd ["_law_script"] (spLaw K) := by
  refine FnG.of F scLaw (fun vs H Q E h => ?_) (fun cdv A outer s H vs Q E hr hg h => ?_)
  · obtain ⟨a, ns, rfl, _⟩ := h
    rfl
  · obtain ⟨a, ns, rfl, hS, hlen, sys, k⟩ := h
    have hr1 : Room 1 _ := hr.mono (by decide)
    have all : ∀ (Cs : Addr) (cells : List Int), PSs (LX P w K mg base f cdv A outer s H E) [stm 0, stm 1, stm 2, stm 3, stm 4, stm 5, stm 6, stm 7, stm 8, stm 9, stm 10, stm 11] (tStep (L0 a Cs cells) (L7 a Cs cells K C)) := fun Cs cells =>
      st_cons (t0 D hr) (st_cons (t1 D hr) (st_cons (t2 T D hr) (st_cons (t3 T D hr) (st_cons (t4 T D hr hg) (st_cons (t5 T L hr) (st_cons (t6 T L hr) (st_cons (t7 T D hr hg) (st_cons (t8 T L hr) (st_cons (t9 T L D hr hg) (st_cons (t10 T D hr hg kit) (st_one (t11 D hr hg))))))))))))
    have hB : PSs (LX P w K mg base f cdv A outer s H E) loopBody (tRound a K C) := ⟨fun pins s1 σ H1 D1 I ⟨Cs, cells, h1, h2⟩ => (show PSs (LX P w K mg base f cdv A outer s H E) loopBody _ from all Cs cells).run pins s1 σ H1 D1 I ⟨h1, h2⟩⟩
    refine ⟨_, pss_cons (ps_for PassesOwn.never rfl (pi_list (pe_op op_cat (pe_lst (pa_cons (pe_call D.GC hr1 rfl D.gC D.kC D.bC .nil pass0 (pa_cons (pv 0) (pa_cons pe_int pa_nil))) pa_nil)) (pe_slice sl_list (pv 0) (po_some pe_int) (po_some pe_int)))) (pg_name (i := 1) scLaw.nd rfl (Or.inl rfl)) hB)
      (pss_one (ps_ret pe_bl)), ?_⟩
    refine ⟨_, rfl, a, ns, 0, rfl, hS, by omega, fun z0 => ?_⟩
    refine ⟨by show 1 ≤ sizeLine; decide, fun A1 hA1 => ?_⟩
    have s1 : Same H (upd H A1 (.lst [.int z0])) := same_new hA1
    have hA1e : (upd H A1 (.lst [.int z0])) A1 = some (.lst [.int z0]) := upd_same
    generalize upd H A1 (.lst [.int z0]) = G1 at s1 hA1e ⊢
    refine ⟨_, rfl, _, rfl, _, rfl, a, _, rfl, s1.seq hS, fun A2 hA2 => ?_⟩
    obtain ⟨cs, hcs⟩ : ∃ cs : List Int, cutV (ns.map V.int) (some 1) (some 6) = cs.map V.int := by
      refine ⟨((ns.drop (HT.sIx (ns.map V.int).length 0 (some 1))).take (HT.sIx (ns.map V.int).length (ns.map V.int).length (some 6) - HT.sIx (ns.map V.int).length 0 (some 1))), ?_⟩
      unfold cutV
      rw [List.map_take, List.map_drop]
    have lcs : cs.length ≤ 63 := by
      have e := cutV_length (ns.map V.int) (some 1) (some 6)
      rw [hcs, List.length_map, List.length_map] at e
      omega
    rw [hcs]
    have s2 : Same G1 (upd G1 A2 (.lst (cs.map V.int))) := same_new hA2
    have hA2e : (upd G1 A2 (.lst (cs.map V.int))) A2 = some (.lst (cs.map V.int)) := upd_same
    generalize upd G1 A2 (.lst (cs.map V.int)) = G2 at s2 hA2e ⊢
    refine ⟨A1, A2, _, _, rfl, rfl, s2 _ _ hA1e, hA2e, Nat.le_of_lt (small1000 (by rw [List.length_map]; show 1 + cs.length ≤ 1000; omega)), fun Cs hCs => ?_⟩
    have ez : [V.int z0] ++ cs.map V.int = (z0 :: cs).map V.int := rfl
    rw [ez]
    have s3 : Same G2 (upd G2 Cs (.lst ((z0 :: cs).map V.int))) := same_new hCs
    have hCe : (upd G2 Cs (.lst ((z0 :: cs).map V.int))) Cs = some (.lst ((z0 :: cs).map V.int)) := upd_same
    generalize upd G2 Cs (.lst ((z0 :: cs).map V.int)) = G3 at s3 hCe ⊢
    have bs : Bs Cs (z0 :: cs) G3 := ⟨hCe, sys.keep ((s1.trans s2).trans s3)⟩
    refine ⟨Cs, rfl, ⟨_, SqL.of hCe⟩, for_list (K := K) (a := Cs) (xs := (z0 :: cs).map V.int) (fun i σ G => Bs Cs (z0 :: cs) G ∧ ∃ (v1 v2 v3 v4 v5 v6 v7 v8 v9 v10 v11 v12 v13 v14 v15 v16 v17 : Option V), σ = [some (.ref a), v1, v2, v3, v4, v5, v6, v7, v8, v9, v10, v11, v12, v13, v14, v15, v16, v17]) ⟨bs, _, _, _, _, _, _, _, _, _, _, _, _, _, _, _, _, _, rfl⟩ (fun i σ G _ p => SqL.of p.1.cs) ?_ ?_⟩
    · rintro i x σ G4 hx ⟨b4, v1, v2, v3, v4, v5, v6, v7, v8, v9, v10, v11, v12, v13, v14, v15, v16, v17, rfl⟩
      obtain ⟨y, _, rfl⟩ := get_map hx
      refine ⟨Cs, z0 :: cs, ⟨y, _, _, _, _, _, _, _, _, _, _, _, _, _, _, _, _, rfl, b4⟩, ?_⟩
      rintro σ' G5 ⟨y, l, nm, lay, fs, r, v5, v6, v7, v9, v10, v11, v12, v13, v14, v15, v16, v17, rfl, W, _⟩
      exact ⟨W.bs, _, _, _, _, _, _, _, _, _, _, _, _, _, _, _, _, _, rfl⟩
    · rintro σ G4 _
      exact k _
end
end Lw

set_option Elab.async false
set_option linter.all false
set_option maxRecDepth 100000
set_option maxHeartbeats 1000000
/-! The walk, where the object of sys.modules is to stand apart. -/
namespace Two
open PySem PySem.Spec PyProof.Rows L2
theorem lawS {P : Program} {w : World} {K : PySem.W.Frag} {mg mb : Str → Option Value} {k : Nat} {fa a : Addr} {fd : FuncData} {x : Str} {sp : Sp} {z : Shared} {vs : List Value} {ns : List Int}
    (KX : K.In z.heap) (hns : z.heap.Ns mainGlobals mg) (hb : z.heap.Ns builtinsNs mb) (hbb : ∀ x : Str, x ≠ "__name__" → mb x = bootBuiltins x) (hlim : z.heap.NoLimit) (hg : z.gens = #[])
    (hm : ∃ mm, z.heap.Ns 1 mm) (K1 : K.lookup 1 = none)
    (ha : z.heap.get? a = some { cls := .type "list", data := .seq vs.toArray }) (hi : IntsAre vs ns) (hl : ns.length ≤ sizeLine) (hr : Room k callerA)
    (F : ∀ base : Heap, K.In base → base.Ns mainGlobals mg → FnG P w K mg base CX0 k fa fd [x] sp) (hbind : ∀ (s : Shared) (u : Value), BindsTo s fd ⟨[u], []⟩ [(x, u)])
    (hsp : ∀ H : Hp, SqL K H a (ns.map V.int) → (∃ o, H 1 = some (.frz o (.own 0))) → sp [.ref a] H (fun v _ => v = .bl true) fun _ _ _ => False) :
    codeAny (model P w) callerA (.call (.ref fa) ⟨[.ref a], []⟩) (fun r y => r = .ok (.ret (.bool true)) ∧ OldK z.heap y.heap ∧ y.os = z.os ∧ AllBare y.gens) z := by
  obtain ⟨H0, hO0, hS0, hok0, only0⟩ := script_ho (P := P) (w := w) KX ha hi hl
  obtain ⟨mm, o1, es1, ep1, e1, d1, r1⟩ := hm
  have a1 : a ≠ 1 := fun q => by
    rw [q, e1] at ha
    cases ha
    cases d1
  have H01 : H0 1 = none := Decidable.byContradiction fun n => a1 (only0 1 n).1.symm
  let H : Hp := fun b => if b = 1 then some (.frz o1 (.own 0)) else H0 b
  have h1 : H 1 = some (.frz o1 (.own 0)) := if_pos rfl
  have hne : ∀ b, b ≠ 1 → H b = H0 b := fun b q => if_neg q
  have hO : ∀ b, H b = none ∨ ∃ o u, H b = some (.frz o u) := fun b => by
    by_cases q : b = 1
    · exact .inr ⟨_, _, q ▸ h1⟩
    · rw [hne b q]
      rcases hO0 b with n | ⟨o, xs, n⟩
      · exact .inl n
      · exact .inr ⟨_, _, n⟩
  have hS : SqL K H a (ns.map V.int) := by
    exact hS0.imp (fun h => h.imp (fun e => (hne a a1).trans e) fun ⟨o, e⟩ => ⟨o, (hne a a1).trans e⟩) id
  have hok : HOk P w H z.heap := fun b u e => by
    by_cases q : b = 1
    · rw [q, h1] at e
      cases e
      rw [q]
      exact ⟨e1, o1, e1⟩
    · rw [hne b q] at e
      rcases hO0 b with n | ⟨o, xs, n⟩
      · rw [n] at e; cases e
      · have := hok0 b u e
        rw [n] at e
        cases e
        exact this
  have only : ∀ b, H b ≠ none → b = 1 ∨ (b = a ∧ K.lookup a = none) := fun b n => by
    by_cases q : b = 1
    · exact .inl q
    · rw [hne b q] at n
      exact .inr (only0 b n)
  -- what isn't the script stands in the base
  have keep : ∀ {b : Addr} {o : Obj}, z.heap.get? b = some o → b ≠ 1 → (b ≠ a ∨ K.lookup a ≠ none) → (hidT z.heap H).get? b = some o := fun {b o} e q1 q =>
    hidT_get e (Decidable.byContradiction fun n => (only b n).elim q1 fun k => q.elim (fun q => q k.1) fun q => q k.2)
  have ns : ∀ {b : Addr} {m : Str → Option Value}, b ≠ 1 → z.heap.Ns b m → (hidT z.heap H).Ns b m := fun {b m} b1 ⟨o, es, ep, e, d, r⟩ => by
    refine ⟨o, es, ep, keep e b1 (.inl fun q => ?_), d, r⟩
    rw [q, ha] at e
    cases e
    cases d
  have kin : K.In (hidT z.heap H) := fun b o e => keep (KX b o e) (fun q => by rw [q, K1] at e; cases e) (by
    by_cases q : b = a
    · exact .inr fun n => by rw [q, n] at e; cases e
    · exact .inl q)
  have mod : Mod K mg (hidT z.heap H) := ⟨kin, ns (by decide) hns, ⟨mb, ns (by decide) hb, hbb⟩, let ⟨mc, h1, h2⟩ := hlim; ⟨mc, ns (by decide) h1, h2⟩⟩
  have env : Env0 P w K mg (hidT z.heap H) callerA [] z H := ⟨rfl, mod, fun b o e => of_hidT e, Nat.le_of_eq (hidT_size _ _), trivial, (fun b hb => nomatch hb), hok, .of_eq hg⟩
  refine codeAny_mono ((F _ kin (ns (by decide) hns)).run callerA [] z H ⟨[.ref a], []⟩ [.ref a] [.ref a] _ _ hr rfl env (hbind z (.ref a)) (.cons rfl .nil) (hsp H hS ⟨_, h1⟩)) fun r y h => ?_
  match r, h with
  | .error e, h => exact h.elim
  | .ok .next, h => exact False.elim h
  | .ok .brk, h => exact False.elim h
  | .ok .cont, h => exact False.elim h
  | .ok (.ret u), h =>
    obtain ⟨v, G, os, bare, un, hokG, rv, q⟩ := h
    have q : v = .bl true := q
    subst q
    cases rv
    refine ⟨rfl, OldK.of_keep fun b o e => ?_, os, bare⟩
    cases t : H b with
    | none => exact un.keep b o e t (fun n => nomatch n) (fun n => nomatch n)
    | some u =>
      rcases hO b with n | ⟨ob, xs, n⟩
      · rw [t] at n; cases n
      · have e1 := (hok b _ n).1
        have e2 := (hokG b _ (un.frzs b ob _ n)).1
        rw [e] at e1
        cases e1
        exact e2

theorem walkS {l : PySem.W.OpenLaw} {n k : Nat} {q : Program} {loose : List Str} {XP : (Str → Option Value) → Heap → Prop} {YP : World → Heap → Prop} {d : DefRec} {K : Params → PySem.W.Frag} {sp : World → Sp} {x : Str}
    (hn : l.most = some n) (hn2 : n ≤ sizeLine) (hdf : d.params.defaults = []) (hr : Room k callerA) (hY : ∀ (w : World) (h : Heap), YP w h → (K w.params).In h)
    (hq : importsNone q = true) (K1 : ∀ w : World, (K w.params).lookup 1 = none)
    (F : ∀ (w : World) (mg : Str → Option Value) (fa : Addr) (h : Heap), (K w.params).In h → h.Ns mainGlobals mg → mg d.name = some (.ref fa) →
      ∃ fd : FuncData, (∀ (s : Shared) (u : Value), BindsTo s fd ⟨[u], []⟩ [(x, u)]) ∧ ∀ base : Heap, (K w.params).In base → base.Ns mainGlobals mg → FnG l.prog w (K w.params) mg base CX0 k fa fd [x] (sp w))
    (hsp : ∀ (w : World) (H : Hp) (a : Addr) (ns : List Int), ns.length ≤ n → SqL (K w.params) H a (ns.map V.int) → (∃ o, H 1 = some (.frz o (.own 0))) → sp w [.ref a] H (fun v _ => v = .bl true) fun _ _ _ => False) :
    PySem.W.WalkO q loose XP YP l.row.toRowW d [] (fun f vs => PySem.call f vs) := by
  refine Att.attach_call hn hdf fun w s0 z mg mb fa o pm cd doc a vs ns G Y ho hd hcd hmg hobj hints hlen hg => ?_
  obtain ⟨fd, hb, hF⟩ := F w mg fa _ (hY w _ Y) G.T.g hmg
  obtain ⟨mm, hm, _⟩ := (G.T.seer hq).mods
  exact lawS (hY w _ Y) G.T.g G.T.b G.T.builtins G.T.nolimit hg ⟨mm, hm⟩ (K1 w) hobj hints (Nat.le_trans hlen hn2) hr hF hb fun H hS h1 => hsp w H a ns hlen hS h1
end Two

set_option Elab.async false
set_option linter.all false
set_option maxRecDepth 100000
set_option maxHeartbeats 4000000
namespace Lw
open PySem L2 Two Pr ClX SlX
abbrev sNameInit : Stmt := within (top 2) 0
abbrev sOffInit : Stmt := within (top 5) 0
section
variable {P : Program} {w : World} {K : PySem.W.Frag} {mg : Str → Option Value} {base : Heap}
theorem scNameInit : FnScope ["self", "name"] ["self", "name"] (defScope sNameInit) := ⟨rfl, rfl, rfl, by decide +kernel, rfl, by decide +kernel, by decide +kernel⟩
theorem ok_nameInit {f fL cL : Addr} {fd dL : FuncData} {mc : Value} (F : Fun K "__init__" "BadName.__init__" sNameInit f fd) (gL : mg "LineError" = some (.ref cL)) (r : CRead K cL mc) (c : CFn K cL mc "__init__" fL) (bL : Binds K dL ["self", "why"] [])
    (GL : FnOk P w K mg base CX0 1 fL dL ["self", "why"] (spInit K ["why"] fun y => [("why", y)])) : FnOk P w K mg base CX0 2 f fd ["self", "name"] (spInit K ["why", "name"] fun y => [("name", y), ("why", .str "name")]) :=
  ok_init1 (cL := cL) F scNameInit fun cdv A outer s H E hr => pss_cons (ps_expr (pe_cfn (pe_glob rfl gL rfl) r c GL hr bL .nil pass0 (pa_cons (pv 0) (pa_cons pe_str pa_nil)))) (pss_one (ps_ost (pv 0) (pv 1)))
theorem scOffInit : FnScope ["self", "offset"] ["self", "offset"] (defScope sOffInit) := ⟨rfl, rfl, rfl, by decide +kernel, rfl, by decide +kernel, by decide +kernel⟩
theorem ok_offInit {f fL cL : Addr} {fd dL : FuncData} {mc : Value} (F : Fun K "__init__" "BadOffset.__init__" sOffInit f fd) (gL : mg "LineError" = some (.ref cL)) (r : CRead K cL mc) (c : CFn K cL mc "__init__" fL) (bL : Binds K dL ["self", "why"] [])
    (GL : FnOk P w K mg base CX0 1 fL dL ["self", "why"] (spInit K ["why"] fun y => [("why", y)])) : FnOk P w K mg base CX0 2 f fd ["self", "offset"] (spInit K ["why", "offset"] fun y => [("offset", y), ("why", .str "offset")]) :=
  ok_init1 (cL := cL) F scOffInit fun cdv A outer s H E hr => pss_cons (ps_expr (pe_cfn (pe_glob rfl gL rfl) r c GL hr bL .nil pass0 (pa_cons (pv 0) (pa_cons pe_str pa_nil)))) (pss_one (ps_ost (pv 0) (pv 1)))
/-- a def's promise, by its values alone -/
theorem rawN {CX : CXT} {k : Nat} {f : Addr} {fd : FuncData} {ps : List Str} {sp : Sp} (F : FnOk P w K mg base CX k f fd ps sp) (b : Binds K fd ps []) : FnR P w K mg base CX k f sp := (F.raw b .nil).imp fun vs H Q E h => by rw [List.append_nil]; exact h
theorem bl_only {ds : List Value} (h : Vals [V.bl false] ds) : ds = [.bool false] := by
  cases h with
  | cons r t =>
    cases t
    rw [show _ = Value.bool false from r]
theorem nil_only {ds : List Value} (h : Vals [] ds) : ds = [] := by cases h; rfl
end
/-! ### what the top has written -/
theorem all_mk {l : PySem.W.OpenLaw} {w : World} {K : PySem.W.Frag} {h : Heap} {mg : Str → Option Value} {fa : Addr} (X : K.In h) (G : h.Ns mainGlobals mg) (hfa : mg "law" = some (.ref fa))
    {tm1 tm2 : Tok}
    (longest : PySem.W.nsIn K mainGlobals "LONGEST_NAME" = some (some (.int 8 tm1)))
    (most : PySem.W.nsIn K mainGlobals "MOST_FIELDS" = some (some (.int 6 tm2)))
    (z_isinstance : PySem.W.nsIn K mainGlobals "isinstance" = some none)
    (z_int : PySem.W.nsIn K mainGlobals "int" = some none)
    (z_bool : PySem.W.nsIn K mainGlobals "bool" = some none)
    (z_str : PySem.W.nsIn K mainGlobals "str" = some none)
    (z_list : PySem.W.nsIn K mainGlobals "list" = some none)
    (z_tuple : PySem.W.nsIn K mainGlobals "tuple" = some none)
    (z_set : PySem.W.nsIn K mainGlobals "set" = some none)
    (z_len : PySem.W.nsIn K mainGlobals "len" = some none)
    (z_all : PySem.W.nsIn K mainGlobals "all" = some none)
    (z_range : PySem.W.nsIn K mainGlobals "range" = some none)
    (z_reversed : PySem.W.nsIn K mainGlobals "reversed" = some none)
    (z_min : PySem.W.nsIn K mainGlobals "min" = some none)
    (z_repr : PySem.W.nsIn K mainGlobals "repr" = some none)
    {f_I : Addr} {od_I an_I : Option Addr} {sl_I : Array (Option Value)} {oc_I kV_I dc_I pm_I cd_I ct_I : Value}
    (a_I : PySem.W.nsIn K mainGlobals "is_int" = some (some (.ref f_I)))
    (l_I : K.lookup f_I = some ⟨oc_I, od_I, .func (PySem.W.fnOf "is_int" "is_int" (defArgs sIsInt) (defBody sIsInt) (defScope sIsInt) .none kV_I dc_I pm_I an_I cd_I ct_I), sl_I⟩)
    (c_I : PySem.W.codeIn K cd_I "is_int" = true)
    (k_I : PySem.W.keepIn K (.ref f_I) = true)
    {f_N : Addr} {od_N an_N : Option Addr} {sl_N : Array (Option Value)} {oc_N kV_N dc_N pm_N cd_N ct_N : Value}
    (a_N : PySem.W.nsIn K mainGlobals "is_name" = some (some (.ref f_N)))
    (l_N : K.lookup f_N = some ⟨oc_N, od_N, .func (PySem.W.fnOf "is_name" "is_name" (defArgs sIsName) (defBody sIsName) (defScope sIsName) .none kV_N dc_N pm_N an_N cd_N ct_N), sl_N⟩)
    (c_N : PySem.W.codeIn K cd_N "is_name" = true)
    (k_N : PySem.W.keepIn K (.ref f_N) = true)
    {f_n : Addr} {od_n an_n : Option Addr} {sl_n : Array (Option Value)} {oc_n kV_n dc_n pm_n cd_n ct_n : Value}
    (a_n : PySem.W.nsIn K mainGlobals "check_name" = some (some (.ref f_n)))
    (l_n : K.lookup f_n = some ⟨oc_n, od_n, .func (PySem.W.fnOf "check_name" "check_name" (defArgs sCkName) (defBody sCkName) (defScope sCkName) .none kV_n dc_n pm_n an_n cd_n ct_n), sl_n⟩)
    (c_n : PySem.W.codeIn K cd_n "check_name" = true)
    (k_n : PySem.W.keepIn K (.ref f_n) = true)
    {f_S : Addr} {od_S an_S : Option Addr} {sl_S : Array (Option Value)} {oc_S kV_S dc_S pm_S cd_S ct_S : Value}
    (a_S : PySem.W.nsIn K mainGlobals "check_names" = some (some (.ref f_S)))
    (l_S : K.lookup f_S = some ⟨oc_S, od_S, .func (PySem.W.fnOf "check_names" "check_names" (defArgs sCkNames) (defBody sCkNames) (defScope sCkNames) .none kV_S dc_S pm_S an_S cd_S ct_S), sl_S⟩)
    (c_S : PySem.W.codeIn K cd_S "check_names" = true)
    (k_S : PySem.W.keepIn K (.ref f_S) = true)
    {f_U : Addr} {od_U an_U : Option Addr} {sl_U : Array (Option Value)} {oc_U kV_U dc_U pm_U cd_U ct_U : Value}
    (a_U : PySem.W.nsIn K mainGlobals "check_unlike" = some (some (.ref f_U)))
    (l_U : K.lookup f_U = some ⟨oc_U, od_U, .func (PySem.W.fnOf "check_unlike" "check_unlike" (defArgs sUnlike) (defBody sUnlike) (defScope sUnlike) .none kV_U dc_U pm_U an_U cd_U ct_U), sl_U⟩)
    (c_U : PySem.W.codeIn K cd_U "check_unlike" = true)
    (k_U : PySem.W.keepIn K (.ref f_U) = true)
    {f_M : Addr} {od_M an_M : Option Addr} {sl_M : Array (Option Value)} {oc_M kV_M dc_M pm_M cd_M ct_M : Value}
    (a_M : PySem.W.nsIn K mainGlobals "check_more_fields" = some (some (.ref f_M)))
    (l_M : K.lookup f_M = some ⟨oc_M, od_M, .func (PySem.W.fnOf "check_more_fields" "check_more_fields" (defArgs sCkMore) (defBody sCkMore) (defScope sCkMore) .none kV_M dc_M pm_M an_M cd_M ct_M), sl_M⟩)
    (c_M : PySem.W.codeIn K cd_M "check_more_fields" = true)
    (k_M : PySem.W.keepIn K (.ref f_M) = true)
    {f_c : Addr} {od_c an_c : Option Addr} {sl_c : Array (Option Value)} {oc_c kV_c dc_c pm_c cd_c ct_c : Value}
    (a_c : PySem.W.nsIn K mainGlobals "_law_cell_at" = some (some (.ref f_c)))
    (l_c : K.lookup f_c = some ⟨oc_c, od_c, .func (PySem.W.fnOf "_law_cell_at" "_law_cell_at" (defArgs sCell) (defBody sCell) (defScope sCell) .none kV_c dc_c pm_c an_c cd_c ct_c), sl_c⟩)
    (c_c : PySem.W.codeIn K cd_c "_law_cell_at" = true)
    (k_c : PySem.W.keepIn K (.ref f_c) = true)
    {f_w : Addr} {od_w an_w : Option Addr} {sl_w : Array (Option Value)} {oc_w kV_w dc_w pm_w cd_w ct_w : Value}
    (a_w : PySem.W.nsIn K mainGlobals "_law_well" = some (some (.ref f_w)))
    (l_w : K.lookup f_w = some ⟨oc_w, od_w, .func (PySem.W.fnOf "_law_well" "_law_well" (defArgs sWell) (defBody sWell) (defScope sWell) .none kV_w dc_w pm_w an_w cd_w ct_w), sl_w⟩)
    (c_w : PySem.W.codeIn K cd_w "_law_well" = true)
    (k_w : PySem.W.keepIn K (.ref f_w) = true)
    {f_d : Addr} {od_d an_d : Option Addr} {sl_d : Array (Option Value)} {oc_d kV_d dc_d pm_d cd_d ct_d : Value}
    (a_d : PySem.W.nsIn K mainGlobals "_law_draw" = some (some (.ref f_d)))
    (l_d : K.lookup f_d = some ⟨oc_d, od_d, .func (PySem.W.fnOf "_law_draw" "_law_draw" (defArgs sDraw) (defBody sDraw) (defScope sDraw) .none kV_d dc_d pm_d an_d cd_d ct_d), sl_d⟩)
    (c_d : PySem.W.codeIn K cd_d "_law_draw" = true)
    (k_d : PySem.W.keepIn K (.ref f_d) = true)
    {f_o : Addr} {od_o an_o : Option Addr} {sl_o : Array (Option Value)} {oc_o kV_o dc_o pm_o cd_o ct_o : Value}
    (a_o : PySem.W.nsIn K mainGlobals "_law_one" = some (some (.ref f_o)))
    (l_o : K.lookup f_o = some ⟨oc_o, od_o, .func (PySem.W.fnOf "_law_one" "_law_one" (defArgs sOne) (defBody sOne) (defScope sOne) .none kV_o dc_o pm_o an_o cd_o ct_o), sl_o⟩)
    (c_o : PySem.W.codeIn K cd_o "_law_one" = true)
    (k_o : PySem.W.keepIn K (.ref f_o) = true)
    {f_x : Addr} {od_x an_x : Option Addr} {sl_x : Array (Option Value)} {oc_x kV_x dc_x pm_x cd_x ct_x : Value}
    (a_x : PySem.W.nsIn K mainGlobals "_law_name" = some (some (.ref f_x)))
    (l_x : K.lookup f_x = some ⟨oc_x, od_x, .func (PySem.W.fnOf "_law_name" "_law_name" (defArgs sName) (defBody sName) (defScope sName) .none kV_x dc_x pm_x an_x cd_x ct_x), sl_x⟩)
    (c_x : PySem.W.codeIn K cd_x "_law_name" = true)
    (k_x : PySem.W.keepIn K (.ref f_x) = true)
    {f_f : Addr} {od_f an_f : Option Addr} {sl_f : Array (Option Value)} {oc_f kV_f dc_f pm_f cd_f ct_f : Value}
    (a_f : PySem.W.nsIn K mainGlobals "_law_fields" = some (some (.ref f_f)))
    (l_f : K.lookup f_f = some ⟨oc_f, od_f, .func (PySem.W.fnOf "_law_fields" "_law_fields" (defArgs sFields) (defBody sFields) (defScope sFields) .none kV_f dc_f pm_f an_f cd_f ct_f), sl_f⟩)
    (c_f : PySem.W.codeIn K cd_f "_law_fields" = true)
    (k_f : PySem.W.keepIn K (.ref f_f) = true)
    {f_k : Addr} {od_k an_k : Option Addr} {sl_k : Array (Option Value)} {oc_k kV_k dc_k pm_k cd_k ct_k : Value}
    (a_k : PySem.W.nsIn K mainGlobals "_law_classes_of" = some (some (.ref f_k)))
    (l_k : K.lookup f_k = some ⟨oc_k, od_k, .func (PySem.W.fnOf "_law_classes_of" "_law_classes_of" (defArgs sClasses) (defBody sClasses) (defScope sClasses) .none kV_k dc_k pm_k an_k cd_k ct_k), sl_k⟩)
    (c_k : PySem.W.codeIn K cd_k "_law_classes_of" = true)
    (k_k : PySem.W.keepIn K (.ref f_k) = true)
    {f_s : Addr} {od_s an_s : Option Addr} {sl_s : Array (Option Value)} {oc_s kV_s dc_s pm_s cd_s ct_s : Value}
    (a_s : PySem.W.nsIn K mainGlobals "_law_names" = some (some (.ref f_s)))
    (l_s : K.lookup f_s = some ⟨oc_s, od_s, .func (PySem.W.fnOf "_law_names" "_law_names" (defArgs sNames) (defBody sNames) (defScope sNames) .none kV_s dc_s pm_s an_s cd_s ct_s), sl_s⟩)
    (c_s : PySem.W.codeIn K cd_s "_law_names" = true)
    (k_s : PySem.W.keepIn K (.ref f_s) = true)
    {f_e : Addr} {od_e an_e : Option Addr} {sl_e : Array (Option Value)} {oc_e kV_e dc_e pm_e cd_e ct_e : Value}
    (a_e : PySem.W.nsIn K mainGlobals "_law_error" = some (some (.ref f_e)))
    (l_e : K.lookup f_e = some ⟨oc_e, od_e, .func (PySem.W.fnOf "_law_error" "_law_error" (defArgs sError) (defBody sError) (defScope sError) .none kV_e dc_e pm_e an_e cd_e ct_e), sl_e⟩)
    (c_e : PySem.W.codeIn K cd_e "_law_error" = true)
    (k_e : PySem.W.keepIn K (.ref f_e) = true)
    {f_a : Addr} {od_a an_a : Option Addr} {sl_a : Array (Option Value)} {oc_a kV_a dc_a pm_a cd_a ct_a : Value}
    (a_a : PySem.W.nsIn K mainGlobals "_law_asked" = some (some (.ref f_a)))
    (l_a : K.lookup f_a = some ⟨oc_a, od_a, .func (PySem.W.fnOf "_law_asked" "_law_asked" (defArgs sAsked) (defBody sAsked) (defScope sAsked) .none kV_a dc_a pm_a an_a cd_a ct_a), sl_a⟩)
    (c_a : PySem.W.codeIn K cd_a "_law_asked" = true)
    (k_a : PySem.W.keepIn K (.ref f_a) = true)
    {f_i : Addr} {od_i an_i : Option Addr} {sl_i : Array (Option Value)} {oc_i kV_i dc_i pm_i cd_i ct_i : Value}
    (a_i : PySem.W.nsIn K mainGlobals "_law_is_name" = some (some (.ref f_i)))
    (l_i : K.lookup f_i = some ⟨oc_i, od_i, .func (PySem.W.fnOf "_law_is_name" "_law_is_name" (defArgs sLIsName) (defBody sLIsName) (defScope sLIsName) .none kV_i dc_i pm_i an_i cd_i ct_i), sl_i⟩)
    (c_i : PySem.W.codeIn K cd_i "_law_is_name" = true)
    (k_i : PySem.W.keepIn K (.ref f_i) = true)
    {f_v : Addr} {od_v an_v : Option Addr} {sl_v : Array (Option Value)} {oc_v kV_v dc_v pm_v cd_v ct_v : Value}
    (a_v : PySem.W.nsIn K mainGlobals "_law_added" = some (some (.ref f_v)))
    (l_v : K.lookup f_v = some ⟨oc_v, od_v, .func (PySem.W.fnOf "_law_added" "_law_added" (defArgs sAdded) (defBody sAdded) (defScope sAdded) .none kV_v dc_v pm_v an_v cd_v ct_v), sl_v⟩)
    (c_v : PySem.W.codeIn K cd_v "_law_added" = true)
    (k_v : PySem.W.keepIn K (.ref f_v) = true)
    {f_g : Addr} {od_g an_g : Option Addr} {sl_g : Array (Option Value)} {oc_g kV_g dc_g pm_g cd_g ct_g : Value}
    (a_g : PySem.W.nsIn K mainGlobals "_law_difference" = some (some (.ref f_g)))
    (l_g : K.lookup f_g = some ⟨oc_g, od_g, .func (PySem.W.fnOf "_law_difference" "_law_difference" (defArgs sDiffer) (defBody sDiffer) (defScope sDiffer) .none kV_g dc_g pm_g an_g cd_g ct_g), sl_g⟩)
    (c_g : PySem.W.codeIn K cd_g "_law_difference" = true)
    (k_g : PySem.W.keepIn K (.ref f_g) = true)
    {f_r : Addr} {od_r an_r : Option Addr} {sl_r : Array (Option Value)} {oc_r kV_r dc_r pm_r cd_r ct_r : Value}
    (a_r : PySem.W.nsIn K mainGlobals "_law_right" = some (some (.ref f_r)))
    (l_r : K.lookup f_r = some ⟨oc_r, od_r, .func (PySem.W.fnOf "_law_right" "_law_right" (defArgs sRight) (defBody sRight) (defScope sRight) .none kV_r dc_r pm_r an_r cd_r ct_r), sl_r⟩)
    (c_r : PySem.W.codeIn K cd_r "_law_right" = true)
    (k_r : PySem.W.keepIn K (.ref f_r) = true)
    {f_b : Addr} {od_b an_b : Option Addr} {sl_b : Array (Option Value)} {oc_b kV_b dc_b pm_b cd_b ct_b : Value}
    (a_b : PySem.W.nsIn K mainGlobals "_law_bad_fields" = some (some (.ref f_b)))
    (l_b : K.lookup f_b = some ⟨oc_b, od_b, .func (PySem.W.fnOf "_law_bad_fields" "_law_bad_fields" (defArgs sBadF) (defBody sBadF) (defScope sBadF) .none kV_b dc_b pm_b an_b cd_b ct_b), sl_b⟩)
    (c_b : PySem.W.codeIn K cd_b "_law_bad_fields" = true)
    (k_b : PySem.W.keepIn K (.ref f_b) = true)
    {f_l : Addr} {od_l an_l : Option Addr} {sl_l : Array (Option Value)} {oc_l kV_l dc_l pm_l cd_l ct_l : Value}
    (a_l : PySem.W.nsIn K mainGlobals "law" = some (some (.ref f_l)))
    (l_l : K.lookup f_l = some ⟨oc_l, od_l, .func (PySem.W.fnOf "law" "law" (defArgs sLaw) (defBody sLaw) (defScope sLaw) .none kV_l dc_l pm_l an_l cd_l ct_l), sl_l⟩)
    (c_l : PySem.W.codeIn K cd_l "law" = true)
    (k_l : PySem.W.keepIn K (.ref f_l) = true)
    {CL : Addr}
    (a_CL : PySem.W.nsIn K mainGlobals "LineError" = some (some (.ref CL)))
    {C0 : Addr}
    (a_C0 : PySem.W.nsIn K mainGlobals "BadList" = some (some (.ref C0)))
    {C1 : Addr}
    (a_C1 : PySem.W.nsIn K mainGlobals "BadName" = some (some (.ref C1)))
    {C2 : Addr}
    (a_C2 : PySem.W.nsIn K mainGlobals "BadOffset" = some (some (.ref C2)))
    {C3 : Addr}
    (a_C3 : PySem.W.nsIn K mainGlobals "BadStep" = some (some (.ref C3)))
    {C4 : Addr}
    (a_C4 : PySem.W.nsIn K mainGlobals "BadValue" = some (some (.ref C4)))
    {C5 : Addr}
    (a_C5 : PySem.W.nsIn K mainGlobals "BelowItself" = some (some (.ref C5)))
    {C6 : Addr}
    (a_C6 : PySem.W.nsIn K mainGlobals "Collision" = some (some (.ref C6)))
    {C7 : Addr}
    (a_C7 : PySem.W.nsIn K mainGlobals "Duplicate" = some (some (.ref C7)))
    {C8 : Addr}
    (a_C8 : PySem.W.nsIn K mainGlobals "HasRoom" = some (some (.ref C8)))
    {C9 : Addr}
    (a_C9 : PySem.W.nsIn K mainGlobals "LayoutMoves" = some (some (.ref C9)))
    {C10 : Addr}
    (a_C10 : PySem.W.nsIn K mainGlobals "NoClass" = some (some (.ref C10)))
    {C11 : Addr}
    (a_C11 : PySem.W.nsIn K mainGlobals "NoName" = some (some (.ref C11)))
    {C12 : Addr}
    (a_C12 : PySem.W.nsIn K mainGlobals "NoObject" = some (some (.ref C12)))
    {C13 : Addr}
    (a_C13 : PySem.W.nsIn K mainGlobals "NoOrder" = some (some (.ref C13)))
    {C14 : Addr}
    (a_C14 : PySem.W.nsIn K mainGlobals "NotSet" = some (some (.ref C14)))
    {C15 : Addr}
    (a_C15 : PySem.W.nsIn K mainGlobals "OtherLayout" = some (some (.ref C15)))
    {C16 : Addr}
    (a_C16 : PySem.W.nsIn K mainGlobals "TooMany" = some (some (.ref C16)))
    {f_iL : Addr} {od_iL an_iL : Option Addr} {sl_iL : Array (Option Value)} {oc_iL kV_iL dc_iL pm_iL cd_iL ct_iL : Value}
    (i_iL : PySem.W.findIn K (.ref CL) "__init__" = some (some (.ref f_iL)))
    (l_iL : K.lookup f_iL = some ⟨oc_iL, od_iL, .func (PySem.W.fnOf "__init__" "LineError.__init__" (defArgs sLineInit) (defBody sLineInit) (defScope sLineInit) .none kV_iL dc_iL pm_iL an_iL cd_iL ct_iL), sl_iL⟩)
    (c_iL : PySem.W.codeIn K cd_iL "LineError.__init__" = true)
    (k_iL : PySem.W.keepIn K (.ref f_iL) = true)
    (t_iL : PySem.W.typeIn K (.ref f_iL) = some (.type "function"))
    {f_iN : Addr} {od_iN an_iN : Option Addr} {sl_iN : Array (Option Value)} {oc_iN kV_iN dc_iN pm_iN cd_iN ct_iN : Value}
    (i_iN : PySem.W.findIn K (.ref C1) "__init__" = some (some (.ref f_iN)))
    (l_iN : K.lookup f_iN = some ⟨oc_iN, od_iN, .func (PySem.W.fnOf "__init__" "BadName.__init__" (defArgs sNameInit) (defBody sNameInit) (defScope sNameInit) .none kV_iN dc_iN pm_iN an_iN cd_iN ct_iN), sl_iN⟩)
    (c_iN : PySem.W.codeIn K cd_iN "BadName.__init__" = true)
    (k_iN : PySem.W.keepIn K (.ref f_iN) = true)
    (t_iN : PySem.W.typeIn K (.ref f_iN) = some (.type "function"))
    {f_iO : Addr} {od_iO an_iO : Option Addr} {sl_iO : Array (Option Value)} {oc_iO kV_iO dc_iO pm_iO cd_iO ct_iO : Value}
    (i_iO : PySem.W.findIn K (.ref C2) "__init__" = some (some (.ref f_iO)))
    (l_iO : K.lookup f_iO = some ⟨oc_iO, od_iO, .func (PySem.W.fnOf "__init__" "BadOffset.__init__" (defArgs sOffInit) (defBody sOffInit) (defScope sOffInit) .none kV_iO dc_iO pm_iO an_iO cd_iO ct_iO), sl_iO⟩)
    (c_iO : PySem.W.codeIn K cd_iO "BadOffset.__init__" = true)
    (k_iO : PySem.W.keepIn K (.ref f_iO) = true)
    (t_iO : PySem.W.typeIn K (.ref f_iO) = some (.type "function"))
    {f_iD : Addr} {od_iD an_iD : Option Addr} {sl_iD : Array (Option Value)} {oc_iD kV_iD dc_iD pm_iD cd_iD ct_iD : Value}
    (i_iD : PySem.W.findIn K (.ref C7) "__init__" = some (some (.ref f_iD)))
    (l_iD : K.lookup f_iD = some ⟨oc_iD, od_iD, .func (PySem.W.fnOf "__init__" "Duplicate.__init__" (defArgs sDupInit) (defBody sDupInit) (defScope sDupInit) .none kV_iD dc_iD pm_iD an_iD cd_iD ct_iD), sl_iD⟩)
    (c_iD : PySem.W.codeIn K cd_iD "Duplicate.__init__" = true)
    (k_iD : PySem.W.keepIn K (.ref f_iD) = true)
    (t_iD : PySem.W.typeIn K (.ref f_iD) = some (.type "function"))
    {f_iT : Addr} {od_iT an_iT : Option Addr} {sl_iT : Array (Option Value)} {oc_iT kV_iT dc_iT pm_iT cd_iT ct_iT : Value}
    (i_iT : PySem.W.findIn K (.ref C16) "__init__" = some (some (.ref f_iT)))
    (l_iT : K.lookup f_iT = some ⟨oc_iT, od_iT, .func (PySem.W.fnOf "__init__" "TooMany.__init__" (defArgs sManyInit) (defBody sManyInit) (defScope sManyInit) .none kV_iT dc_iT pm_iT an_iT cd_iT ct_iT), sl_iT⟩)
    (c_iT : PySem.W.codeIn K cd_iT "TooMany.__init__" = true)
    (k_iT : PySem.W.keepIn K (.ref f_iT) = true)
    (t_iT : PySem.W.typeIn K (.ref f_iT) = some (.type "function"))
    (i_B : PySem.W.findIn K (.ref C0) "__init__" = some (some (.ref f_iL)))
    {mcL : Value}
    (rdT : PySem.W.typeIn K (.ref CL) = some mcL)
    (rdL : PySem.W.readsIn K CL mcL = true)
    (gaL : PySem.W.specialIn K (.ref CL) "__getattribute__" = some (some (.builtin "type.__getattribute__")))
    (atL : PySem.W.findCls K (.ref CL) mcL "__init__" = some (.val (.ref f_iL)))
    (kCL : PySem.W.keepIn K (.ref CL) = true)
    {nm0 q0 : Str} {N0 : Addr} {bs0 bm0 : List Value} {sn0 : List Str} {sub0 : List Value} {ab0 : Bool} {col0 : Option Bool} {dd0 : Option Addr} {m00 m10 m20 m30 m50 : Option Value}
    (x_0 : K.lookup C0 = some (excClassObj nm0 q0 C0 N0 bs0 bm0 true sn0 sub0 ab0 col0 dd0 m00 m10 m20 m30 m50 "ValueError.__new__"))
    (rv_0 : PySem.HandSPX.refsVE bm0 = true)
    (sa_0 : PySem.W.findIn K (.ref C0) "__setattr__" = some (some (.builtin "object.__setattr__")))
    (ex_0 : PySem.W.subIn K (.ref C0) (.type "BaseException") = some true)
    (ty_0 : PySem.W.typeIn K (.ref C0) = some (.type "type"))
    (kc_0 : PySem.W.keepIn K (.ref C0) = true)
    (nw_0 : PySem.W.findIn K (.ref C0) "why" = some none)
    (hg_0 : PySem.W.findIn K (.ref C0) "__getattribute__" = some (some (.builtin "BaseException.__getattribute__")))
    (hk_0 : PySem.W.findIn K (.ref C0) "__getattr__" = some none)
    (hd_0 : PySem.W.hasDictIn K C0 = true)
    (ha_0 : PySem.W.findIn K (.ref C0) "__class__" = some (some (.builtin "object.__class__")))
    (hm_0 : PySem.W.mroIn K C0 (.type "object") = some true)
    (ei_0 : PySem.W.exmOne K (.ref C0) (.ref CL) = some true)
    (kl_0 : PySem.W.kitOne K (.ref C0) (.ref CL) = some true)
    (ke_0_0 : PySem.W.kitOne K (.ref C0) (.ref C0) = some true)
    (ke_0_1 : PySem.W.kitOne K (.ref C0) (.ref C1) = some false)
    (ke_0_2 : PySem.W.kitOne K (.ref C0) (.ref C2) = some false)
    (ke_0_3 : PySem.W.kitOne K (.ref C0) (.ref C3) = some false)
    (ke_0_4 : PySem.W.kitOne K (.ref C0) (.ref C4) = some false)
    (ke_0_5 : PySem.W.kitOne K (.ref C0) (.ref C5) = some false)
    (ke_0_6 : PySem.W.kitOne K (.ref C0) (.ref C6) = some false)
    (ke_0_7 : PySem.W.kitOne K (.ref C0) (.ref C7) = some false)
    (ke_0_8 : PySem.W.kitOne K (.ref C0) (.ref C8) = some false)
    (ke_0_9 : PySem.W.kitOne K (.ref C0) (.ref C9) = some false)
    (ke_0_10 : PySem.W.kitOne K (.ref C0) (.ref C10) = some false)
    (ke_0_11 : PySem.W.kitOne K (.ref C0) (.ref C11) = some false)
    (ke_0_12 : PySem.W.kitOne K (.ref C0) (.ref C12) = some false)
    (ke_0_13 : PySem.W.kitOne K (.ref C0) (.ref C13) = some false)
    (ke_0_14 : PySem.W.kitOne K (.ref C0) (.ref C14) = some false)
    (ke_0_15 : PySem.W.kitOne K (.ref C0) (.ref C15) = some false)
    (ke_0_16 : PySem.W.kitOne K (.ref C0) (.ref C16) = some false)
    {nm1 q1 : Str} {N1 : Addr} {bs1 bm1 : List Value} {sn1 : List Str} {sub1 : List Value} {ab1 : Bool} {col1 : Option Bool} {dd1 : Option Addr} {m01 m11 m21 m31 m51 : Option Value}
    (x_1 : K.lookup C1 = some (excClassObj nm1 q1 C1 N1 bs1 bm1 true sn1 sub1 ab1 col1 dd1 m01 m11 m21 m31 m51 "ValueError.__new__"))
    (rv_1 : PySem.HandSPX.refsVE bm1 = true)
    (sa_1 : PySem.W.findIn K (.ref C1) "__setattr__" = some (some (.builtin "object.__setattr__")))
    (ex_1 : PySem.W.subIn K (.ref C1) (.type "BaseException") = some true)
    (ty_1 : PySem.W.typeIn K (.ref C1) = some (.type "type"))
    (kc_1 : PySem.W.keepIn K (.ref C1) = true)
    (nw_1 : PySem.W.findIn K (.ref C1) "why" = some none)
    (hg_1 : PySem.W.findIn K (.ref C1) "__getattribute__" = some (some (.builtin "BaseException.__getattribute__")))
    (hk_1 : PySem.W.findIn K (.ref C1) "__getattr__" = some none)
    (hd_1 : PySem.W.hasDictIn K C1 = true)
    (ha_1 : PySem.W.findIn K (.ref C1) "__class__" = some (some (.builtin "object.__class__")))
    (hm_1 : PySem.W.mroIn K C1 (.type "object") = some true)
    (ei_1 : PySem.W.exmOne K (.ref C1) (.ref CL) = some true)
    (kl_1 : PySem.W.kitOne K (.ref C1) (.ref CL) = some true)
    (ke_1_0 : PySem.W.kitOne K (.ref C1) (.ref C0) = some false)
    (ke_1_1 : PySem.W.kitOne K (.ref C1) (.ref C1) = some true)
    (ke_1_2 : PySem.W.kitOne K (.ref C1) (.ref C2) = some false)
    (ke_1_3 : PySem.W.kitOne K (.ref C1) (.ref C3) = some false)
    (ke_1_4 : PySem.W.kitOne K (.ref C1) (.ref C4) = some false)
    (ke_1_5 : PySem.W.kitOne K (.ref C1) (.ref C5) = some false)
    (ke_1_6 : PySem.W.kitOne K (.ref C1) (.ref C6) = some false)
    (ke_1_7 : PySem.W.kitOne K (.ref C1) (.ref C7) = some false)
    (ke_1_8 : PySem.W.kitOne K (.ref C1) (.ref C8) = some false)
    (ke_1_9 : PySem.W.kitOne K (.ref C1) (.ref C9) = some false)
    (ke_1_10 : PySem.W.kitOne K (.ref C1) (.ref C10) = some false)
    (ke_1_11 : PySem.W.kitOne K (.ref C1) (.ref C11) = some false)
    (ke_1_12 : PySem.W.kitOne K (.ref C1) (.ref C12) = some false)
    (ke_1_13 : PySem.W.kitOne K (.ref C1) (.ref C13) = some false)
    (ke_1_14 : PySem.W.kitOne K (.ref C1) (.ref C14) = some false)
    (ke_1_15 : PySem.W.kitOne K (.ref C1) (.ref C15) = some false)
    (ke_1_16 : PySem.W.kitOne K (.ref C1) (.ref C16) = some false)
    {nm2 q2 : Str} {N2 : Addr} {bs2 bm2 : List Value} {sn2 : List Str} {sub2 : List Value} {ab2 : Bool} {col2 : Option Bool} {dd2 : Option Addr} {m02 m12 m22 m32 m52 : Option Value}
    (x_2 : K.lookup C2 = some (excClassObj nm2 q2 C2 N2 bs2 bm2 true sn2 sub2 ab2 col2 dd2 m02 m12 m22 m32 m52 "ValueError.__new__"))
    (rv_2 : PySem.HandSPX.refsVE bm2 = true)
    (sa_2 : PySem.W.findIn K (.ref C2) "__setattr__" = some (some (.builtin "object.__setattr__")))
    (ex_2 : PySem.W.subIn K (.ref C2) (.type "BaseException") = some true)
    (ty_2 : PySem.W.typeIn K (.ref C2) = some (.type "type"))
    (kc_2 : PySem.W.keepIn K (.ref C2) = true)
    (nw_2 : PySem.W.findIn K (.ref C2) "why" = some none)
    (hg_2 : PySem.W.findIn K (.ref C2) "__getattribute__" = some (some (.builtin "BaseException.__getattribute__")))
    (hk_2 : PySem.W.findIn K (.ref C2) "__getattr__" = some none)
    (hd_2 : PySem.W.hasDictIn K C2 = true)
    (ha_2 : PySem.W.findIn K (.ref C2) "__class__" = some (some (.builtin "object.__class__")))
    (hm_2 : PySem.W.mroIn K C2 (.type "object") = some true)
    (ei_2 : PySem.W.exmOne K (.ref C2) (.ref CL) = some true)
    (kl_2 : PySem.W.kitOne K (.ref C2) (.ref CL) = some true)
    (ke_2_0 : PySem.W.kitOne K (.ref C2) (.ref C0) = some false)
    (ke_2_1 : PySem.W.kitOne K (.ref C2) (.ref C1) = some false)
    (ke_2_2 : PySem.W.kitOne K (.ref C2) (.ref C2) = some true)
    (ke_2_3 : PySem.W.kitOne K (.ref C2) (.ref C3) = some false)
    (ke_2_4 : PySem.W.kitOne K (.ref C2) (.ref C4) = some false)
    (ke_2_5 : PySem.W.kitOne K (.ref C2) (.ref C5) = some false)
    (ke_2_6 : PySem.W.kitOne K (.ref C2) (.ref C6) = some false)
    (ke_2_7 : PySem.W.kitOne K (.ref C2) (.ref C7) = some false)
    (ke_2_8 : PySem.W.kitOne K (.ref C2) (.ref C8) = some false)
    (ke_2_9 : PySem.W.kitOne K (.ref C2) (.ref C9) = some false)
    (ke_2_10 : PySem.W.kitOne K (.ref C2) (.ref C10) = some false)
    (ke_2_11 : PySem.W.kitOne K (.ref C2) (.ref C11) = some false)
    (ke_2_12 : PySem.W.kitOne K (.ref C2) (.ref C12) = some false)
    (ke_2_13 : PySem.W.kitOne K (.ref C2) (.ref C13) = some false)
    (ke_2_14 : PySem.W.kitOne K (.ref C2) (.ref C14) = some false)
    (ke_2_15 : PySem.W.kitOne K (.ref C2) (.ref C15) = some false)
    (ke_2_16 : PySem.W.kitOne K (.ref C2) (.ref C16) = some false)
    {nm7 q7 : Str} {N7 : Addr} {bs7 bm7 : List Value} {sn7 : List Str} {sub7 : List Value} {ab7 : Bool} {col7 : Option Bool} {dd7 : Option Addr} {m07 m17 m27 m37 m57 : Option Value}
    (x_7 : K.lookup C7 = some (excClassObj nm7 q7 C7 N7 bs7 bm7 true sn7 sub7 ab7 col7 dd7 m07 m17 m27 m37 m57 "ValueError.__new__"))
    (rv_7 : PySem.HandSPX.refsVE bm7 = true)
    (sa_7 : PySem.W.findIn K (.ref C7) "__setattr__" = some (some (.builtin "object.__setattr__")))
    (ex_7 : PySem.W.subIn K (.ref C7) (.type "BaseException") = some true)
    (ty_7 : PySem.W.typeIn K (.ref C7) = some (.type "type"))
    (kc_7 : PySem.W.keepIn K (.ref C7) = true)
    (nw_7 : PySem.W.findIn K (.ref C7) "why" = some none)
    (hg_7 : PySem.W.findIn K (.ref C7) "__getattribute__" = some (some (.builtin "BaseException.__getattribute__")))
    (hk_7 : PySem.W.findIn K (.ref C7) "__getattr__" = some none)
    (hd_7 : PySem.W.hasDictIn K C7 = true)
    (ha_7 : PySem.W.findIn K (.ref C7) "__class__" = some (some (.builtin "object.__class__")))
    (hm_7 : PySem.W.mroIn K C7 (.type "object") = some true)
    (ei_7 : PySem.W.exmOne K (.ref C7) (.ref CL) = some true)
    (kl_7 : PySem.W.kitOne K (.ref C7) (.ref CL) = some true)
    (ke_7_0 : PySem.W.kitOne K (.ref C7) (.ref C0) = some false)
    (ke_7_1 : PySem.W.kitOne K (.ref C7) (.ref C1) = some false)
    (ke_7_2 : PySem.W.kitOne K (.ref C7) (.ref C2) = some false)
    (ke_7_3 : PySem.W.kitOne K (.ref C7) (.ref C3) = some false)
    (ke_7_4 : PySem.W.kitOne K (.ref C7) (.ref C4) = some false)
    (ke_7_5 : PySem.W.kitOne K (.ref C7) (.ref C5) = some false)
    (ke_7_6 : PySem.W.kitOne K (.ref C7) (.ref C6) = some false)
    (ke_7_7 : PySem.W.kitOne K (.ref C7) (.ref C7) = some true)
    (ke_7_8 : PySem.W.kitOne K (.ref C7) (.ref C8) = some false)
    (ke_7_9 : PySem.W.kitOne K (.ref C7) (.ref C9) = some false)
    (ke_7_10 : PySem.W.kitOne K (.ref C7) (.ref C10) = some false)
    (ke_7_11 : PySem.W.kitOne K (.ref C7) (.ref C11) = some false)
    (ke_7_12 : PySem.W.kitOne K (.ref C7) (.ref C12) = some false)
    (ke_7_13 : PySem.W.kitOne K (.ref C7) (.ref C13) = some false)
    (ke_7_14 : PySem.W.kitOne K (.ref C7) (.ref C14) = some false)
    (ke_7_15 : PySem.W.kitOne K (.ref C7) (.ref C15) = some false)
    (ke_7_16 : PySem.W.kitOne K (.ref C7) (.ref C16) = some false)
    {nm16 q16 : Str} {N16 : Addr} {bs16 bm16 : List Value} {sn16 : List Str} {sub16 : List Value} {ab16 : Bool} {col16 : Option Bool} {dd16 : Option Addr} {m016 m116 m216 m316 m516 : Option Value}
    (x_16 : K.lookup C16 = some (excClassObj nm16 q16 C16 N16 bs16 bm16 true sn16 sub16 ab16 col16 dd16 m016 m116 m216 m316 m516 "ValueError.__new__"))
    (rv_16 : PySem.HandSPX.refsVE bm16 = true)
    (sa_16 : PySem.W.findIn K (.ref C16) "__setattr__" = some (some (.builtin "object.__setattr__")))
    (ex_16 : PySem.W.subIn K (.ref C16) (.type "BaseException") = some true)
    (ty_16 : PySem.W.typeIn K (.ref C16) = some (.type "type"))
    (kc_16 : PySem.W.keepIn K (.ref C16) = true)
    (nw_16 : PySem.W.findIn K (.ref C16) "why" = some none)
    (hg_16 : PySem.W.findIn K (.ref C16) "__getattribute__" = some (some (.builtin "BaseException.__getattribute__")))
    (hk_16 : PySem.W.findIn K (.ref C16) "__getattr__" = some none)
    (hd_16 : PySem.W.hasDictIn K C16 = true)
    (ha_16 : PySem.W.findIn K (.ref C16) "__class__" = some (some (.builtin "object.__class__")))
    (hm_16 : PySem.W.mroIn K C16 (.type "object") = some true)
    (ei_16 : PySem.W.exmOne K (.ref C16) (.ref CL) = some true)
    (kl_16 : PySem.W.kitOne K (.ref C16) (.ref CL) = some true)
    (ke_16_0 : PySem.W.kitOne K (.ref C16) (.ref C0) = some false)
    (ke_16_1 : PySem.W.kitOne K (.ref C16) (.ref C1) = some false)
    (ke_16_2 : PySem.W.kitOne K (.ref C16) (.ref C2) = some false)
    (ke_16_3 : PySem.W.kitOne K (.ref C16) (.ref C3) = some false)
    (ke_16_4 : PySem.W.kitOne K (.ref C16) (.ref C4) = some false)
    (ke_16_5 : PySem.W.kitOne K (.ref C16) (.ref C5) = some false)
    (ke_16_6 : PySem.W.kitOne K (.ref C16) (.ref C6) = some false)
    (ke_16_7 : PySem.W.kitOne K (.ref C16) (.ref C7) = some false)
    (ke_16_8 : PySem.W.kitOne K (.ref C16) (.ref C8) = some false)
    (ke_16_9 : PySem.W.kitOne K (.ref C16) (.ref C9) = some false)
    (ke_16_10 : PySem.W.kitOne K (.ref C16) (.ref C10) = some false)
    (ke_16_11 : PySem.W.kitOne K (.ref C16) (.ref C11) = some false)
    (ke_16_12 : PySem.W.kitOne K (.ref C16) (.ref C12) = some false)
    (ke_16_13 : PySem.W.kitOne K (.ref C16) (.ref C13) = some false)
    (ke_16_14 : PySem.W.kitOne K (.ref C16) (.ref C14) = some false)
    (ke_16_15 : PySem.W.kitOne K (.ref C16) (.ref C15) = some false)
    (ke_16_16 : PySem.W.kitOne K (.ref C16) (.ref C16) = some true)
    (nf_2 : PySem.W.findIn K (.ref C2) "offset" = some none)
    (nf_1 : PySem.W.findIn K (.ref C1) "name" = some none)
    (nf_7 : PySem.W.findIn K (.ref C7) "thing" = some none)
    (nf_16 : PySem.W.findIn K (.ref C16) "limit" = some none)
    (hn : PySem.W.specialIn K (.builtin "object.__class__") "__get__" = some (some (.builtin "getset_descriptor.__get__")))
    (ht : PySem.W.takesIn K (.builtin "object.__class__") = some true)
    {Y p0 p1 : Addr}
    (a_Y : PySem.W.nsIn K mainGlobals "Layout" = some (some (.ref Y)))
    (pg_Y : PySem.W.plainGet K Y Str.empty = true)
    (ic_Y : PySem.W.isClsIn K Y = true)
    (po_Y : PySem.W.plainOver K Y = true)
    (sa_Y : PySem.W.findIn K (.ref Y) "__setattr__" = some (some (.builtin "object.__setattr__")))
    (at_0 : PySem.W.findIn K (.ref Y) "_fields" = some (some (.ref p0)))
    (get_0 : PySem.W.specialIn K (.ref p0) "__get__" = some (some (.builtin "member_descriptor.__get__")))
    (tk_0 : PySem.W.takesIn K (.ref p0) = some true)
    (ty_p0 : PySem.W.typeIn K (.ref p0) = some (.type "member_descriptor"))
    (ix_0 : PySem.W.slotIn K p0 Y = some 0)
    (at_1 : PySem.W.findIn K (.ref Y) "_room" = some (some (.ref p1)))
    (get_1 : PySem.W.specialIn K (.ref p1) "__get__" = some (some (.builtin "member_descriptor.__get__")))
    (tk_1 : PySem.W.takesIn K (.ref p1) = some true)
    (ty_p1 : PySem.W.typeIn K (.ref p1) = some (.type "member_descriptor"))
    (ix_1 : PySem.W.slotIn K p1 Y = some 1)
    (ca_Y : PySem.W.findIn K (.ref Y) "__class__" = some (some (.builtin "object.__class__")))
    (cm_Y : PySem.W.mroIn K Y (.type "object") = some true)
    (mk_Y : PySem.W.makesIn K Y = true)
    (kc_Y : PySem.W.keepIn K (.ref Y) = true)
    (ne_Y : PySem.W.findIn K (.ref Y) "__ne__" = some (some (.builtin "object.__ne__")))
    (ob_Y : PySem.W.subIn K (.ref Y) (.type "object") = some true)
    (sf_Y : PySem.W.selfFirst K Y = true)
    (nf_Y : PySem.W.notFirst K Y (.ref Y) = true)
    {fo_list ro_list : Option Value}
    (fo1_list : PySem.W.findIn K (.type "list") "__add__" = some fo_list)
    (ro1_list : PySem.W.findIn K (.type "list") "__radd__" = some ro_list)
    (ot_list : ((fo_list.isSome && !isSeqSlot fo_list) || (ro_list.isSome && !isSeqSlot ro_list)) = false)
    (nf_list : PySem.W.notFirst K Y (.type "list") = true)
    (kt_list : PySem.W.kitOne K (.type "list") (.ref Y) = some false)
    {fo_tuple ro_tuple : Option Value}
    (fo1_tuple : PySem.W.findIn K (.type "tuple") "__add__" = some fo_tuple)
    (ro1_tuple : PySem.W.findIn K (.type "tuple") "__radd__" = some ro_tuple)
    (ot_tuple : ((fo_tuple.isSome && !isSeqSlot fo_tuple) || (ro_tuple.isSome && !isSeqSlot ro_tuple)) = false)
    (nf_tuple : PySem.W.notFirst K Y (.type "tuple") = true)
    (kt_tuple : PySem.W.kitOne K (.type "tuple") (.ref Y) = some false)
    {fo_str ro_str : Option Value}
    (fo1_str : PySem.W.findIn K (.type "str") "__add__" = some fo_str)
    (ro1_str : PySem.W.findIn K (.type "str") "__radd__" = some ro_str)
    (ot_str : ((fo_str.isSome && !isSeqSlot fo_str) || (ro_str.isSome && !isSeqSlot ro_str)) = false)
    (nf_str : PySem.W.notFirst K Y (.type "str") = true)
    (kt_str : PySem.W.kitOne K (.type "str") (.ref Y) = some false)
    {fo_dict ro_dict : Option Value}
    (fo1_dict : PySem.W.findIn K (.type "dict") "__add__" = some fo_dict)
    (ro1_dict : PySem.W.findIn K (.type "dict") "__radd__" = some ro_dict)
    (ot_dict : ((fo_dict.isSome && !isSeqSlot fo_dict) || (ro_dict.isSome && !isSeqSlot ro_dict)) = false)
    (nf_dict : PySem.W.notFirst K Y (.type "dict") = true)
    (kt_dict : PySem.W.kitOne K (.type "dict") (.ref Y) = some false)
    {fo_NoneType ro_NoneType : Option Value}
    (fo1_NoneType : PySem.W.findIn K (.type "NoneType") "__add__" = some fo_NoneType)
    (ro1_NoneType : PySem.W.findIn K (.type "NoneType") "__radd__" = some ro_NoneType)
    (ot_NoneType : ((fo_NoneType.isSome && !isSeqSlot fo_NoneType) || (ro_NoneType.isSome && !isSeqSlot ro_NoneType)) = false)
    (nf_NoneType : PySem.W.notFirst K Y (.type "NoneType") = true)
    (kt_NoneType : PySem.W.kitOne K (.type "NoneType") (.ref Y) = some false)
    {f_mF : Addr} {od_mF an_mF : Option Addr} {sl_mF : Array (Option Value)} {oc_mF kV_mF dc_mF pm_mF cd_mF ct_mF : Value}
    (a_mF : PySem.W.findIn K (.ref Y) "fields" = some (some (.ref f_mF)))
    (l_mF : K.lookup f_mF = some ⟨oc_mF, od_mF, .func (PySem.W.fnOf "fields" "Layout.fields" (defArgs mFields) (defBody mFields) (defScope mFields) .none kV_mF dc_mF pm_mF an_mF cd_mF ct_mF), sl_mF⟩)
    (c_mF : PySem.W.codeIn K cd_mF "Layout.fields" = true)
    (k_mF : PySem.W.keepIn K (.ref f_mF) = true)
    (fn_mF : PySem.W.isFn K (.ref f_mF) = true)
    (fi_mF : PySem.W.fnIn K f_mF = true)
    {f_mH : Addr} {od_mH an_mH : Option Addr} {sl_mH : Array (Option Value)} {oc_mH kV_mH dc_mH pm_mH cd_mH ct_mH : Value}
    (a_mH : PySem.W.findIn K (.ref Y) "has_room" = some (some (.ref f_mH)))
    (l_mH : K.lookup f_mH = some ⟨oc_mH, od_mH, .func (PySem.W.fnOf "has_room" "Layout.has_room" (defArgs mHas) (defBody mHas) (defScope mHas) .none kV_mH dc_mH pm_mH an_mH cd_mH ct_mH), sl_mH⟩)
    (c_mH : PySem.W.codeIn K cd_mH "Layout.has_room" = true)
    (k_mH : PySem.W.keepIn K (.ref f_mH) = true)
    (fn_mH : PySem.W.isFn K (.ref f_mH) = true)
    (fi_mH : PySem.W.fnIn K f_mH = true)
    {f_mW : Addr} {od_mW an_mW : Option Addr} {sl_mW : Array (Option Value)} {oc_mW kV_mW dc_mW pm_mW cd_mW ct_mW : Value}
    (a_mW : PySem.W.findIn K (.ref Y) "with_room" = some (some (.ref f_mW)))
    (l_mW : K.lookup f_mW = some ⟨oc_mW, od_mW, .func (PySem.W.fnOf "with_room" "Layout.with_room" (defArgs mWith) (defBody mWith) (defScope mWith) .none kV_mW dc_mW pm_mW an_mW cd_mW ct_mW), sl_mW⟩)
    (c_mW : PySem.W.codeIn K cd_mW "Layout.with_room" = true)
    (k_mW : PySem.W.keepIn K (.ref f_mW) = true)
    (fn_mW : PySem.W.isFn K (.ref f_mW) = true)
    (fi_mW : PySem.W.fnIn K f_mW = true)
    {f_mO : Addr} {od_mO an_mO : Option Addr} {sl_mO : Array (Option Value)} {oc_mO kV_mO dc_mO pm_mO cd_mO ct_mO : Value}
    (a_mO : PySem.W.findIn K (.ref Y) "offset_of" = some (some (.ref f_mO)))
    (l_mO : K.lookup f_mO = some ⟨oc_mO, od_mO, .func (PySem.W.fnOf "offset_of" "Layout.offset_of" (defArgs mOff) (defBody mOff) (defScope mOff) .none kV_mO dc_mO pm_mO an_mO cd_mO ct_mO), sl_mO⟩)
    (c_mO : PySem.W.codeIn K cd_mO "Layout.offset_of" = true)
    (k_mO : PySem.W.keepIn K (.ref f_mO) = true)
    (fn_mO : PySem.W.isFn K (.ref f_mO) = true)
    (fi_mO : PySem.W.fnIn K f_mO = true)
    {f_mD : Addr} {od_mD an_mD : Option Addr} {sl_mD : Array (Option Value)} {oc_mD kV_mD dc_mD pm_mD cd_mD ct_mD : Value}
    (a_mD : PySem.W.findIn K (.ref Y) "first_difference" = some (some (.ref f_mD)))
    (l_mD : K.lookup f_mD = some ⟨oc_mD, od_mD, .func (PySem.W.fnOf "first_difference" "Layout.first_difference" (defArgs mFirst) (defBody mFirst) (defScope mFirst) .none kV_mD dc_mD pm_mD an_mD cd_mD ct_mD), sl_mD⟩)
    (c_mD : PySem.W.codeIn K cd_mD "Layout.first_difference" = true)
    (k_mD : PySem.W.keepIn K (.ref f_mD) = true)
    (fn_mD : PySem.W.isFn K (.ref f_mD) = true)
    (fi_mD : PySem.W.fnIn K f_mD = true)
    {f_mL : Addr} {od_mL an_mL : Option Addr} {sl_mL : Array (Option Value)} {oc_mL kV_mL dc_mL pm_mL cd_mL ct_mL : Value}
    (a_mL : PySem.W.findIn K (.ref Y) "__len__" = some (some (.ref f_mL)))
    (l_mL : K.lookup f_mL = some ⟨oc_mL, od_mL, .func (PySem.W.fnOf "__len__" "Layout.__len__" (defArgs mLen) (defBody mLen) (defScope mLen) .none kV_mL dc_mL pm_mL an_mL cd_mL ct_mL), sl_mL⟩)
    (c_mL : PySem.W.codeIn K cd_mL "Layout.__len__" = true)
    (k_mL : PySem.W.keepIn K (.ref f_mL) = true)
    (fn_mL : PySem.W.isFn K (.ref f_mL) = true)
    (fi_mL : PySem.W.fnIn K f_mL = true)
    {f_mG : Addr} {od_mG an_mG : Option Addr} {sl_mG : Array (Option Value)} {oc_mG kV_mG dc_mG pm_mG cd_mG ct_mG : Value}
    (a_mG : PySem.W.findIn K (.ref Y) "__getitem__" = some (some (.ref f_mG)))
    (l_mG : K.lookup f_mG = some ⟨oc_mG, od_mG, .func (PySem.W.fnOf "__getitem__" "Layout.__getitem__" (defArgs mGet) (defBody mGet) (defScope mGet) .none kV_mG dc_mG pm_mG an_mG cd_mG ct_mG), sl_mG⟩)
    (c_mG : PySem.W.codeIn K cd_mG "Layout.__getitem__" = true)
    (k_mG : PySem.W.keepIn K (.ref f_mG) = true)
    (fn_mG : PySem.W.isFn K (.ref f_mG) = true)
    (fi_mG : PySem.W.fnIn K f_mG = true)
    {f_mC : Addr} {od_mC an_mC : Option Addr} {sl_mC : Array (Option Value)} {oc_mC kV_mC dc_mC pm_mC cd_mC ct_mC : Value}
    (a_mC : PySem.W.findIn K (.ref Y) "__contains__" = some (some (.ref f_mC)))
    (l_mC : K.lookup f_mC = some ⟨oc_mC, od_mC, .func (PySem.W.fnOf "__contains__" "Layout.__contains__" (defArgs mCont) (defBody mCont) (defScope mCont) .none kV_mC dc_mC pm_mC an_mC cd_mC ct_mC), sl_mC⟩)
    (c_mC : PySem.W.codeIn K cd_mC "Layout.__contains__" = true)
    (k_mC : PySem.W.keepIn K (.ref f_mC) = true)
    (fn_mC : PySem.W.isFn K (.ref f_mC) = true)
    (fi_mC : PySem.W.fnIn K f_mC = true)
    {f_mA : Addr} {od_mA an_mA : Option Addr} {sl_mA : Array (Option Value)} {oc_mA kV_mA dc_mA pm_mA cd_mA ct_mA : Value}
    (a_mA : PySem.W.findIn K (.ref Y) "__add__" = some (some (.ref f_mA)))
    (l_mA : K.lookup f_mA = some ⟨oc_mA, od_mA, .func (PySem.W.fnOf "__add__" "Layout.__add__" (defArgs mAdd) (defBody mAdd) (defScope mAdd) .none kV_mA dc_mA pm_mA an_mA cd_mA ct_mA), sl_mA⟩)
    (c_mA : PySem.W.codeIn K cd_mA "Layout.__add__" = true)
    (k_mA : PySem.W.keepIn K (.ref f_mA) = true)
    (fn_mA : PySem.W.isFn K (.ref f_mA) = true)
    (fi_mA : PySem.W.fnIn K f_mA = true)
    {f_mE : Addr} {od_mE an_mE : Option Addr} {sl_mE : Array (Option Value)} {oc_mE kV_mE dc_mE pm_mE cd_mE ct_mE : Value}
    (a_mE : PySem.W.findIn K (.ref Y) "__le__" = some (some (.ref f_mE)))
    (l_mE : K.lookup f_mE = some ⟨oc_mE, od_mE, .func (PySem.W.fnOf "__le__" "Layout.__le__" (defArgs mLe) (defBody mLe) (defScope mLe) .none kV_mE dc_mE pm_mE an_mE cd_mE ct_mE), sl_mE⟩)
    (c_mE : PySem.W.codeIn K cd_mE "Layout.__le__" = true)
    (k_mE : PySem.W.keepIn K (.ref f_mE) = true)
    (fn_mE : PySem.W.isFn K (.ref f_mE) = true)
    (fi_mE : PySem.W.fnIn K f_mE = true)
    {f_mQ : Addr} {od_mQ an_mQ : Option Addr} {sl_mQ : Array (Option Value)} {oc_mQ kV_mQ dc_mQ pm_mQ cd_mQ ct_mQ : Value}
    (a_mQ : PySem.W.findIn K (.ref Y) "__eq__" = some (some (.ref f_mQ)))
    (l_mQ : K.lookup f_mQ = some ⟨oc_mQ, od_mQ, .func (PySem.W.fnOf "__eq__" "Layout.__eq__" (defArgs mEq) (defBody mEq) (defScope mEq) .none kV_mQ dc_mQ pm_mQ an_mQ cd_mQ ct_mQ), sl_mQ⟩)
    (c_mQ : PySem.W.codeIn K cd_mQ "Layout.__eq__" = true)
    (k_mQ : PySem.W.keepIn K (.ref f_mQ) = true)
    (fn_mQ : PySem.W.isFn K (.ref f_mQ) = true)
    (fi_mQ : PySem.W.fnIn K f_mQ = true)
    {f_mR : Addr} {od_mR an_mR : Option Addr} {sl_mR : Array (Option Value)} {oc_mR kV_mR dc_mR pm_mR cd_mR ct_mR : Value}
    (a_mR : PySem.W.findIn K (.ref Y) "__repr__" = some (some (.ref f_mR)))
    (l_mR : K.lookup f_mR = some ⟨oc_mR, od_mR, .func (PySem.W.fnOf "__repr__" "Layout.__repr__" (defArgs mRepr) (defBody mRepr) (defScope mRepr) .none kV_mR dc_mR pm_mR an_mR cd_mR ct_mR), sl_mR⟩)
    (c_mR : PySem.W.codeIn K cd_mR "Layout.__repr__" = true)
    (k_mR : PySem.W.keepIn K (.ref f_mR) = true)
    (fn_mR : PySem.W.isFn K (.ref f_mR) = true)
    (fi_mR : PySem.W.fnIn K f_mR = true)
    {f_mI dT : Addr} {od_mI an_mI odT : Option Addr} {sl_mI slT : Array (Option Value)} {oc_mI kV_mI dc_mI pm_mI cd_mI ct_mI ocT : Value} {nT : Nat}
    (a_mI : PySem.W.findIn K (.ref Y) "__init__" = some (some (.ref f_mI)))
    (l_mI : K.lookup f_mI = some ⟨oc_mI, od_mI, .func (PySem.W.fnOf "__init__" "Layout.__init__" (defArgs mInit) (defBody mInit) (defScope mInit) (.ref dT) kV_mI dc_mI pm_mI an_mI cd_mI ct_mI), sl_mI⟩)
    (l_T : K.lookup dT = some ⟨ocT, odT, .seq #[.bool false] nT, slT⟩)
    (c_mI : PySem.W.codeIn K cd_mI "Layout.__init__" = true)
    (k_mI : PySem.W.keepIn K (.ref f_mI) = true)
    (fn_mI : PySem.W.isFn K (.ref f_mI) = true)
    : ∃ fd : FuncData, (∀ (s : Shared) (v : Value), BindsTo s fd ⟨[v], []⟩ [("_law_script", v)]) ∧ ∀ base : Heap, K.In base → base.Ns mainGlobals mg → FnG l.prog w K mg base CX0 11 fa fd ["_law_script"] (spLaw K) := by
  have e := hfa.symm.trans (PySem.W.mg_of X G a_l)
  cases e
  have T : Txt mg := ⟨PySem.W.mg_none_of X G z_isinstance, PySem.W.mg_none_of X G z_int, PySem.W.mg_none_of X G z_bool, PySem.W.mg_none_of X G z_str, PySem.W.mg_none_of X G z_list, PySem.W.mg_none_of X G z_tuple, PySem.W.mg_none_of X G z_set, PySem.W.mg_none_of X G z_len, PySem.W.mg_none_of X G z_all, PySem.W.mg_none_of X G z_range, PySem.W.mg_none_of X G z_reversed, PySem.W.mg_none_of X G z_min, ⟨tm1, PySem.W.mg_of X G longest⟩, ⟨tm2, PySem.W.mg_of X G most⟩⟩
  have TW : TxtW mg := ⟨PySem.W.mg_none_of X G z_int, PySem.W.mg_none_of X G z_len⟩
  have TR : TxtR mg := ⟨TW, PySem.W.mg_none_of X G z_range⟩
  have TX : TxtX mg := ⟨TR, PySem.W.mg_none_of X G z_isinstance, PySem.W.mg_none_of X G z_str, PySem.W.mg_none_of X G z_list, PySem.W.mg_none_of X G z_min, PySem.W.mg_none_of X G z_repr⟩
  have F_I := fun_mk (st := sIsInt) l_I c_I k_I
  have b_I := F_I.binds (ps := ["thing"]) fun _ _ _ _ _ _ us hl => match us, hl with | [_], _ => rfl
  have g_I := PySem.W.mg_of X G a_I
  have F_N := fun_mk (st := sIsName) l_N c_N k_N
  have b_N := F_N.binds (ps := ["thing"]) fun _ _ _ _ _ _ us hl => match us, hl with | [_], _ => rfl
  have g_N := PySem.W.mg_of X G a_N
  have F_n := fun_mk (st := sCkName) l_n c_n k_n
  have b_n := F_n.binds (ps := ["name"]) fun _ _ _ _ _ _ us hl => match us, hl with | [_], _ => rfl
  have g_n := PySem.W.mg_of X G a_n
  have F_S := fun_mk (st := sCkNames) l_S c_S k_S
  have b_S := F_S.binds (ps := ["fields"]) fun _ _ _ _ _ _ us hl => match us, hl with | [_], _ => rfl
  have g_S := PySem.W.mg_of X G a_S
  have F_U := fun_mk (st := sUnlike) l_U c_U k_U
  have b_U := F_U.binds (ps := ["things"]) fun _ _ _ _ _ _ us hl => match us, hl with | [_], _ => rfl
  have g_U := PySem.W.mg_of X G a_U
  have F_M := fun_mk (st := sCkMore) l_M c_M k_M
  have b_M := F_M.binds (ps := ["fields"]) fun _ _ _ _ _ _ us hl => match us, hl with | [_], _ => rfl
  have g_M := PySem.W.mg_of X G a_M
  have F_c := fun_mk (st := sCell) l_c c_c k_c
  have b_c := F_c.binds (ps := ["_law_script", "_law_k"]) fun _ _ _ _ _ _ us hl => match us, hl with | [_, _], _ => rfl
  have g_c := PySem.W.mg_of X G a_c
  have F_w := fun_mk (st := sWell) l_w c_w k_w
  have b_w := F_w.binds (ps := ["_law_cell"]) fun _ _ _ _ _ _ us hl => match us, hl with | [_], _ => rfl
  have g_w := PySem.W.mg_of X G a_w
  have F_d := fun_mk (st := sDraw) l_d c_d k_d
  have b_d := F_d.binds (ps := ["_law_well_here", "_law_many"]) fun _ _ _ _ _ _ us hl => match us, hl with | [_, _], _ => rfl
  have g_d := PySem.W.mg_of X G a_d
  have F_o := fun_mk (st := sOne) l_o c_o k_o
  have b_o := F_o.binds (ps := ["_law_well_here", "_law_some"]) fun _ _ _ _ _ _ us hl => match us, hl with | [_, _], _ => rfl
  have g_o := PySem.W.mg_of X G a_o
  have F_x := fun_mk (st := sName) l_x c_x k_x
  have b_x := F_x.binds (ps := ["_law_well_here"]) fun _ _ _ _ _ _ us hl => match us, hl with | [_], _ => rfl
  have g_x := PySem.W.mg_of X G a_x
  have F_f := fun_mk (st := sFields) l_f c_f k_f
  have b_f := F_f.binds (ps := ["_law_well_here", "_law_most"]) fun _ _ _ _ _ _ us hl => match us, hl with | [_, _], _ => rfl
  have g_f := PySem.W.mg_of X G a_f
  have F_k := fun_mk (st := sClasses) l_k c_k k_k
  have b_k := F_k.binds (ps := ["_law_e"]) fun _ _ _ _ _ _ us hl => match us, hl with | [_], _ => rfl
  have g_k := PySem.W.mg_of X G a_k
  have F_s := fun_mk (st := sNames) l_s c_s k_s
  have b_s := F_s.binds (ps := ["_law_well_here", "_law_most"]) fun _ _ _ _ _ _ us hl => match us, hl with | [_, _], _ => rfl
  have g_s := PySem.W.mg_of X G a_s
  have F_e := fun_mk (st := sError) l_e c_e k_e
  have b_e := F_e.binds (ps := ["_law_e"]) fun _ _ _ _ _ _ us hl => match us, hl with | [_], _ => rfl
  have g_e := PySem.W.mg_of X G a_e
  have F_a := fun_mk (st := sAsked) l_a c_a k_a
  have b_a := F_a.binds (ps := ["_law_way", "_law_layout", "_law_thing"]) fun _ _ _ _ _ _ us hl => match us, hl with | [_, _, _], _ => rfl
  have g_a := PySem.W.mg_of X G a_a
  have F_i := fun_mk (st := sLIsName) l_i c_i k_i
  have b_i := F_i.binds (ps := ["_law_thing"]) fun _ _ _ _ _ _ us hl => match us, hl with | [_], _ => rfl
  have g_i := PySem.W.mg_of X G a_i
  have F_v := fun_mk (st := sAdded) l_v c_v k_v
  have b_v := F_v.binds (ps := ["_law_names_here", "_law_thing"]) fun _ _ _ _ _ _ us hl => match us, hl with | [_, _], _ => rfl
  have g_v := PySem.W.mg_of X G a_v
  have F_g := fun_mk (st := sDiffer) l_g c_g k_g
  have b_g := F_g.binds (ps := ["_law_one_here", "_law_other"]) fun _ _ _ _ _ _ us hl => match us, hl with | [_, _], _ => rfl
  have g_g := PySem.W.mg_of X G a_g
  have F_r := fun_mk (st := sRight) l_r c_r k_r
  have b_r := F_r.binds (ps := ["_law_names_here", "_law_room", "_law_other"]) fun _ _ _ _ _ _ us hl => match us, hl with | [_, _, _], _ => rfl
  have g_r := PySem.W.mg_of X G a_r
  have F_b := fun_mk (st := sBadF) l_b c_b k_b
  have b_b := F_b.binds (ps := ["_law_well_here", "_law_names_here"]) fun _ _ _ _ _ _ us hl => match us, hl with | [_, _], _ => rfl
  have g_b := PySem.W.mg_of X G a_b
  have F_l := fun_mk (st := sLaw) l_l c_l k_l
  have g_l := PySem.W.mg_of X G a_l
  have F_iL := fun_mk (st := sLineInit) l_iL c_iL k_iL
  have b_iL := F_iL.binds (ps := ["self", "why"]) fun _ _ _ _ _ _ us hl => match us, hl with | [_, _], _ => rfl
  have F_iN := fun_mk (st := sNameInit) l_iN c_iN k_iN
  have b_iN := F_iN.binds (ps := ["self", "name"]) fun _ _ _ _ _ _ us hl => match us, hl with | [_, _], _ => rfl
  have F_iO := fun_mk (st := sOffInit) l_iO c_iO k_iO
  have b_iO := F_iO.binds (ps := ["self", "offset"]) fun _ _ _ _ _ _ us hl => match us, hl with | [_, _], _ => rfl
  have F_iD := fun_mk (st := sDupInit) l_iD c_iD k_iD
  have b_iD := F_iD.binds (ps := ["self", "thing"]) fun _ _ _ _ _ _ us hl => match us, hl with | [_, _], _ => rfl
  have F_iT := fun_mk (st := sManyInit) l_iT c_iT k_iT
  have b_iT := F_iT.binds (ps := ["self", "limit"]) fun _ _ _ _ _ _ us hl => match us, hl with | [_, _], _ => rfl
  have F_mF := fun_mk (st := mFields) l_mF c_mF k_mF
  have b_mF := F_mF.binds (ps := ["self"]) fun _ _ _ _ _ _ us hl => match us, hl with | [_], _ => rfl
  have F_mH := fun_mk (st := mHas) l_mH c_mH k_mH
  have b_mH := F_mH.binds (ps := ["self"]) fun _ _ _ _ _ _ us hl => match us, hl with | [_], _ => rfl
  have F_mW := fun_mk (st := mWith) l_mW c_mW k_mW
  have b_mW := F_mW.binds (ps := ["self"]) fun _ _ _ _ _ _ us hl => match us, hl with | [_], _ => rfl
  have F_mO := fun_mk (st := mOff) l_mO c_mO k_mO
  have b_mO := F_mO.binds (ps := ["self", "name"]) fun _ _ _ _ _ _ us hl => match us, hl with | [_, _], _ => rfl
  have F_mD := fun_mk (st := mFirst) l_mD c_mD k_mD
  have b_mD := F_mD.binds (ps := ["self", "other"]) fun _ _ _ _ _ _ us hl => match us, hl with | [_, _], _ => rfl
  have F_mL := fun_mk (st := mLen) l_mL c_mL k_mL
  have b_mL := F_mL.binds (ps := ["self"]) fun _ _ _ _ _ _ us hl => match us, hl with | [_], _ => rfl
  have F_mG := fun_mk (st := mGet) l_mG c_mG k_mG
  have b_mG := F_mG.binds (ps := ["self", "at"]) fun _ _ _ _ _ _ us hl => match us, hl with | [_, _], _ => rfl
  have F_mC := fun_mk (st := mCont) l_mC c_mC k_mC
  have b_mC := F_mC.binds (ps := ["self", "x"]) fun _ _ _ _ _ _ us hl => match us, hl with | [_, _], _ => rfl
  have F_mA := fun_mk (st := mAdd) l_mA c_mA k_mA
  have b_mA := F_mA.binds (ps := ["self", "other"]) fun _ _ _ _ _ _ us hl => match us, hl with | [_, _], _ => rfl
  have F_mE := fun_mk (st := mLe) l_mE c_mE k_mE
  have b_mE := F_mE.binds (ps := ["self", "other"]) fun _ _ _ _ _ _ us hl => match us, hl with | [_, _], _ => rfl
  have F_mQ := fun_mk (st := mEq) l_mQ c_mQ k_mQ
  have b_mQ := F_mQ.binds (ps := ["self", "other"]) fun _ _ _ _ _ _ us hl => match us, hl with | [_, _], _ => rfl
  have F_mR := fun_mk (st := mRepr) l_mR c_mR k_mR
  have b_mR := F_mR.binds (ps := ["self"]) fun _ _ _ _ _ _ us hl => match us, hl with | [_], _ => rfl
  have F_mI : FunD K "__init__" "Layout.__init__" (defArgs mInit) (defBody mInit) (defScope mInit) [.bl false] [] f_mI (PySem.W.fnOf "__init__" "Layout.__init__" (defArgs mInit) (defBody mInit) (defScope mInit) (.ref dT) kV_mI dc_mI pm_mI an_mI cd_mI ct_mI) := ⟨⟨_, _, _, _, _, _, _, _, _, _, rfl, l_mI, c_mI, .inr ⟨(fun z => nomatch z), dT, _, [.bool false], _, rfl, l_T, rfl, .cons rfl .nil⟩, .inl rfl⟩, k_mI⟩
  have b_mI : Binds K (PySem.W.fnOf "__init__" "Layout.__init__" (defArgs mInit) (defBody mInit) (defScope mInit) (.ref dT) kV_mI dc_mI pm_mI an_mI cd_mI ct_mI) ["self", "fields", "has_room"] [] := by
    obtain ⟨ds, r, b⟩ := F_mI.binds1 (ps := ["self", "fields", "has_room"]) 3 1 (fun z => nomatch z) rfl fun _ _ _ _ _ _ _ us its hl hi => match us, its, hl, hi with | [_, _, _], [_], _, _ => ⟨_, rfl, rfl⟩
    rw [nil_only r] at b
    exact b
  have b_mJ : Binds K (PySem.W.fnOf "__init__" "Layout.__init__" (defArgs mInit) (defBody mInit) (defScope mInit) (.ref dT) kV_mI dc_mI pm_mI an_mI cd_mI ct_mI) ["self", "fields", "has_room"] [.bool false] := by
    obtain ⟨ds, r, b⟩ := F_mI.binds1 (ps := ["self", "fields", "has_room"]) 2 0 (fun z => nomatch z) rfl fun _ _ _ _ _ _ _ us its hl hi => match us, its, hl, hi with | [_, _], [_], _, _ => ⟨_, rfl, rfl⟩
    rw [bl_only r] at b
    exact b
  have g_CL := PySem.W.mg_of X G a_CL
  have g_Y := PySem.W.mg_of X G a_Y
  have g_C0 := PySem.W.mg_of X G a_C0
  have g_C1 := PySem.W.mg_of X G a_C1
  have g_C2 := PySem.W.mg_of X G a_C2
  have g_C3 := PySem.W.mg_of X G a_C3
  have g_C4 := PySem.W.mg_of X G a_C4
  have g_C5 := PySem.W.mg_of X G a_C5
  have g_C6 := PySem.W.mg_of X G a_C6
  have g_C7 := PySem.W.mg_of X G a_C7
  have g_C8 := PySem.W.mg_of X G a_C8
  have g_C9 := PySem.W.mg_of X G a_C9
  have g_C10 := PySem.W.mg_of X G a_C10
  have g_C11 := PySem.W.mg_of X G a_C11
  have g_C12 := PySem.W.mg_of X G a_C12
  have g_C13 := PySem.W.mg_of X G a_C13
  have g_C14 := PySem.W.mg_of X G a_C14
  have g_C15 := PySem.W.mg_of X G a_C15
  have g_C16 := PySem.W.mg_of X G a_C16
  have O_0 : OexC K C0 := ⟨⟨_, _, _, _, _, _, _, _, _, _, _, _, _, _, _, x_0, rv_0⟩, sa_0, ex_0, ty_0, kc_0⟩
  have EC_0 : ExcC K C0 := ⟨hg_0, hk_0, ex_0, hd_0, ha_0, hn, ht, hm_0⟩
  have XC_0 : XfC K C0 := ⟨hg_0, hk_0, ex_0, hd_0⟩
  have O_1 : OexC K C1 := ⟨⟨_, _, _, _, _, _, _, _, _, _, _, _, _, _, _, x_1, rv_1⟩, sa_1, ex_1, ty_1, kc_1⟩
  have EC_1 : ExcC K C1 := ⟨hg_1, hk_1, ex_1, hd_1, ha_1, hn, ht, hm_1⟩
  have XC_1 : XfC K C1 := ⟨hg_1, hk_1, ex_1, hd_1⟩
  have O_2 : OexC K C2 := ⟨⟨_, _, _, _, _, _, _, _, _, _, _, _, _, _, _, x_2, rv_2⟩, sa_2, ex_2, ty_2, kc_2⟩
  have EC_2 : ExcC K C2 := ⟨hg_2, hk_2, ex_2, hd_2, ha_2, hn, ht, hm_2⟩
  have XC_2 : XfC K C2 := ⟨hg_2, hk_2, ex_2, hd_2⟩
  have O_7 : OexC K C7 := ⟨⟨_, _, _, _, _, _, _, _, _, _, _, _, _, _, _, x_7, rv_7⟩, sa_7, ex_7, ty_7, kc_7⟩
  have EC_7 : ExcC K C7 := ⟨hg_7, hk_7, ex_7, hd_7, ha_7, hn, ht, hm_7⟩
  have XC_7 : XfC K C7 := ⟨hg_7, hk_7, ex_7, hd_7⟩
  have O_16 : OexC K C16 := ⟨⟨_, _, _, _, _, _, _, _, _, _, _, _, _, _, _, x_16, rv_16⟩, sa_16, ex_16, ty_16, kc_16⟩
  have EC_16 : ExcC K C16 := ⟨hg_16, hk_16, ex_16, hd_16, ha_16, hn, ht, hm_16⟩
  have XC_16 : XfC K C16 := ⟨hg_16, hk_16, ex_16, hd_16⟩
  have rL : CRead K CL mcL := ⟨rdL, gaL⟩
  have cL : CFn K CL mcL "__init__" f_iL := ⟨atL, k_iL⟩
  have RE : RefE K mg CL [C0, C1, C2, C3, C4, C5, C6, C7, C8, C9, C10, C11, C12, C13, C14, C15, C16] isEr := by
    refine ⟨PySem.W.mg_none_of X G z_isinstance, PySem.W.mg_none_of X G z_int, PySem.W.mg_none_of X G z_str, g_CL, g_C0, g_C1, g_C2, g_C3, g_C4, g_C5, g_C6, g_C7, g_C8, g_C9, g_C10, g_C11, g_C12, g_C13, g_C14, g_C15, g_C16, fun j hj => ?_, fun j hj i hi => ?_, fun j hj => ?_, fun j hj => ?_⟩
    · rcases hj with rfl | rfl | rfl | rfl | rfl
      · exact ⟨EC_0, XC_0, ei_0, kl_0⟩
      · exact ⟨EC_1, XC_1, ei_1, kl_1⟩
      · exact ⟨EC_2, XC_2, ei_2, kl_2⟩
      · exact ⟨EC_7, XC_7, ei_7, kl_7⟩
      · exact ⟨EC_16, XC_16, ei_16, kl_16⟩
    · rcases hj with rfl | rfl | rfl | rfl | rfl
      · match i, hi with
        | 0, _ => exact ke_0_0
        | 1, _ => exact ke_0_1
        | 2, _ => exact ke_0_2
        | 3, _ => exact ke_0_3
        | 4, _ => exact ke_0_4
        | 5, _ => exact ke_0_5
        | 6, _ => exact ke_0_6
        | 7, _ => exact ke_0_7
        | 8, _ => exact ke_0_8
        | 9, _ => exact ke_0_9
        | 10, _ => exact ke_0_10
        | 11, _ => exact ke_0_11
        | 12, _ => exact ke_0_12
        | 13, _ => exact ke_0_13
        | 14, _ => exact ke_0_14
        | 15, _ => exact ke_0_15
        | 16, _ => exact ke_0_16
        | k + 17, hk => exact absurd hk (by omega)
      · match i, hi with
        | 0, _ => exact ke_1_0
        | 1, _ => exact ke_1_1
        | 2, _ => exact ke_1_2
        | 3, _ => exact ke_1_3
        | 4, _ => exact ke_1_4
        | 5, _ => exact ke_1_5
        | 6, _ => exact ke_1_6
        | 7, _ => exact ke_1_7
        | 8, _ => exact ke_1_8
        | 9, _ => exact ke_1_9
        | 10, _ => exact ke_1_10
        | 11, _ => exact ke_1_11
        | 12, _ => exact ke_1_12
        | 13, _ => exact ke_1_13
        | 14, _ => exact ke_1_14
        | 15, _ => exact ke_1_15
        | 16, _ => exact ke_1_16
        | k + 17, hk => exact absurd hk (by omega)
      · match i, hi with
        | 0, _ => exact ke_2_0
        | 1, _ => exact ke_2_1
        | 2, _ => exact ke_2_2
        | 3, _ => exact ke_2_3
        | 4, _ => exact ke_2_4
        | 5, _ => exact ke_2_5
        | 6, _ => exact ke_2_6
        | 7, _ => exact ke_2_7
        | 8, _ => exact ke_2_8
        | 9, _ => exact ke_2_9
        | 10, _ => exact ke_2_10
        | 11, _ => exact ke_2_11
        | 12, _ => exact ke_2_12
        | 13, _ => exact ke_2_13
        | 14, _ => exact ke_2_14
        | 15, _ => exact ke_2_15
        | 16, _ => exact ke_2_16
        | k + 17, hk => exact absurd hk (by omega)
      · match i, hi with
        | 0, _ => exact ke_7_0
        | 1, _ => exact ke_7_1
        | 2, _ => exact ke_7_2
        | 3, _ => exact ke_7_3
        | 4, _ => exact ke_7_4
        | 5, _ => exact ke_7_5
        | 6, _ => exact ke_7_6
        | 7, _ => exact ke_7_7
        | 8, _ => exact ke_7_8
        | 9, _ => exact ke_7_9
        | 10, _ => exact ke_7_10
        | 11, _ => exact ke_7_11
        | 12, _ => exact ke_7_12
        | 13, _ => exact ke_7_13
        | 14, _ => exact ke_7_14
        | 15, _ => exact ke_7_15
        | 16, _ => exact ke_7_16
        | k + 17, hk => exact absurd hk (by omega)
      · match i, hi with
        | 0, _ => exact ke_16_0
        | 1, _ => exact ke_16_1
        | 2, _ => exact ke_16_2
        | 3, _ => exact ke_16_3
        | 4, _ => exact ke_16_4
        | 5, _ => exact ke_16_5
        | 6, _ => exact ke_16_6
        | 7, _ => exact ke_16_7
        | 8, _ => exact ke_16_8
        | 9, _ => exact ke_16_9
        | 10, _ => exact ke_16_10
        | 11, _ => exact ke_16_11
        | 12, _ => exact ke_16_12
        | 13, _ => exact ke_16_13
        | 14, _ => exact ke_16_14
        | 15, _ => exact ke_16_15
        | 16, _ => exact ke_16_16
        | k + 17, hk => exact absurd hk (by omega)
    · rcases hj with rfl | rfl | rfl | rfl | rfl <;> decide
    · rcases hj with rfl | rfl | rfl | rfl | rfl
      · exact nw_0
      · exact nw_1
      · exact nw_2
      · exact nw_7
      · exact nw_16
  have RF : RefF K mg CL [C0, C1, C2, C3, C4, C5, C6, C7, C8, C9, C10, C11, C12, C13, C14, C15, C16] := ⟨RE, PySem.W.mg_none_of X G z_repr, nf_2, nf_1, nf_7, nf_16⟩
  have LC : LayC K mg Y p0 p1 := ⟨⟨pg_Y, ic_Y, po_Y, sa_Y⟩, ⟨at_0, get_0, tk_0, ty_p0, ix_0, by decide⟩, ⟨at_1, get_1, tk_1, ty_p1, ix_1, by decide⟩, g_Y, ⟨ca_Y, hn, ht, cm_Y⟩⟩
  have MK : Mk K Y f_mI := ⟨mk_Y, a_mI, fn_mI, kc_Y⟩
  refine ⟨PySem.W.fnOf "law" "law" (defArgs sLaw) (defBody sLaw) (defScope sLaw) .none kV_l dc_l pm_l an_l cd_l ct_l, fun s v => .of_eq rfl, fun base _ _ => ?_⟩
  have G_iL := ok_lineInit (P := l.prog) (w := w) (base := base) (mg := mg) F_iL
  have G_iN := ok_nameInit (P := l.prog) (w := w) (base := base) F_iN g_CL rL cL b_iL G_iL
  have G_iO := ok_offInit (P := l.prog) (w := w) (base := base) F_iO g_CL rL cL b_iL G_iL
  have G_iT := ok_manyInit (P := l.prog) (w := w) (base := base) F_iT g_CL rL cL b_iL G_iL
  have G_iD := ok_dupInit (P := l.prog) (w := w) (base := base) F_iD g_CL kCL rL cL b_iL G_iL
  have EB : BadTxt l.prog w K mg base C0 f_iL _ := ⟨g_C0, O_0, i_B, t_iL, b_iL, G_iL, nw_0⟩
  have EN : ErrTxt l.prog w K mg base "BadName" "name" "name" C1 f_iN _ := ⟨g_C1, O_1, i_iN, t_iN, b_iN, G_iN, nw_1, nf_1⟩
  have EO : ErrTxt l.prog w K mg base "BadOffset" "offset" "offset" C2 f_iO _ := ⟨g_C2, O_2, i_iO, t_iO, b_iO, G_iO, nw_2, nf_2⟩
  have ED : ErrTxt l.prog w K mg base "Duplicate" "thing" "duplicate" C7 f_iD _ := ⟨g_C7, O_7, i_iD, t_iD, b_iD, G_iD, nw_7, nf_7⟩
  have ET : ErrTxt l.prog w K mg base "TooMany" "limit" "too many" C16 f_iT _ := ⟨g_C16, O_16, i_iT, t_iT, b_iT, G_iT, nw_16, nf_16⟩
  have G_I := ok_isInt (P := l.prog) (w := w) (base := base) F_I T
  have G_N := ok_isName (P := l.prog) (w := w) (base := base) F_N T
  have G_n := ok_ckName (P := l.prog) (w := w) (base := base) F_n T EN g_N k_N b_N G_N
  have G_S := ok_ckNames (P := l.prog) (w := w) (base := base) F_S T EB g_n k_n b_n G_n
  have G_U := ok_ckUnlike (P := l.prog) (w := w) (base := base) F_U T ED
  have G_M := ok_more (P := l.prog) (w := w) (base := base) F_M T ET g_S k_S b_S G_S g_U k_U b_U G_U
  have G_mI := ok_lInit (P := l.prog) (w := w) (base := base) l_mI c_mI T LC EB g_S k_S b_S G_S
  have G_mF := ok_fields (P := l.prog) (w := w) (base := base) F_mF T LC
  have G_mH := ok_has (P := l.prog) (w := w) (base := base) F_mH LC
  have M_F : Meth K Y "fields" f_mF := ⟨a_mF, fn_mF, k_mF⟩
  have G_mW := ok_with (P := l.prog) (w := w) (base := base) F_mW LC MK b_mI G_mI M_F b_mF G_mF
  have G_mL := ok_len (P := l.prog) (w := w) (base := base) F_mL T LC
  have G_mG := ok_get (P := l.prog) (w := w) (base := base) F_mG T LC EO g_I k_I b_I G_I
  have G_mC := ok_cont (P := l.prog) (w := w) (base := base) F_mC T LC g_N k_N b_N G_N
  have G_mA := ok_add (P := l.prog) (w := w) (base := base) F_mA LC g_M k_M b_M G_M MK b_mI G_mI M_F b_mF G_mF
  have G_mO := ok_off (P := l.prog) (w := w) (base := base) F_mO T LC g_n k_n b_n G_n
  have G_mQ := ok_eq (P := l.prog) (w := w) (base := base) F_mQ T LC
  have G_mE := ok_le (P := l.prog) (w := w) (base := base) F_mE T LC
  have G_mD := ok_first (P := l.prog) (w := w) (base := base) F_mD T LC a_mQ fn_mQ nf_Y b_mQ G_mQ
  have G_mR := ok_lRepr (P := l.prog) (w := w) (base := base) F_mR LC M_F b_mF G_mF
  have LD : LayD l.prog w K mg base Y p0 p1 f_mI (PySem.W.fnOf "__init__" "Layout.__init__" (defArgs mInit) (defBody mInit) (defScope mInit) (.ref dT) kV_mI dc_mI pm_mI an_mI cd_mI ct_mI) [C0, C1, C2, C3, C4, C5, C6, C7, C8, C9, C10, C11, C12, C13, C14, C15, C16] := by
    refine ⟨T, LC, MK, b_mI, b_mJ, G_mI, ⟨_, M_F, rawN G_mF b_mF⟩, ⟨_, ⟨a_mH, fn_mH, k_mH⟩, rawN G_mH b_mH⟩, ⟨_, ⟨a_mW, fn_mW, k_mW⟩, rawN G_mW b_mW⟩, ⟨_, ⟨a_mO, fn_mO, k_mO⟩, rawN G_mO b_mO⟩, ⟨_, ⟨a_mD, fn_mD, k_mD⟩, rawN G_mD b_mD⟩,
      ⟨_, a_mL, fn_mL, fi_mL, rawN G_mL b_mL⟩, ⟨_, a_mG, fn_mG, fi_mG, rawN G_mG b_mG⟩, ⟨_, a_mC, fn_mC, fi_mC, rawN G_mC b_mC⟩, ⟨_, a_mA, fn_mA, fi_mA, rawN G_mA b_mA⟩, ⟨_, a_mE, fn_mE, fi_mE, rawN G_mE b_mE⟩, ⟨_, a_mQ, fn_mQ, fi_mQ, rawN G_mQ b_mQ⟩, sf_Y, nf_Y, fun t ht => ?_⟩
    rcases ht with rfl | rfl | rfl | rfl | rfl
    · exact ⟨⟨_, _, fo1_list, ro1_list, ot_list⟩, nf_list, kt_list⟩
    · exact ⟨⟨_, _, fo1_tuple, ro1_tuple, ot_tuple⟩, nf_tuple, kt_tuple⟩
    · exact ⟨⟨_, _, fo1_str, ro1_str, ot_str⟩, nf_str, kt_str⟩
    · exact ⟨⟨_, _, fo1_dict, ro1_dict, ot_dict⟩, nf_dict, kt_dict⟩
    · exact ⟨⟨_, _, fo1_NoneType, ro1_NoneType, ot_NoneType⟩, nf_NoneType, kt_NoneType⟩
  have LE : LayE l.prog w K mg base Y p0 p1 f_mI (PySem.W.fnOf "__init__" "Layout.__init__" (defArgs mInit) (defBody mInit) (defScope mInit) (.ref dT) kV_mI dc_mI pm_mI an_mI cd_mI ct_mI) [C0, C1, C2, C3, C4, C5, C6, C7, C8, C9, C10, C11, C12, C13, C14, C15, C16] := ⟨LD, ⟨_, a_mR, fn_mR, G_mR.raw b_mR⟩, ne_Y, ob_Y⟩
  have G_c := ok_cell (P := l.prog) (w := w) (base := base) F_c TW
  have G_w := ok_well (P := l.prog) (w := w) (base := base) F_w TW
  have G_d := ok_draw (P := l.prog) (w := w) (base := base) (mg := mg) F_d
  have G_o := ok_one (P := l.prog) (w := w) (base := base) F_o TW g_d k_d b_d G_d
  have G_x := ok_name (P := l.prog) (w := w) (base := base) F_x g_o k_o b_o G_o
  have G_f := ok_fieldsL (P := l.prog) (w := w) (base := base) F_f TR g_d k_d b_d G_d
  have G_s := ok_names (P := l.prog) (w := w) (base := base) F_s TR g_d k_d b_d G_d g_x k_x b_x G_x
  have G_k := ok_classes (P := l.prog) (w := w) (base := base) F_k RE
  have G_e := ok_error (P := l.prog) (w := w) (base := base) F_e RF g_k k_k b_k G_k
  have G_a := ok_asked (P := l.prog) (w := w) (base := base) F_a LD RF g_e k_e b_e G_e
  have G_i := ok_lIsName (P := l.prog) (w := w) (base := base) F_i TX
  have G_v := ok_added (P := l.prog) (w := w) (base := base) F_v TX g_i k_i b_i G_i
  have G_g := ok_differ (P := l.prog) (w := w) (base := base) F_g TX
  have G_r := ok_right (P := l.prog) (w := w) (base := base) F_r TX LE g_g k_g b_g G_g
  have G_b := ok_badF (P := l.prog) (w := w) (base := base) F_b TX T.tuple g_d k_d b_d G_d g_o k_o b_o G_o g_f k_f b_f G_f
  refine ok_law F_l TX LE ⟨g_c, k_c, b_c, G_c, g_w, k_w, b_w, G_w, g_d, k_d, b_d, G_d, g_s, k_s, b_s, G_s, g_b, k_b, b_b, G_b, g_a, k_a, b_a, G_a, g_r, k_r, b_r, G_r, g_v, k_v, b_v, G_v⟩ fun t ht => ?_
  rcases ht with rfl | rfl | rfl | rfl <;> exact kit_ty (by decide +kernel)
theorem walk {l : PySem.W.OpenLaw} {q : Program} {loose : List Str} {XP : (Str → Option Value) → Heap → Prop} {YP : World → Heap → Prop} {d : DefRec} {K : Params → PySem.W.Frag} (hn : l.most = some 63) (hdf : d.params.defaults = [])
    (hY : ∀ (w : World) (h : Heap), YP w h → (K w.params).In h) (hq : PyProof.Rows.importsNone q = true) (K1 : ∀ w : World, (K w.params).lookup 1 = none)
    (F : ∀ (w : World) (mg : Str → Option Value) (fa : Addr) (h : Heap), (K w.params).In h → h.Ns mainGlobals mg → mg d.name = some (.ref fa) →
      ∃ fd : FuncData, (∀ (s : Shared) (u : Value), BindsTo s fd ⟨[u], []⟩ [("_law_script", u)]) ∧ ∀ base : Heap, (K w.params).In base → base.Ns mainGlobals mg → FnG l.prog w (K w.params) mg base CX0 11 fa fd ["_law_script"] (spLaw (K w.params))) :
    PySem.W.WalkO q loose XP YP l.row.toRowW d [] (fun f vs => PySem.call f vs) :=
  walkS (n := 63) (k := 11) (x := "_law_script") (sp := fun w => spLaw (K w.params)) hn (by decide) hdf ⟨rfl, by decide, by decide⟩ hY hq K1 F (fun _ _ a ns hl hS h1 => ⟨a, ns, rfl, hS, hl, h1, fun _ => rfl⟩)
end Lw


set_option Elab.async false
open PySem PySem.W PyProof.Rows in
set_option maxRecDepth 100000 in
set_option maxHeartbeats 0 in
theorem PySem.Challenge.cw_layoutline_k06_whole_layouts_holds : PySem.Challenge.rw_layoutline_k06_whole_layouts.Holds := by
  w_on; o_law; k_head; (case hw => w_witness2)
  k_fill
  refine Lw.walk (l := PySem.Challenge.rw_layoutline_k06_whole_layouts) rfl rfl (fun w h Y => PySem.W.kIn_of Y) ?hq ?K1 ?F
  case hq => first | rfl | decide +kernel
  case K1 => intro w; first | rfl | k_is
  case F =>
    intro w mg fa h KX G hmg
    refine' Lw.all_mk KX G hmg ?longest ?most ?z_isinstance ?z_int ?z_bool ?z_str ?z_list ?z_tuple ?z_set ?z_len ?z_all ?z_range ?z_reversed ?z_min ?z_repr ?a_I ?l_I ?c_I ?k_I ?a_N ?l_N ?c_N ?k_N ?a_n ?l_n ?c_n ?k_n ?a_S ?l_S ?c_S ?k_S ?a_U ?l_U ?c_U ?k_U ?a_M ?l_M ?c_M ?k_M ?a_c ?l_c ?c_c ?k_c ?a_w ?l_w ?c_w ?k_w ?a_d ?l_d ?c_d ?k_d ?a_o ?l_o ?c_o ?k_o ?a_x ?l_x ?c_x ?k_x ?a_f ?l_f ?c_f ?k_f ?a_k ?l_k ?c_k ?k_k ?a_s ?l_s ?c_s ?k_s ?a_e ?l_e ?c_e ?k_e ?a_a ?l_a ?c_a ?k_a ?a_i ?l_i ?c_i ?k_i ?a_v ?l_v ?c_v ?k_v ?a_g ?l_g ?c_g ?k_g ?a_r ?l_r ?c_r ?k_r ?a_b ?l_b ?c_b ?k_b ?a_l ?l_l ?c_l ?k_l ?a_CL ?a_C0 ?a_C1 ?a_C2 ?a_C3 ?a_C4 ?a_C5 ?a_C6 ?a_C7 ?a_C8 ?a_C9 ?a_C10 ?a_C11 ?a_C12 ?a_C13 ?a_C14 ?a_C15 ?a_C16 ?i_iL ?l_iL ?c_iL ?k_iL ?t_iL ?i_iN ?l_iN ?c_iN ?k_iN ?t_iN ?i_iO ?l_iO ?c_iO ?k_iO ?t_iO ?i_iD ?l_iD ?c_iD ?k_iD ?t_iD ?i_iT ?l_iT ?c_iT ?k_iT ?t_iT ?i_B ?rdT ?rdL ?gaL ?atL ?kCL ?x_0 ?rv_0 ?sa_0 ?ex_0 ?ty_0 ?kc_0 ?nw_0 ?hg_0 ?hk_0 ?hd_0 ?ha_0 ?hm_0 ?ei_0 ?kl_0 ?ke_0_0 ?ke_0_1 ?ke_0_2 ?ke_0_3 ?ke_0_4 ?ke_0_5 ?ke_0_6 ?ke_0_7 ?ke_0_8 ?ke_0_9 ?ke_0_10 ?ke_0_11 ?ke_0_12 ?ke_0_13 ?ke_0_14 ?ke_0_15 ?ke_0_16 ?x_1 ?rv_1 ?sa_1 ?ex_1 ?ty_1 ?kc_1 ?nw_1 ?hg_1 ?hk_1 ?hd_1 ?ha_1 ?hm_1 ?ei_1 ?kl_1 ?ke_1_0 ?ke_1_1 ?ke_1_2 ?ke_1_3 ?ke_1_4 ?ke_1_5 ?ke_1_6 ?ke_1_7 ?ke_1_8 ?ke_1_9 ?ke_1_10 ?ke_1_11 ?ke_1_12 ?ke_1_13 ?ke_1_14 ?ke_1_15 ?ke_1_16 ?x_2 ?rv_2 ?sa_2 ?ex_2 ?ty_2 ?kc_2 ?nw_2 ?hg_2 ?hk_2 ?hd_2 ?ha_2 ?hm_2 ?ei_2 ?kl_2 ?ke_2_0 ?ke_2_1 ?ke_2_2 ?ke_2_3 ?ke_2_4 ?ke_2_5 ?ke_2_6 ?ke_2_7 ?ke_2_8 ?ke_2_9 ?ke_2_10 ?ke_2_11 ?ke_2_12 ?ke_2_13 ?ke_2_14 ?ke_2_15 ?ke_2_16 ?x_7 ?rv_7 ?sa_7 ?ex_7 ?ty_7 ?kc_7 ?nw_7 ?hg_7 ?hk_7 ?hd_7 ?ha_7 ?hm_7 ?ei_7 ?kl_7 ?ke_7_0 ?ke_7_1 ?ke_7_2 ?ke_7_3 ?ke_7_4 ?ke_7_5 ?ke_7_6 ?ke_7_7 ?ke_7_8 ?ke_7_9 ?ke_7_10 ?ke_7_11 ?ke_7_12 ?ke_7_13 ?ke_7_14 ?ke_7_15 ?ke_7_16 ?x_16 ?rv_16 ?sa_16 ?ex_16 ?ty_16 ?kc_16 ?nw_16 ?hg_16 ?hk_16 ?hd_16 ?ha_16 ?hm_16 ?ei_16 ?kl_16 ?ke_16_0 ?ke_16_1 ?ke_16_2 ?ke_16_3 ?ke_16_4 ?ke_16_5 ?ke_16_6 ?ke_16_7 ?ke_16_8 ?ke_16_9 ?ke_16_10 ?ke_16_11 ?ke_16_12 ?ke_16_13 ?ke_16_14 ?ke_16_15 ?ke_16_16 ?nf_2 ?nf_1 ?nf_7 ?nf_16 ?hn ?ht ?a_Y ?pg_Y ?ic_Y ?po_Y ?sa_Y ?at_0 ?get_0 ?tk_0 ?ty_p0 ?ix_0 ?at_1 ?get_1 ?tk_1 ?ty_p1 ?ix_1 ?ca_Y ?cm_Y ?mk_Y ?kc_Y ?ne_Y ?ob_Y ?sf_Y ?nf_Y ?fo1_list ?ro1_list ?ot_list ?nf_list ?kt_list ?fo1_tuple ?ro1_tuple ?ot_tuple ?nf_tuple ?kt_tuple ?fo1_str ?ro1_str ?ot_str ?nf_str ?kt_str ?fo1_dict ?ro1_dict ?ot_dict ?nf_dict ?kt_dict ?fo1_NoneType ?ro1_NoneType ?ot_NoneType ?nf_NoneType ?kt_NoneType ?a_mF ?l_mF ?c_mF ?k_mF ?fn_mF ?fi_mF ?a_mH ?l_mH ?c_mH ?k_mH ?fn_mH ?fi_mH ?a_mW ?l_mW ?c_mW ?k_mW ?fn_mW ?fi_mW ?a_mO ?l_mO ?c_mO ?k_mO ?fn_mO ?fi_mO ?a_mD ?l_mD ?c_mD ?k_mD ?fn_mD ?fi_mD ?a_mL ?l_mL ?c_mL ?k_mL ?fn_mL ?fi_mL ?a_mG ?l_mG ?c_mG ?k_mG ?fn_mG ?fi_mG ?a_mC ?l_mC ?c_mC ?k_mC ?fn_mC ?fi_mC ?a_mA ?l_mA ?c_mA ?k_mA ?fn_mA ?fi_mA ?a_mE ?l_mE ?c_mE ?k_mE ?fn_mE ?fi_mE ?a_mQ ?l_mQ ?c_mQ ?k_mQ ?fn_mQ ?fi_mQ ?a_mR ?l_mR ?c_mR ?k_mR ?fn_mR ?fi_mR ?a_mI ?l_mI ?l_T ?c_mI ?k_mI ?fn_mI
    (case longest => first | k_is | kit_is | rfl)
    (case most => first | k_is | kit_is | rfl)
    (case z_isinstance => first | k_is | kit_is | rfl)
    (case z_int => first | k_is | kit_is | rfl)
    (case z_bool => first | k_is | kit_is | rfl)
    (case z_str => first | k_is | kit_is | rfl)
    (case z_list => first | k_is | kit_is | rfl)
    (case z_tuple => first | k_is | kit_is | rfl)
    (case z_set => first | k_is | kit_is | rfl)
    (case z_len => first | k_is | kit_is | rfl)
    (case z_all => first | k_is | kit_is | rfl)
    (case z_range => first | k_is | kit_is | rfl)
    (case z_reversed => first | k_is | kit_is | rfl)
    (case z_min => first | k_is | kit_is | rfl)
    (case z_repr => first | k_is | kit_is | rfl)
    (case a_I => first | k_is | kit_is | rfl)
    (case l_I => first | k_is | kit_is | rfl)
    (case c_I => first | k_is | kit_is | rfl)
    (case k_I => first | k_is | kit_is | rfl)
    (case a_N => first | k_is | kit_is | rfl)
    (case l_N => first | k_is | kit_is | rfl)
    (case c_N => first | k_is | kit_is | rfl)
    (case k_N => first | k_is | kit_is | rfl)
    (case a_n => first | k_is | kit_is | rfl)
    (case l_n => first | k_is | kit_is | rfl)
    (case c_n => first | k_is | kit_is | rfl)
    (case k_n => first | k_is | kit_is | rfl)
    (case a_S => first | k_is | kit_is | rfl)
    (case l_S => first | k_is | kit_is | rfl)
    (case c_S => first | k_is | kit_is | rfl)
    (case k_S => first | k_is | kit_is | rfl)
    (case a_U => first | k_is | kit_is | rfl)
    (case l_U => first | k_is | kit_is | rfl)
    (case c_U => first | k_is | kit_is | rfl)
    (case k_U => first | k_is | kit_is | rfl)
    (case a_M => first | k_is | kit_is | rfl)
    (case l_M => first | k_is | kit_is | rfl)
    (case c_M => first | k_is | kit_is | rfl)
    (case k_M => first | k_is | kit_is | rfl)
    (case a_c => first | k_is | kit_is | rfl)
    (case l_c => first | k_is | kit_is | rfl)
    (case c_c => first | k_is | kit_is | rfl)
    (case k_c => first | k_is | kit_is | rfl)
    (case a_w => first | k_is | kit_is | rfl)
    (case l_w => first | k_is | kit_is | rfl)
    (case c_w => first | k_is | kit_is | rfl)
    (case k_w => first | k_is | kit_is | rfl)
    (case a_d => first | k_is | kit_is | rfl)
    (case l_d => first | k_is | kit_is | rfl)
    (case c_d => first | k_is | kit_is | rfl)
    (case k_d => first | k_is | kit_is | rfl)
    (case a_o => first | k_is | kit_is | rfl)
    (case l_o => first | k_is | kit_is | rfl)
    (case c_o => first | k_is | kit_is | rfl)
    (case k_o => first | k_is | kit_is | rfl)
    (case a_x => first | k_is | kit_is | rfl)
    (case l_x => first | k_is | kit_is | rfl)
    (case c_x => first | k_is | kit_is | rfl)
    (case k_x => first | k_is | kit_is | rfl)
    (case a_f => first | k_is | kit_is | rfl)
    (case l_f => first | k_is | kit_is | rfl)
    (case c_f => first | k_is | kit_is | rfl)
    (case k_f => first | k_is | kit_is | rfl)
    (case a_k => first | k_is | kit_is | rfl)
    (case l_k => first | k_is | kit_is | rfl)
    (case c_k => first | k_is | kit_is | rfl)
    (case k_k => first | k_is | kit_is | rfl)
    (case a_s => first | k_is | kit_is | rfl)
    (case l_s => first | k_is | kit_is | rfl)
    (case c_s => first | k_is | kit_is | rfl)
    (case k_s => first | k_is | kit_is | rfl)
    (case a_e => first | k_is | kit_is | rfl)
    (case l_e => first | k_is | kit_is | rfl)
    (case c_e => first | k_is | kit_is | rfl)
    (case k_e => first | k_is | kit_is | rfl)
    (case a_a => first | k_is | kit_is | rfl)
    (case l_a => first | k_is | kit_is | rfl)
    (case c_a => first | k_is | kit_is | rfl)
    (case k_a => first | k_is | kit_is | rfl)
    (case a_i => first | k_is | kit_is | rfl)
    (case l_i => first | k_is | kit_is | rfl)
    (case c_i => first | k_is | kit_is | rfl)
    (case k_i => first | k_is | kit_is | rfl)
    (case a_v => first | k_is | kit_is | rfl)
    (case l_v => first | k_is | kit_is | rfl)
    (case c_v => first | k_is | kit_is | rfl)
    (case k_v => first | k_is | kit_is | rfl)
    (case a_g => first | k_is | kit_is | rfl)
    (case l_g => first | k_is | kit_is | rfl)
    (case c_g => first | k_is | kit_is | rfl)
    (case k_g => first | k_is | kit_is | rfl)
    (case a_r => first | k_is | kit_is | rfl)
    (case l_r => first | k_is | kit_is | rfl)
    (case c_r => first | k_is | kit_is | rfl)
    (case k_r => first | k_is | kit_is | rfl)
    (case a_b => first | k_is | kit_is | rfl)
    (case l_b => first | k_is | kit_is | rfl)
    (case c_b => first | k_is | kit_is | rfl)
    (case k_b => first | k_is | kit_is | rfl)
    (case a_l => first | k_is | kit_is | rfl)
    (case l_l => first | k_is | kit_is | rfl)
    (case c_l => first | k_is | kit_is | rfl)
    (case k_l => first | k_is | kit_is | rfl)
    (case a_CL => first | k_is | kit_is | rfl)
    (case a_C0 => first | k_is | kit_is | rfl)
    (case a_C1 => first | k_is | kit_is | rfl)
    (case a_C2 => first | k_is | kit_is | rfl)
    (case a_C3 => first | k_is | kit_is | rfl)
    (case a_C4 => first | k_is | kit_is | rfl)
    (case a_C5 => first | k_is | kit_is | rfl)
    (case a_C6 => first | k_is | kit_is | rfl)
    (case a_C7 => first | k_is | kit_is | rfl)
    (case a_C8 => first | k_is | kit_is | rfl)
    (case a_C9 => first | k_is | kit_is | rfl)
    (case a_C10 => first | k_is | kit_is | rfl)
    (case a_C11 => first | k_is | kit_is | rfl)
    (case a_C12 => first | k_is | kit_is | rfl)
    (case a_C13 => first | k_is | kit_is | rfl)
    (case a_C14 => first | k_is | kit_is | rfl)
    (case a_C15 => first | k_is | kit_is | rfl)
    (case a_C16 => first | k_is | kit_is | rfl)
    (case i_iL => first | k_is | kit_is | rfl)
    (case l_iL => first | k_is | kit_is | rfl)
    (case c_iL => first | k_is | kit_is | rfl)
    (case k_iL => first | k_is | kit_is | rfl)
    (case t_iL => first | k_is | kit_is | rfl)
    (case i_iN => first | k_is | kit_is | rfl)
    (case l_iN => first | k_is | kit_is | rfl)
    (case c_iN => first | k_is | kit_is | rfl)
    (case k_iN => first | k_is | kit_is | rfl)
    (case t_iN => first | k_is | kit_is | rfl)
    (case i_iO => first | k_is | kit_is | rfl)
    (case l_iO => first | k_is | kit_is | rfl)
    (case c_iO => first | k_is | kit_is | rfl)
    (case k_iO => first | k_is | kit_is | rfl)
    (case t_iO => first | k_is | kit_is | rfl)
    (case i_iD => first | k_is | kit_is | rfl)
    (case l_iD => first | k_is | kit_is | rfl)
    (case c_iD => first | k_is | kit_is | rfl)
    (case k_iD => first | k_is | kit_is | rfl)
    (case t_iD => first | k_is | kit_is | rfl)
    (case i_iT => first | k_is | kit_is | rfl)
    (case l_iT => first | k_is | kit_is | rfl)
    (case c_iT => first | k_is | kit_is | rfl)
    (case k_iT => first | k_is | kit_is | rfl)
    (case t_iT => first | k_is | kit_is | rfl)
    (case i_B => first | k_is | kit_is | rfl)
    (case rdT => first | k_is | kit_is | rfl)
    (case rdL => first | k_is | kit_is | rfl)
    (case gaL => first | k_is | kit_is | rfl)
    (case atL => first | k_is | kit_is | rfl)
    (case kCL => first | k_is | kit_is | rfl)
    (case x_0 => first | k_is | kit_is | rfl)
    (case rv_0 => first | rfl | decide +kernel | k_is)
    (case sa_0 => first | k_is | kit_is | rfl)
    (case ex_0 => first | k_is | kit_is | rfl)
    (case ty_0 => first | k_is | kit_is | rfl)
    (case kc_0 => first | k_is | kit_is | rfl)
    (case nw_0 => first | k_is | kit_is | rfl)
    (case hg_0 => first | k_is | kit_is | rfl)
    (case hk_0 => first | k_is | kit_is | rfl)
    (case hd_0 => first | k_is | kit_is | rfl)
    (case ha_0 => first | k_is | kit_is | rfl)
    (case hm_0 => first | k_is | kit_is | rfl)
    (case ei_0 => first | k_is | kit_is | rfl)
    (case kl_0 => first | k_is | kit_is | rfl)
    (case ke_0_0 => first | k_is | kit_is | rfl)
    (case ke_0_1 => first | k_is | kit_is | rfl)
    (case ke_0_2 => first | k_is | kit_is | rfl)
    (case ke_0_3 => first | k_is | kit_is | rfl)
    (case ke_0_4 => first | k_is | kit_is | rfl)
    (case ke_0_5 => first | k_is | kit_is | rfl)
    (case ke_0_6 => first | k_is | kit_is | rfl)
    (case ke_0_7 => first | k_is | kit_is | rfl)
    (case ke_0_8 => first | k_is | kit_is | rfl)
    (case ke_0_9 => first | k_is | kit_is | rfl)
    (case ke_0_10 => first | k_is | kit_is | rfl)
    (case ke_0_11 => first | k_is | kit_is | rfl)
    (case ke_0_12 => first | k_is | kit_is | rfl)
    (case ke_0_13 => first | k_is | kit_is | rfl)
    (case ke_0_14 => first | k_is | kit_is | rfl)
    (case ke_0_15 => first | k_is | kit_is | rfl)
    (case ke_0_16 => first | k_is | kit_is | rfl)
    (case x_1 => first | k_is | kit_is | rfl)
    (case rv_1 => first | rfl | decide +kernel | k_is)
    (case sa_1 => first | k_is | kit_is | rfl)
    (case ex_1 => first | k_is | kit_is | rfl)
    (case ty_1 => first | k_is | kit_is | rfl)
    (case kc_1 => first | k_is | kit_is | rfl)
    (case nw_1 => first | k_is | kit_is | rfl)
    (case hg_1 => first | k_is | kit_is | rfl)
    (case hk_1 => first | k_is | kit_is | rfl)
    (case hd_1 => first | k_is | kit_is | rfl)
    (case ha_1 => first | k_is | kit_is | rfl)
    (case hm_1 => first | k_is | kit_is | rfl)
    (case ei_1 => first | k_is | kit_is | rfl)
    (case kl_1 => first | k_is | kit_is | rfl)
    (case ke_1_0 => first | k_is | kit_is | rfl)
    (case ke_1_1 => first | k_is | kit_is | rfl)
    (case ke_1_2 => first | k_is | kit_is | rfl)
    (case ke_1_3 => first | k_is | kit_is | rfl)
    (case ke_1_4 => first | k_is | kit_is | rfl)
    (case ke_1_5 => first | k_is | kit_is | rfl)
    (case ke_1_6 => first | k_is | kit_is | rfl)
    (case ke_1_7 => first | k_is | kit_is | rfl)
    (case ke_1_8 => first | k_is | kit_is | rfl)
    (case ke_1_9 => first | k_is | kit_is | rfl)
    (case ke_1_10 => first | k_is | kit_is | rfl)
    (case ke_1_11 => first | k_is | kit_is | rfl)
    (case ke_1_12 => first | k_is | kit_is | rfl)
    (case ke_1_13 => first | k_is | kit_is | rfl)
    (case ke_1_14 => first | k_is | kit_is | rfl)
    (case ke_1_15 => first | k_is | kit_is | rfl)
    (case ke_1_16 => first | k_is | kit_is | rfl)
    (case x_2 => first | k_is | kit_is | rfl)
    (case rv_2 => first | rfl | decide +kernel | k_is)
    (case sa_2 => first | k_is | kit_is | rfl)
    (case ex_2 => first | k_is | kit_is | rfl)
    (case ty_2 => first | k_is | kit_is | rfl)
    (case kc_2 => first | k_is | kit_is | rfl)
    (case nw_2 => first | k_is | kit_is | rfl)
    (case hg_2 => first | k_is | kit_is | rfl)
    (case hk_2 => first | k_is | kit_is | rfl)
    (case hd_2 => first | k_is | kit_is | rfl)
    (case ha_2 => first | k_is | kit_is | rfl)
    (case hm_2 => first | k_is | kit_is | rfl)
    (case ei_2 => first | k_is | kit_is | rfl)
    (case kl_2 => first | k_is | kit_is | rfl)
    (case ke_2_0 => first | k_is | kit_is | rfl)
    (case ke_2_1 => first | k_is | kit_is | rfl)
    (case ke_2_2 => first | k_is | kit_is | rfl)
    (case ke_2_3 => first | k_is | kit_is | rfl)
    (case ke_2_4 => first | k_is | kit_is | rfl)
    (case ke_2_5 => first | k_is | kit_is | rfl)
    (case ke_2_6 => first | k_is | kit_is | rfl)
    (case ke_2_7 => first | k_is | kit_is | rfl)
    (case ke_2_8 => first | k_is | kit_is | rfl)
    (case ke_2_9 => first | k_is | kit_is | rfl)
    (case ke_2_10 => first | k_is | kit_is | rfl)
    (case ke_2_11 => first | k_is | kit_is | rfl)
    (case ke_2_12 => first | k_is | kit_is | rfl)
    (case ke_2_13 => first | k_is | kit_is | rfl)
    (case ke_2_14 => first | k_is | kit_is | rfl)
    (case ke_2_15 => first | k_is | kit_is | rfl)
    (case ke_2_16 => first | k_is | kit_is | rfl)
    (case x_7 => first | k_is | kit_is | rfl)
    (case rv_7 => first | rfl | decide +kernel | k_is)
    (case sa_7 => first | k_is | kit_is | rfl)
    (case ex_7 => first | k_is | kit_is | rfl)
    (case ty_7 => first | k_is | kit_is | rfl)
    (case kc_7 => first | k_is | kit_is | rfl)
    (case nw_7 => first | k_is | kit_is | rfl)
    (case hg_7 => first | k_is | kit_is | rfl)
    (case hk_7 => first | k_is | kit_is | rfl)
    (case hd_7 => first | k_is | kit_is | rfl)
    (case ha_7 => first | k_is | kit_is | rfl)
    (case hm_7 => first | k_is | kit_is | rfl)
    (case ei_7 => first | k_is | kit_is | rfl)
    (case kl_7 => first | k_is | kit_is | rfl)
    (case ke_7_0 => first | k_is | kit_is | rfl)
    (case ke_7_1 => first | k_is | kit_is | rfl)
    (case ke_7_2 => first | k_is | kit_is | rfl)
    (case ke_7_3 => first | k_is | kit_is | rfl)
    (case ke_7_4 => first | k_is | kit_is | rfl)
    (case ke_7_5 => first | k_is | kit_is | rfl)
    (case ke_7_6 => first | k_is | kit_is | rfl)
    (case ke_7_7 => first | k_is | kit_is | rfl)
    (case ke_7_8 => first | k_is | kit_is | rfl)
    (case ke_7_9 => first | k_is | kit_is | rfl)
    (case ke_7_10 => first | k_is | kit_is | rfl)
    (case ke_7_11 => first | k_is | kit_is | rfl)
    (case ke_7_12 => first | k_is | kit_is | rfl)
    (case ke_7_13 => first | k_is | kit_is | rfl)
    (case ke_7_14 => first | k_is | kit_is | rfl)
    (case ke_7_15 => first | k_is | kit_is | rfl)
    (case ke_7_16 => first | k_is | kit_is | rfl)
    (case x_16 => first | k_is | kit_is | rfl)
    (case rv_16 => first | rfl | decide +kernel | k_is)
    (case sa_16 => first | k_is | kit_is | rfl)
    (case ex_16 => first | k_is | kit_is | rfl)
    (case ty_16 => first | k_is | kit_is | rfl)
    (case kc_16 => first | k_is | kit_is | rfl)
    (case nw_16 => first | k_is | kit_is | rfl)
    (case hg_16 => first | k_is | kit_is | rfl)
    (case hk_16 => first | k_is | kit_is | rfl)
    (case hd_16 => first | k_is | kit_is | rfl)
    (case ha_16 => first | k_is | kit_is | rfl)
    (case hm_16 => first | k_is | kit_is | rfl)
    (case ei_16 => first | k_is | kit_is | rfl)
    (case kl_16 => first | k_is | kit_is | rfl)
    (case ke_16_0 => first | k_is | kit_is | rfl)
    (case ke_16_1 => first | k_is | kit_is | rfl)
    (case ke_16_2 => first | k_is | kit_is | rfl)
    (case ke_16_3 => first | k_is | kit_is | rfl)
    (case ke_16_4 => first | k_is | kit_is | rfl)
    (case ke_16_5 => first | k_is | kit_is | rfl)
    (case ke_16_6 => first | k_is | kit_is | rfl)
    (case ke_16_7 => first | k_is | kit_is | rfl)
    (case ke_16_8 => first | k_is | kit_is | rfl)
    (case ke_16_9 => first | k_is | kit_is | rfl)
    (case ke_16_10 => first | k_is | kit_is | rfl)
    (case ke_16_11 => first | k_is | kit_is | rfl)
    (case ke_16_12 => first | k_is | kit_is | rfl)
    (case ke_16_13 => first | k_is | kit_is | rfl)
    (case ke_16_14 => first | k_is | kit_is | rfl)
    (case ke_16_15 => first | k_is | kit_is | rfl)
    (case ke_16_16 => first | k_is | kit_is | rfl)
    (case nf_2 => first | k_is | kit_is | rfl)
    (case nf_1 => first | k_is | kit_is | rfl)
    (case nf_7 => first | k_is | kit_is | rfl)
    (case nf_16 => first | k_is | kit_is | rfl)
    (case hn => first | k_is | kit_is | rfl)
    (case ht => first | k_is | kit_is | rfl)
    (case a_Y => first | k_is | kit_is | rfl)
    (case pg_Y => first | k_is | kit_is | rfl)
    (case ic_Y => first | k_is | kit_is | rfl)
    (case po_Y => first | k_is | kit_is | rfl)
    (case sa_Y => first | k_is | kit_is | rfl)
    (case at_0 => first | k_is | kit_is | rfl)
    (case get_0 => first | k_is | kit_is | rfl)
    (case tk_0 => first | k_is | kit_is | rfl)
    (case ty_p0 => first | k_is | kit_is | rfl)
    (case ix_0 => first | k_is | kit_is | rfl)
    (case at_1 => first | k_is | kit_is | rfl)
    (case get_1 => first | k_is | kit_is | rfl)
    (case tk_1 => first | k_is | kit_is | rfl)
    (case ty_p1 => first | k_is | kit_is | rfl)
    (case ix_1 => first | k_is | kit_is | rfl)
    (case ca_Y => first | k_is | kit_is | rfl)
    (case cm_Y => first | k_is | kit_is | rfl)
    (case mk_Y => first | k_is | kit_is | rfl)
    (case kc_Y => first | k_is | kit_is | rfl)
    (case ne_Y => first | k_is | kit_is | rfl)
    (case ob_Y => first | k_is | kit_is | rfl)
    (case sf_Y => first | k_is | kit_is | rfl)
    (case nf_Y => first | k_is | kit_is | rfl)
    (case fo1_list => first | k_is | kit_is | rfl)
    (case ro1_list => first | k_is | kit_is | rfl)
    (case ot_list => first | rfl | decide +kernel | k_is)
    (case nf_list => first | k_is | kit_is | rfl)
    (case kt_list => first | k_is | kit_is | rfl)
    (case fo1_tuple => first | k_is | kit_is | rfl)
    (case ro1_tuple => first | k_is | kit_is | rfl)
    (case ot_tuple => first | rfl | decide +kernel | k_is)
    (case nf_tuple => first | k_is | kit_is | rfl)
    (case kt_tuple => first | k_is | kit_is | rfl)
    (case fo1_str => first | k_is | kit_is | rfl)
    (case ro1_str => first | k_is | kit_is | rfl)
    (case ot_str => first | rfl | decide +kernel | k_is)
    (case nf_str => first | k_is | kit_is | rfl)
    (case kt_str => first | k_is | kit_is | rfl)
    (case fo1_dict => first | k_is | kit_is | rfl)
    (case ro1_dict => first | k_is | kit_is | rfl)
    (case ot_dict => first | rfl | decide +kernel | k_is)
    (case nf_dict => first | k_is | kit_is | rfl)
    (case kt_dict => first | k_is | kit_is | rfl)
    (case fo1_NoneType => first | k_is | kit_is | rfl)
    (case ro1_NoneType => first | k_is | kit_is | rfl)
    (case ot_NoneType => first | rfl | decide +kernel | k_is)
    (case nf_NoneType => first | k_is | kit_is | rfl)
    (case kt_NoneType => first | k_is | kit_is | rfl)
    (case a_mF => first | k_is | kit_is | rfl)
    (case l_mF => first | k_is | kit_is | rfl)
    (case c_mF => first | k_is | kit_is | rfl)
    (case k_mF => first | k_is | kit_is | rfl)
    (case fn_mF => first | k_is | kit_is | rfl)
    (case fi_mF => first | k_is | kit_is | rfl)
    (case a_mH => first | k_is | kit_is | rfl)
    (case l_mH => first | k_is | kit_is | rfl)
    (case c_mH => first | k_is | kit_is | rfl)
    (case k_mH => first | k_is | kit_is | rfl)
    (case fn_mH => first | k_is | kit_is | rfl)
    (case fi_mH => first | k_is | kit_is | rfl)
    (case a_mW => first | k_is | kit_is | rfl)
    (case l_mW => first | k_is | kit_is | rfl)
    (case c_mW => first | k_is | kit_is | rfl)
    (case k_mW => first | k_is | kit_is | rfl)
    (case fn_mW => first | k_is | kit_is | rfl)
    (case fi_mW => first | k_is | kit_is | rfl)
    (case a_mO => first | k_is | kit_is | rfl)
    (case l_mO => first | k_is | kit_is | rfl)
    (case c_mO => first | k_is | kit_is | rfl)
    (case k_mO => first | k_is | kit_is | rfl)
    (case fn_mO => first | k_is | kit_is | rfl)
    (case fi_mO => first | k_is | kit_is | rfl)
    (case a_mD => first | k_is | kit_is | rfl)
    (case l_mD => first | k_is | kit_is | rfl)
    (case c_mD => first | k_is | kit_is | rfl)
    (case k_mD => first | k_is | kit_is | rfl)
    (case fn_mD => first | k_is | kit_is | rfl)
    (case fi_mD => first | k_is | kit_is | rfl)
    (case a_mL => first | k_is | kit_is | rfl)
    (case l_mL => first | k_is | kit_is | rfl)
    (case c_mL => first | k_is | kit_is | rfl)
    (case k_mL => first | k_is | kit_is | rfl)
    (case fn_mL => first | k_is | kit_is | rfl)
    (case fi_mL => first | k_is | kit_is | rfl)
    (case a_mG => first | k_is | kit_is | rfl)
    (case l_mG => first | k_is | kit_is | rfl)
    (case c_mG => first | k_is | kit_is | rfl)
    (case k_mG => first | k_is | kit_is | rfl)
    (case fn_mG => first | k_is | kit_is | rfl)
    (case fi_mG => first | k_is | kit_is | rfl)
    (case a_mC => first | k_is | kit_is | rfl)
    (case l_mC => first | k_is | kit_is | rfl)
    (case c_mC => first | k_is | kit_is | rfl)
    (case k_mC => first | k_is | kit_is | rfl)
    (case fn_mC => first | k_is | kit_is | rfl)
    (case fi_mC => first | k_is | kit_is | rfl)
    (case a_mA => first | k_is | kit_is | rfl)
    (case l_mA => first | k_is | kit_is | rfl)
    (case c_mA => first | k_is | kit_is | rfl)
    (case k_mA => first | k_is | kit_is | rfl)
    (case fn_mA => first | k_is | kit_is | rfl)
    (case fi_mA => first | k_is | kit_is | rfl)
    (case a_mE => first | k_is | kit_is | rfl)
    (case l_mE => first | k_is | kit_is | rfl)
    (case c_mE => first | k_is | kit_is | rfl)
    (case k_mE => first | k_is | kit_is | rfl)
    (case fn_mE => first | k_is | kit_is | rfl)
    (case fi_mE => first | k_is | kit_is | rfl)
    (case a_mQ => first | k_is | kit_is | rfl)
    (case l_mQ => first | k_is | kit_is | rfl)
    (case c_mQ => first | k_is | kit_is | rfl)
    (case k_mQ => first | k_is | kit_is | rfl)
    (case fn_mQ => first | k_is | kit_is | rfl)
    (case fi_mQ => first | k_is | kit_is | rfl)
    (case a_mR => first | k_is | kit_is | rfl)
    (case l_mR => first | k_is | kit_is | rfl)
    (case c_mR => first | k_is | kit_is | rfl)
    (case k_mR => first | k_is | kit_is | rfl)
    (case fn_mR => first | k_is | kit_is | rfl)
    (case fi_mR => first | k_is | kit_is | rfl)
    (case a_mI => first | k_is | kit_is | rfl)
    (case l_mI => first | k_is | kit_is | rfl)
    (case l_T => first | k_is | kit_is | rfl)
    (case c_mI => first | k_is | kit_is | rfl)
    (case k_mI => first | k_is | kit_is | rfl)
    (case fn_mI => first | k_is | kit_is | rfl)

