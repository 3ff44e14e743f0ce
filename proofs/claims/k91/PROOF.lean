import PyProof.Rows.All
import Wide.All
import OpenK.AllK
import Wide.FinOn
import KE.KNestM
import HandS.Head0
import HandS.Head1
import HandS.Head2
import HandS.Walk
import HandS.ForMost
import HandS.ClsMeth
import HandS.ExcInit
import KE.KOpsOwn
import HandS.SlotsOwn
import HandS.More
import HandS.IsInst
import KE.KMinBuiltin
import HandS.SortKw
import HandS.DictComp
import HandS.SetBool
import HandS.Strs
import KE.DataAny
import HandS.WordsExc
import HandS.Flow
import HandS.Style
import HandS.Text
import HandS.Iter
import HandS.SetKeys
import HandS.TupAny
import HandS.RevRange
import HandS.SetFor
import HandS.Zip
import HandS.Defaults
import HandS.ExcOwn
import HandS.Wide
import HandS.TryMany
import HandS.TupSets
import HandS.Dict
import HandS.Conv
import HandS.EndTab
import PySem.Challenge.RW_layoutline_k91_whole_made_by_definition
set_option autoImplicit true
set_option Elab.async false
set_option maxRecDepth 100000
/-! The head: the top by kernel runs over the heap as a tree, look by look; nothing of the top's way is written out, only the objects that the law's walk reads. -/
namespace Hd
open PySem PySem.W PySem.Calls PyProof.Rows
abbrev rw0 : OpenLaw := PySem.Challenge.rw_layoutline_k91_whole_made_by_definition
abbrev R : OpenRow := OpenLaw.row rw0
def loo : List PySem.Str := ["Layout", "World"]
abbrev qv : Program := view R.prog [0, 2, 3, 4, 5, 6, 7, 8, 9, 10, 11, 12, 14, 15, 16, 17, 18, 19, 21, 22, 23, 24, 25, 26, 27, 28, 29, 30, 31, 32, 34, 36, 37, 38, 39, 40, 41, 42, 43, 45, 46, 47, 48, 49, 50, 51, 53, 54, 56, 57, 59, 60, 61, 62, 63, 64, 65, 66, 67, 68, 69, 70, 71, 72, 73, 74]
/-- the run of the top -/
noncomputable def runT (w : World) (os : OsState) : Option SharedT := HandSHeadRun.endF (HandSHeadRun.stepQ (HandSHeadRun.denQ HandSHeadRun.tabQ) R.prog w) 7339 R.prog w os
noncomputable abbrev look (s : SharedT) := HandSHeadRun.seenQ qv loo (importedModules R.prog.main.body) (fun s => xlAt qv [] s && recOk R.toRowW.records s) s.abs
section
local macro_rules | `(tactic| o_head $H) => `(tactic| (have _h : PySem.W.Hook := $H; assumption))
set_option maxHeartbeats 0 in
/-- says nothing; the objects that the law's walk reads are written down in it (heap_1) -/
theorem mk (h : R.Holds) : R.Holds := by
  k_head
end
end Hd

set_option autoImplicit true
set_option Elab.async false
set_option maxRecDepth 100000
namespace Hd
open PySem PySem.W PySem.Calls PyProof.Rows
abbrev tsL : List Addr := []
def P0 : Params := { strHash := fun _ => 0, shareClass := fun _ => 0, mergeTok := fun t => t, idOf := fun _ => 0, idOfShared := fun _ _ => 0, followText := fun _ => false, idOfImm := fun _ => 0 }
noncomputable def asL : List Addr := (mk.heap_1 P0).map (·.1)
noncomputable def obT (w : World) (s : SharedT) : List (Option Obj) × List (Option Obj) := ((mk.heap_1 w.params).map fun p => HandSHeadRun.getT s p.1, tsL.map (HandSHeadRun.getT s))
set_option maxHeartbeats 0
theorem run1 (w : World) (os : OsState) : (runT w os).map (fun s => (HandSHeadRun.looksF R.prog (boot_heap w.params) s.abs, obT w s)) = some (true, (mk.heap_1 w.params).map (fun p => some p.2), tsL.map fun _ => some (tabObj #[])) := by kernel_rfl
theorem run2 (w : World) (os : OsState) : (runT w os).map (fun s => ((look s).1, (look s).2.1)) = some (expectedOf qv, bltViewBooted) := by kernel_rfl
theorem run3 (w : World) (os : OsState) : (runT w os).map (fun s => ((look s).2.2.1, (look s).2.2.2.1)) = some (true, true) := by kernel_rfl
theorem run4 (w : World) (os : OsState) : (runT w os).map (fun s => (look s).2.2.2.2.2.1) = some (plainGoodE qv (looseW qv loo)) := by kernel_rfl
theorem run5 (w : World) (os : OsState) : (runT w os).map (fun s => ((look s).2.2.2.2.1, (look s).2.2.2.2.2.2.1, (look s).2.2.2.2.2.2.2.1, (look s).2.2.2.2.2.2.2.2)) = some (pinGoodD (drecsOf qv), plainGoodD qv loo, wideGood qv, clsGoodW qv loo) := by kernel_rfl
theorem asEq (P Q : Params) : (mk.heap_1 P).map (·.1) = (mk.heap_1 Q).map (·.1) := by kernel_rfl
theorem join {α : Type} {s : Option SharedT} {t1 t2 t3 t4 t5 t6 t7 t8 t9 : Type} {lk : SharedT → Bool} {g : SharedT → t1 × t2 × t3 × t4 × t5 × t6 × t7 × t8 × t9} {ob : SharedT → α} {a : α} {a1 a2 a3 a4 a5 a6 a7 a8 a9}
    (h1 : s.map (fun s => (lk s, ob s)) = some (true, a)) (h2 : s.map (fun s => ((g s).1, (g s).2.1)) = some (a1, a2)) (h3 : s.map (fun s => ((g s).2.2.1, (g s).2.2.2.1)) = some (a3, a4)) (h4 : s.map (fun s => (g s).2.2.2.2.2.1) = some a6)
    (h5 : s.map (fun s => ((g s).2.2.2.2.1, (g s).2.2.2.2.2.2.1, (g s).2.2.2.2.2.2.2.1, (g s).2.2.2.2.2.2.2.2)) = some (a5, a7, a8, a9)) : s.map (fun s => (lk s, g s, ob s)) = some (true, (a1, a2, a3, a4, a5, a6, a7, a8, a9), a) := by
  cases s with
  | none => cases h1
  | some s =>
    simp only [Option.map_some, Option.some.injEq, Prod.mk.injEq] at *
    obtain ⟨l, o⟩ := h1
    obtain ⟨e1, e2⟩ := h2
    obtain ⟨e3, e4⟩ := h3
    obtain ⟨e5, e7, e8, e9⟩ := h5
    refine ⟨l, ?_, o⟩
    rw [← e1, ← e2, ← e3, ← e4, ← e5, ← h4, ← e7, ← e8, ← e9]
end Hd

set_option autoImplicit true
set_option Elab.async false
set_option maxRecDepth 100000
namespace Hd
open PySem PySem.W PySem.Calls PyProof.Rows
noncomputable abbrev hk : Hook := kmHook mk.heap_1 asL (fun P => asEq P0 P) tsL
theorem obs_eq (w : World) (s : SharedT) : obT w s = hk.obs s.abs := by
  have e : asL = (mk.heap_1 w.params).map (·.1) := asEq P0 w.params
  show _ = (asL.map s.abs.heap.get?, tsL.map s.abs.heap.get?)
  rw [e, List.map_map]
  exact Prod.ext (List.map_congr_left fun a _ => HandSHeadRun.getT_eq s a.1) (List.map_congr_left fun a _ => HandSHeadRun.getT_eq s a)
theorem runE (w : World) : HandSHeadRun.RunEq R qv hk (fun s => hk.obs s.abs) 7339 loo w := by
  intro os
  have z := join (g := look) (run1 w os) (run2 w os) (run3 w os) (run4 w os) (run5 w os)
  rw [show (obT w) = fun s => hk.obs s.abs from funext (obs_eq w)] at z
  exact z
end Hd

set_option autoImplicit true
set_option Elab.async false
set_option linter.all false
set_option maxRecDepth 100000
set_option maxHeartbeats 1000000
/-! C.m(e, ..): a def of a class called by the class, as Base.__init__(self, ..). -/
namespace Two
open PySem PySem.Spec PyProof.Rows L2 ClX
/-- the def at g stands at C.m -/
structure CFn (K : PySem.W.Frag) (C : Addr) (mc : Value) (m : Str) (g : Addr) : Prop where
  at_ : PySem.W.findCls K (.ref C) mc m = some (.val (.ref g))
  keep : PySem.W.keepIn K (.ref g) = true
def tCFn (C : Addr) (sp : Sp) (dvs : List V) (E : XK) (ta : TE) (t : TA) : TE := fun σ H Q => ta σ H fun x H1 => x = .ref C ∧ t σ H1 fun vs H2 => sp (vs ++ dvs) H2 Q E
section
variable {X : Cx} {CX : CXT} {k : Nat} {C g : Addr} {mc : Value} {fd : FuncData} {ps : List Str} {sp : Sp} {E : XK} {o e : Expr} {es : List Expr} {m : Str} {pos apos : Pos} {ta : TE} {t : TA} {pl : Sem Bool} {ds : List Value} {dvs : List V}
theorem pe_cfn (he : PE X o ta) (r : CRead X.K C mc) (c : CFn X.K C mc m g) (F : FnOk X.prog X.w X.K X.mg X.base CX k g fd ps sp) (hr : Room k X.A) (hb : Binds X.K fd ps ds) (hd : Vals dvs ds) (hx : Passes CX X E) (ha : PA X (e :: es) t)
    (hst : starEach (e :: es) X.env = (false, eval e X.env) :: starEach es X.env := by rfl) (hpl : (backTo pos (starEach es X.env)).any (·.1) = false := by rfl)
    (ht : eval (.Call (.Attribute o m apos) (e :: es) [] pos) X.env = (do
      let ov ← eval o X.env
      standAt apos.atName
      let (f, first) ← holding [ov] (getMethod ov m pl)
      callWith pos f first (backTo pos (starEach (e :: es) X.env)) (backToKw pos (keywordEach [] X.env))) := by rfl) :
    PE X (.Call (.Attribute o m apos) (e :: es) [] pos) (tCFn C sp dvs E ta t) := by
  refine ⟨fun pins s σ H Q I h => ?_⟩
  refine PySem.W.methodCall_KW (pl := pl) (thn (he.run pins s σ H _ I h) fun u s1 ⟨x, H1, I1, rx, ex, q⟩ => ?_) ht
  subst ex
  obtain rfl : u = Value.ref C := rx
  refine PySem.W.method_cls I1.kIn r.ga (PySem.W.cls_value I1.kIn r.rd c.at_ rfl ?_)
  refine PySem.W.callWith_K (h₀ := X.base) I1.ok.mod.kin c.keep (thn (ha.run pos pins _ σ H1 _ (I1.tok _) q) fun us s3 ⟨vs, H2, I3, rv, q2⟩ => ⟨I3.kIn, ?_⟩) hst hpl
  exact run_fn F hr hb hd hx I3 rv q2
end
end Two

set_option autoImplicit true
set_option Elab.async false
set_option linter.all false
set_option maxRecDepth 100000
set_option maxHeartbeats 1000000
/-! Operators of an own class with slots: len(x), x[i], y in x, x + list. -/
namespace Two
open PySem PySem.Spec PyProof.Rows L2 SlX
section
variable {X : Cx} {CX : CXT} {C g : Addr} {n : Nat} {sp : Sp} {E : XK}
/-- len(x) -/
def rLenSl (C : Addr) (sp : Sp) (E : XK) : List V → Hp → VK → Prop := fun xs H Q => ∃ a dx vs, xs = [V.ref a] ∧ Slt H a C dx vs ∧ sp [.ref a] H (fun z H' => ∃ m : Nat, z = .int m ∧ m < 2 ^ 62 ∧ Q (.int m) H') E
theorem call_lenSl (hs : PySem.W.findIn X.K (.ref C) "__len__" = some (some (.ref g))) (hf : PySem.W.isFn X.K (.ref g) = true) (F : FnR X.prog X.w X.K X.mg X.base CX n g sp) (hr : Room (n + 1) X.A) (hx : Passes CX X E) : CallR X (.builtin "len") (rLenSl C sp E) := by
  intro pins s σ H xs us Q I r h
  obtain ⟨a, dx, vs, rfl, hsl, q⟩ := h
  obtain ⟨u, rfl, ru⟩ := r.one
  cases (show u = Value.ref a from ru)
  obtain ⟨sl, od, _, J, _⟩ := slt_inst I hsl
  obtain ⟨mF, hF⟩ := I.fr
  refine PySem.W.len_K hF I.ok.mod.kin J hs hf (wpAny_mono (wpAny_call (run_at (us := [.ref a]) (ws := [.ref a]) F (show Room n X.A.in1 from Room.in1 hr) I.env0.in1 hx I (.cons rfl .nil) q)) (fun w s' z => ?_) fun _ _ x => x)
  obtain ⟨z', H', I', rz, m, ez, hm, qz⟩ := z
  subst ez
  obtain ⟨t, e⟩ := (show ∃ t, w = Value.int m t from rz)
  cases e
  exact ⟨⟨by omega, by omega⟩, .int m, H', I'.tok _, ⟨_, rfl⟩, qz⟩
/-- y in x -/
def rInSl (C : Addr) (sp : Sp) (E : XK) : R2 := fun y x H Q => ∃ a dx vs, x = .ref a ∧ Slt H a C dx vs ∧ sp [x, y] H (fun z H' => ∃ b, z = .bl b ∧ Q (.bl b) H') E
theorem op_inSl (hs : PySem.W.findIn X.K (.ref C) "__contains__" = some (some (.ref g))) (hf : PySem.W.isFn X.K (.ref g) = true) (F : FnR X.prog X.w X.K X.mg X.base CX n g sp) (hr : Room n X.A) (hx : Passes CX X E) : OpR X (compareOp .In) (rInSl C sp E) := by
  intro pins s σ H y x v u Q I ry rx h
  obtain ⟨a, dx, vs, rfl, hsl, q⟩ := h
  cases (show u = Value.ref a from rx)
  obtain ⟨sl, od, _, J, _⟩ := slt_inst I hsl
  obtain ⟨mF, hF⟩ := I.fr
  refine PySem.W.in_K hF I.ok.mod.kin J hs hf (wpAny_mono (wpAny_call (run_fnR (us := [.ref a, v]) (vs := [.ref a, y]) F hr hx I (.cons rfl (.cons ry .nil)) q)) (fun w s' z => ?_) fun _ _ x => x)
  obtain ⟨z', H', I', rz, b, ez, qz⟩ := z
  subst ez
  cases (show w = Value.bool b from rz)
  exact wpAny_truthy_bool ⟨.bl b, H', I', rfl, qz⟩
theorem op_notinSl (hs : PySem.W.findIn X.K (.ref C) "__contains__" = some (some (.ref g))) (hf : PySem.W.isFn X.K (.ref g) = true) (F : FnR X.prog X.w X.K X.mg X.base CX n g sp) (hr : Room n X.A) (hx : Passes CX X E) :
    OpR X (compareOp .NotIn) (fun y x H Q => ∃ a dx vs, x = .ref a ∧ Slt H a C dx vs ∧ sp [x, y] H (fun z H' => ∃ b, z = .bl b ∧ Q (.bl !b) H') E) := by
  intro pins s σ H y x v u Q I ry rx h
  obtain ⟨a, dx, vs, rfl, hsl, q⟩ := h
  cases (show u = Value.ref a from rx)
  obtain ⟨sl, od, _, J, _⟩ := slt_inst I hsl
  obtain ⟨mF, hF⟩ := I.fr
  refine PySem.W.notIn_K hF I.ok.mod.kin J hs hf (wpAny_mono (wpAny_call (run_fnR (us := [.ref a, v]) (vs := [.ref a, y]) F hr hx I (.cons rfl (.cons ry .nil)) q)) (fun w s' z => ?_) fun _ _ x => x)
  obtain ⟨z', H', I', rz, b, ez, qz⟩ := z
  subst ez
  cases (show w = Value.bool b from rz)
  exact wpAny_truthy_bool ⟨.bl !b, H', I', rfl, qz⟩
/-- x[i] -/
def PlainSub (b : Expr) : Prop := ∀ o i, subscripted b true o i = runValue (.builtin "lifetime.subscript" ⟨[o, i], []⟩)
theorem pe_subSl {a b : Expr} {ta tb : TE} {pos : Pos} (ha : PE X a ta) (hb : PE X b tb) (hp : PlainSub b) (hs : PySem.W.findIn X.K (.ref C) "__getitem__" = some (some (.ref g))) (hfn : PySem.W.fnIn X.K g = true) (hf : PySem.W.isFn X.K (.ref g) = true)
    (F : FnR X.prog X.w X.K X.mg X.base CX n g sp) (hr : Room (n + 1) X.A) (hx : Passes CX X E) : PE X (.Subscript a b pos) (tOp (fun x i H Q => ∃ a dx vs, x = .ref a ∧ Slt H a C dx vs ∧ sp [x, i] H Q E) ta tb) := by
  refine ⟨fun pins s σ H Q I h => Subscript_ (binT ha hb I h fun v u s2 x y H2 I2 rx ry q => ?_)⟩
  obtain ⟨a, dx, vs, rfl, hsl, q⟩ := q
  cases (show v = Value.ref a from rx)
  obtain ⟨sl, od, _, J, _⟩ := slt_inst I2 hsl
  obtain ⟨mF, hF⟩ := I2.fr
  exact PySem.W.sub_K hF I2.ok.mod.kin J hs hfn hf (wpAny_mono (wpAny_call (run_at (us := [.ref a, u]) (ws := [.ref a, y]) F (show Room n X.A.in1 from Room.in1 hr) I2.env0.in1 hx I2 (.cons rfl (.cons ry .nil)) q)) (fun w s' z => z) fun _ _ x => x) (hp _ _)
end
end Two

set_option autoImplicit true
set_option Elab.async false
set_option linter.all false
set_option maxRecDepth 100000
set_option maxHeartbeats 1000000
/-! x + list, x == y of any y. -/
namespace PySem.W
open PySem PySem.Spec PySem.Calls PyProof.Rows
section
variable {prog : Program} {w : World} {A : Around} {E : Value → Shared → Prop} {s : Shared} {K : Frag} {x C L f : Addr} {h0 : Heap} {m : Str → Option Value} {ox : Obj} {od : Option Obj}
/-- an own instance and a thing of a built-in type that the operator does not know -/
theorem bin_other {op : Operator} {b : Value} {T : String} {fo ro : Option Value} {Q : Value → Shared → Prop} (F : Fr h0 L s.heap m) (X0 : K.In h0) (I : InstAt s.heap x ox C od)
    (hb : ∀ h, (∀ b o, s.heap.get? b = some o → h.get? b = some o) → Looks (model prog w) h (typeOf b) (.type T)) (hc : selfFirst K C = true)
    (hs : findIn K (.ref C) (PySem.dunder op.info.2) = some (some (.ref f))) (hf : isFn K (.ref f) = true)
    (h1 : findIn K (.type T) (PySem.dunder op.info.2) = some fo) (h2 : findIn K (.type T) (dunderR op.info.2) = some ro) (no : ((fo.isSome && !isSeqSlot fo) || (ro.isSome && !isSeqSlot ro)) = false)
    (h : wpAny (model prog w) A (call (.ref f) [.ref x, b]) (CmpBack Q) E s) : wpAny (model prog w) A (binaryOp op (.ref x) b) Q E s := by
  have X := X0.keeps F.keep
  obtain ⟨cd, rest, hcd, hm⟩ := ksp_first hc
  rcases hi : op.info with ⟨sym, nm⟩
  simp only [hi] at hs h1 h2
  have one := ksp_try X I hs hf h
  have lb := hb s.heap (fun _ _ e => e)
  obtain ⟨hh, g, d, tt, os⟩ := s
  have a1 := I.type (M := model prog w)
  have a3 := fills_K (M := model prog w) X hcd hm hs
  have a4 := ksp_fillsT (M := model prog w) X h1 h2
  rw [no] at a4
  have ne : (Value.ref C == Value.type T) = false := Bool.eq_false_iff.mpr fun q => nomatch beq_iff_eq.mp q
  simp only [binaryOp, hi]
  refine wpAny_holding (wpAny_bind ?_)
  unfold binaryOp1
  refine wpAny_bind (a1.at (wpAny_bind (lb.at (wpAny_bind (a3.at ?_)))))
  simp only [ne, if_neg Bool.false_ne_true]
  ksp_lk
  refine wpAny_mono one (fun r s2 ⟨v, e, hq⟩ => ?_) fun _ _ e => e
  subst e
  ksp_lk
  exact hq
end
end PySem.W
namespace Two
open PySem PySem.Spec PyProof.Rows L2 SlX
section
variable {X : Cx} {CX : CXT} {C g : Addr} {n : Nat} {sp : Sp} {E : XK}
/-- x op y, y of any kind whose type is no class below C -/
def rCmpSl (K : PySem.W.Frag) (C : Addr) (sp : Sp) (E : XK) : R2 := fun x y H Q => ∃ a dx vs t, x = .ref a ∧ Slt H a C dx vs ∧ TyX K H y t ∧ PySem.W.notFirst K C t = true ∧ sp [x, y] H Q E
theorem op_cmpSl {op : CmpOp} (hop : ∀ a b, compareOp op a b = richCompare op a b) (hs : PySem.W.findIn X.K (.ref C) (cmpInfo op).2.1 = some (some (.ref g))) (hf : PySem.W.isFn X.K (.ref g) = true) (F : FnR X.prog X.w X.K X.mg X.base CX n g sp)
    (hr : Room n X.A) (hx : Passes CX X E) : OpR X (compareOp op) (rCmpSl X.K C sp E) := by
  intro pins s σ H x y v u Q I rx ry h
  obtain ⟨a, dx, vs, t, rfl, ha, ty, hn, q⟩ := h
  cases (show v = Value.ref a from rx)
  obtain ⟨sl, od, _, J, _⟩ := slt_inst I ha
  obtain ⟨mF, hF⟩ := I.fr
  obtain ⟨Pk, kx, pk, _⟩ := kit_of I ry ty
  rw [hop]
  refine PySem.W.cmp_K (op := op) (tb := t) hr.units0 hF I.ok.mod.kin J (kx.ty _ _ I.kIn pk) hn hs hf ?_
  refine wpAny_mono (wpAny_call (run_fnR (us := [.ref a, u]) (vs := [.ref a, y]) F hr hx I (.cons rfl (.cons ry .nil)) q)) (fun w s' z => ?_) fun _ _ x => x
  obtain ⟨z', H', I', rz, qz⟩ := z
  exact cmpback rz ⟨z', H', I', rz, qz⟩
/-- x + l, l a list -/
def rAddSl (C : Addr) (sp : Sp) (E : XK) : R2 := fun x y H Q => ∃ a dx vs l xs, x = .ref a ∧ Slt H a C dx vs ∧ y = .ref l ∧ H l = some (.lst xs) ∧ sp [x, y] H Q E
theorem op_addSl (hc : PySem.W.selfFirst X.K C = true) (hs : PySem.W.findIn X.K (.ref C) "__add__" = some (some (.ref g))) (hf : PySem.W.isFn X.K (.ref g) = true) {fo ro : Option Value} (h1 : PySem.W.findIn X.K (.type "list") "__add__" = some fo) (h2 : PySem.W.findIn X.K (.type "list") "__radd__" = some ro)
    (no : ((fo.isSome && !isSeqSlot fo) || (ro.isSome && !isSeqSlot ro)) = false) (F : FnR X.prog X.w X.K X.mg X.base CX n g sp) (hr : Room n X.A) (hx : Passes CX X E) : OpR X (binaryOp .Add) (rAddSl C sp E) := by
  intro pins s σ H x y v u Q I rx ry h
  obtain ⟨a, dx, vs, l, xs, rfl, ha, rfl, hl, q⟩ := h
  cases (show v = Value.ref a from rx)
  cases (show u = Value.ref l from ry)
  obtain ⟨sl, od, _, J, _⟩ := slt_inst I ha
  obtain ⟨mF, hF⟩ := I.fr
  obtain ⟨Pk, kx, pk, _⟩ := kit_of I ry (.base (.lst hl) : TyX X.K H (.ref l) (.type "list"))
  refine PySem.W.bin_other (op := .Add) (T := "list") hF I.ok.mod.kin J (fun h k => (kx.ty _ _ I.kIn pk).keeps k) hc hs hf h1 h2 no ?_
  refine wpAny_mono (wpAny_call (run_fnR (us := [.ref a, .ref l]) (vs := [.ref a, .ref l]) F hr hx I (.cons rfl (.cons rfl .nil)) q)) (fun w s' z => ?_) fun _ _ x => x
  obtain ⟨z', H', I', rz, qz⟩ := z
  exact cmpback rz ⟨z', H', I', rz, qz⟩
end
end Two

set_option autoImplicit true
set_option Elab.async false
set_option linter.all false
set_option maxRecDepth 100000
set_option maxHeartbeats 1000000
/-! max(xs, key=len, default=[]) of a list of lists. -/
namespace Mx
open PySem PySem.Spec PyProof.Rows
theorem args_max2 (a v d : Value) : argsOk "max" ⟨[a], [(Str.ofString "key", v), (Str.ofString "default", d)]⟩ := by unfold argsOk; kernel_rfl
/-- how the heap stands between two turns: all of before, the best so far at S, the iterator at I -/
structure At (g0 : Heap) (l I S : Addr) (j : Nat) (b : Value) (k : Int) (g : Heap) : Prop where
  kp : ∀ c o, g0.get? c = some o → g.get? c = some o
  best : ∃ n t, g.get? S = some (seqObj "list" #[b, .int k t] n)
  it : g.IsListIter I l j
def Best (ks : Nat → Int) (n i : Nat) : Prop := ∀ p, p < n → ks p ≤ ks i ∧ (p < i → ks p < ks i)
section
variable {prog : Program} {w : World} {A : Around} {E : Value → Shared → Prop} {s0 : Shared} {l I S : Addr} {d : Value} {xs : List Value} {R : Result → Shared → Prop} {Q : Value → Shared → Prop}
/-- the key of an item, at any heap that keeps what was -/
def KeyOf (prog : Program) (w : World) (A : Around) (s0 : Shared) (xs : List Value) (ks : Nat → Int) : Prop := ∀ (i : Nat) (x : Value), xs[i]? = some x → ∀ (g : Heap) (tk : Nat), (∀ c o, s0.heap.get? c = some o → g.get? c = some o) →
  wpAny (model prog w) A.in1 (call (.builtin "len") [x]) (fun y s' => ∃ tk' t, y = .int (ks i) t ∧ s' = { s0 with heap := g, toks := tk' }) (fun _ _ => False) { s0 with heap := g, toks := tk }
theorem isl_keep {g0 g : Heap} {its : Array Value} (h : g0.IsList l its) (kp : ∀ c o, g0.get? c = some o → g.get? c = some o) : g.IsList l its := let ⟨o, a, b⟩ := h; ⟨o, kp _ _ a, b⟩
theorem turns (ks : Nat → Int) (hh : A.handled = none) (isl : s0.heap.IsList l xs.toArray) (newI : s0.heap.objs.size ≤ I) (newS : s0.heap.objs.size ≤ S) (IS : S ≠ I) (key : KeyOf prog w A s0 xs ks)
    (fin : ∀ i x g tk, xs[i]? = some x → Best ks xs.length i → (∀ c o, s0.heap.get? c = some o → g.get? c = some o) → R (.ok (.ret x)) { s0 with heap := g, toks := tk }) :
    ∀ (r j i : Nat) (g : Heap) (tk : Nat) (b : Value), xs.length - j = r → j ≤ xs.length → At s0.heap l I S j b (ks i) g → xs[i]? = some b → i < j → Best ks j i →
      codeAny (model prog w) A (.builtin "max.loop" ⟨[.ref I, .builtin "len", .ref S], [(Str.ofString "default", d)]⟩) R { s0 with heap := g, toks := tk } := by
  have hname : (toString "max" ++ toString ".loop" : String) = "max.loop" := by decide
  have lI : l ≠ I := by
    obtain ⟨o, a, _⟩ := isl
    exact Nat.ne_of_lt (Nat.lt_of_lt_of_le (Heap.lt_size a) newI)
  have W := Walks.list (prog := prog) (w := w) (A := A.in1) hh I l lI xs.toArray
  have out : ∀ {c : Addr} {o : Obj}, s0.heap.get? c = some o → c ≠ I ∧ c ≠ S := fun e => ⟨Nat.ne_of_lt (Nat.lt_of_lt_of_le (Heap.lt_size e) newI), Nat.ne_of_lt (Nat.lt_of_lt_of_le (Heap.lt_size e) newS)⟩
  intro r
  induction r with
  | zero =>
    intro j i g tk b hr hj a hb hij bst
    have ej : j = xs.length := by omega
    obtain ⟨n, t, hS⟩ := a.best
    refine codeAny_builtin PySem.F.entry_max_loop ?_
    rw [Around.under_plainId PySem.F.plain_max_loop _]
    show wpAny _ A.in1 (seqItems? (.ref S) >>= _) _ _ _
    refine wpAny_bind (wpAny_seqItems hS rfl ?_)
    show wpAny _ A.in1 (tryCatch (pyNext (.ref I)) _ >>= _) _ _ _
    refine wpAny_bind (wpAny_tryCatch (W.done _ _ _ ⟨by rw [List.size_toArray, ← ej]; exact a.it, isl_keep isl a.kp⟩ fun g1 tk1 k1 => ?_))
    show wpAny _ A.in1 (updateSeq S (fun _ => #[]) >>= _) _ _ _
    have u1 := Heap.SameBut.update g1 S (Obj.mapSeq fun _ => (#[] : Array Value))
    refine wpAny_bind (wpAny_updateSeq (k1 S _ (by simpa using IS) hS) rfl (wpAny_bind (wpAny_letGo (wpAny_pure ?_))))
    refine fin i b _ _ hb (by rw [← ej]; exact bst) fun c o e => ?_
    exact (u1.2 c (out e).2).trans (k1 c o (by simpa using (out e).1) (a.kp c o e))
  | succ r ih =>
    intro j i g tk b hr hj a hb hij bst
    have jl : j < xs.length := by omega
    obtain ⟨n, t, hS⟩ := a.best
    refine codeAny_builtin PySem.F.entry_max_loop ?_
    rw [Around.under_plainId PySem.F.plain_max_loop _]
    show wpAny _ A.in1 (seqItems? (.ref S) >>= _) _ _ _
    refine wpAny_bind (wpAny_seqItems hS rfl ?_)
    show wpAny _ A.in1 (tryCatch (pyNext (.ref I)) _ >>= _) _ _ _
    refine wpAny_bind (wpAny_tryCatch (W.item j _ _ _ (by rw [List.size_toArray]; exact jl) ⟨a.it, isl_keep isl a.kp⟩ fun x g1 tk1 hx st1 k1 => ?_))
    have hx : xs[j]? = some x := by simpa using hx
    have it1 := st1.1
    have kp1 : ∀ c o, s0.heap.get? c = some o → g1.get? c = some o := fun c o e => k1 c o (by simpa using (out e).1) (a.kp c o e)
    have hS1 := k1 S _ (by simpa using IS) hS
    show wpAny _ A.in1 (tryCatch (holding [x] (call (.builtin "len") [x])) _ >>= _) _ _ _
    refine wpAny_bind (wpAny_tryCatch (wpAny_holding (wpAny_mono (key j x hx g1 tk1 kp1) (fun y s2 he => ?_) fun _ _ z => z.elim)))
    obtain ⟨tk2, t2, rfl, rfl⟩ := he
    show wpAny _ A.in1 (tryCatch (holding [x, .int (ks j) t2] (richCompare .Gt (.int (ks j) t2) (.int (ks i) t) >>= _)) _ >>= _) _ _ _
    refine wpAny_bind (wpAny_tryCatch (wpAny_holding (wpAny_bind (CmpOf.ints_gt (prog := prog) (w := w) (A := A.in1) (P := fun p v => ∃ t, v = .int (ks p) t) ks (fun _ _ q => q) j i _ _ _ _ _ ⟨t2, rfl⟩ ⟨t, rfl⟩ ?_))))
    refine wpAny_bind (wpAny_holding (wpAny_truthy_bool (wpAny_bind (wpAny_letGo (wpAny_pure ?_)))))
    by_cases better : ks j > ks i
    · simp only [better, decide_true, if_true]
      have u1 := Heap.SameBut.update g1 S (Obj.mapSeq fun _ => #[x, .int (ks j) t2])
      refine wpAny_bind (wpAny_updateSeq hS1 rfl (wpAny_bind (wpAny_letGo ?_)))
      rw [hname]
      refine wpAny_pure ⟨plainId_quiet PySem.F.plain_max_loop _, ih (j + 1) j _ _ x (by omega) jl ⟨fun c o e => (u1.2 c (out e).2).trans (kp1 c o e), ⟨_, t2, get?_update_seq hS1 fun _ => #[x, .int (ks j) t2]⟩, ?_⟩ hx (Nat.lt_succ_self _) fun p hp => ?_⟩
      · obtain ⟨oI, h1, h2⟩ := it1
        exact ⟨oI, (u1.2 I IS.symm).trans h1, h2⟩
      · by_cases e : p = j
        · subst e
          exact ⟨Int.le_refl _, fun z => absurd z (Nat.lt_irrefl _)⟩
        · have := (bst p (by omega)).1
          exact ⟨by omega, fun _ => by omega⟩
    · simp only [better, decide_false, Bool.false_eq_true, if_false]
      refine wpAny_bind (wpAny_letGo ?_)
      rw [hname]
      refine wpAny_pure ⟨plainId_quiet PySem.F.plain_max_loop _, ih (j + 1) i _ _ b (by omega) jl ⟨kp1, ⟨n, t, hS1⟩, it1⟩ hb (by omega) fun p hp => ?_⟩
      by_cases e : p = j
      · subst e
        exact ⟨by omega, fun z => by omega⟩
      · exact bst p (by omega)
theorem max_len (ks : Nat → Int) (hh : A.handled = none) (isl : s0.heap.IsList l xs.toArray) (key : KeyOf prog w A s0 xs ks) (none_ : xs = [] → ∀ g tk, (∀ c o, s0.heap.get? c = some o → g.get? c = some o) → Q d { s0 with heap := g, toks := tk })
    (fin : ∀ i x g tk, xs[i]? = some x → Best ks xs.length i → (∀ c o, s0.heap.get? c = some o → g.get? c = some o) → Q x { s0 with heap := g, toks := tk }) :
    wpAny (model prog w) A (call (.builtin "max") [.ref l] [(Str.ofString "key", .builtin "len"), (Str.ofString "default", d)]) Q E s0 := by
  have hname : (toString "max" ++ toString ".loop" : String) = "max.loop" := by decide
  refine kmb_tree PySem.F.kind_max PySem.F.plain_max PySem.F.entry_max (args_max2 _ _ _) ?_
  show wpAny _ A.in1 (Builtin.Builtins.bindParams "max" ["key", "default"] 0 ⟨[], [(Str.ofString "key", .builtin "len"), (Str.ofString "default", d)]⟩ >>= _) _ _ s0
  refine wpAny_bind (wpAny_of_eq (show Builtin.Builtins.bindParams "max" ["key", "default"] 0 ⟨[], [(Str.ofString "key", .builtin "len"), (Str.ofString "default", d)]⟩ = pure [some (.builtin "len"), some d] from rfl) (wpAny_bind (wpAny_pure (wpAny_bind (wpAny_pyIter_list isl (wpAny_bind (wpAny_newList ?_ (Nat.zero_le _))))))))
  rw [hname]
  obtain ⟨I, hI⟩ : ∃ I, I = s0.heap.objs.size := ⟨_, rfl⟩
  obtain ⟨g1, hg1⟩ : ∃ g1, g1 = s0.heap.push { cls := .type "list_iterator", data := .fields #[.ref l, .int 0 0] } := ⟨_, rfl⟩
  obtain ⟨S, hS⟩ : ∃ S, S = g1.objs.size := ⟨_, rfl⟩
  have eS : S = I + 1 := by rw [hS, hg1, hI]; exact size_push' ..
  rw [← hI, ← hg1, ← hS]
  refine wpAny_pure ⟨plainId_quiet PySem.F.plain_max_loop _, ?_⟩
  obtain ⟨g2, hg2⟩ : ∃ g2, g2 = g1.push (seqObj "list" #[] 0) := ⟨_, rfl⟩
  have kp : ∀ c o, s0.heap.get? c = some o → g2.get? c = some o := fun c o e => by rw [hg2, hg1]; exact Heap.get?_push_of_some _ (Heap.get?_push_of_some _ e)
  have aI : g2.get? I = some { cls := .type "list_iterator", data := .fields #[.ref l, .int 0 0] } := by rw [hg2, hg1, hI]; exact Heap.get?_push_of_some _ (Heap.get?_push_size _ rfl)
  have aS : g2.get? S = some (seqObj "list" #[] 0) := by rw [hg2, hS]; exact Heap.get?_push_size _ rfl
  have newI : s0.heap.objs.size ≤ I := by rw [hI]; exact Nat.le_refl _
  have newS : s0.heap.objs.size ≤ S := by rw [eS, hI]; exact Nat.le_succ _
  have IS : S ≠ I := by omega
  have lI : l ≠ I := by
    obtain ⟨o, a, _⟩ := isl
    exact Nat.ne_of_lt (Nat.lt_of_lt_of_le (Heap.lt_size a) newI)
  have out : ∀ {c : Addr} {o : Obj}, s0.heap.get? c = some o → c ≠ I ∧ c ≠ S := fun e => ⟨Nat.ne_of_lt (Nat.lt_of_lt_of_le (Heap.lt_size e) newI), Nat.ne_of_lt (Nat.lt_of_lt_of_le (Heap.lt_size e) newS)⟩
  have W := Walks.list (prog := prog) (w := w) (A := A.in1) hh I l lI xs.toArray
  show codeAny (model prog w) A _ _ { s0 with heap := g1.push (seqObj "list" #[] 0) }
  rw [← hg2]
  refine codeAny_builtin PySem.F.entry_max_loop ?_
  rw [Around.under_plainId PySem.F.plain_max_loop _]
  show wpAny _ A.in1 (seqItems? (.ref S) >>= _) _ _ _
  refine wpAny_bind (wpAny_seqItems aS rfl ?_)
  show wpAny _ A.in1 (tryCatch (pyNext (.ref I)) _ >>= _) _ _ _
  by_cases e0 : xs = []
  · subst e0
    refine wpAny_bind (wpAny_tryCatch (W.done _ _ _ ⟨⟨_, aI, rfl, rfl⟩, isl_keep isl kp⟩ fun g3 tk3 k3 => ?_))
    show wpAny _ A.in1 (rule _ >>= fun _ => ret d) _ _ _
    refine wpAny_bind (wpAny_rule (wpAny_pure ?_))
    exact none_ rfl g3 tk3 fun c o e => k3 c o (by simpa using (out e).1) (kp c o e)
  · have h0 : 0 < xs.length := List.length_pos_iff.mpr e0
    refine wpAny_bind (wpAny_tryCatch (W.item 0 _ _ _ (by rw [List.size_toArray]; exact h0) ⟨⟨_, aI, rfl, rfl⟩, isl_keep isl kp⟩ fun x g3 tk3 hx st1 k3 => ?_))
    have hx : xs[0]? = some x := by simpa using hx
    have it1 := st1.1
    have kp3 : ∀ c o, s0.heap.get? c = some o → g3.get? c = some o := fun c o e => k3 c o (by simpa using (out e).1) (kp c o e)
    have aS3 := k3 S _ (by simpa using IS) aS
    show wpAny _ A.in1 (tryCatch (holding [x] (call (.builtin "len") [x])) _ >>= _) _ _ _
    refine wpAny_bind (wpAny_tryCatch (wpAny_holding (wpAny_mono (key 0 x hx g3 tk3 kp3) (fun y s2 he => ?_) fun _ _ z => z.elim)))
    obtain ⟨tk2, t2, rfl, rfl⟩ := he
    have u1 := Heap.SameBut.update g3 S (Obj.mapSeq fun _ => #[x, .int (ks 0) t2])
    show wpAny _ A.in1 (updateSeq S (fun _ => #[x, .int (ks 0) t2]) >>= _) _ _ _
    refine wpAny_bind (wpAny_updateSeq aS3 rfl ?_)
    rw [hname]
    refine wpAny_pure ⟨plainId_quiet PySem.F.plain_max_loop _, turns ks hh isl newI newS IS key fin (xs.length - 1) 1 0 _ _ x rfl h0 ⟨fun c o e => (u1.2 c (out e).2).trans (kp3 c o e), ⟨_, t2, get?_update_seq aS3 fun _ => #[x, .int (ks 0) t2]⟩, ?_⟩ hx (Nat.lt_succ_self _) fun p hp => ?_⟩
    · obtain ⟨oI, h1, h2⟩ := it1
      exact ⟨oI, (u1.2 I IS.symm).trans h1, h2⟩
    · obtain rfl : p = 0 := by omega
      exact ⟨Int.le_refl _, fun z => absurd z (Nat.lt_irrefl _)⟩
end
end Mx

set_option autoImplicit true
set_option Elab.async false
set_option linter.all false
set_option maxRecDepth 100000
set_option maxHeartbeats 4000000
/-! A dict comprehension of two plain clauses: {kx: vx for t0 in i0 for t1 in i1}. -/
namespace Two
open PySem PySem.Spec PyProof.Rows L2

abbrev dc2 (kx vx t0 i0 t1 i1 : Expr) (sc : Scope) (ps : Pos) : Expr :=
  .DictComp kx vx [⟨t0, i0, [], 0⟩, ⟨t1, i1, [], 0⟩] sc ps

section
variable {P : Program} {w : World} {A : Around} {s : Shared}
variable {kx vx t0 i0 t1 i1 : Expr} {sc : Scope} {ps : Pos} {it : Value} {D : Addr} {en : Env}

/-- what an error does in the block -/
abbrev erE (P : Program) (w : World) (A : Around) (en : Env) (R : Result → Shared → Prop) : Value → Shared → Prop :=
  notedBy (model P w) A en fun e z => R (.error e) z

theorem turnOut : compTurn (dc2 kx vx t0 i0 t1 i1 sc ps) 0 it (.ref D) en = (do
      standAt i0.pos
      match ← pyNext it with
      | none => pure (.done .next)
      | some v =>
        letOwnedTupleGo t0 it v
        assign t0 en v
        let y ← eval i1 en
        standAt i1.pos
        let y ← foldedSetIterable i1 en y
        let _ ← runOwn (.compStart (dc2 kx vx t0 i0 t1 i1 sc ps) 1 (← holding [y] (pyIter y)) (.ref D) en) en
        again (.compLoop (dc2 kx vx t0 i0 t1 i1 sc ps) 0 it (.ref D) en)) := by rfl

theorem turnIn : compTurn (dc2 kx vx t0 i0 t1 i1 sc ps) 1 it (.ref D) en = (do
      standAt i1.pos
      match ← pyNext it with
      | none => pure (.done .next)
      | some v =>
        letOwnedTupleGo t1 it v
        assign t1 en v
        (do
          let a ← eval kx en
          let b ← holding [a] (eval vx en)
          standAt { kx.pos with endLine := vx.pos.endLine, endCol := vx.pos.endCol }
          holding [a, b] (dictSet D a b))
        again (.compLoop (dc2 kx vx t0 i0 t1 i1 sc ps) 1 it (.ref D) en)) := by rfl

/-- one turn of the first clause -/
theorem loopOut {R : Result → Shared → Prop} (hf : ∀ y, foldedSetIterable i1 en y = pure y) (J : Nat → Shared → Prop)
    (go : ∀ n z, J n z → wpAny (model P w) A (pyNext it) (fun r z1 => match r with
      | none => R (.ok .next) z1
      | some v => wpAny (model P w) A (letOwnedTupleGo t0 it v) (fun _ z2 =>
          wpAny (model P w) A (assign t0 en v) (fun _ z3 =>
            wpAny (model P w) A (eval i1 en) (fun y z4 =>
              wpAny (model P w) A (pyIter y) (fun j z5 =>
                codeAny (model P w) A (.compStart (dc2 kx vx t0 i0 t1 i1 sc ps) 1 j (.ref D) en)
                  (fun q z6 => match q with | .ok _ => ∃ m, m < n ∧ J m z6 | .error _ => False) z5)
              (erE P w A en R) z4) (erE P w A en R) z3) (erE P w A en R) z2) (erE P w A en R) z1) (erE P w A en R) z)
    (n : Nat) (h : J n s) : codeAny (model P w) A (.compLoop (dc2 kx vx t0 i0 t1 i1 sc ps) 0 it (.ref D) en) R s := by
  refine codeAny_loop rfl J (fun n z hz => ?_) n h
  show wpAny _ A ((compTurn (dc2 kx vx t0 i0 t1 i1 sc ps) 0 it (.ref D) en).onRaise (fun x => do noteFrame x en; theTreesLotGoes x)) _ _ z
  refine wpAny_noted ?_
  rw [turnOut]
  refine wpAny_bind (wpAny_standAt (wpAny_bind (wpAny_mono (go n z hz) (fun r z1 g1 => ?_) fun _ _ k => k)))
  match r, g1 with
  | none, g1 => exact wpAny_pure g1
  | some v, g1 =>
    refine wpAny_bind (wpAny_mono g1 (fun _ z2 g2 => wpAny_bind (wpAny_mono g2 (fun _ z3 g3 => ?_) fun _ _ k => k)) fun _ _ k => k)
    refine wpAny_bind (wpAny_mono g3 (fun y z4 g4 => wpAny_bind (wpAny_standAt ?_)) fun _ _ k => k)
    refine wpAny_bind (wpAny_of_eq (hf y) (wpAny_bind (wpAny_holding (wpAny_mono g4 (fun j z5 g5 => ?_) fun _ _ k => k))))
    refine wpAny_bind (wpAny_runOwn ?_)
    rw [Around.mark_none]
    refine codeAny_mono g5 fun q z6 g6 => ?_
    match q, g6 with
    | .ok f, g6 =>
      first
        | exact wpAny_pure ⟨rfl, g6⟩
        | exact wpAny_bind (wpAny_pure (wpAny_pure ⟨rfl, g6⟩))
    | .error e, g6 => exact g6.elim

/-- one turn of the second -/
theorem loopIn {R : Result → Shared → Prop} (J : Nat → Shared → Prop)
    (go : ∀ n z, J n z → wpAny (model P w) A (pyNext it) (fun r z1 => match r with
      | none => R (.ok .next) z1
      | some v => wpAny (model P w) A (letOwnedTupleGo t1 it v) (fun _ z2 =>
          wpAny (model P w) A (assign t1 en v) (fun _ z3 =>
            wpAny (model P w) A (eval kx en) (fun a z4 =>
              wpAny (model P w) A (eval vx en) (fun b z5 =>
                wpAny (model P w) A (dictSet D a b) (fun _ z6 => ∃ m, m < n ∧ J m z6) (erE P w A en R) z5)
              (erE P w A en R) z4) (erE P w A en R) z3) (erE P w A en R) z2) (erE P w A en R) z1) (erE P w A en R) z)
    (n : Nat) (h : J n s) : codeAny (model P w) A (.compLoop (dc2 kx vx t0 i0 t1 i1 sc ps) 1 it (.ref D) en) R s := by
  refine codeAny_loop rfl J (fun n z hz => ?_) n h
  show wpAny _ A ((compTurn (dc2 kx vx t0 i0 t1 i1 sc ps) 1 it (.ref D) en).onRaise (fun x => do noteFrame x en; theTreesLotGoes x)) _ _ z
  refine wpAny_noted ?_
  rw [turnIn]
  refine wpAny_bind (wpAny_standAt (wpAny_bind (wpAny_mono (go n z hz) (fun r z1 g1 => ?_) fun _ _ k => k)))
  match r, g1 with
  | none, g1 => exact wpAny_pure g1
  | some v, g1 =>
    refine wpAny_bind (wpAny_mono g1 (fun _ z2 g2 => wpAny_bind (wpAny_mono g2 (fun _ z3 g3 => ?_) fun _ _ k => k)) fun _ _ k => k)
    refine wpAny_bind (wpAny_bind (wpAny_mono g3 (fun a z4 g4 => ?_) fun _ _ k => k))
    refine wpAny_bind (wpAny_holding (wpAny_mono g4 (fun b z5 g5 => ?_) fun _ _ k => k))
    exact wpAny_bind (wpAny_standAt (wpAny_holding (wpAny_mono g5 (fun _ z6 g6 => wpAny_pure ⟨rfl, g6⟩) fun _ _ k => k)))

/-- where the second clause begins -/
theorem startIn {R : Result → Shared → Prop} (h0 : codeAny (model P w) A (.compLoop (dc2 kx vx t0 i0 t1 i1 sc ps) 1 it (.ref D) en) R s)
    (h : wpAny (model P w) A (pyIter it) (fun j z => codeAny (model P w) A (.compLoop (dc2 kx vx t0 i0 t1 i1 sc ps) 1 j (.ref D) en) R z) (erE P w A en R) s) :
    codeAny (model P w) A (.compStart (dc2 kx vx t0 i0 t1 i1 sc ps) 1 it (.ref D) en) R s := by
  refine codeAny_of_tree ?_
  show wpAny _ _ ((compStart (dc2 kx vx t0 i0 t1 i1 sc ps) 1 it (.ref D) en).onRaise (fun x => do noteFrame x en; standAt theWindowsPlace)) _ _ s
  refine wpAny_notedAt ?_
  unfold compStart
  show wpAny _ _ (ask >>= _) _ _ s
  refine wpAny_bind (wpAny_askSetting (wpAny_ite ?_))
  split
  · first
      | exact wpAny_bind (wpAny_pure (wpAny_pure ⟨rfl, h0⟩))
      | exact wpAny_pure ⟨rfl, h0⟩
  · refine wpAny_bind (wpAny_rule ?_)
    show wpAny _ _ (standAt i1.pos >>= _) _ _ s
    exact wpAny_bind (wpAny_standAt (wpAny_bind (wpAny_mono h (fun j z k => wpAny_pure ⟨rfl, k⟩) fun _ _ k => k)))
end
end Two

set_option autoImplicit true
set_option Elab.async false
set_option linter.all false
set_option maxRecDepth 100000
set_option maxHeartbeats 4000000
namespace Two
open PySem PySem.Spec PyProof.Rows L2
section
variable {X : Cx}

/-- the cells of a comprehension's own frame at C -/
abbrev cxB (X : Cx) (s : Shared) (H : Hp) (sc : Scope) (C : Addr) (cl : List (Str × Addr)) (fp : List Addr) : Cx := X.blk s H sc (compEnvC sc cl C X.env) fp

/-- what the inner clause is to do from heap G: own measure, then Nx -/
def inner (J1 : It) (g1 : TG) (tk tv : TE) (vs1 : List Nat) (D : Addr) (σ2 : L2.St) (Nx : Hp → Prop) (G : Hp) : Prop :=
  ∃ W1 : Nat → Nat → Hp → Prop, (∃ m, W1 0 m G) ∧ ∀ j k G1, W1 j k G1 →
    (J1.stop j G1 ∧ Nx G1) ∨ (J1.go j G1 ∧ ∃ N1 : Hp → Prop, (∀ G2, N1 G2 → ∃ k2, k2 < k ∧ W1 (j + 1) k2 G2) ∧
      ∀ x G2, J1.yld j G1 x G2 → g1 x (wipe σ2 vs1) G2 fun σ3 G3 => wipe σ3 vs1 = wipe σ2 vs1 ∧
        tk σ3 G3 fun y G4 => tv σ3 G4 fun z G5 => ∃ kvs k0, y = kV k0 ∧ G5 D = some (.dK kvs) ∧ kvs.length < sizeLine ∧ N1 (upd G5 D (.dK (putK kvs k0 z))))
/-- the outer clause over the new dict D -/
def outer (J : It) (g : TG) (wi1 : TI) (g1 : TG) (tk tv : TE) (vs vs1 : List Nat) (D : Addr) (σ : L2.St) (Qd : Hp → Prop) (G : Hp) : Prop :=
  ∃ W : Nat → Nat → Hp → Prop, (∃ m, W 0 m G) ∧ ∀ i m G1, W i m G1 →
    (J.stop i G1 ∧ Qd G1) ∨ (J.go i G1 ∧ ∃ Nx : Hp → Prop, (∀ G2, Nx G2 → ∃ m2, m2 < m ∧ W (i + 1) m2 G2) ∧
      ∀ x G2, J.yld i G1 x G2 → g x (wipe σ vs) G2 fun σ2 G3 => wipe σ2 vs = wipe σ vs ∧
        wi1 σ2 G3 fun J1 G4 => inner J1 g1 tk tv vs1 D σ2 Nx G4)
/-- {kx: vx for t0 in i0 for t1 in i1} -/
def tDc2 (wi : TI) (g : TG) (wi1 : TI) (g1 : TG) (tk tv : TE) (vs vs1 : List Nat) : TE := fun σ H Q =>
  wi σ H fun J H1 => ∀ D, H1 D = none → outer J g wi1 g1 tk tv vs vs1 D σ (Q (.ref D)) (upd H1 D (.dK []))

theorem wipe_keep {σ : L2.St} {i : Nat} {v : V} {a b : List Nat} (sub : ∀ j ∈ b, j ∈ a) {τ : L2.St} (e : wipe τ a = wipe σ a) (h : (wipe σ a)[i]? = some (some v)) : (wipe τ b)[i]? = some (some v) ∧ τ[i]? = some (some v) := by
  rw [← e] at h
  obtain ⟨h1, h2⟩ := wipe_some h
  exact ⟨by rw [wipe_out fun q => h2 (sub _ q)]; exact h1, h1⟩

theorem dc2_core {pins : List (Addr × Obj)} {s : Shared} {σ : L2.St} {H : Hp} {Q : VK} {kx vx t0 i0 t1 i1 : Expr} {sc : Scope} {ps pos' : Pos} {own : List (Str × Nat)} {vs1 : List Nat}
    {wi wi1 : TI} {g g1 : TG} {tk tv : TE} {use : Option (Value → Sem Unit)} {Qf : Value → Shared → Prop}
    (hc : X.calm = true) (hN : X.N.Nodup) (I : Inv X pins σ H s) (hi : PI X t0 i0 wi) (ok : BlkOk X.N X.env.scope sc own) (hv : ∀ i ∈ vs1, i ∈ own.map (·.2))
    (hg : ∀ s H C cl fp, PG (cxB X s H sc C cl fp) t0 g) (hi1 : ∀ s H C cl fp, PI (cxB X s H sc C cl fp) t1 i1 wi1) (hg1 : ∀ s H C cl fp, PG (cxB X s H sc C cl fp) t1 g1)
    (hk : ∀ s H C cl fp, PE (cxB X s H sc C cl fp) kx tk) (hx : ∀ s H C cl fp, PE (cxB X s H sc C cl fp) vx tv)
    (hs : ∀ x, foldedSetIterable i0 X.env x = pure x) (hs1 : ∀ en x, foldedSetIterable i1 en x = pure x)
    (h : tDc2 wi g wi1 g1 tk tv (own.map (·.2)) vs1 σ H Q)
    (fin : ∀ D C z m G, Inv X pins σ G z → Q (.ref D) G → z.heap.Ns C m → FpOk X pins G C → compPost (model X.prog X.w) X.A X.xe use Qf (.ref D) C (.ok .next) z) :
    wpAny (model X.prog X.w) X.A (comprehension (dc2 kx vx t0 i0 t1 i1 sc ps) sc X.env pos' newDict false (eval i0 X.env) use) Qf X.xe s := by
  have free : ∀ y ∈ sc.names, y.2 = .free → ∃ c, X.env.cells.lookup y.1 = some c := fun y hy e =>
    (ok.free y hy e).elim (fun k => I.ok.has _ (.inl k)) fun k => I.ok.has _ (.inr k)
  refine wpAny_comprehension_free (use := use) rfl hs (closure_ok free) ok.kind (fun y hy e => by rw [ok.uniq y hy, e])
    (thn (hi.run pins s σ H _ I h) fun _ _ h1 => thn h1 fun _ sA hA => ?_)
  obtain ⟨it, fp, tn, J, HA, rfl, IA, T, stA, fpA, q⟩ := hA
  refine wpAny_newObj_type (newEnv_comp ?_)
  obtain ⟨D, hD⟩ : ∃ D, D = sA.heap.objs.size := ⟨_, rfl⟩
  have freshD : HA D = none := IA.hok.fresh (Nat.le_of_eq hD.symm)
  obtain ⟨W, ⟨m0, w0⟩, turn⟩ := q D freshD
  -- the new dict
  obtain ⟨sB, hB⟩ : ∃ z : Shared, z = { sA with heap := sA.heap.push { cls := .type "dict", data := .dict #[] } } := ⟨_, rfl⟩
  have heapB : sB.heap = sA.heap.push { cls := .type "dict", data := .dict #[] } := by rw [hB]
  have IB : Inv X pins σ (upd HA D (.dK [])) sB := by
    rw [hB]
    exact IA.laid (t' := sA.toks) (fun b o e => Heap.get?_push_of_some _ e) (Nat.le_of_eq hD.symm) (by rw [hD]; exact dk_empty sA.heap IA.big)
  have keepB : ∀ b o, sA.heap.get? b = some o → sB.heap.get? b = some o := fun b o e => by rw [heapB]; exact Heap.get?_push_of_some _ e
  have small : ∀ b ∈ fp, b < sA.heap.objs.size := fun b hb => let ⟨_, e, _⟩ := T.obj _ _ stA b hb; Heap.lt_size e
  have fpB : ∀ b ∈ fp, FpOk X pins (upd HA D (.dK [])) b ∧ b < sB.heap.objs.size := fun b hb =>
    have lt := small b hb
    ⟨⟨by rw [upd_ne (by rw [hD]; exact Nat.ne_of_lt lt)]; exact (fpA b hb).1, (fpA b hb).2⟩, by rw [heapB, Heap.size_push]; exact Nat.lt_succ_of_lt lt⟩
  have stB : tn 0 sB.heap := T.keep _ _ _ stA fun b _ o e => keepB b o e
  have IC := block_start IB ok hN fpB
  obtain ⟨cl, hcl⟩ : ∃ cl, cl = cellsFrom (sB.heap.objs.size + 1) sc.names (cloFrom X.env.cells sc.names []) := ⟨_, rfl⟩
  rw [← hcl] at IC
  have pg := hg sB (upd HA D (.dK [])) sB.heap.objs.size cl fp
  have pi1 := hi1 sB (upd HA D (.dK [])) sB.heap.objs.size cl fp
  have pg1 := hg1 sB (upd HA D (.dK [])) sB.heap.objs.size cl fp
  have pk := hk sB (upd HA D (.dK [])) sB.heap.objs.size cl fp
  have px := hx sB (upd HA D (.dK [])) sB.heap.objs.size cl fp
  have noneB : ∀ b ∈ fp, (upd HA D (.dK [])) b = none := fun b hb => (fpB b hb).1.1
  have locC : (compEnvC sc cl sB.heap.objs.size X.env).locals = sB.heap.objs.size := rfl
  unfold cxB at pg pi1 pg1 pk px
  suffices goal : codeAny (model X.prog X.w) X.A (.compStart (dc2 kx vx t0 i0 t1 i1 sc ps) 0 (.ref it) (.ref D) (compEnvC sc cl sB.heap.objs.size X.env))
      (compPost (model X.prog X.w) X.A X.xe use Qf (.ref D) sB.heap.objs.size) { sB with heap := pushCells (sB.heap.push { cls := .type "dict", data := .dict #[] }) sc.names } by
    subst hcl hB hD
    exact goal
  obtain ⟨sC, hC⟩ : ∃ z : Shared, z = { sB with heap := pushCells (sB.heap.push { cls := .type "dict", data := .dict #[] }) sc.names } := ⟨_, rfl⟩
  rw [← hC] at IC ⊢
  generalize hce : compEnvC sc cl sB.heap.objs.size X.env = ce at IC pg pi1 pg1 pk px locC ⊢
  generalize hH : upd HA D (.dK []) = HB at IB IC pg pi1 pg1 pk px w0 noneB fpB
  have stC : tn 0 sC.heap := T.keep _ _ _ stB fun b _ o e => by rw [hC]; exact pushCells_keeps _ _ _ _ (Heap.get?_push_of_some _ e)
  have fpY : ∀ {τ : L2.St} {G : Hp} {z : Shared}, Inv (X.blk sB HB sc ce fp) [] τ G z → (∀ b ∈ fp, G b = none) → ∀ b ∈ fp, FpOk (X.blk sB HB sc ce fp) [] G b :=
    fun {τ G z} K hn b hb => ⟨hn b hb, (K.ok.exf b hb).1, K.ok.exfs b hb, .inl hb, fun x c e => (K.ok.exf b hb).2 x c e, fun p hp => absurd (show p ∈ ([] : List (Addr × Obj)) ++ [] from hp) (by simp)⟩
  obtain ⟨base, hbase⟩ : ∃ b : L2.St, b = wipe σ (own.map (·.2)) := ⟨_, rfl⟩
  -- what stands between two turns of the first clause
  let Z : Nat → Shared → Prop := fun n z => ∃ i G, Inv (X.blk sB HB sc ce fp) [] base G z ∧ tn i z.heap ∧ (∀ b ∈ fp, G b = none) ∧ W i n G
  have loop : codeAny (model X.prog X.w) X.A (.compLoop (dc2 kx vx t0 i0 t1 i1 sc ps) 0 (.ref it) (.ref D) ce) (compPost (model X.prog X.w) X.A X.xe use Qf (.ref D) sB.heap.objs.size) sC := by
    refine loopOut (hs1 ce) Z ?_ m0 ⟨0, HB, by rw [hbase]; exact IC, stC, noneB, w0⟩
    rintro n z ⟨i, G, Iz, stz, nz, wz⟩
    rcases turn i n G wz with ⟨stop, qq⟩ | ⟨go, Nx, hNx, step⟩
    · have td := T.done (X.blk sB HB sc ce fp) rfl rfl rfl hc i [] z base G (fun _ _ => False) Iz (fpY Iz nz) stz stop
      refine thnF td fun r z2 ⟨hr, I2⟩ => ?_
      subst hr
      have I3 : Inv X pins σ G z2 := IB.call' (ch := fp) I2.os I2.base I2.hok I2.bare fun b hb =>
        have f := (fpB b hb).1.2
        ⟨f.2.2.1, f.1, f.2.2.2.1, f.2.2.2.2⟩
      have nC : G sB.heap.objs.size = none := by have k : G ce.locals = none := I2.free; rwa [locC] at k
      obtain ⟨m, hn, _⟩ := I2.loc
      have hn : z2.heap.Ns ce.locals m := hn
      rw [locC] at hn
      exact fin D sB.heap.objs.size z2 m G I3 qq hn (IB.fpOk (Nat.le_refl _) nC)
    · have ti := T.item (X.blk sB HB sc ce fp) rfl rfl rfl hc i [] z base G (fun _ _ => False) Iz (fpY Iz nz) stz go
      refine thnF ti fun r z2 ⟨u, hr, h2⟩ => ?_
      subst hr
      refine thnF h2 fun _ z3 ⟨x, G3, I3, r3, y3, st3, n3⟩ => ?_
      have P3 := I3.pinned (fpY I3 n3) (T.obj _ _ st3)
      rw [hbase] at P3
      have a4 := pg.run _ z3 _ G3 x u _ P3 r3 (step x G3 y3)
      refine thnF a4 fun _ z4 ⟨τ, G4, I4, hw4, q4⟩ => ?_
      have baseL : base.length = τ.length := by rw [hbase, ← hw4, wipe_length]
      have baseV : ∀ (j : Nat) v, base[j]? = some (some v) → τ[j]? = some (some v) := fun j v e => by
        rw [hbase, ← hw4] at e
        exact (wipe_some e).1
      have baseV1 : ∀ (j : Nat) v, base[j]? = some (some v) → (wipe τ vs1)[j]? = some (some v) := fun j v e =>
        (wipe_keep hv hw4 (by rw [← hbase]; exact e)).1
      -- the end of a turn, whatever the slots
      have ends : ∀ {ρ : L2.St} {y : Shared} {G' : Hp}, Inv (X.blk sB HB sc ce fp) ([] ++ pinsAt fp z3.heap) ρ G' y → base.length = ρ.length → (∀ (j : Nat) v, base[j]? = some (some v) → ρ[j]? = some (some v)) → Nx G' → ∃ m, m < n ∧ Z m y := by
        intro ρ y G' K hl hk nx
        obtain ⟨m2, lt2, w2⟩ := hNx G' nx
        have stay : ∀ b ∈ fp, ∀ o, z3.heap.get? b = some o → y.heap.get? b = some o ∧ G' b = none := fun b hb o e =>
          have k := K.pin (b, o) (List.mem_append_right _ (List.mem_append_right _ (mem_pinsAt hb e)))
          ⟨k.1, k.2.1⟩
        refine ⟨m2, lt2, i + 1, G', (K.unpinned (pins := [])).weak hl hk, T.keep _ _ _ st3 fun b hb o e => (stay b hb o e).1, fun b hb => ?_, w2⟩
        obtain ⟨o, e, _⟩ := T.obj _ _ st3 b hb
        exact (stay b hb o e).2
      have a5 := pi1.run _ z4 τ G4 _ I4 q4
      refine thnF a5 fun _ z5 h5 => ?_
      refine thnF h5 fun _ z6 h6 => ?_
      obtain ⟨it1, fp1, tn1, J1, G6, rfl, I6, T1, st6, f6, W1, ⟨m1, w1⟩, turn1⟩ := h6
      have ok1 : ∀ {G' : Hp}, (∀ b ∈ fp1, G' b = none) → ∀ b ∈ fp1, FpOk (X.blk sB HB sc ce fp) ([] ++ pinsAt fp z3.heap) G' b := fun hn b hb => ⟨hn b hb, (f6 b hb).2⟩
      let Z1 : Nat → Shared → Prop := fun k y => ∃ j G', Inv (X.blk sB HB sc ce fp) ([] ++ pinsAt fp z3.heap) (wipe τ vs1) G' y ∧ tn1 j y.heap ∧ (∀ b ∈ fp1, G' b = none) ∧ W1 j k G'
      have loop1 : codeAny (model X.prog X.w) X.A (.compLoop (dc2 kx vx t0 i0 t1 i1 sc ps) 1 (.ref it1) (.ref D) ce) (fun q y => match q with | .ok _ => ∃ m, m < n ∧ Z m y | .error _ => False) z6 := by
        refine loopIn Z1 ?_ m1 ⟨0, G6, I6.weak (wipe_length _ _) (fun j v e => (wipe_some e).1), st6, fun b hb => (f6 b hb).1, w1⟩
        rintro k y ⟨j, G7, I7, st7, n7, w7⟩
        rcases turn1 j k G7 w7 with ⟨stop1, nx⟩ | ⟨go1, N1, hN1, step1⟩
        · have td := T1.done (X.blk sB HB sc ce fp) rfl rfl rfl hc j _ y (wipe τ vs1) G7 (fun _ _ => False) I7 (ok1 n7) st7 stop1
          refine thnF td fun r y2 ⟨hr, I8⟩ => ?_
          subst hr
          exact ends I8 (baseL.trans (wipe_length τ vs1).symm) baseV1 nx
        · have ti := T1.item (X.blk sB HB sc ce fp) rfl rfl rfl hc j _ y (wipe τ vs1) G7 (fun _ _ => False) I7 (ok1 n7) st7 go1
          refine thnF ti fun r y2 ⟨u1, hr, h8⟩ => ?_
          subst hr
          refine thnF h8 fun _ y3 ⟨x1, G9, I9, r9, y9, st9, n9⟩ => ?_
          have P9 := I9.pinned (ok1 n9) (T1.obj _ _ st9)
          have b1 := pg1.run _ y3 (wipe τ vs1) G9 x1 u1 _ P9 r9 (step1 x1 G9 y9)
          refine thnF b1 fun _ y4 ⟨ρ, G10, I10, hw10, q10⟩ => ?_
          have back : ∀ {y' : Shared} {G' : Hp}, Inv (X.blk sB HB sc ce fp) (([] ++ pinsAt fp z3.heap) ++ pinsAt fp1 y3.heap) ρ G' y' → N1 G' → ∃ m, m < k ∧ Z1 m y' := by
            intro y' G' K nx
            obtain ⟨k2, lt2, w2⟩ := hN1 G' nx
            have stay : ∀ b ∈ fp1, ∀ o, y3.heap.get? b = some o → y'.heap.get? b = some o ∧ G' b = none := fun b hb o e =>
              have p := K.pin (b, o) (List.mem_append_right _ (List.mem_append_right _ (mem_pinsAt hb e)))
              ⟨p.1, p.2.1⟩
            refine ⟨k2, lt2, j + 1, G', K.unpinned.weak (by rw [← hw10, wipe_length]) (fun i v e => by rw [← hw10] at e; exact (wipe_some e).1), T1.keep _ _ _ st9 fun b hb o e => (stay b hb o e).1, fun b hb => ?_, w2⟩
            obtain ⟨o, e, _⟩ := T1.obj _ _ st9 b hb
            exact (stay b hb o e).2
          have b2 := pk.run _ y4 ρ G10 _ I10 q10
          refine thnF b2 fun _ y5 ⟨ky, G11, I11, r11, q11⟩ => ?_
          have b3 := px.run _ y5 ρ G11 _ I11 q11
          refine thnF b3 fun _ y6 ⟨vy, G12, I12, r12, kvs, k0, ek, hD12, hz12, nx⟩ => ?_
          subst ek
          have b4 := d_dictSet (E := fun _ _ => False) (Q := fun _ y' => ∃ m, m < k ∧ Z1 m y') I12 hD12 hz12 r11 r12 fun y7 I13 => back I13 nx
          exact thnF b4 fun _ _ z => z
      exact startIn loop1 (T1.self X.A 0 _ _ _ st6 loop1)
  exact codeAny_compStart_dict loop (T.self X.A 0 _ _ _ stC loop)
end
end Two

set_option autoImplicit true
set_option Elab.async false
set_option linter.all false
set_option maxRecDepth 100000
set_option maxHeartbeats 4000000
namespace Two
open PySem PySem.Spec PyProof.Rows L2
section
variable {X : Cx}
theorem pe_dc2 {kx vx t0 i0 t1 i1 : Expr} {sc : Scope} {ps : Pos} {own : List (Str × Nat)} {vs1 : List Nat} {wi wi1 : TI} {g g1 : TG} {tk tv : TE}
    (hc : X.calm = true) (hN : X.N.Nodup) (hi : PI X t0 i0 wi) (ok : BlkOk X.N X.env.scope sc own) (hv : ∀ i ∈ vs1, i ∈ own.map (·.2))
    (hg : ∀ s H C cl fp, PG (cxB X s H sc C cl fp) t0 g) (hi1 : ∀ s H C cl fp, PI (cxB X s H sc C cl fp) t1 i1 wi1) (hg1 : ∀ s H C cl fp, PG (cxB X s H sc C cl fp) t1 g1)
    (hk : ∀ s H C cl fp, PE (cxB X s H sc C cl fp) kx tk) (hx : ∀ s H C cl fp, PE (cxB X s H sc C cl fp) vx tv)
    (hs : ∀ x, foldedSetIterable i0 X.env x = pure x := by intro _; rfl) (hs1 : ∀ en x, foldedSetIterable i1 en x = pure x := by intro _ _; rfl) :
    PE X (dc2 kx vx t0 i0 t1 i1 sc ps) (tDc2 wi g wi1 g1 tk tv (own.map (·.2)) vs1) := by
  refine ⟨fun pins s σ H Q I h => ?_⟩
  rw [arm_eval_DictComp]
  refine dc2_core hc hN I hi ok hv hg hi1 hg1 hk hx hs hs1 h fun D C z m G K q hn f => ⟨m, hn, fun h2 sb => ?_⟩
  exact ⟨.ref D, G, K.turned (t' := z.toks) (fun b o hb e => (sb.2 b hb).trans e) f.1 f.2.1 f.2.2.2.1 f.2.2.2.2.1 f.2.2.2.2.2, rfl, q⟩

theorem ps_setDc2 {i : Nat} {y : Str} {py : Pos} {kx vx t0 i0 t1 i1 : Expr} {sc : Scope} {ps sp : Pos} {own : List (Str × Nat)} {vs1 : List Nat} {wi wi1 : TI} {g g1 : TG} {tk tv : TE}
    (hc : X.calm = true) (hN : X.N.Nodup) (hy : X.N[i]? = some y) (hyl : X.env.scope.names.lookup y = some .local)
    (sw : swapsWith (dc2 kx vx t0 i0 t1 i1 sc ps) (some (.Name y py)) sp.line X.env = pure true)
    (hi : PI X t0 i0 wi) (ok : BlkOk X.N X.env.scope sc own) (hv : ∀ i ∈ vs1, i ∈ own.map (·.2))
    (hg : ∀ s H C cl fp, PG (cxB X s H sc C cl fp) t0 g) (hi1 : ∀ s H C cl fp, PI (cxB X s H sc C cl fp) t1 i1 wi1) (hg1 : ∀ s H C cl fp, PG (cxB X s H sc C cl fp) t1 g1)
    (hk : ∀ s H C cl fp, PE (cxB X s H sc C cl fp) kx tk) (hx : ∀ s H C cl fp, PE (cxB X s H sc C cl fp) vx tv)
    (hs : ∀ x, foldedSetIterable i0 X.env x = pure x := by intro _; rfl) (hs1 : ∀ en x, foldedSetIterable i1 en x = pure x := by intro _ _; rfl) :
    PS X (.Assign [.Name y py] (dc2 kx vx t0 i0 t1 i1 sc ps) sp) (tAsg (tDc2 wi g wi1 g1 tk tv (own.map (·.2)) vs1) (gName i)) := by
  refine ⟨fun pins s σ H D I h => ?_⟩
  rw [exec_Assign_Name_used _ _ _ _ sw]
  refine wpAny_bind (wpAny_standAt (wpAny_bind ?_))
  show wpAny _ X.A (do let _ ← comprehension (dc2 kx vx t0 i0 t1 i1 sc ps) sc X.env (firstIterPos [⟨t0, i0, [], 0⟩, ⟨t1, i1, [], 0⟩] ps) newDict false (eval i0 X.env) (some (assign (.Name y py) X.env))) _ _ s
  have h' : tDc2 wi g wi1 g1 tk tv (own.map (·.2)) vs1 σ H (fun x G => gName i x σ G D.nx) := h
  have fin : ∀ L C z m G, Inv X pins σ G z → gName i (V.ref L) σ G D.nx → z.heap.Ns C m → FpOk X pins G C →
      compPost (model X.prog X.w) X.A X.xe (some (assign (.Name y py) X.env)) (fun _ s' => SP X pins D .next s') (.ref L) C (.ok .next) z := by
    intro L C z m G K q hn f
    show wpAny _ _ (assign (.Name y py) X.env (.ref L)) _ _ _
    refine wpAny_assign_Name (store_ok2 (v := V.ref L) K hN hy (.inl hyl) rfl (fun s2 I2 ⟨a, sb, ha⟩ => ?_) (.inr hyl))
    have ne : C ≠ a := ha.elim (fun q => by rw [q]; exact f.2.1) fun q e => f.2.2.2.2.1 y a q e.symm
    exact ⟨m, hn.sameBut sb ne, fun h3 sb3 => ⟨_, G, I2.turned (t' := s2.toks) (fun b o hb e => (sb3.2 b hb).trans e) f.1 f.2.1 f.2.2.2.1 f.2.2.2.2.1 f.2.2.2.2.2, q⟩⟩
  exact wpAny_bind (thn (dc2_core (Qf := fun _ s' => SP X pins D .next s') hc hN I hi ok hv hg hi1 hg1 hk hx hs hs1 h' fin) fun _ s' hq => wpAny_pure (wpAny_pure hq))
theorem swD {kx vx t0 i0 t1 i1 : Expr} {sc : Scope} {ps py : Pos} {y : Str} {l : Nat} {env : Env} (hk : env.scope.kind = .function) (hy : env.scope.names.lookup y = some .local) (hl : (py.line == ps.line) = true)
    (ha : (sc.names.any fun (n, k) => n == y && (k == .local || k == .cell)) = false) : swapsWith (dc2 kx vx t0 i0 t1 i1 sc ps) (some (.Name y py)) l env = pure true := by
  have k1 : env.kindOf y = some .local := hy
  have k2 : env.blockKind = .function := by unfold Env.blockKind; rw [hk]; rfl
  unfold swapsWith
  simp only [k2, k1, ha, Expr.pos, hl]
  rfl

/-! ### any over data -/
def rAnyD (K : PySem.W.Frag) : List V → Hp → VK → Prop := fun vs H Q => ∃ (a : Addr) (ds : List PyData), vs = [V.ref a] ∧ Dp K H (.ref a) (.list ds) ∧ PyData.plainAll ds = true ∧ (∀ d ∈ ds, d.fits63) ∧ Q (.bl (ds.any PyData.truthy)) H
theorem cr_anyD (hc : X.calm = true) : CallR X (.builtin "any") (rAnyD X.K) := by
  intro pins s σ H vs us Q I r h
  obtain ⟨a, ds, rfl, hd, hp, hf, q⟩ := h
  rw [Vals.ref1 r]
  obtain ⟨as, rr⟩ := Dp.reads I _ _ _ hd rfl
  cases rr with
  | list h1 h2 h3 h4 =>
    refine PySem.W.any_list_data (I.ok.hd hc) ⟨_, h1, h2, _, h3⟩ h4 hp hf fun h' tk hk => ?_
    exact ⟨.bl _, H, I.kept hk, rfl, q⟩

/-! ### {e for x in xs} of ints -/
/-- over the new set D -/
def oneS (w : World) (J : It) (g : TG) (te : TE) (vs : List Nat) (D : Addr) (σ : L2.St) (Qd : Hp → Prop) (G : Hp) : Prop :=
  ∃ W : Nat → Nat → Hp → Prop, (∃ m, W 0 m G) ∧ ∀ i m G1, W i m G1 →
    (J.stop i G1 ∧ Qd G1) ∨ (J.go i G1 ∧ ∃ Nx : Hp → Prop, (∀ G2, Nx G2 → ∃ m2, m2 < m ∧ W (i + 1) m2 G2) ∧
      ∀ x G2, J.yld i G1 x G2 → g x (wipe σ vs) G2 fun σ2 G3 => wipe σ2 vs = wipe σ vs ∧
        te σ2 G3 fun y G4 => ∃ (k : Int) (S : Int → Bool) (n : Nat), y = .int k ∧ G4 D = some (SetO w D S n) ∧ n + 1 < scanBound ∧
          Nx (upd G4 D (SetO w D (fun j => S j || decide (j = k)) (if S k = true then n else n + 1))))
def tScI (w : World) (wi : TI) (g : TG) (te : TE) (vs : List Nat) : TE := fun σ H Q =>
  wi σ H fun J H1 => ∀ D, H1 D = none → oneS w J g te vs D σ (Q (.ref D)) (upd H1 D (SetO w D (fun _ => false) 0))

theorem pe_scI {e0 t0 i0 : Expr} {sc : Scope} {ps : Pos} {own : List (Str × Nat)} {wi : TI} {g : TG} {te : TE}
    (hc : X.calm = true) (hN : X.N.Nodup) (hi : PI X t0 i0 wi) (ok : BlkOk X.N X.env.scope sc own)
    (hg : ∀ s H C cl fp, PG (cxB X s H sc C cl fp) t0 g) (he : ∀ s H C cl fp, PE (cxB X s H sc C cl fp) e0 te)
    (hs : ∀ x, foldedSetIterable i0 X.env x = pure x := by intro _; rfl) :
    PE X (.SetComp e0 [⟨t0, i0, [], 0⟩] sc ps) (tScI X.w wi g te (own.map (·.2))) := by
  refine ⟨fun pins s σ H Q I h => ?_⟩
  rw [PpSet.eval_SetComp]
  have free : ∀ y ∈ sc.names, y.2 = .free → ∃ c, X.env.cells.lookup y.1 = some c := fun y hy e =>
    (ok.free y hy e).elim (fun k => I.ok.has _ (.inl k)) fun k => I.ok.has _ (.inr k)
  refine wpAny_comprehension_free (use := none) rfl hs (closure_ok free) ok.kind (fun y hy e => by rw [ok.uniq y hy, e])
    (thn (hi.run pins s σ H _ I h) fun _ _ h1 => thn h1 fun _ sA hA => ?_)
  obtain ⟨it, fp, tn, J, HA, rfl, IA, T, stA, fpA, q⟩ := hA
  refine PpSet.newSet_ok (newEnv_comp ?_)
  obtain ⟨D, hD⟩ : ∃ D, D = sA.heap.objs.size := ⟨_, rfl⟩
  have freshD : HA D = none := IA.hok.fresh (Nat.le_of_eq hD.symm)
  obtain ⟨W, ⟨m0, w0⟩, turn⟩ := q D freshD
  obtain ⟨ob, hob⟩ : ∃ ob : Obj, ob = { cls := .type "set", dict := none, data := .set #[] 0 (.fresh 0 0 (!X.w.params.followText "set-order")) } := ⟨_, rfl⟩
  obtain ⟨sB, hB⟩ : ∃ z : Shared, z = { sA with heap := sA.heap.push ob } := ⟨_, rfl⟩
  have heapB : sB.heap = sA.heap.push ob := by rw [hB]
  have IB : Inv X pins σ (upd HA D (SetO X.w D (fun _ => false) 0)) sB := by
    rw [hB]
    refine IA.laid (t' := sA.toks) (fun b o e => Heap.get?_push_of_some _ e) (Nat.le_of_eq hD.symm) (setO_new ?_)
    rw [hD, hob]
    exact setR_fresh X.w
  have keepB : ∀ b o, sA.heap.get? b = some o → sB.heap.get? b = some o := fun b o e => by rw [heapB]; exact Heap.get?_push_of_some _ e
  have small : ∀ b ∈ fp, b < sA.heap.objs.size := fun b hb => let ⟨_, e, _⟩ := T.obj _ _ stA b hb; Heap.lt_size e
  have fpB : ∀ b ∈ fp, FpOk X pins (upd HA D (SetO X.w D (fun _ => false) 0)) b ∧ b < sB.heap.objs.size := fun b hb =>
    have lt := small b hb
    ⟨⟨by rw [upd_ne (by rw [hD]; exact Nat.ne_of_lt lt)]; exact (fpA b hb).1, (fpA b hb).2⟩, by rw [heapB, Heap.size_push]; exact Nat.lt_succ_of_lt lt⟩
  have stB : tn 0 sB.heap := T.keep _ _ _ stA fun b _ o e => keepB b o e
  have IC := block_start IB ok hN fpB
  obtain ⟨cl, hcl⟩ : ∃ cl, cl = cellsFrom (sB.heap.objs.size + 1) sc.names (cloFrom X.env.cells sc.names []) := ⟨_, rfl⟩
  rw [← hcl] at IC
  have pg := hg sB (upd HA D (SetO X.w D (fun _ => false) 0)) sB.heap.objs.size cl fp
  have pe := he sB (upd HA D (SetO X.w D (fun _ => false) 0)) sB.heap.objs.size cl fp
  have noneB : ∀ b ∈ fp, (upd HA D (SetO X.w D (fun _ => false) 0)) b = none := fun b hb => (fpB b hb).1.1
  have locC : (compEnvC sc cl sB.heap.objs.size X.env).locals = sB.heap.objs.size := rfl
  unfold cxB at pg pe
  suffices goal : codeAny (model X.prog X.w) X.A (.compStart (.SetComp e0 [⟨t0, i0, [], 0⟩] sc ps) 0 (.ref it) (.ref D) (compEnvC sc cl sB.heap.objs.size X.env))
      (compPost (model X.prog X.w) X.A X.xe none (EP X pins σ Q) (.ref D) sB.heap.objs.size) { sB with heap := pushCells (sB.heap.push { cls := .type "dict", data := .dict #[] }) sc.names } by
    subst hcl hB hD hob
    exact goal
  obtain ⟨sC, hC⟩ : ∃ z : Shared, z = { sB with heap := pushCells (sB.heap.push { cls := .type "dict", data := .dict #[] }) sc.names } := ⟨_, rfl⟩
  rw [← hC] at IC ⊢
  generalize hce : compEnvC sc cl sB.heap.objs.size X.env = ce at IC pg pe locC ⊢
  generalize hH : upd HA D (SetO X.w D (fun _ => false) 0) = HB at IB IC pg pe w0 noneB fpB
  have stC : tn 0 sC.heap := T.keep _ _ _ stB fun b _ o e => by rw [hC]; exact pushCells_keeps _ _ _ _ (Heap.get?_push_of_some _ e)
  have fpY : ∀ {τ : L2.St} {G : Hp} {z : Shared}, Inv (X.blk sB HB sc ce fp) [] τ G z → (∀ b ∈ fp, G b = none) → ∀ b ∈ fp, FpOk (X.blk sB HB sc ce fp) [] G b :=
    fun {τ G z} K hn b hb => ⟨hn b hb, (K.ok.exf b hb).1, K.ok.exfs b hb, .inl hb, fun x c e => (K.ok.exf b hb).2 x c e, fun p hp => absurd (show p ∈ ([] : List (Addr × Obj)) ++ [] from hp) (by simp)⟩
  obtain ⟨base, hbase⟩ : ∃ b : L2.St, b = wipe σ (own.map (·.2)) := ⟨_, rfl⟩
  let Z : Nat → Shared → Prop := fun n z => ∃ i G, Inv (X.blk sB HB sc ce fp) [] base G z ∧ tn i z.heap ∧ (∀ b ∈ fp, G b = none) ∧ W i n G
  have loop : codeAny (model X.prog X.w) X.A (.compLoop (.SetComp e0 [⟨t0, i0, [], 0⟩] sc ps) 0 (.ref it) (.ref D) ce) (compPost (model X.prog X.w) X.A X.xe none (EP X pins σ Q) (.ref D) sB.heap.objs.size) sC := by
    refine PpSet.compLoopS_any Z ?_ m0 ⟨0, HB, by rw [hbase]; exact IC, stC, noneB, w0⟩
    rintro n z ⟨i, G, Iz, stz, nz, wz⟩
    rcases turn i n G wz with ⟨stop, qq⟩ | ⟨go, Nx, hNx, step⟩
    · refine thnF (T.done (X.blk sB HB sc ce fp) rfl rfl rfl hc i [] z base G (fun _ _ => False) Iz (fpY Iz nz) stz stop) fun r z2 ⟨hr, I2⟩ => ?_
      subst hr
      have I3 : Inv X pins σ G z2 := IB.call' (ch := fp) I2.os I2.base I2.hok I2.bare fun b hb =>
        have f := (fpB b hb).1.2
        ⟨f.2.2.1, f.1, f.2.2.2.1, f.2.2.2.2⟩
      have nC : G sB.heap.objs.size = none := by have k : G ce.locals = none := I2.free; rwa [locC] at k
      obtain ⟨m, hn, _⟩ := I2.loc
      have hn : z2.heap.Ns ce.locals m := hn
      rw [locC] at hn
      have f := IB.fpOk (H' := G) (Nat.le_refl _) nC
      exact ⟨m, hn, fun h2 sb => ⟨.ref D, G, I3.turned (t' := z2.toks) (fun b o hb e => (sb.2 b hb).trans e) f.1 f.2.1 f.2.2.2.1 f.2.2.2.2.1 f.2.2.2.2.2, rfl, qq⟩⟩
    · refine thnF (T.item (X.blk sB HB sc ce fp) rfl rfl rfl hc i [] z base G (fun _ _ => False) Iz (fpY Iz nz) stz go) fun r z2 ⟨u, hr, h2⟩ => ?_
      subst hr
      refine thnF h2 fun _ z3 ⟨x, G3, I3, r3, y3, st3, n3⟩ => ?_
      have P3 := I3.pinned (fpY I3 n3) (T.obj _ _ st3)
      rw [hbase] at P3
      refine thnF (pg.run _ z3 _ G3 x u _ P3 r3 (step x G3 y3)) fun _ z4 ⟨τ, G4, I4, hw4, q4⟩ => ?_
      refine thnF ((pts_nil (X := X.blk sB HB sc ce fp)).run _ z4 τ G4 (fun b G' => b = true ∧ G' = G4) I4 ⟨rfl, rfl⟩) fun b z5 ⟨G5, I5, hb, e5⟩ => ?_
      subst hb e5
      simp only [if_true]
      refine thnF (pe.run _ z5 τ G5 _ I5 q4) fun _ z6 ⟨vy, G6, I6, r6, k, S, cnt, ek, hD6, room, nx⟩ => ?_
      subst ek
      obtain ⟨tk, rfl⟩ := r6
      refine setR_add (setO_get (X := X.blk sB HB sc ce fp) I6 hD6) room fun h' sb new => ?_
      have he' : ∃ u, h'.get? D = some u := let ⟨o, _, _, _, ho, _⟩ := new; ⟨o, ho⟩
      have I7 := I6.write (e := D) (t' := z6.toks + 1) (by rw [hD6]; trivial) (.inl rfl) (fun b u hb hu => (sb.2 b hb).trans hu) he' (setO_new new)
      obtain ⟨m2, lt2, w2⟩ := hNx _ nx
      have stay : ∀ b ∈ fp, ∀ o, z3.heap.get? b = some o → h'.get? b = some o ∧ (upd G6 D (SetO X.w D (fun j => S j || decide (j = k)) (if S k = true then cnt else cnt + 1))) b = none := fun b hb o e =>
        have k := I7.pin (b, o) (List.mem_append_right _ (List.mem_append_right _ (mem_pinsAt hb e)))
        ⟨k.1, k.2.1⟩
      refine ⟨m2, lt2, i + 1, _, (I7.unpinned (pins := [])).weak (by rw [hbase, ← hw4, wipe_length]) (fun j v e => ?_), T.keep _ _ _ st3 fun b hb o e => (stay b hb o e).1, fun b hb => ?_, w2⟩
      · rw [hbase, ← hw4] at e
        exact (wipe_some e).1
      · obtain ⟨o, e, _⟩ := T.obj _ _ st3 b hb
        exact (stay b hb o e).2
  exact PpSet.codeAny_compStart_set loop (T.self X.A 0 _ _ _ stC loop)

/-! ### len of a set of ints -/
def rLenS (w : World) : List V → Hp → VK → Prop := fun vs H Q => ∃ (a : Addr) (S : Int → Bool) (n : Nat), vs = [V.ref a] ∧ H a = some (SetO w a S n) ∧ Q (.int (n : Int)) H
theorem cr_lenS : CallR X (.builtin "len") (rLenS X.w) := by
  intro pins s σ H vs us Q I r h
  obtain ⟨a, S, n, rfl, ha, q⟩ := h
  rw [Vals.ref1 r]
  obtain ⟨o, es, ep, t, ho, hex, hd, _, _, _, hb, hf, hn, _⟩ := setO_get I ha
  refine PySem.call_len_set ho hex hd hf (by rw [hn]; unfold scanBound at hb; omega) ⟨.int (n : Int), H, I.tok _, ⟨_, by rw [hn]⟩, q⟩
end
end Two

set_option autoImplicit true
set_option Elab.async false
set_option linter.all false
set_option maxRecDepth 100000
set_option maxHeartbeats 4000000
/-! repr of data, and defs that are called where nothing is being printed. -/
namespace Two
open PySem PySem.Spec PyProof.Rows L2
section
variable {X : Cx}
def rReprD (K : PySem.W.Frag) : List V → Hp → VK → Prop := fun vs H Q => ∃ (a : Addr) (d : PyData), vs = [V.ref a] ∧ Dp K H (.ref a) d ∧
  d.showable = true ∧ d.hasDict = false ∧ d.depth ≤ 32 ∧ d.shown.length ≤ sizeLine ∧ Q (.str d.shown) H
theorem cr_reprD (hg : X.A.guards = some []) (hu : X.A.units + 64 < cLine) : CallR X (.builtin "repr") (rReprD X.K) := by
  intro pins s σ H vs us Q I r h
  obtain ⟨a, d, rfl, hd, hs, hn, hp, hz, q⟩ := h
  rw [Vals.ref1 r]
  obtain ⟨as, rr⟩ := Dp.reads I _ _ _ hd rfl
  exact repr_of_reads' rr hs (fun k => by rw [hn] at k; cases k) hg (by omega) (fun _ _ e => e) (fun h' u tk hk => ⟨.str d.shown, H, I.kept hk, ⟨u, rfl⟩, q⟩) hz
end

/-- a def's promise where nothing is being printed -/
structure FnG (P : Program) (w : World) (K : PySem.W.Frag) (mg : Str → Option Value) (base : Heap) (CX : CXT) (k : Nat) (f : Addr) (fd : FuncData) (ps : List Str) (sp : Sp) : Prop where
  len : ∀ vs H Q E, sp vs H Q E → vs.length = ps.length
  run : ∀ (A : Around) (outer : List Env) (s : Shared) (H : Hp) (args : Args) (us : List Value) (vs : List V) (Q : VK) (E : XK), Room k A → A.guards = some [] →
    Env0 P w K mg base A outer s H → BindsTo s fd args (ps.zip us) → Vals vs us → sp vs H Q E → codeAny (model P w) A (.call (.ref f) args) (CR CX outer P w H s Q E) s

section
variable {P : Program} {w : World} {K : PySem.W.Frag} {mg : Str → Option Value} {base : Heap}
/-- by its body -/
theorem FnG.of {x qual : Str} {st : Stmt} {f : Addr} {fd : FuncData} {N ps : List Str} {k : Nat} {sp : Sp} (F : Fun K x qual st f fd) (S : FnScope N ps (defScope st)) (len : ∀ vs H Q E, sp vs H Q E → vs.length = ps.length)
    (body : ∀ (cdv : Value) (A : Around) (outer : List Env) (s : Shared) (H : Hp) (vs : List V) (Q : VK) (E : XK), Room k (A.deeper (envOfC qual (defScope st) s.heap.objs.size f cdv)) → A.guards = some [] → sp vs H Q E →
      ∃ t, PSs (cxOf CX0 P w K mg base N qual (defScope st) f cdv A outer s H E).nox (defBody st) t ∧ t { nx := fun _ G => Q .non G, rt := Q } (start N vs) H) : FnG P w K mg base CX0 (k + 1) f fd ps sp := by
  obtain ⟨oc, od, kV, doc, pm, an, cdv, ct, osl, rfl, lk, hcd⟩ := F.ex
  refine ⟨len, fun A outer s H args us vs Q E hr hg e0 hb r hsp => ?_⟩
  have hl := len _ _ _ _ hsp
  have KX : K.In s.heap := e0.mod.kin.keeps fun b o e => (e0.bs b o e).1
  have lim : s.heap.NoLimit := e0.mod.nolimit.keeps fun b o e => (e0.bs b o e).1
  have kinds : ∀ y ∈ ps.zip us, (defScope st).names.lookup y.1 = some .local ∨ ((defScope st).names.lookup y.1 = some .cell ∧ ((cellsFrom (s.heap.objs.size + 1) (defScope st).names []).lookup y.1).isSome = true) := by
    rintro ⟨n, v⟩ hy
    exact (S.par n (List.of_mem_zip hy).1).imp id fun q => ⟨q, PySem.W.cellsFrom_some _ _ _ (.inl q)⟩
  refine codeAny_call_function hr.depth (KX _ _ lk) rfl S.co S.gen rfl (PySem.W.codeRec_of KX hcd) (hb _ _ _ _ ?_)
  refine wpAny_newFunctionEnv_cells S.kind kinds fun env he s1 x => ?_
  subst he
  refine ⟨lim.keeps x.toInCall.keep, codeAny_func ?_⟩
  obtain ⟨t, ht, hq⟩ := body cdv A outer s H vs Q E (hr.deeper _) hg hsp
  have I := inv_start (qual := qual) (f := f) (cd := cdv) (E := E) (CX := CX0) S hr.hd e0 hl r x
  refine wpAny_mono (ht.nox.run [] s1 (start N vs) H _ I hq) (fun fl s' hs => ?_) fun e s' hs => hs
  have done : ∀ {τ : L2.St} {G : Hp} {v : V} {u : Value}, Inv (cxOf CX0 P w K mg base N qual (defScope st) f cdv A outer s H E) [] τ G s' → RelV v u → Q v G → CE outer P w H s Q u s' :=
    fun {τ G v u} J rv q => ⟨v, G, J.os, J.bare, J.base, J.hok, rv, q⟩
  match fl, hs with
  | .ret u, hs => exact let ⟨v, τ, G, J, rv, q⟩ := hs; done J rv q
  | .next, hs => exact let ⟨τ, G, J, q⟩ := hs; done (v := V.non) (u := Value.none) J rfl q
  | .brk, hs => exact let ⟨_, _, _, q⟩ := hs; False.elim q
  | .cont, hs => exact let ⟨_, _, _, q⟩ := hs; False.elim q
end

section
variable {X : Cx} {k : Nat} {f : Addr} {fd : FuncData} {ps : List Str} {sp : Sp} {x : Str} {p pos : Pos} {e : Expr} {es : List Expr} {t : TA} {CX : CXT} {E : XK}
/-- such a def called -/
theorem pe_callG (F : FnG X.prog X.w X.K X.mg X.base CX k f fd ps sp) (hr : Room k X.A) (gd : X.A.guards = some []) (hg : Gl X x) (hm : X.mg x = some (.ref f)) (hk : PySem.W.keepIn X.K (.ref f) = true) (hb : Binds X.K fd ps []) (hx : Passes CX X E)
    (ha : PA X (e :: es) t) (hdb : (x == ("__debug__" : Str)) = false := by decide) (he : starEach (e :: es) X.env = (false, eval e X.env) :: starEach es X.env := by rfl) (hpl : (backTo pos (starEach es X.env)).any (·.1) = false := by rfl) :
    PE X (.Call (.Name x p) (e :: es) [] pos) (tCall sp [] E t) := by
  refine ⟨fun pins s σ H Q I h => wpAny_Call_Name_kw (ld_glob I hg hm ?_ hdb)⟩
  refine PySem.W.callWith_K (h₀ := X.base) I.ok.mod.kin hk (thn (ha.run pos pins s σ H _ I h) fun us s1 ⟨vs, H1, I1, r, q⟩ => ⟨I1.kIn, ?_⟩) he hpl
  have hl : (us ++ []).length = ps.length := by rw [← (r.append .nil).length]; exact F.len _ _ _ _ q
  refine wpAny_call (codeAny_mono (F.run X.A X.stack s1 H1 ⟨us, []⟩ (us ++ []) (vs ++ []) Q E hr gd I1.env0 (hb s1 us I1.kIn hl) (r.append .nil) q) fun q s' hq => ?_)
  match q, hq with
  | .error e, hq => exact hx pins σ H1 s1 e s' I1 hq
  | .ok (.ret u), hq => exact I1.after hq
  | .ok .next, hq => exact False.elim hq
  | .ok .brk, hq => exact False.elim hq
  | .ok .cont, hq => exact False.elim hq
end

/-! ### the end -/
theorem script_ho {P : Program} {w : World} {K : PySem.W.Frag} {h : Heap} {a : Addr} {vs : List Value} {ns : List Int} (KX : K.In h) (ha : h.get? a = some { cls := .type "list", data := .seq vs.toArray }) (hi : IntsAre vs ns) (hl : ns.length ≤ sizeLine) :
    ∃ H : Hp, Only H ∧ SqL K H a (ns.map V.int) ∧ HOk P w H h ∧ ∀ b, H b ≠ none → b = a ∧ K.lookup a = none := by
  have lz : (ns.map V.int).length ≤ sizeLine := by rw [List.length_map]; exact hl
  cases hk : K.lookup a with
  | some o =>
    have e := KX a o hk
    rw [ha] at e
    cases e
    exact ⟨fun _ => none, fun _ => .inl rfl, .inr ⟨_, vs.toArray, _, hk, rfl, rfl, rfl, by rw [List.size_toArray, hi.length]; exact hl, by simpa using vals_ints hi⟩, (fun b u z => nomatch z), fun b z => absurd rfl z⟩
  | none =>
    refine ⟨fun b => if b = a then some (.frz { cls := .type "list", data := .seq vs.toArray } (.lst (ns.map V.int))) else none, fun b => ?_, .inl (.inr ⟨_, if_pos rfl⟩), fun b u z => ?_, fun b z => ⟨?_, rfl⟩⟩
    · by_cases hb : b = a
      · exact .inr ⟨_, _, if_pos hb⟩
      · exact .inl (if_neg hb)
    · by_cases hb : b = a
      · subst hb
        cases (if_pos rfl).symm.trans z
        exact ⟨ha, lz, vs, _, vals_ints hi, ha⟩
      · exact nomatch (if_neg hb).symm.trans z
    · exact Decidable.byContradiction fun hb => z (if_neg hb)

theorem lawG {P : Program} {w : World} {K : PySem.W.Frag} {mg mb : Str → Option Value} {k : Nat} {fa a : Addr} {fd : FuncData} {x : Str} {sp : Sp} {z : Shared} {vs : List Value} {ns : List Int}
    (KX : K.In z.heap) (hns : z.heap.Ns mainGlobals mg) (hb : z.heap.Ns builtinsNs mb) (hbb : ∀ x : Str, x ≠ "__name__" → mb x = bootBuiltins x) (hlim : z.heap.NoLimit) (hg : z.gens = #[])
    (ha : z.heap.get? a = some { cls := .type "list", data := .seq vs.toArray }) (hi : IntsAre vs ns) (hl : ns.length ≤ sizeLine) (hr : Room k callerA)
    (F : ∀ base : Heap, K.In base → base.Ns mainGlobals mg → FnG P w K mg base CX0 k fa fd [x] sp) (hbind : ∀ (s : Shared) (u : Value), BindsTo s fd ⟨[u], []⟩ [(x, u)])
    (hsp : ∀ H : Hp, Only H → SqL K H a (ns.map V.int) → sp [.ref a] H (fun v _ => v = .bl true) fun _ _ _ => False) :
    codeAny (model P w) callerA (.call (.ref fa) ⟨[.ref a], []⟩) (fun r y => r = .ok (.ret (.bool true)) ∧ OldK z.heap y.heap ∧ y.os = z.os ∧ AllBare y.gens) z := by
  obtain ⟨H, hO, hS, hok, only⟩ := script_ho (P := P) (w := w) KX ha hi hl
  -- what isn't the script stands in the base
  have keep : ∀ {b : Addr} {o : Obj}, z.heap.get? b = some o → (b ≠ a ∨ K.lookup a ≠ none) → (hidT z.heap H).get? b = some o := fun {b o} e q =>
    hidT_get e (Decidable.byContradiction fun n => have k := only b n; q.elim (fun q => q k.1) fun q => q k.2)
  have ns : ∀ {b : Addr} {m : Str → Option Value}, z.heap.Ns b m → (hidT z.heap H).Ns b m := fun {b m} ⟨o, es, ep, e, d, r⟩ => by
    refine ⟨o, es, ep, keep e (.inl fun q => ?_), d, r⟩
    rw [q, ha] at e
    cases e
    cases d
  have kin : K.In (hidT z.heap H) := fun b o e => keep (KX b o e) (by
    by_cases q : b = a
    · exact .inr fun n => by rw [q, n] at e; cases e
    · exact .inl q)
  have mod : Mod K mg (hidT z.heap H) := ⟨kin, ns hns, ⟨mb, ns hb, hbb⟩, let ⟨mc, h1, h2⟩ := hlim; ⟨mc, ns h1, h2⟩⟩
  have env : Env0 P w K mg (hidT z.heap H) callerA [] z H := ⟨rfl, mod, fun b o e => of_hidT e, Nat.le_of_eq (hidT_size _ _), trivial, (fun b hb => nomatch hb), hok, .of_eq hg⟩
  refine codeAny_mono ((F _ kin (ns hns)).run callerA [] z H ⟨[.ref a], []⟩ [.ref a] [.ref a] _ _ hr rfl env (hbind z (.ref a)) (.cons rfl .nil) (hsp H hO hS)) fun r y h => ?_
  match r, h with
  | .error e, h => exact h.elim
  | .ok .next, h => exact False.elim h
  | .ok .brk, h => exact False.elim h
  | .ok .cont, h => exact False.elim h
  | .ok (.ret u), h =>
    obtain ⟨v, G, os, bare, un, hokG, rv, q⟩ := h
    have q : v = .bl true := q
    subst q
    cases rv
    refine ⟨rfl, OldK.of_keep fun b o e => ?_, os, bare⟩
    cases t : H b with
    | none => exact un.keep b o e t (fun n => nomatch n) (fun n => nomatch n)
    | some u =>
      rcases hO b with n | ⟨ob, xs, n⟩
      · rw [t] at n; cases n
      · have e1 := (hok b _ n).1
        have e2 := (hokG b _ (un.frzs b ob _ n)).1
        rw [e] at e1
        cases e1
        exact e2

/-- the goal that k_head leaves -/
theorem walkG {l : PySem.W.OpenLaw} {n k : Nat} {q : Program} {loose : List Str} {XP : (Str → Option Value) → Heap → Prop} {YP : World → Heap → Prop} {d : DefRec} {K : Params → PySem.W.Frag} {sp : World → Sp} {x : Str}
    (hn : l.most = some n) (hn2 : n ≤ sizeLine) (hdf : d.params.defaults = []) (hr : Room k callerA) (hY : ∀ (w : World) (h : Heap), YP w h → (K w.params).In h)
    (F : ∀ (w : World) (mg : Str → Option Value) (fa : Addr) (h : Heap), (K w.params).In h → h.Ns mainGlobals mg → mg d.name = some (.ref fa) →
      ∃ fd : FuncData, (∀ (s : Shared) (u : Value), BindsTo s fd ⟨[u], []⟩ [(x, u)]) ∧ ∀ base : Heap, (K w.params).In base → base.Ns mainGlobals mg → FnG l.prog w (K w.params) mg base CX0 k fa fd [x] (sp w))
    (hsp : ∀ (w : World) (H : Hp) (a : Addr) (ns : List Int), ns.length ≤ n → Only H → SqL (K w.params) H a (ns.map V.int) → sp w [.ref a] H (fun v _ => v = .bl true) fun _ _ _ => False) :
    PySem.W.WalkO q loose XP YP l.row.toRowW d [] (fun f vs => PySem.call f vs) := by
  refine Att.attach_call hn hdf fun w s0 z mg mb fa o pm cd doc a vs ns G Y ho hd hcd hmg hobj hints hlen hg => ?_
  obtain ⟨fd, hb, hF⟩ := F w mg fa _ (hY w _ Y) G.T.g hmg
  exact lawG (hY w _ Y) G.T.g G.T.b G.T.builtins G.T.nolimit hg hobj hints (Nat.le_trans hlen hn2) hr hF hb fun H hO hS => hsp w H a ns hlen hO hS
end Two

set_option autoImplicit true
/-! The mathematics of merging lists: plain Lean. -/
set_option autoImplicit false
namespace Mg

/-- x stands behind no first item -/
def clear (rs : List (List Int)) (x : Int) : Bool := rs.all fun r => !(r.tail.contains x)
def heads (rs : List (List Int)) : List Int := rs.filterMap List.head?
def firstFree (rs : List (List Int)) : Option Int := (heads rs).find? (clear rs)
def pull1 (x : Int) (r : List Int) : List Int := if r.head? = some x then r.tail else r
def pull (x : Int) (rs : List (List Int)) : List (List Int) := rs.map (pull1 x)
def st (ls : List (List Int)) : Nat → List Int × List (List Int)
  | 0 => ([], ls)
  | n + 1 => match firstFree (st ls n).2 with
    | none => st ls n
    | some x => ((st ls n).1 ++ [x], pull x (st ls n).2)
theorem st_some {ls : List (List Int)} {n : Nat} {x : Int} (h : firstFree (st ls n).2 = some x) : st ls (n + 1) = ((st ls n).1 ++ [x], pull x (st ls n).2) := by
  show (match firstFree (st ls n).2 with | none => st ls n | some x => ((st ls n).1 ++ [x], pull x (st ls n).2)) = _
  rw [h]
theorem st_none {ls : List (List Int)} {n : Nat} (h : firstFree (st ls n).2 = none) : st ls (n + 1) = st ls n := by
  show (match firstFree (st ls n).2 with | none => st ls n | some x => ((st ls n).1 ++ [x], pull x (st ls n).2)) = _
  rw [h]
theorem st_final {ls : List (List Int)} {n : Nat} (h : firstFree (st ls n).2 = none) : ∀ k, st ls (n + k) = st ls n
  | 0 => rfl
  | k + 1 => by
    have e := st_final h k
    rw [← Nat.add_assoc, st_none (by rw [e]; exact h), e]
theorem final_unique {ls : List (List Int)} {n m : Nat} (h : firstFree (st ls n).2 = none) (h' : firstFree (st ls m).2 = none) : st ls n = st ls m := by
  rcases Nat.le_total n m with q | q
  · obtain ⟨k, rfl⟩ := Nat.exists_eq_add_of_le q
    exact (st_final h k).symm
  · obtain ⟨k, rfl⟩ := Nat.exists_eq_add_of_le q
    exact st_final h' k

theorem mem_heads {rs : List (List Int)} {x : Int} : x ∈ heads rs ↔ ∃ r ∈ rs, r.head? = some x := by
  unfold heads
  simp only [List.mem_filterMap]
theorem firstFree_some {rs : List (List Int)} {x : Int} (h : firstFree rs = some x) : x ∈ heads rs ∧ clear rs x = true :=
  ⟨List.mem_of_find?_eq_some h, List.find?_some h⟩
theorem clear_iff {rs : List (List Int)} {x : Int} : clear rs x = true ↔ ∀ r ∈ rs, x ∉ r.tail := by
  unfold clear
  simp [List.all_eq_true]
theorem firstFree_none {rs : List (List Int)} (h : firstFree rs = none) {x : Int} (hx : x ∈ heads rs) : ∃ r ∈ rs, x ∈ r.tail := by
  have q := List.find?_eq_none.mp h x hx
  refine Decidable.byContradiction fun n => q (clear_iff.mpr fun r hr k => n ⟨r, hr, k⟩)
theorem firstFree_of_empty {rs : List (List Int)} (h : ∀ r ∈ rs, r = []) : firstFree rs = none := by
  have e : heads rs = [] := by
    unfold heads
    refine List.filterMap_eq_nil_iff.mpr fun r hr => ?_
    rw [h r hr]
    rfl
  unfold firstFree
  rw [e]
  rfl

/-! what holds behind every step -/
structure Ok (ls : List (List Int)) (s : List Int × List (List Int)) : Prop where
  len : s.2.length = ls.length
  parts : ∀ (i : Nat) (l r : List Int), ls[i]? = some l → s.2[i]? = some r → l = s.1.filter (fun y => l.contains y) ++ r
  nd : s.1.Nodup
  apart : ∀ y ∈ s.1, ∀ r ∈ s.2, y ∉ r
theorem pull1_cases {x : Int} (r : List Int) : (∃ t, r = x :: t ∧ pull1 x r = t) ∨ (r.head? ≠ some x ∧ pull1 x r = r) := by
  unfold pull1
  by_cases h : r.head? = some x
  · rw [if_pos h]
    cases r with
    | nil => cases h
    | cons a t =>
      have e : a = x := Option.some.inj h
      subst e
      exact .inl ⟨t, rfl, rfl⟩
  · rw [if_neg h]
    exact .inr ⟨h, rfl⟩
theorem not_mem_of {x : Int} {r : List Int} (h : r.head? ≠ some x) (t : x ∉ r.tail) : x ∉ r := by
  cases r with
  | nil => simp
  | cons a r =>
    intro q
    rcases List.mem_cons.mp q with e | e
    · exact h (by rw [e]; rfl)
    · exact t e
theorem pull1_sub {x y : Int} {r : List Int} (h : y ∈ pull1 x r) : y ∈ r := by
  rcases pull1_cases (x := x) r with ⟨t, e, q⟩ | ⟨_, q⟩
  · rw [q] at h
    rw [e]
    exact List.mem_cons_of_mem _ h
  · rw [q] at h
    exact h
theorem Ok.step {ls : List (List Int)} {s : List Int × List (List Int)} {x : Int} (o : Ok ls s) (nls : ∀ l ∈ ls, l.Nodup) (h : firstFree s.2 = some x) : Ok ls (s.1 ++ [x], pull x s.2) := by
  obtain ⟨hx, hc⟩ := firstFree_some h
  have hc := clear_iff.mp hc
  obtain ⟨r0, hr0, h0⟩ := mem_heads.mp hx
  have x0 : x ∈ r0 := List.mem_of_mem_head? h0
  have nx : x ∉ s.1 := fun q => o.apart x q r0 hr0 x0
  refine ⟨by show (pull x s.2).length = _; unfold pull; rw [List.length_map]; exact o.len, fun i l r hl hr => ?_, ?_, fun y hy r hr => ?_⟩
  · have hr : (s.2.map (pull1 x))[i]? = some r := hr
    rw [List.getElem?_map] at hr
    obtain ⟨r1, h1, e1⟩ := Option.map_eq_some_iff.mp hr
    have p := o.parts i l r1 hl h1
    have t1 := hc r1 (List.mem_of_getElem? h1)
    show l = (s.1 ++ [x]).filter (fun y => l.contains y) ++ r
    rw [List.filter_append]
    rcases pull1_cases (x := x) r1 with ⟨t, e, q⟩ | ⟨n, q⟩
    · have xl : l.contains x = true := by
        rw [List.contains_iff_mem, p, e]
        simp
      have e2 : List.filter (fun y => l.contains y) [x] = [x] := by
        rw [List.filter_cons_of_pos (by exact xl)]
        rfl
      rw [e2, List.append_assoc, ← e1, q]
      rw [e] at p
      exact p
    · have n1 : x ∉ r1 := not_mem_of n t1
      have xl : ¬ l.contains x = true := by
        rw [List.contains_iff_mem, p, List.mem_append]
        rintro (k | k)
        · exact nx (List.mem_filter.mp k).1
        · exact n1 k
      have e2 : List.filter (fun y => l.contains y) [x] = [] := by
        rw [List.filter_cons_of_neg (by exact xl)]
        rfl
      rw [e2, List.append_nil, ← e1, q]
      exact p
  · exact List.nodup_append.mpr ⟨o.nd, by simp, fun a ha b hb => by
      rw [List.mem_singleton.mp hb]
      exact fun e => nx (e ▸ ha)⟩
  · obtain ⟨r1, h1, e1⟩ := List.mem_map.mp (show r ∈ s.2.map (pull1 x) from hr)
    subst e1
    rcases List.mem_append.mp hy with k | k
    · exact fun q => o.apart y k r1 h1 (pull1_sub q)
    · rw [List.mem_singleton.mp k]
      rcases pull1_cases (x := x) r1 with ⟨t, e, q⟩ | ⟨n, q⟩
      · rw [q]
        have := hc r1 h1
        rw [e] at this
        exact this
      · rw [q]
        exact not_mem_of n (hc r1 h1)
theorem ok_st {ls : List (List Int)} (nls : ∀ l ∈ ls, l.Nodup) : ∀ n, Ok ls (st ls n)
  | 0 => ⟨rfl, fun i l r hl hr => by
      have hr : ls[i]? = some r := hr
      rw [hl] at hr
      cases hr
      rfl, List.nodup_nil, fun y hy => nomatch hy⟩
  | n + 1 => by
    have o := ok_st nls n
    cases h : firstFree (st ls n).2 with
    | none => rw [st_none h]; exact o
    | some x => rw [st_some h]; exact o.step nls h

/-- the rests' lengths together -/
def size (rs : List (List Int)) : Nat := (rs.map List.length).sum
theorem pull1_le (x : Int) (r : List Int) : (pull1 x r).length ≤ r.length := by
  rcases pull1_cases (x := x) r with ⟨t, e, q⟩ | ⟨_, q⟩
  · rw [q, e]
    simp
  · rw [q]
    exact Nat.le_refl _
theorem size_pull_le (x : Int) : ∀ rs, size (pull x rs) ≤ size rs
  | [] => Nat.le_refl _
  | r :: rs => by
    have a := pull1_le x r
    have b := size_pull_le x rs
    show (pull1 x r).length + size (pull x rs) ≤ r.length + size rs
    omega
theorem size_pull_lt {x : Int} : ∀ {rs : List (List Int)}, x ∈ heads rs → size (pull x rs) < size rs
  | [], h => nomatch h
  | r :: rs, h => by
    show (pull1 x r).length + size (pull x rs) < r.length + size rs
    have a := pull1_le x r
    have b := size_pull_le x rs
    obtain ⟨r1, h1, e1⟩ := mem_heads.mp h
    rcases List.mem_cons.mp h1 with e | m
    · subst e
      rcases pull1_cases (x := x) r1 with ⟨t, e, q⟩ | ⟨n, _⟩
      · rw [q, e]
        simp only [List.length_cons]
        omega
      · exact absurd e1 n
    · have c := size_pull_lt (mem_heads.mpr ⟨r1, m, e1⟩)
      omega
theorem size_step {rs : List (List Int)} {x : Int} (h : firstFree rs = some x) : size (pull x rs) < size rs := size_pull_lt (firstFree_some h).1

/-- at the end each list stands in the order -/
theorem end_inside {ls : List (List Int)} {s : List Int × List (List Int)} (o : Ok ls s) (e : ∀ r ∈ s.2, r = []) {l : List Int} (hl : l ∈ ls) : s.1.filter (fun y => l.contains y) = l := by
  obtain ⟨i, hi⟩ := List.getElem?_of_mem hl
  have hlt : i < s.2.length := by rw [o.len]; exact (List.getElem?_eq_some_iff.mp hi).1
  have p := o.parts i l s.2[i] hi (List.getElem?_eq_getElem hlt)
  rw [e _ (List.getElem_mem hlt), List.append_nil] at p
  exact p.symm
/-- every item of the order is of the lists -/
theorem st_items (ls : List (List Int)) : ∀ n, (∀ y ∈ (st ls n).1, ∃ l ∈ ls, y ∈ l) ∧ (∀ r ∈ (st ls n).2, ∀ y ∈ r, ∃ l ∈ ls, y ∈ l)
  | 0 => ⟨fun y h => (nomatch h), fun r hr y hy => ⟨r, hr, hy⟩⟩
  | n + 1 => by
    obtain ⟨a, b⟩ := st_items ls n
    cases h : firstFree (st ls n).2 with
    | none => rw [st_none h]; exact ⟨a, b⟩
    | some x =>
      rw [st_some h]
      obtain ⟨r0, hr0, h0⟩ := mem_heads.mp (firstFree_some h).1
      refine ⟨fun y hy => ?_, fun r hr y hy => ?_⟩
      · rcases List.mem_append.mp hy with k | k
        · exact a y k
        · rw [List.mem_singleton.mp k]
          exact b r0 hr0 x (List.mem_of_mem_head? h0)
      · obtain ⟨r1, h1, e1⟩ := List.mem_map.mp (show r ∈ (st ls n).2.map (pull1 x) from hr)
        subst e1
        exact b r1 h1 y (pull1_sub hy)

/-! ### rings -/
def Ahead (l : List Int) (a b : Int) : Prop := ∃ u v, l = u ++ a :: v ∧ b ∈ v
structure IsRing (ls : List (List Int)) (ring : List (Int × Nat)) : Prop where
  two : 2 ≤ ring.length
  nd : (ring.map (·.1)).Nodup
  link : ∀ k, k < ring.length → ∃ a i b j l, ring[k]? = some (a, i) ∧ ring[(k + 1) % ring.length]? = some (b, j) ∧ ls[i]? = some l ∧ Ahead l a b

/-- a way from x: each tuple's item is the first of the rest beside it, in which the item ahead of it in the way stands behind -/
def Way (rs : List (List Int)) (x : Int) (way : List (Int × Nat)) : Prop :=
  ∀ k, k < way.length → ∃ a i y t, way[k]? = some (a, i) ∧ (x :: way.map (·.1))[k]? = some y ∧ rs[i]? = some (a :: t) ∧ y ∈ t
theorem Way.nil {rs : List (List Int)} {x : Int} : Way rs x [] := fun k h => nomatch h
theorem Way.snoc {rs : List (List Int)} {x y a : Int} {i : Nat} {t : List Int} {way : List (Int × Nat)} (w : Way rs x way) (hy : (x :: way.map (·.1))[way.length]? = some y) (hr : rs[i]? = some (a :: t)) (ht : y ∈ t) : Way rs x (way ++ [(a, i)]) := by
  intro k hk
  rw [List.length_append, List.length_singleton] at hk
  by_cases h : k < way.length
  · obtain ⟨a', i', y', t', h1, h2, h3, h4⟩ := w k h
    refine ⟨a', i', y', t', by rw [List.getElem?_append_left h]; exact h1, ?_, h3, h4⟩
    rw [List.map_append, ← List.cons_append, List.getElem?_append_left (by simp; omega)]
    exact h2
  · have e : k = way.length := by omega
    subst e
    refine ⟨a, i, y, t, by simp, ?_, hr, ht⟩
    rw [List.map_append, ← List.cons_append, List.getElem?_append_left (by simp)]
    exact hy
theorem way_items_last {x a : Int} {i : Nat} (way : List (Int × Nat)) : (x :: (way ++ [(a, i)]).map (·.1))[(way ++ [(a, i)]).length]? = some a := by
  simp
end Mg

set_option autoImplicit true
set_option autoImplicit false
namespace Mg
theorem way_item {x : Int} {way : List (Int × Nat)} {k : Nat} {a : Int} {i : Nat} (h : way[k]? = some (a, i)) : (x :: way.map (·.1))[k + 1]? = some a := by
  rw [List.getElem?_cons_succ, List.getElem?_map, h]
  rfl
theorem ring_at {way : List (Int × Nat)} {p k : Nat} (hp : p ≤ way.length) (hk : k < way.length - p) : (way.drop p).reverse[k]? = way[way.length - 1 - k]? := by
  rw [List.getElem?_reverse (by rw [List.length_drop]; exact hk), List.length_drop, List.getElem?_drop]
  congr 1
  omega
theorem nodup_rev {l : List Int} (h : l.Nodup) : l.reverse.Nodup := by
  have q : l.Pairwise (fun a b => b ≠ a) := List.Pairwise.imp (fun k e => k e.symm) h
  exact List.pairwise_reverse.mpr q
theorem ring_of_way {ls rs : List (List Int)} {x : Int} {way : List (Int × Nat)} {p : Nat} (w : Way rs x way) (suf : ∀ (i : Nat) (r : List Int), rs[i]? = some r → ∃ u, ls[i]? = some (u ++ r)) (nd : ∀ r ∈ rs, r.Nodup)
    (keys : ((x :: way.map (·.1)).take way.length).Nodup) (hp : p < way.length) (hx : (x :: way.map (·.1))[p]? = (x :: way.map (·.1))[way.length]?) : IsRing ls (way.drop p).reverse := by
  generalize hm : way.length = m at *
  have len : ((way.drop p).reverse).length = m - p := by rw [List.length_reverse, List.length_drop, hm]
  have two : 2 ≤ m - p := by
    refine Decidable.byContradiction fun n => ?_
    have e : m = p + 1 := by omega
    obtain ⟨a, i, y, t, h1, h2, h3, h4⟩ := w p (by omega)
    have h5 := way_item (x := x) h1
    rw [hx, e, h5] at h2
    cases h2
    have q := nd _ (List.mem_of_getElem? h3)
    exact (List.nodup_cons.mp q).1 h4
  refine ⟨by rw [len]; exact two, ?_, fun k hk => ?_⟩
  · rw [List.map_reverse]
    refine nodup_rev ?_
    rw [List.map_drop]
    have hl : (x :: way.map (·.1)).length = m + 1 := by simp [hm]
    obtain ⟨z, hz⟩ : ∃ z, (x :: way.map (·.1))[p]? = some z := ⟨_, List.getElem?_eq_getElem (by omega)⟩
    have hz2 := hx.symm.trans hz
    have e1 : (way.map (·.1)).drop p = (x :: way.map (·.1)).drop (p + 1) := rfl
    rw [e1]
    generalize x :: way.map (·.1) = xs at *
    have e2 : xs.drop (p + 1) = (xs.take m).drop (p + 1) ++ [z] := by
      have t : xs = xs.take m ++ [z] := by
        conv => lhs; rw [← List.take_append_drop m xs]
        congr 1
        obtain ⟨hlt, hv⟩ := List.getElem?_eq_some_iff.mp hz2
        rw [List.drop_eq_getElem_cons hlt, hv, List.drop_eq_nil_of_le (by omega)]
      have q := congrArg (List.drop (p + 1)) t
      rw [List.drop_append_of_le_length (by rw [List.length_take]; omega)] at q
      exact q
    rw [e2]
    refine List.nodup_append.mpr ⟨keys.sublist (List.drop_sublist _ _), by simp, fun a ha b hb => ?_⟩
    rw [List.mem_singleton.mp hb]
    rintro rfl
    have q : (xs.take m)[p]? = some a := by rw [List.getElem?_take_of_lt hp]; exact hz
    obtain ⟨hlt, hv⟩ := List.getElem?_eq_some_iff.mp q
    have k2 : (xs.take m).drop p = a :: (xs.take m).drop (p + 1) := by rw [List.drop_eq_getElem_cons hlt, hv]
    have k3 : ((xs.take m).drop p).Nodup := keys.sublist (List.drop_sublist _ _)
    rw [k2] at k3
    exact (List.nodup_cons.mp k3).1 ha
  · rw [len] at hk ⊢
    obtain ⟨a, i, y, t, h1, h2, h3, h4⟩ := w (m - 1 - k) (by omega)
    obtain ⟨u, hu⟩ := suf i _ h3
    have at0 : (way.drop p).reverse[k]? = some (a, i) := by rw [ring_at (by omega) (by omega), hm]; exact h1
    by_cases last : k + 1 < m - p
    · obtain ⟨b, j, y2, t2, g1, g2, g3, g4⟩ := w (m - 1 - (k + 1)) (by omega)
      have g5 := way_item (x := x) g1
      have e : m - 1 - (k + 1) + 1 = m - 1 - k := by omega
      rw [e, h2] at g5
      cases g5
      refine ⟨a, i, y, j, u ++ a :: t, at0, ?_, hu, ⟨u, t, rfl, h4⟩⟩
      rw [Nat.mod_eq_of_lt last, ring_at (by omega) (by omega), hm]
      exact g1
    · have e : k + 1 = m - p := by omega
      obtain ⟨b, j, y2, t2, g1, g2, g3, g4⟩ := w (m - 1) (by omega)
      have g5 := way_item (x := x) g1
      have e2 : m - 1 + 1 = m := by omega
      rw [e2, ← hx] at g5
      have e3 : m - 1 - k = p := by omega
      rw [e3, g5] at h2
      have eb : b = y := Option.some.inj h2
      subst eb
      refine ⟨a, i, b, j, u ++ a :: t, at0, ?_, hu, ⟨u, t, rfl, h4⟩⟩
      rw [e, Nat.mod_self, ring_at (by omega) (by omega), hm]
      exact g1

/-- the rests are ends of the lists -/
theorem Ok.suf {ls : List (List Int)} {s : List Int × List (List Int)} (o : Ok ls s) (i : Nat) (r : List Int) (h : s.2[i]? = some r) : ∃ u, ls[i]? = some (u ++ r) := by
  have lt : i < ls.length := by rw [← o.len]; exact (List.getElem?_eq_some_iff.mp h).1
  have q := o.parts i ls[i] r (List.getElem?_eq_getElem lt) h
  exact ⟨_, by rw [List.getElem?_eq_getElem lt]; exact congrArg some q⟩
theorem Ok.nodups {ls : List (List Int)} {s : List Int × List (List Int)} (o : Ok ls s) (nls : ∀ l ∈ ls, l.Nodup) : ∀ r ∈ s.2, r.Nodup := by
  intro r hr
  obtain ⟨i, hi⟩ := List.getElem?_of_mem hr
  obtain ⟨u, hu⟩ := o.suf i r hi
  exact (nls _ (List.mem_of_getElem? hu)).sublist (List.sublist_append_right _ _)

theorem nodup_at : ∀ {l : List Int} {i j : Nat} (nd : l.Nodup) (hi : i < l.length) (hj : j < l.length), l[i] = l[j] → i = j
  | a :: l, 0, 0, _, _, _, _ => rfl
  | a :: l, 0, j + 1, nd, _, hj, e => absurd (show a ∈ l from (show a = l[j]'(Nat.lt_of_succ_lt_succ hj) from e) ▸ List.getElem_mem _) (List.nodup_cons.mp nd).1
  | a :: l, i + 1, 0, nd, hi, _, e => absurd (show a ∈ l from (show l[i]'(Nat.lt_of_succ_lt_succ hi) = a from e) ▸ List.getElem_mem _) (List.nodup_cons.mp nd).1
  | a :: l, i + 1, j + 1, nd, hi, hj, e => congrArg (· + 1) (nodup_at (List.nodup_cons.mp nd).2 (Nat.lt_of_succ_lt_succ hi) (Nat.lt_of_succ_lt_succ hj) e)
/-- where an item that stands ahead is found -/
theorem Ahead.at {l : List Int} {a b : Int} (h : Ahead l a b) (nd : l.Nodup) : ∃ i j : Nat, l[i]? = some a ∧ l[j]? = some b ∧ i < j ∧ (∀ m, m < i → l[m]? ≠ some a) ∧ (∀ m, m < j → l[m]? ≠ some b) := by
  obtain ⟨u, v, rfl, hb⟩ := h
  obtain ⟨n, hn⟩ := List.getElem?_of_mem hb
  have ha : (u ++ a :: v)[u.length]? = some a := by simp
  have hb2 : (u ++ a :: v)[u.length + 1 + n]? = some b := by
    rw [List.getElem?_append_right (by omega)]
    have e : u.length + 1 + n - u.length = n + 1 := by omega
    rw [e, List.getElem?_cons_succ]
    exact hn
  have un : ∀ {i j : Nat} {c : Int}, (u ++ a :: v)[i]? = some c → (u ++ a :: v)[j]? = some c → i = j := fun {i j c} h1 h2 => by
    obtain ⟨l1, e1⟩ := List.getElem?_eq_some_iff.mp h1
    obtain ⟨l2, e2⟩ := List.getElem?_eq_some_iff.mp h2
    exact nodup_at nd l1 l2 (e1.trans e2.symm)
  exact ⟨_, _, ha, hb2, by omega, fun m hm k => by have := un k ha; omega, fun m hm k => by have := un k hb2; omega⟩
end Mg

set_option autoImplicit true
set_option Elab.async false
set_option linter.all false
set_option maxRecDepth 100000
set_option maxHeartbeats 4000000
namespace Pr
open PySem L2 Two
/-! ### the text by places -/
def top (i : Nat) : Stmt := PySem.Challenge.pw_layoutline_k91_whole_made_by_definition.main.body.getD i (.Pass ⟨0, 0, 0, 0⟩)
abbrev sIsInt : Stmt := top 16
abbrev sUnlike : Stmt := top 28
abbrev sMerge : Stmt := top 37
-- no sShows
-- no sIsRing
abbrev sCheck : Stmt := top 38
abbrev sIsList : Stmt := top 39
abbrev sTimes : Stmt := top 40
abbrev sFree : Stmt := top 41
abbrev sTake : Stmt := top 42
abbrev sRingOf : Stmt := top 43
-- no sIsPart
-- no sAhead

/-- what the module's names hold -/
structure Txt (mg : Str → Option Value) : Prop where
  isinstance : mg "isinstance" = none
  int : mg "int" = none
  bool : mg "bool" = none
  str : mg "str" = none
  list : mg "list" = none
  tuple : mg "tuple" = none
  set : mg "set" = none
  len : mg "len" = none
  all : mg "all" = none
  any : mg "any" = none
  zip : mg "zip" = none
  enum : mg "enumerate" = none
  range : mg "range" = none
  most : ∃ t, mg "MOST_ITEMS" = some (.int 30 t)

/-! ### words about heaps -/
theorem tyx_list {K : PySem.W.Frag} {H : Hp} {a : Addr} {xs : List V} (h : SqL K H a xs) : TyX K H (.ref a) (.type "list") := by
  rcases h with (h | ⟨o, h⟩) | ⟨o, its, n, h, c, _⟩
  · exact .base (.lst h)
  · exact .base (.frz h)
  · exact .kList h c
theorem same_upd {H H' : Hp} {p : Addr} {o : HO} (s : Same H H') (n : H p = none) : Same H (upd H' p o) := fun b u e => by
  rw [upd_ne (ne_of_none e n)]
  exact s b u e
theorem same_new {H : Hp} {p : Addr} {o : HO} (n : H p = none) : Same H (upd H p o) := same_upd (Same.refl H) n
theorem none_of_same {H H' : Hp} (s : Same H H') {p : Addr} (n : H' p = none) : H p = none := s.free n
theorem get_map {α β : Type} {f : α → β} {l : List α} {i : Nat} {y : β} (h : (l.map f)[i]? = some y) : ∃ x, l[i]? = some x ∧ y = f x := by
  rw [List.getElem?_map] at h
  obtain ⟨x, h1, h2⟩ := Option.map_eq_some_iff.mp h
  exact ⟨x, h1, h2.symm⟩
theorem take_snoc {α : Type} : ∀ {l : List α} {i : Nat} {x : α}, l[i]? = some x → l.take (i + 1) = l.take i ++ [x]
  | [], i, x, h => by simp at h
  | a :: l, 0, x, h => by
    have e : a = x := Option.some.inj h
    rw [e]
    rfl
  | a :: l, i + 1, x, h => by
    have q := take_snoc (l := l) (i := i) (x := x) h
    show a :: l.take (i + 1) = a :: l.take i ++ [x]
    rw [q]
    rfl
theorem map_take_snoc {α β : Type} (f : α → β) {l : List α} {i : Nat} {x : α} (h : l[i]? = some x) : (l.take (i + 1)).map f = (l.take i).map f ++ [f x] := by
  rw [take_snoc h, List.map_append]
  rfl

/-- [e for x in xs] whose element is f x and makes nothing that stands in the way -/
theorem lc_pure {K : PySem.W.Frag} {a : Addr} {xs : List V} {te : TE} {vs : List Nat} {σ : L2.St} {H1 : Hp} {D : Addr} {Qd : Hp → Prop} (i : Nat) (f : V → V) (hS : SqL K H1 a xs) (hz : xs.length ≤ sizeLine) (hD : H1 D = none)
    (hw : ∀ x, wipe ((wipe σ vs).set i (some x)) vs = wipe σ vs)
    (step : ∀ (j : Nat) (x : V) (H : Hp) (Q : VK), xs[j]? = some x → Same H1 H → (∀ H', Same H H' → Q (f x) H') → te ((wipe σ vs).set i (some x)) H Q)
    (done : ∀ H, Same H1 H → H D = some (.lst (xs.map f)) → Qd H) :
    ∃ W : Nat → Nat → Hp → Prop, (∃ m, W 0 m (upd H1 D (.lst []))) ∧ ∀ i' m H, W i' m H →
      ((Itl K a).stop i' H ∧ Qd H) ∨ ((Itl K a).go i' H ∧ ∃ Nx : Hp → Prop, (∀ H', Nx H' → ∃ m', m' < m ∧ W (i' + 1) m' H') ∧ ∀ x H', (Itl K a).yld i' H x H' → gName i x (wipe σ vs) H' fun σ2 H2 => wipe σ2 vs = wipe σ vs ∧ tYes σ2 H2 fun b H3 =>
        if b = true then te σ2 H3 fun y H4 => ∃ acc, H4 D = some (.lst acc) ∧ acc.length < sizeLine ∧ Nx (upd H4 D (.lst (acc ++ [y]))) else Nx H3) := by
  refine lc_list (xs := xs) (fun j H => Same H1 H ∧ H D = some (.lst ((xs.take j).map f))) ⟨same_new hD, upd_same⟩ (fun j H _ p => p.1.seq hS) (fun j x H hx p => ?_) fun H p => done H p.1 (by rw [List.take_length] at p; exact p.2)
  refine ⟨hw x, ?_⟩
  unfold tYes
  simp only [if_true]
  refine step j x H _ hx p.1 fun H' s => ⟨_, s _ _ p.2, ?_, same_upd (p.1.trans s) hD, ?_⟩
  · have := (List.getElem?_eq_some_iff.mp hx).1
    rw [List.length_map, List.length_take]
    omega
  · rw [upd_same, map_take_snoc f hx]

/-! ### is_int -/
def spIsInt (K : PySem.W.Frag) : Sp := fun vs H Q _ => ∃ (x : V) (t : Value) (b1 b2 : Bool), vs = [x] ∧ TyX K H x t ∧ PySem.W.kitOne K t (.type "int") = some b1 ∧ PySem.W.kitOne K t (.type "bool") = some b2 ∧ Q (.bl (b1 && !b2)) H
section
variable {P : Program} {w : World} {K : PySem.W.Frag} {mg : Str → Option Value} {base : Heap}
theorem scIsInt : FnScope ["thing"] ["thing"] (defScope sIsInt) := ⟨rfl, rfl, rfl, by decide +kernel, rfl, by decide +kernel, by decide +kernel⟩
theorem ok_isInt {f : Addr} {fd : FuncData} (F : Fun K "is_int" "is_int" sIsInt f fd) (T : Txt mg) : FnOk P w K mg base CX0 1 f fd ["thing"] (spIsInt K) := by
  refine F.ok scIsInt (fun vs H Q E h => ?_) (fun cdv A outer s H vs Q E hr h => ?_)
  · obtain ⟨x, _, _, _, rfl, _⟩ := h
    rfl
  · obtain ⟨x, t, b1, b2, rfl, ty, h1, h2, k⟩ := h
    refine ⟨_, pss_one (ps_ret (pe_and (pe_callB call_isi (by rfl) T.isinstance (by decide +kernel) (pa_cons (pv 0) (pa_cons (pe_bltn (v := .ty "int") (by rfl) T.int (by decide +kernel) rfl) pa_nil)))
      (pe_one (pe_not (pe_callB call_isi (by rfl) T.isinstance (by decide +kernel) (pa_cons (pv 0) (pa_cons (pe_bltn (v := .ty "bool") (by rfl) T.bool (by decide +kernel) rfl) pa_nil))))))), ?_⟩
    refine ⟨x, rfl, x, .ty "int", t, .type "int", b1, rfl, .ty _, ty, h1, b1, rfl, ?_⟩
    cases b1 with
    | false => exact iteF k
    | true => exact iteT ⟨x, rfl, x, .ty "bool", t, .type "bool", b2, rfl, .ty _, ty, h2, b2, rfl, k⟩
theorem isInt_int (i : Int) (H : Hp) (Q : VK) (E : XK) (k : Q (.bl true) H) : spIsInt K [.int i] H Q E := ⟨.int i, .type "int", true, false, rfl, .base (.int i), kit_ty (by decide +kernel), kit_ty (by decide +kernel), k⟩

/-! ### check_unlike, where nothing stands twice -/
def spUnlike (K : PySem.W.Frag) : Sp := fun vs H Q _ => ∃ (a : Addr) (ns : List Int), vs = [.ref a] ∧ SqL K H a (ns.map V.int) ∧ ns.Nodup ∧ ns.length ≤ 1000 ∧ ∀ H', Same H H' → Q .non H'
theorem scUnlike : FnScope ["things", "seen", "thing"] ["things"] (defScope sUnlike) := ⟨rfl, rfl, rfl, by decide +kernel, rfl, by decide +kernel, by decide +kernel⟩
theorem ok_unlike {f : Addr} {fd : FuncData} (F : Fun K "check_unlike" "check_unlike" sUnlike f fd) (T : Txt mg) : FnOk P w K mg base CX0 1 f fd ["things"] (spUnlike K) := by
  refine F.ok scUnlike (fun vs H Q E h => ?_) (fun cdv A outer s H vs Q E hr h => ?_)
  · obtain ⟨a, ns, rfl, _⟩ := h
    rfl
  · obtain ⟨a, ns, rfl, hS, nd, hl, k⟩ := h
    refine ⟨_, pss_cons (ps_set (i := 1) scUnlike.nd rfl (Or.inl rfl) (pe_callTy0 cr_set0 (by rfl) T.set (by decide +kernel)))
      (pss_one (ps_for PassesOwn.never rfl (pi_list (pv 0)) (pg_name (i := 2) scUnlike.nd rfl (Or.inl rfl))
        (pss_cons (ps_if (pt_cmpR or_sin (pv 2) (pv 1) (by rfl)) (pss_never) pss_nil) (pss_one (ps_expr (pe_sadd (pv 1) (pa_cons (pv 2) pa_nil))))))), ?_⟩
    refine ⟨rfl, fun p hp => ?_⟩
    refine ⟨_, rfl, a, rfl, ⟨_, (same_new hp).seq hS⟩, for_list (K := K) (a := a) (xs := ns.map V.int) (fun i σ H' => ∃ (v : Option V) (S : Int → Bool) (n : Nat), σ = [some (.ref a), some (.ref p), v] ∧ Same H H' ∧ H' p = some (SetO w p S n) ∧ n ≤ i ∧ ∀ z, S z = true → z ∈ ns.take i)
      ⟨none, fun _ => false, 0, rfl, same_new hp, upd_same, Nat.le_refl _, fun z h => by cases h⟩ (fun i σ H' _ ⟨_, _, _, _, s1, _⟩ => s1.seq hS) ?_ ?_⟩
    · rintro i y σ H' hi ⟨v, S, n, rfl, s1, hp1, hn, hz⟩
      obtain ⟨z, hz1, rfl⟩ := get_map hi
      have hlt := (List.getElem?_eq_some_iff.mp hz1).1
      have new : S z = false := by
        cases e : S z with
        | false => rfl
        | true =>
          exfalso
          obtain ⟨m, hm⟩ := List.getElem?_of_mem (hz z e)
          have mi : m < i := by
            have := (List.getElem?_eq_some_iff.mp hm).1
            rw [List.length_take] at this
            omega
          rw [List.getElem?_take_of_lt mi] at hm
          obtain ⟨l1, e1⟩ := List.getElem?_eq_some_iff.mp hm
          obtain ⟨l2, e2⟩ := List.getElem?_eq_some_iff.mp hz1
          have := Mg.nodup_at nd l1 l2 (e1.trans e2.symm)
          omega
      refine ⟨_, rfl, _, rfl, z, p, S, n, rfl, rfl, hp1, _, rfl, ?_⟩
      rw [new]
      refine iteF ?_
      refine ⟨_, rfl, ⟨p, S, n, rfl, hp1⟩, _, rfl, p, z, S, n, rfl, rfl, hp1, by unfold scanBound; omega, ?_⟩
      refine ⟨_, _, _, rfl, same_upd s1 hp, upd_same, by rw [new]; simp; omega, fun z2 h2 => ?_⟩
      rw [take_snoc hz1]
      rcases Bool.or_eq_true_iff.mp h2 with h2 | h2
      · exact List.mem_append_left _ (hz z2 h2)
      · rw [of_decide_eq_true h2]
        simp
    · rintro σ H' ⟨v, S, n, rfl, s1, _⟩
      exact k _ s1

/-! ### _is_list_of_ints -/
def spIsList (K : PySem.W.Frag) : Sp := fun vs H Q _ => ∃ (a : Addr) (ns : List Int), vs = [.ref a] ∧ SqL K H a (ns.map V.int) ∧ ns.length ≤ 1000 ∧ ∀ H', Same H H' → Q (.bl true) H'
theorem scIsList : FnScope ["items", "item"] ["items"] (defScope sIsList) := ⟨rfl, rfl, rfl, by decide +kernel, rfl, by decide +kernel, by decide +kernel⟩
theorem all_true (f : V → V) : ∀ l : List V, (∀ x ∈ l, f x = .bl true) → l.map f = (l.map fun _ => true).map V.bl
  | [], _ => rfl
  | x :: l, h => by
    simp only [List.map_cons]
    rw [h x List.mem_cons_self, all_true f l fun y hy => h y (List.mem_cons_of_mem _ hy)]
theorem all_id : ∀ l : List V, (l.map fun _ => true).all id = true
  | [] => rfl
  | _ :: l => all_id l
theorem ok_isList {f fI : Addr} {fd fdI : FuncData} (F : Fun K "_is_list_of_ints" "_is_list_of_ints" sIsList f fd) (T : Txt mg) (gI : mg "is_int" = some (.ref fI)) (kI : PySem.W.keepIn K (.ref fI) = true) (bI : Binds K fdI ["thing"] []) (GI : FnOk P w K mg base CX0 1 fI fdI ["thing"] (spIsInt K)) :
    FnOk P w K mg base CX0 2 f fd ["items"] (spIsList K) := by
  refine F.ok scIsList (fun vs H Q E h => ?_) (fun cdv A outer s H vs Q E hr h => ?_)
  · obtain ⟨a, ns, rfl, _⟩ := h
    rfl
  · obtain ⟨a, ns, rfl, hS, hl, k⟩ := h
    refine ⟨_, pss_one (ps_ret (pe_and (pe_callB call_isi (by rfl) T.isinstance (by decide +kernel) (pa_cons (pv 0) (pa_cons (pe_bltn (v := .ty "list") (by rfl) T.list (by decide +kernel) rfl) pa_nil)))
      (pe_one (pe_callB (cr_all rfl) (by rfl) T.all (by decide +kernel) (pa_cons (pe_lc (own := [("item", 1)]) (g := gName 1) (tt := tYes) rfl scIsList.nd (pi_list (pv 0)) (blkOk_by (N := ["items", "item"]) (sc := defScope sIsList) (by decide +kernel))
        (fun _ _ _ _ _ => pg_name (i := 1) scIsList.nd rfl (Or.inl rfl)) (fun _ _ _ _ _ => pts_nil) (fun _ _ _ _ _ => pe_call GI hr rfl gI kI bI .nil pass0 (pa_cons (pv 1) pa_nil))) pa_nil))))), ?_⟩
    refine ⟨_, rfl, _, .ty "list", .type "list", .type "list", true, rfl, .ty _, tyx_list hS, kit_ty (by decide +kernel), true, rfl, iteT ?_⟩
    refine ⟨_, rfl, a, rfl, ⟨_, hS⟩, fun D hD => lc_pure (xs := ns.map V.int) 1 (fun _ => .bl true) hS (by rw [List.length_map]; exact Nat.le_of_lt (small1000 hl)) hD (fun _ => rfl) (fun j x H1 Q1 hx s1 q1 => ?_) fun H1 s1 h1 => ?_⟩
    · obtain ⟨z, _, rfl⟩ := get_map hx
      exact ⟨_, rfl, isInt_int z _ _ E0 (q1 _ (Same.refl _))⟩
    · refine ⟨D, _, rfl, SqL.of (by rw [h1, all_true _ _ fun _ _ => rfl]), ?_⟩
      rw [all_id]
      exact k _ s1
end
end Pr

set_option autoImplicit true
set_option Elab.async false
set_option linter.all false
set_option maxRecDepth 100000
set_option maxHeartbeats 1000000
/-! The errors' own __init__. -/
namespace Pr
open PySem L2 Two ClX
/-- the i-th statement of a class -/
def within (st : Stmt) (i : Nat) : Stmt := match st with
  | .ClassDef _ _ _ body _ _ _ _ _ _ _ => body.getD i (.Pass ⟨0, 0, 0, 0⟩)
  | _ => .Pass ⟨0, 0, 0, 0⟩
abbrev sLineInit : Stmt := within (top 2) 0
abbrev sDupInit : Stmt := within (top 8) 0
abbrev sManyInit : Stmt := within (top 9) 0
/-- what is left of an error that is being made: its dict has these -/
structure Made (H H' : Hp) (a C dx : Addr) (fs : List (Str × V)) : Prop where
  obj : H' a = some (exo a C (some dx))
  dict : H' dx = some (exd dx fs)
  new : H dx = none
  ne : dx ≠ a
  else_ : ∀ b, b ≠ a → b ≠ dx → H' b = H b
def spInit (K : PySem.W.Frag) (names : List Str) (fs : V → List (Str × V)) : Sp := fun vs H Q _ => ∃ (a C : Addr) (y : V), vs = [.ref a, y] ∧ OexC K C ∧ (∀ f ∈ names, PySem.W.findIn K (.ref C) f = some none) ∧ H a = some (exo a C none) ∧
  ∀ (H' : Hp) (dx : Addr), Made H H' a C dx (fs y) → Q .non H'
section
variable {P : Program} {w : World} {K : PySem.W.Frag} {mg : Str → Option Value} {base : Heap}
theorem scLineInit : FnScope ["self", "why"] ["self", "why"] (defScope sLineInit) := ⟨rfl, rfl, rfl, by decide +kernel, rfl, by decide +kernel, by decide +kernel⟩
theorem ok_lineInit {f : Addr} {fd : FuncData} (F : Fun K "__init__" "LineError.__init__" sLineInit f fd) : FnOk P w K mg base CX0 1 f fd ["self", "why"] (spInit K ["why"] fun y => [("why", y)]) := by
  refine F.ok scLineInit (fun vs H Q E h => ?_) (fun cdv A outer s H vs Q E hr h => ?_)
  · obtain ⟨a, C, y, rfl, _⟩ := h
    rfl
  · obtain ⟨a, C, y, rfl, T, hn, hH, k⟩ := h
    refine ⟨_, pss_one (ps_ost (pv 0) (pv 1)), ?_⟩
    refine ⟨_, rfl, _, rfl, a, C, rfl, T, hn _ List.mem_cons_self, .inl ⟨hH, fun dx hdx ne => k _ dx ⟨upd_same, by rw [upd_ne ne]; exact upd_same, hdx, ne, fun b h1 h2 => by rw [upd_ne h1, upd_ne h2]⟩⟩⟩
theorem ok_init1 {st : Stmt} {fld tag x qual : Str} {f cL : Addr} {fd : FuncData}
    (F : Fun K "__init__" qual st f fd) (S : FnScope ["self", x] ["self", x] (defScope st))
    (body : ∀ (cdv : Value) (A : Around) (outer : List Env) (s : Shared) (H : Hp) (E : XK), Room 1 (A.deeper (PyProof.Rows.envOfC qual (defScope st) s.heap.objs.size f cdv)) →
      PSs (cxOf CX0 P w K mg base ["self", x] qual (defScope st) f cdv A outer s H E).nox (defBody st) (tSeq (tDrop (tCFn cL (spInit K ["why"] fun y => [("why", y)]) [] E0 (tC (.ref cL)) (tCons (tVar 0) (tCons (tC (.str tag)) tNil)))) (tOst K fld (tVar 0) (tVar 1)))) :
    FnOk P w K mg base CX0 2 f fd ["self", x] (spInit K ["why", fld] fun y => [(fld, y), ("why", .str tag)]) := by
  refine F.ok S (fun vs H Q E h => ?_) (fun cdv A outer s H vs Q E hr h => ?_)
  · obtain ⟨a, C, y, rfl, _⟩ := h
    rfl
  · obtain ⟨a, C, y, rfl, T, hn, hH, k⟩ := h
    refine ⟨_, body cdv A outer s H E hr, ?_⟩
    refine ⟨rfl, _, rfl, a, C, .str tag, rfl, T, fun g hg => hn g (by rw [List.mem_singleton.mp hg]; exact List.mem_cons_self), hH, fun H' dx m => ?_⟩
    refine ⟨_, rfl, _, rfl, a, C, rfl, T, hn _ (List.mem_cons_of_mem _ List.mem_cons_self), .inr ⟨dx, _, m.obj, m.dict, by show 1 ≤ 900; decide, k _ dx ⟨by rw [upd_ne m.ne.symm]; exact m.obj, upd_same, m.new, m.ne, fun b h1 h2 => by rw [upd_ne h2]; exact m.else_ b h1 h2⟩⟩⟩
theorem scDupInit : FnScope ["self", "thing"] ["self", "thing"] (defScope sDupInit) := ⟨rfl, rfl, rfl, by decide +kernel, rfl, by decide +kernel, by decide +kernel⟩
theorem ok_dupInit {f fL cL : Addr} {fd dL : FuncData} {mc : Value} (F : Fun K "__init__" "Duplicate.__init__" sDupInit f fd) (gL : mg "LineError" = some (.ref cL)) (kL : PySem.W.keepIn K (.ref cL) = true) (r : CRead K cL mc) (c : CFn K cL mc "__init__" fL) (bL : Binds K dL ["self", "why"] [])
    (GL : FnOk P w K mg base CX0 1 fL dL ["self", "why"] (spInit K ["why"] fun y => [("why", y)])) : FnOk P w K mg base CX0 2 f fd ["self", "thing"] (spInit K ["why", "thing"] fun y => [("thing", y), ("why", .str "duplicate")]) :=
  ok_init1 (cL := cL) F scDupInit fun cdv A outer s H E hr => pss_cons (ps_expr (pe_cfn (pe_glob rfl gL rfl) r c GL hr bL .nil pass0 (pa_cons (pv 0) (pa_cons pe_str pa_nil)))) (pss_one (ps_ost (pv 0) (pv 1)))
theorem scManyInit : FnScope ["self", "limit"] ["self", "limit"] (defScope sManyInit) := ⟨rfl, rfl, rfl, by decide +kernel, rfl, by decide +kernel, by decide +kernel⟩
theorem ok_manyInit {f fL cL : Addr} {fd dL : FuncData} {mc : Value} (F : Fun K "__init__" "TooMany.__init__" sManyInit f fd) (gL : mg "LineError" = some (.ref cL)) (r : CRead K cL mc) (c : CFn K cL mc "__init__" fL) (bL : Binds K dL ["self", "why"] [])
    (GL : FnOk P w K mg base CX0 1 fL dL ["self", "why"] (spInit K ["why"] fun y => [("why", y)])) : FnOk P w K mg base CX0 2 f fd ["self", "limit"] (spInit K ["why", "limit"] fun y => [("limit", y), ("why", .str "too many")]) :=
  ok_init1 (cL := cL) F scManyInit fun cdv A outer s H E hr => pss_cons (ps_expr (pe_cfn (pe_glob rfl gL rfl) r c GL hr bL .nil pass0 (pa_cons (pv 0) (pa_cons pe_str pa_nil)))) (pss_one (ps_ost (pv 0) (pv 1)))
end
end Pr

set_option autoImplicit true
set_option Elab.async false
set_option linter.all false
set_option maxRecDepth 100000
set_option maxHeartbeats 1000000
/-! check_unlike, raising too. -/
namespace Pr
open PySem L2 Two ClX
/-- what is known of an error's class with an __init__ of one field -/
structure ErrTxt (P : Program) (w : World) (K : PySem.W.Frag) (mg : Str → Option Value) (base : Heap) (x fld tag : Str) (C fI : Addr) (dI : FuncData) : Prop where
  gC : mg x = some (.ref C)
  T : OexC K C
  iC : PySem.W.findIn K (.ref C) "__init__" = some (some (.ref fI))
  tI : PySem.W.typeIn K (.ref fI) = some (.type "function")
  bI : Binds K dI ["self", fld] []
  GI : FnOk P w K mg base CX0 2 fI dI ["self", fld] (spInit K ["why", fld] fun y => [(fld, y), ("why", .str tag)])
  nw : PySem.W.findIn K (.ref C) "why" = some none
  nf : PySem.W.findIn K (.ref C) fld = some none
/-- the error that is raised -/
def Thrown (H : Hp) (E : XK) (C : Addr) (fs : List (Str × V)) : Prop := ∀ (d : Addr) (H' : Hp), Same H H' → H d = none → H' d = some (.xd fs) → E (.ref C) (some d) H'
section
variable {P : Program} {w : World} {K : PySem.W.Frag} {mg : Str → Option Value} {base : Heap}
/-- what the making of such an error asks -/
theorem mk_err {x fld tag : Str} {C fI : Addr} {dI : FuncData} {ta : TA} {σ : L2.St} {H : Hp} {E : XK} (T : ErrTxt P w K mg base x fld tag C fI dI) {y : V}
    (h : ta σ H fun vs H1 => vs = [y] ∧ Same H H1 ∧ Thrown H1 E C [(fld, y), ("why", .str tag)]) (mono : ∀ {A B : List V → Hp → Prop}, (∀ v G, A v G → B v G) → ta σ H A → ta σ H B) :
    tMkO C (spInit K ["why", fld] fun y => [(fld, y), ("why", .str tag)]) [] ta σ H E := by
  refine mono (fun vs H1 q => ?_) h
  obtain ⟨rfl, s, th⟩ := q
  refine ⟨by show 1 ≤ 1000; decide, fun a ha => ⟨a, C, y, rfl, T.T, fun f hf => ?_, upd_same, fun H' dx m => ⟨rfl, dx, _, m.obj, m.dict, ?_, ?_⟩⟩⟩
  · rcases List.mem_cons.mp hf with rfl | hf
    · exact T.nw
    · rw [List.mem_singleton.mp hf]; exact T.nf
  · have := m.new
    rw [upd_ne m.ne] at this
    exact this
  · have n0 : H1 dx = none := by
      have := m.new
      rw [upd_ne m.ne] at this
      exact this
    refine th dx _ (fun b o e => ?_) n0 upd_same
    have b1 : b ≠ a := fun q => by rw [q, ha] at e; cases e
    have b2 : b ≠ dx := fun q => by rw [q, n0] at e; cases e
    rw [upd_ne b2, del_ne b1, m.else_ b b1 b2, upd_ne b1]
    exact e
/-- the first item that stands earlier -/
def Twice (ns : List Int) (z : Int) : Prop := ∃ i, ns[i]? = some z ∧ z ∈ ns.take i ∧ (ns.take i).Nodup
def spUnlikeX (K : PySem.W.Frag) (C : Addr) : Sp := fun vs H Q E => ∃ (a : Addr) (ns : List Int), vs = [.ref a] ∧ SqL K H a (ns.map V.int) ∧ ns.length ≤ 1000 ∧ (ns.Nodup → ∀ H', Same H H' → Q .non H') ∧
  ∀ z, Twice ns z → ∀ H', Same H H' → Thrown H' E C [("thing", .int z), ("why", .str "duplicate")]
theorem ok_unlikeX {f C fI : Addr} {fd dI : FuncData} (F : Fun K "check_unlike" "check_unlike" sUnlike f fd) (T : Txt mg) (TD : ErrTxt P w K mg base "Duplicate" "thing" "duplicate" C fI dI) : FnOk P w K mg base (L2.CX P w) 4 f fd ["things"] (spUnlikeX K C) := by
  refine F.okX scUnlike (fun vs H Q E h => ?_) (fun cdv A outer s H vs Q E hr h => ?_)
  · obtain ⟨a, ns, rfl, _⟩ := h
    rfl
  · obtain ⟨a, ns, rfl, hS, hl, k, th⟩ := h
    refine ⟨_, pss_cons (ps_set (i := 1) scUnlike.nd rfl (Or.inl rfl) (pe_callTy0 cr_set0 (by rfl) T.set (by decide +kernel)))
      (pss_one (ps_for (passes_of rfl) rfl (pi_list (pv 0)) (pg_name (i := 2) scUnlike.nd rfl (Or.inl rfl))
        (pss_cons (ps_if (pt_cmpR or_sin (pv 2) (pv 1) (by rfl)) (pss_one (ps_raise rfl (takes_of rfl rfl rfl rfl) (pmk_oex TD.T TD.iC TD.tI TD.GI hr TD.bI .nil pass0 rfl TD.gC (pa_cons (pv 2) pa_nil)))) pss_nil) (pss_one (ps_expr (pe_sadd (pv 1) (pa_cons (pv 2) pa_nil))))))), ?_⟩
    refine ⟨rfl, fun p hp => ?_⟩
    refine ⟨_, rfl, a, rfl, ⟨_, (same_new hp).seq hS⟩, for_list (K := K) (a := a) (xs := ns.map V.int) (fun i σ H' => ∃ (v : Option V) (S : Int → Bool) (n : Nat), σ = [some (.ref a), some (.ref p), v] ∧ Same H H' ∧ H' p = some (SetO w p S n) ∧ n ≤ i ∧ (∀ z, S z = true ↔ z ∈ ns.take i) ∧ (ns.take i).Nodup)
      ⟨none, fun _ => false, 0, rfl, same_new hp, upd_same, Nat.le_refl _, (fun z => by simp), by simp⟩ (fun i σ H' _ ⟨_, _, _, _, s1, _⟩ => s1.seq hS) ?_ ?_⟩
    · rintro i y σ H' hi ⟨v, S, n, rfl, s1, hp1, hn, hz, nd⟩
      obtain ⟨z, hz1, rfl⟩ := get_map hi
      have hlt := (List.getElem?_eq_some_iff.mp hz1).1
      refine ⟨_, rfl, _, rfl, z, p, S, n, rfl, rfl, hp1, _, rfl, ?_⟩
      cases e : S z with
      | true =>
        refine iteT (mk_err (y := .int z) TD ⟨_, rfl, rfl, Same.refl _, th z ⟨i, hz1, (hz z).mp e, nd⟩ H' s1⟩ ?_)
        rintro A B imp ⟨x, hx, q⟩
        exact ⟨x, hx, imp _ _ q⟩
      | false =>
        refine iteF ?_
        refine ⟨_, rfl, ⟨p, S, n, rfl, hp1⟩, _, rfl, p, z, S, n, rfl, rfl, hp1, by unfold scanBound; omega, ?_⟩
        have zn : z ∉ ns.take i := fun m => by rw [(hz z).mpr m] at e; cases e
        refine ⟨_, _, _, rfl, same_upd s1 hp, upd_same, by rw [e]; simp; omega, fun z2 => ?_, ?_⟩
        · rw [take_snoc hz1, Bool.or_eq_true_iff, hz z2, List.mem_append, List.mem_singleton, decide_eq_true_iff]
        · rw [take_snoc hz1]
          exact List.nodup_append.mpr ⟨nd, by simp, fun x hx y hy => by rw [List.mem_singleton.mp hy]; rintro rfl; exact zn hx⟩
    · rintro σ H' ⟨v, S, n, rfl, s1, _, _, _, nd⟩
      rw [List.length_map, List.take_length] at nd
      exact k nd _ s1
end
end Pr

set_option autoImplicit true
set_option Elab.async false
set_option linter.all false
set_option maxRecDepth 100000
set_option maxHeartbeats 1000000
/-! _is_list_of_ints of any value. -/
namespace Pr
open PySem L2 Two ClX
/-- x is an integer: b -/
def IntK (K : PySem.W.Frag) (H : Hp) (x : V) (b : Bool) : Prop := ∃ (t : Value) (b1 b2 : Bool), TyX K H x t ∧ PySem.W.kitOne K t (.type "int") = some b1 ∧ PySem.W.kitOne K t (.type "bool") = some b2 ∧ b = (b1 && !b2)
def IntS (K : PySem.W.Frag) (H : Hp) (x : V) (b : Bool) : Prop := ∀ H', Same H H' → IntK K H' x b
theorem IntS.keep {K : PySem.W.Frag} {H H' : Hp} {x : V} {b : Bool} (h : IntS K H x b) (s : Same H H') : IntS K H' x b := fun G s2 => h G (s.trans s2)
def spIsListX (K : PySem.W.Frag) : Sp := fun vs H Q _ => ∃ x, vs = [x] ∧ ((∃ t, TyX K H x t ∧ PySem.W.kitOne K t (.type "list") = some false ∧ Q (.bl false) H) ∨
  ∃ (a : Addr) (items : List V) (f : V → Bool), x = .ref a ∧ SqL K H a items ∧ items.length ≤ 1000 ∧ (∀ y ∈ items, IntS K H y (f y)) ∧ ∀ H', Same H H' → Q (.bl (items.all f)) H')
section
variable {P : Program} {w : World} {K : PySem.W.Frag} {mg : Str → Option Value} {base : Heap}
theorem ok_isListX {f fI : Addr} {fd fdI : FuncData} (F : Fun K "_is_list_of_ints" "_is_list_of_ints" sIsList f fd) (T : Txt mg) (gI : mg "is_int" = some (.ref fI)) (kI : PySem.W.keepIn K (.ref fI) = true) (bI : Binds K fdI ["thing"] []) (GI : FnOk P w K mg base CX0 1 fI fdI ["thing"] (spIsInt K)) :
    FnOk P w K mg base CX0 2 f fd ["items"] (spIsListX K) := by
  refine F.ok scIsList (fun vs H Q E h => ?_) (fun cdv A outer s H vs Q E hr h => ?_)
  · obtain ⟨x, rfl, _⟩ := h
    rfl
  · obtain ⟨x, rfl, h⟩ := h
    refine ⟨_, pss_one (ps_ret (pe_and (pe_callB call_isi (by rfl) T.isinstance (by decide +kernel) (pa_cons (pv 0) (pa_cons (pe_bltn (v := .ty "list") (by rfl) T.list (by decide +kernel) rfl) pa_nil)))
      (pe_one (pe_callB (cr_all rfl) (by rfl) T.all (by decide +kernel) (pa_cons (pe_lc (own := [("item", 1)]) (g := gName 1) (tt := tYes) rfl scIsList.nd (pi_list (pv 0)) (blkOk_by (N := ["items", "item"]) (sc := defScope sIsList) (by decide +kernel))
        (fun _ _ _ _ _ => pg_name (i := 1) scIsList.nd rfl (Or.inl rfl)) (fun _ _ _ _ _ => pts_nil) (fun _ _ _ _ _ => pe_call GI hr rfl gI kI bI .nil pass0 (pa_cons (pv 1) pa_nil))) pa_nil))))), ?_⟩
    rcases h with ⟨t, ty, hk, q⟩ | ⟨a, items, g, rfl, hS, hl, hi, k⟩
    · exact ⟨_, rfl, _, .ty "list", t, .type "list", false, rfl, .ty _, ty, hk, false, rfl, iteF q⟩
    · refine ⟨_, rfl, _, .ty "list", .type "list", .type "list", true, rfl, .ty _, tyx_list hS, kit_ty (by decide +kernel), true, rfl, iteT ?_⟩
      refine ⟨_, rfl, a, rfl, ⟨_, hS⟩, fun D hD => lc_pure (xs := items) 1 (fun y => .bl (g y)) hS (Nat.le_of_lt (small1000 hl)) hD (fun _ => rfl) (fun j x H1 Q1 hx s1 q1 => ?_) fun H1 s1 h1 => ?_⟩
      · obtain ⟨t, b1, b2, ty, k1, k2, e⟩ := hi x (List.mem_of_getElem? hx) H1 s1
        refine ⟨_, rfl, x, t, b1, b2, rfl, ty, k1, k2, ?_⟩
        rw [← e]
        exact q1 _ (Same.refl _)
      · have e1 : items.map (fun y => V.bl (g y)) = (items.map g).map V.bl := by rw [List.map_map]; rfl
        refine ⟨D, items.map g, rfl, SqL.of (by rw [h1, e1]), ?_⟩
        have e2 : (items.map g).all id = items.all g := by rw [List.all_map]; rfl
        rw [e2]
        exact k _ s1
end
end Pr

set_option autoImplicit true
set_option autoImplicit false
namespace Mg
/-! ### in how many lists an item stands behind the first one -/
def cnt (rs : List (List Int)) (y : Int) : Nat := (rs.filter fun r => r.tail.contains y).length
def one (r : List Int) (y : Int) : Nat := if y ∈ r then 1 else 0
theorem cnt_nil (y : Int) : cnt [] y = 0 := rfl
theorem cnt_append (a b : List (List Int)) (y : Int) : cnt (a ++ b) y = cnt a y + cnt b y := by
  unfold cnt
  rw [List.filter_append, List.length_append]
theorem cnt_one (r : List Int) (y : Int) : cnt [r] y = one r.tail y := by
  unfold cnt one
  by_cases h : y ∈ r.tail
  · rw [if_pos h, List.filter_cons_of_pos (by exact List.contains_iff_mem.mpr h)]
    rfl
  · rw [if_neg h, List.filter_cons_of_neg (by rw [List.contains_iff_mem]; exact h)]
    rfl
theorem cnt_zero {rs : List (List Int)} {y : Int} : cnt rs y = 0 ↔ clear rs y = true := by
  rw [clear_iff]
  unfold cnt
  rw [List.length_eq_zero_iff, List.filter_eq_nil_iff]
  simp [List.contains_iff_mem]
theorem clear_dec {rs : List (List Int)} {y : Int} : clear rs y = decide ((cnt rs y : Int) = 0) := by
  cases h : clear rs y with
  | true => exact (decide_eq_true (by have := cnt_zero.mpr h; omega)).symm
  | false =>
    refine (decide_eq_false fun e => ?_).symm
    have : cnt rs y = 0 := by omega
    rw [cnt_zero.mp this] at h
    cases h
theorem one_take_succ {l : List Int} {j : Nat} {z : Int} (nd : l.Nodup) (h : l[j]? = some z) (y : Int) : one (l.take (j + 1)) y = if y = z then one (l.take j) z + 1 else one (l.take j) y := by
  have e : l.take (j + 1) = l.take j ++ [z] := by
    obtain ⟨hlt, hv⟩ := List.getElem?_eq_some_iff.mp h
    rw [← hv]
    simp
  have nz : z ∉ l.take j := by
    have q : (l.take (j + 1)).Nodup := nd.sublist (List.take_sublist _ _)
    rw [e] at q
    exact fun k => (List.nodup_append.mp q).2.2 z k z (by simp) rfl
  unfold one
  rw [e, if_neg nz]
  by_cases hy : y = z
  · subst hy
    simp
  · rw [if_neg hy]
    simp [List.mem_append, hy]
/-- behind i pulls -/
def mix (x : Int) (rs : List (List Int)) (i : Nat) : List (List Int) := (rs.take i).map (pull1 x) ++ rs.drop i
theorem mix_zero (x : Int) (rs : List (List Int)) : mix x rs 0 = rs := rfl
theorem mix_all (x : Int) (rs : List (List Int)) : mix x rs rs.length = pull x rs := by
  unfold mix
  rw [List.take_length, List.drop_length, List.append_nil]
  rfl
theorem mix_at {x : Int} {rs : List (List Int)} {i : Nat} {r : List Int} (h : rs[i]? = some r) :
    mix x rs i = (rs.take i).map (pull1 x) ++ r :: rs.drop (i + 1) ∧ mix x rs (i + 1) = (rs.take i).map (pull1 x) ++ pull1 x r :: rs.drop (i + 1) := by
  obtain ⟨hlt, hv⟩ := List.getElem?_eq_some_iff.mp h
  have e1 : rs.drop i = r :: rs.drop (i + 1) := by rw [List.drop_eq_getElem_cons hlt, hv]
  have e2 : rs.take (i + 1) = rs.take i ++ [r] := by rw [← hv]; simp
  unfold mix
  rw [e1, e2]
  refine ⟨rfl, ?_⟩
  rw [List.map_append, List.append_assoc]
  rfl
theorem mix_none {x : Int} {rs : List (List Int)} {i : Nat} {r : List Int} (h : rs[i]? = some r) (n : r.head? ≠ some x) : mix x rs (i + 1) = mix x rs i := by
  obtain ⟨e1, e2⟩ := mix_at (x := x) h
  have q : pull1 x r = r := by unfold pull1; rw [if_neg n]
  rw [e1, e2, q]
theorem mix_nil {x : Int} {rs : List (List Int)} {i : Nat} (h : rs[i]? = some [x]) (y : Int) : cnt (mix x rs (i + 1)) y = cnt (mix x rs i) y := by
  obtain ⟨e1, e2⟩ := mix_at (x := x) h
  have q : pull1 x [x] = [] := by unfold pull1; simp
  rw [e1, e2, q, cnt_append, cnt_append]
  show _ + cnt ([[]] ++ rs.drop (i + 1)) y = _ + cnt ([[x]] ++ rs.drop (i + 1)) y
  rw [cnt_append, cnt_append, cnt_one, cnt_one]
  rfl
theorem mix_cons {x h' : Int} {t : List Int} {rs : List (List Int)} {i : Nat} (h : rs[i]? = some (x :: h' :: t)) (nd : (x :: h' :: t).Nodup) (y : Int) :
    (cnt (mix x rs (i + 1)) y : Int) = if y = h' then (cnt (mix x rs i) h' : Int) - 1 else cnt (mix x rs i) y := by
  obtain ⟨e1, e2⟩ := mix_at (x := x) h
  have q : pull1 x (x :: h' :: t) = h' :: t := by unfold pull1; simp
  have nt : h' ∉ t := (List.nodup_cons.mp (List.nodup_cons.mp nd).2).1
  have key : ∀ z, cnt (mix x rs i) z = cnt ((rs.take i).map (pull1 x)) z + (one (h' :: t) z + cnt (rs.drop (i + 1)) z) := fun z => by
    rw [e1, cnt_append]
    show _ + cnt ([x :: h' :: t] ++ rs.drop (i + 1)) z = _
    rw [cnt_append, cnt_one]
    rfl
  have key2 : cnt (mix x rs (i + 1)) y = cnt ((rs.take i).map (pull1 x)) y + (one t y + cnt (rs.drop (i + 1)) y) := by
    rw [e2, q, cnt_append]
    show _ + cnt ([h' :: t] ++ rs.drop (i + 1)) y = _
    rw [cnt_append, cnt_one]
    rfl
  rw [key2]
  by_cases hy : y = h'
  · subst hy
    rw [if_pos rfl, key]
    have a : one t y = 0 := by unfold one; rw [if_neg nt]
    have b : one (y :: t) y = 1 := by unfold one; rw [if_pos (by simp)]
    rw [a, b]
    omega
  · rw [if_neg hy, key]
    have a : one (h' :: t) y = one t y := by unfold one; simp [hy]
    rw [a]
theorem mix_mem {x : Int} {rs : List (List Int)} {i : Nat} {r : List Int} (h : r ∈ mix x rs i) : ∃ r0 ∈ rs, ∀ y ∈ r, y ∈ r0 := by
  unfold mix at h
  rcases List.mem_append.mp h with k | k
  · obtain ⟨r0, h0, e⟩ := List.mem_map.mp k
    exact ⟨r0, List.mem_of_mem_take h0, fun y hy => pull1_sub (by rw [e]; exact hy)⟩
  · exact ⟨r, List.mem_of_mem_drop k, fun y hy => hy⟩
/-- the first free item, list by list -/
theorem heads_append (a b : List (List Int)) : heads (a ++ b) = heads a ++ heads b := by
  unfold heads
  rw [List.filterMap_append]
end Mg

set_option autoImplicit true
set_option Elab.async false
set_option linter.all false
set_option maxRecDepth 100000
set_option maxHeartbeats 4000000
namespace Pr
open PySem L2 Two
/-! ### dict comprehensions over lists -/
theorem outer_list {K : PySem.W.Frag} {a : Addr} {xs : List V} {g : TG} {wi1 : TI} {g1 : TG} {tk tv : TE} {vs vs1 : List Nat} {D : Addr} {σ : L2.St} {Qd : Hp → Prop} {G : Hp} (Pv : Nat → Hp → Prop) (h0 : Pv 0 G)
    (hl : ∀ i H, i ≤ xs.length → Pv i H → SqL K H a xs)
    (hs : ∀ i x H, xs[i]? = some x → Pv i H → g x (wipe σ vs) H fun σ2 H2 => wipe σ2 vs = wipe σ vs ∧ wi1 σ2 H2 fun J1 H3 => inner J1 g1 tk tv vs1 D σ2 (Pv (i + 1)) H3)
    (hd : ∀ H, Pv xs.length H → Qd H) : outer (Itl K a) g wi1 g1 tk tv vs vs1 D σ Qd G := by
  refine ⟨fun i m H => m = xs.length - i ∧ i ≤ xs.length ∧ Pv i H, ⟨xs.length, by simp, Nat.zero_le _, h0⟩, ?_⟩
  rintro i m H ⟨rfl, hi, p⟩
  have q := hl i H hi p
  by_cases lt : i < xs.length
  · refine .inr ⟨⟨xs, xs[i], q, by simp [lt]⟩, Pv (i + 1), fun H2 p2 => ⟨xs.length - (i + 1), by omega, rfl, lt, p2⟩, fun x H2 y => ?_⟩
    obtain ⟨e, y⟩ := y
    subst e
    exact hs i x _ (y xs q) p
  · have e : i = xs.length := by omega
    subst e
    exact .inl ⟨⟨xs, q, Nat.le_refl _⟩, hd H p⟩
theorem inner_list {K : PySem.W.Frag} {a : Addr} {xs : List V} {g1 : TG} {tk tv : TE} {vs1 : List Nat} {D : Addr} {σ2 : L2.St} {Nx : Hp → Prop} {G : Hp} (Pv : Nat → Hp → Prop) (h0 : Pv 0 G)
    (hl : ∀ i H, i ≤ xs.length → Pv i H → SqL K H a xs)
    (hs : ∀ j x H, xs[j]? = some x → Pv j H → g1 x (wipe σ2 vs1) H fun σ3 H3 => wipe σ3 vs1 = wipe σ2 vs1 ∧ tk σ3 H3 fun y H4 => tv σ3 H4 fun z H5 => ∃ kvs k0, y = kV k0 ∧ H5 D = some (.dK kvs) ∧ kvs.length < sizeLine ∧ Pv (j + 1) (upd H5 D (.dK (putK kvs k0 z))))
    (hd : ∀ H, Pv xs.length H → Nx H) : inner (Itl K a) g1 tk tv vs1 D σ2 Nx G := by
  refine ⟨fun i m H => m = xs.length - i ∧ i ≤ xs.length ∧ Pv i H, ⟨xs.length, by simp, Nat.zero_le _, h0⟩, ?_⟩
  rintro i m H ⟨rfl, hi, p⟩
  have q := hl i H hi p
  by_cases lt : i < xs.length
  · refine .inr ⟨⟨xs, xs[i], q, by simp [lt]⟩, Pv (i + 1), fun H2 p2 => ⟨xs.length - (i + 1), by omega, rfl, lt, p2⟩, fun x H2 y => ?_⟩
    obtain ⟨e, y⟩ := y
    subst e
    exact hs i x _ (y xs q) p
  · have e : i = xs.length := by omega
    subst e
    exact .inl ⟨⟨xs, q, Nat.le_refl _⟩, hd H p⟩
theorem cut_tail (xs : List V) : cutV xs (some 1) none = xs.tail := by
  unfold cutV
  have e : HT.sIx xs.length 0 (some 1) = min 1 xs.length := HT.sIx_nat xs.length 0 1
  rw [e, HT.sIx_none]
  cases xs with
  | nil => rfl
  | cons x xs =>
    have e2 : min 1 (x :: xs).length = 1 := by simp
    rw [e2]
    show xs.take ((x :: xs).length - 1) = xs
    simp

/-- a list of lists of ints, at the addresses beside them -/
def LofL (K : PySem.W.Frag) (H : Hp) (a : Addr) (ps : List (Addr × List Int)) : Prop := SqL K H a (ps.map fun p => V.ref p.1) ∧ ∀ p ∈ ps, SqL K H p.1 (p.2.map V.int)
abbrev lsOf (ps : List (Addr × List Int)) : List (List Int) := ps.map (·.2)
abbrev refsOf (ps : List (Addr × List Int)) : List V := ps.map fun p => V.ref p.1
theorem LofL.keep {K : PySem.W.Frag} {H H' : Hp} {a : Addr} {ps : List (Addr × List Int)} (h : LofL K H a ps) (s : Same H H') : LofL K H' a ps := ⟨s.seq h.1, fun p hp => s.seq (h.2 p hp)⟩
/-- as many as merge takes, nothing twice -/
structure Fit (ps : List (Addr × List Int)) : Prop where
  few : ps.length ≤ 30
  short : ∀ p ∈ ps, p.2.length ≤ 30
  nd : ∀ p ∈ ps, p.2.Nodup

/-- len, where the reading is to be said -/
def rLenQ (K : PySem.W.Frag) : List V → Hp → VK → Prop := fun xs H Q => ∃ p ys, xs = [V.ref p] ∧ (SqL K H p ys ∨ SqT K H p ys) ∧ Q (.int ys.length) H
theorem call_lenQ {X : Cx} : CallR X (.builtin "len") (rLenQ X.K) := call_len_seq
def rGt : R2 := rI0 fun i j => .bl (decide (j < i))
section
variable {P : Program} {w : World} {K : PySem.W.Frag} {mg : Str → Option Value} {base : Heap}
/-! ### _check_lists -/
def spCheck (K : PySem.W.Frag) : Sp := fun vs H Q _ => ∃ (a : Addr) (ps : List (Addr × List Int)), vs = [.ref a] ∧ LofL K H a ps ∧ Fit ps ∧ ∀ H', Same H H' → Q .non H'
theorem scCheck : FnScope ["lists", "items"] ["lists"] (defScope sCheck) := ⟨rfl, rfl, rfl, by decide +kernel, rfl, by decide +kernel, by decide +kernel⟩
theorem any_id : ∀ l : List V, (l.map fun _ => false).any id = false
  | [] => rfl
  | _ :: l => any_id l
theorem all_false (f : V → V) : ∀ l : List V, (∀ x ∈ l, f x = .bl false) → l.map f = (l.map fun _ => false).map V.bl
  | [], _ => rfl
  | x :: l, h => by
    simp only [List.map_cons]
    rw [h x List.mem_cons_self, all_false f l fun y hy => h y (List.mem_cons_of_mem _ hy)]
theorem ok_check {f fL fU : Addr} {fd fdL fdU : FuncData} (F : Fun K "_check_lists" "_check_lists" sCheck f fd) (T : Txt mg)
    (gL : mg "_is_list_of_ints" = some (.ref fL)) (kL : PySem.W.keepIn K (.ref fL) = true) (bL : Binds K fdL ["items"] []) (GL : FnOk P w K mg base CX0 2 fL fdL ["items"] (spIsList K))
    (gU : mg "check_unlike" = some (.ref fU)) (kU : PySem.W.keepIn K (.ref fU) = true) (bU : Binds K fdU ["things"] []) (GU : FnOk P w K mg base CX0 1 fU fdU ["things"] (spUnlike K)) :
    FnOk P w K mg base CX0 3 f fd ["lists"] (spCheck K) := by
  refine F.ok scCheck (fun vs H Q E h => ?_) (fun cdv A outer s H vs Q E hr h => ?_)
  · obtain ⟨a, ps, rfl, _⟩ := h
    rfl
  · obtain ⟨a, ps, rfl, hL, fit, k⟩ := h
    obtain ⟨tm, hm⟩ := T.most
    refine ⟨_, pss_cons (ps_if (PW.pt (pw_or (pt_not (pt_val (pe_callB call_isi (by rfl) T.isinstance (by decide +kernel) (pa_cons (pv 0) (pa_cons (pe_bltn (v := .ty "list") (by rfl) T.list (by decide +kernel) rfl) pa_nil)))))
        (pw_or1 (pt_not (pt_val (pe_callB (cr_all rfl) (by rfl) T.all (by decide +kernel) (pa_cons (pe_lc (own := [("items", 1)]) (g := gName 1) (tt := tYes) rfl scCheck.nd (pi_list (pv 0)) (blkOk_by (N := ["lists", "items"]) (sc := defScope sCheck) (by decide +kernel))
          (fun _ _ _ _ _ => pg_name (i := 1) scCheck.nd rfl (Or.inl rfl)) (fun _ _ _ _ _ => pts_nil) (fun _ _ _ _ _ => pe_call GL hr rfl gL kL bL .nil pass0 (pa_cons (pv 1) pa_nil))) pa_nil))))))) pss_never pss_nil)
      (pss_cons (ps_if (PW.pt (pw_or (pt_cmpR op_gt (pe_callB call_len_seq (by rfl) T.len PySem.boot_len (pa_cons (pv 0) pa_nil)) (pe_glob (v := .int 30) rfl hm ⟨_, rfl⟩) (nomark _))
        (pw_or1 (pt_val (pe_callB (cr_any rfl) (by rfl) T.any (by decide +kernel) (pa_cons (pe_lc (own := [("items", 1)]) (g := gName 1) (tt := tYes) (te := tOp rGt (tCB (rLenQ K) (tCons (tVar 1) tNil)) (tC (.int 30))) rfl scCheck.nd (pi_list (pv 0)) (blkOk_by (N := ["lists", "items"]) (sc := defScope sCheck) (by decide +kernel))
          (fun _ _ _ _ _ => pg_name (i := 1) scCheck.nd rfl (Or.inl rfl)) (fun _ _ _ _ _ => pts_nil) (fun _ _ _ _ _ => pe_cmpR op_gt (pe_callB call_lenQ (by rfl) T.len PySem.boot_len (pa_cons (pv 1) pa_nil)) (pe_glob (v := .int 30) rfl hm ⟨_, rfl⟩) (nomark _))) pa_nil)))))) pss_never pss_nil)
      (pss_one (ps_for PassesOwn.never rfl (pi_list (pv 0)) (pg_name (i := 1) scCheck.nd rfl (Or.inl rfl)) (pss_one (ps_expr (pe_call GU (hr.mono (by decide)) rfl gU kU bU .nil pass0 (pa_cons (pv 1) pa_nil))))))), ?_⟩
    have sz : (ps.map fun p => V.ref p.1).length ≤ sizeLine := by rw [List.length_map]; exact Nat.le_of_lt (small1000 (Nat.le_trans fit.few (by decide)))
    refine ⟨_, rfl, _, .ty "list", .type "list", .type "list", true, rfl, .ty _, tyx_list hL.1, kit_ty (by decide +kernel), true, rfl, ?_⟩
    refine iteF ?_
    refine ⟨_, rfl, a, rfl, ⟨_, hL.1⟩, fun D hD => lc_pure (K := K) (xs := refsOf ps) 1 (fun _ => .bl true) hL.1 sz hD (fun _ => rfl) (fun j x H1 Q1 hx s1 q1 => ?_) fun H1 s1 h1 => ?_⟩
    · obtain ⟨p, hp, rfl⟩ := get_map hx
      have mp := List.mem_of_getElem? hp
      exact ⟨_, rfl, p.1, p.2, rfl, s1.seq (hL.2 p mp), Nat.le_trans (fit.short p mp) (by decide), fun H' s' => q1 H' s'⟩
    refine ⟨D, _, rfl, SqL.of (by rw [h1, all_true _ _ fun _ _ => rfl]), ?_⟩
    rw [all_id]
    refine ⟨true, rfl, iteF ?_⟩
    have hL1 := hL.keep s1
    refine ⟨_, rfl, a, _, rfl, .inl hL1.1, _, _, rfl, rfl, _, rfl, ?_⟩
    have c1 : decide ((30 : Int) < ((ps.map fun p => V.ref p.1).length : Nat)) = false := decide_eq_false (by rw [List.length_map]; have := fit.few; omega)
    rw [c1]
    refine iteF ?_
    refine ⟨_, rfl, a, rfl, ⟨_, hL1.1⟩, fun D2 hD2 => lc_pure (K := K) (xs := refsOf ps) 1 (fun _ => .bl false) hL1.1 sz hD2 (fun _ => rfl) (fun j x H2 Q1 hx s2 q1 => ?_) fun H2 s2 h2 => ?_⟩
    · obtain ⟨p, hp, rfl⟩ := get_map hx
      have mp := List.mem_of_getElem? hp
      refine ⟨_, rfl, p.1, _, rfl, .inl (s2.seq (hL1.2 p mp)), _, _, rfl, rfl, ?_⟩
      have c2 : decide ((30 : Int) < ((p.2.map V.int).length : Nat)) = false := decide_eq_false (by rw [List.length_map]; have := fit.short p mp; omega)
      show Q1 (.bl (decide ((30 : Int) < ((p.2.map V.int).length : Nat)))) H2
      rw [c2]
      exact q1 _ (Same.refl _)
    refine ⟨D2, _, rfl, SqL.of (by rw [h2, all_false _ _ fun _ _ => rfl]), ?_⟩
    rw [any_id]
    refine ⟨false, rfl, iteF ?_⟩
    have hL2 := hL1.keep s2
    refine ⟨_, rfl, a, rfl, ⟨_, hL2.1⟩, for_list (K := K) (a := a) (xs := refsOf ps) (fun i σ H' => ∃ v : Option V, σ = [some (.ref a), v] ∧ Same H H')
      ⟨_, rfl, s1.trans s2⟩ (fun i σ H' _ ⟨_, _, s3⟩ => s3.seq hL.1) ?_ ?_⟩
    · rintro i y σ H' hi ⟨v, rfl, s3⟩
      obtain ⟨p, hp, rfl⟩ := get_map hi
      have mp := List.mem_of_getElem? hp
      exact ⟨_, rfl, p.1, p.2, rfl, s3.seq (hL.2 p mp), fit.nd p mp, Nat.le_trans (fit.short p mp) (by decide), fun H4 s4 => ⟨_, rfl, s3.trans s4⟩⟩
    · rintro σ H' ⟨v, rfl, s3⟩
      exact k _ s3
end
end Pr

set_option autoImplicit true
set_option Elab.async false
set_option linter.all false
set_option maxRecDepth 100000
set_option maxHeartbeats 1000000
/-! _check_lists of any value, raising too. -/
namespace Pr
open PySem L2 Two ClX
structure BadTxt (P : Program) (w : World) (K : PySem.W.Frag) (mg : Str → Option Value) (base : Heap) (C fI : Addr) (dI : FuncData) : Prop where
  gC : mg "BadList" = some (.ref C)
  T : OexC K C
  iC : PySem.W.findIn K (.ref C) "__init__" = some (some (.ref fI))
  tI : PySem.W.typeIn K (.ref fI) = some (.type "function")
  bI : Binds K dI ["self", "why"] []
  GI : FnOk P w K mg base CX0 1 fI dI ["self", "why"] (spInit K ["why"] fun y => [("why", y)])
  nw : PySem.W.findIn K (.ref C) "why" = some none
/-- [f of x for x in xs if c of x], nothing made that stands in the way -/
theorem lc_selX {α : Type} {K : PySem.W.Frag} {a : Addr} {ps : List α} {gv : α → V} {te : TE} {tt : TT} {vs : List Nat} {σ : L2.St} {H1 : Hp} {D : Addr} {Qd : Hp → Prop} (i : Nat) (f : α → V) (c : α → Bool) (hS : SqL K H1 a (ps.map gv)) (hz : ps.length < sizeLine) (hD : H1 D = none)
    (hw : ∀ x, wipe ((wipe σ vs).set i (some x)) vs = wipe σ vs)
    (tstep : ∀ (j : Nat) (x : α) (H : Hp) (Q : Bool → Hp → Prop), ps[j]? = some x → Same H1 H → (∀ H', Same H H' → Q (c x) H') → tt ((wipe σ vs).set i (some (gv x))) H Q)
    (estep : ∀ (j : Nat) (x : α) (H : Hp) (Q : VK), ps[j]? = some x → c x = true → Same H1 H → (∀ H', Same H H' → Q (f x) H') → te ((wipe σ vs).set i (some (gv x))) H Q)
    (done : ∀ H, Same H1 H → H D = some (.lst ((ps.filter c).map f)) → Qd H) :
    ∃ W : Nat → Nat → Hp → Prop, (∃ m, W 0 m (upd H1 D (.lst []))) ∧ ∀ i' m H, W i' m H →
      ((Itl K a).stop i' H ∧ Qd H) ∨ ((Itl K a).go i' H ∧ ∃ Nx : Hp → Prop, (∀ H', Nx H' → ∃ m', m' < m ∧ W (i' + 1) m' H') ∧ ∀ x H', (Itl K a).yld i' H x H' → gName i x (wipe σ vs) H' fun σ2 H2 => wipe σ2 vs = wipe σ vs ∧ tt σ2 H2 fun b H3 =>
        if b = true then te σ2 H3 fun y H4 => ∃ acc, H4 D = some (.lst acc) ∧ acc.length < sizeLine ∧ Nx (upd H4 D (.lst (acc ++ [y]))) else Nx H3) := by
  refine lc_list (xs := ps.map gv) (fun j H => Same H1 H ∧ H D = some (.lst (((ps.take j).filter c).map f))) ⟨same_new hD, upd_same⟩ (fun j H _ p => p.1.seq hS) (fun j x H hx p => ?_)
    fun H p => done H p.1 (by rw [List.length_map, List.take_length] at p; exact p.2)
  obtain ⟨x, hx1, rfl⟩ := get_map hx
  refine ⟨hw _, tstep j x H _ hx1 p.1 fun H' s => ?_⟩
  have s1 := p.1.trans s
  have d1 := s _ _ p.2
  cases hc : c x with
  | false =>
    refine iteF ⟨s1, ?_⟩
    rw [d1, take_snoc hx1, List.filter_append, List.filter_cons_of_neg (by rw [hc]; decide)]
    simp
  | true =>
    refine iteT (estep j x H' _ hx1 hc s1 fun H2 s2 => ⟨_, s2 _ _ d1, ?_, same_upd (s1.trans s2) hD, ?_⟩)
    · have a1 := List.length_filter_le c (ps.take j)
      have a2 := (List.getElem?_eq_some_iff.mp hx1).1
      rw [List.length_take] at a1
      rw [List.length_map]
      omega
    · rw [upd_same, take_snoc hx1, List.filter_append, List.filter_cons_of_pos hc, List.map_append]
      rfl
section
variable {P : Program} {w : World} {K : PySem.W.Frag} {mg : Str → Option Value} {base : Heap}
theorem mk_bad {C fI : Addr} {dI : FuncData} {ta : TA} {σ : L2.St} {H : Hp} {E : XK} (T : BadTxt P w K mg base C fI dI) {y : V}
    (h : ta σ H fun vs H1 => vs = [y] ∧ Same H H1 ∧ Thrown H1 E C [("why", y)]) (mono : ∀ {A B : List V → Hp → Prop}, (∀ v G, A v G → B v G) → ta σ H A → ta σ H B) :
    tMkO C (spInit K ["why"] fun y => [("why", y)]) [] ta σ H E := by
  refine mono (fun vs H1 q => ?_) h
  obtain ⟨rfl, s, th⟩ := q
  refine ⟨by show 1 ≤ 1000; decide, fun a ha => ⟨a, C, y, rfl, T.T, fun f hf => by rw [List.mem_singleton.mp hf]; exact T.nw, upd_same, fun H' dx m => ⟨rfl, dx, _, m.obj, m.dict, ?_, ?_⟩⟩⟩
  · have := m.new
    rw [upd_ne m.ne] at this
    exact this
  · have n0 : H1 dx = none := by
      have := m.new
      rw [upd_ne m.ne] at this
      exact this
    refine th dx _ (fun b o e => ?_) n0 upd_same
    have b1 : b ≠ a := fun q => by rw [q, ha] at e; cases e
    have b2 : b ≠ dx := fun q => by rw [q, n0] at e; cases e
    rw [upd_ne b2, del_ne b1, m.else_ b b1 b2, upd_ne b1]
    exact e
/-- y is a list of ints: b -/
def LstK (K : PySem.W.Frag) (H : Hp) (y : V) (b : Bool) : Prop := (∃ t, TyX K H y t ∧ PySem.W.kitOne K t (.type "list") = some false ∧ b = false) ∨
  ∃ (a : Addr) (items : List V) (f : V → Bool), y = .ref a ∧ SqL K H a items ∧ items.length ≤ 1000 ∧ (∀ z ∈ items, IntS K H z (f z)) ∧ b = items.all f
def LstS (K : PySem.W.Frag) (H : Hp) (y : V) (b : Bool) : Prop := ∀ H', Same H H' → LstK K H' y b
theorem int_int {H : Hp} (z : Int) : IntS K H (.int z) true := fun _ _ => ⟨.type "int", true, false, .base (.int _), kit_ty (by decide +kernel), kit_ty (by decide +kernel), rfl⟩
theorem lst_ints {H : Hp} {a : Addr} {ns : List Int} (h : SqL K H a (ns.map V.int)) (hl : ns.length ≤ 1000) : LstS K H (.ref a) true := fun H' s =>
  .inr ⟨a, ns.map V.int, fun _ => true, rfl, s.seq h, by rw [List.length_map]; exact hl, fun z hz => by obtain ⟨y, _, rfl⟩ := List.mem_map.mp hz; exact int_int y, by rw [List.all_eq_true.mpr fun _ _ => rfl]⟩
/-- what the check of lists of ints does -/
structure CheckEnd (H : Hp) (ps : List (Addr × List Int)) (Q : VK) (E : XK) (CT CD : Addr) : Prop where
  fit : Fit ps → ∀ H', Same H H' → Q .non H'
  many : (30 < ps.length ∨ ∃ p ∈ ps, 30 < p.2.length) → ∀ H', Same H H' → Thrown H' E CT [("limit", .int 30), ("why", .str "too many")]
  twice : ps.length ≤ 30 → (∀ p ∈ ps, p.2.length ≤ 30) → ∀ i p z, ps[i]? = some p → (∀ q ∈ ps.take i, q.2.Nodup) → Twice p.2 z → ∀ H', Same H H' → Thrown H' E CD [("thing", .int z), ("why", .str "duplicate")]
def spCheckX (K : PySem.W.Frag) (CB CT CD : Addr) : Sp := fun vs H Q E => ∃ x, vs = [x] ∧
  ((∃ t, TyX K H x t ∧ PySem.W.kitOne K t (.type "list") = some false ∧ Thrown H E CB [("why", .str "lists")]) ∨
   (∃ (a : Addr) (items : List V) (g : V → Bool), x = .ref a ∧ SqL K H a items ∧ items.length ≤ 1000 ∧ (∀ y ∈ items, LstS K H y (g y)) ∧ items.all g = false ∧ ∀ H', Same H H' → Thrown H' E CB [("why", .str "lists")]) ∨
   ∃ (a : Addr) (ps : List (Addr × List Int)), x = .ref a ∧ LofL K H a ps ∧ ps.length ≤ 1000 ∧ (∀ p ∈ ps, p.2.length ≤ 1000) ∧ CheckEnd H ps Q E CT CD)
theorem twice_of : ∀ {l : List Int}, ¬ l.Nodup → ∃ z, Twice l z := by
  have key : ∀ (l m : List Int), m.Nodup → ¬ (m ++ l).Nodup → ∃ z, Twice (m ++ l) z := by
    intro l
    induction l with
    | nil => intro m h n; rw [List.append_nil] at n; exact absurd h n
    | cons x l ih =>
      intro m h n
      by_cases hx : x ∈ m
      · refine ⟨x, m.length, by rw [List.getElem?_append_right (Nat.le_refl _), Nat.sub_self]; rfl, ?_, ?_⟩
        · rw [List.take_left' rfl]; exact hx
        · rw [List.take_left' rfl]; exact h
      · have e : m ++ x :: l = (m ++ [x]) ++ l := by simp
        rw [e] at n ⊢
        exact ih (m ++ [x]) (List.nodup_append.mpr ⟨h, by simp, fun a ha b hb => by rw [List.mem_singleton.mp hb]; rintro rfl; exact hx ha⟩) n
  exact fun {l} n => by have := key l [] List.nodup_nil (by simpa using n); simpa using this
theorem ok_checkX {f fL fU CB CT CD fB fT fD : Addr} {fd fdL fdU dB dT dD : FuncData} (F : Fun K "_check_lists" "_check_lists" sCheck f fd) (T : Txt mg)
    (gL : mg "_is_list_of_ints" = some (.ref fL)) (kL : PySem.W.keepIn K (.ref fL) = true) (bL : Binds K fdL ["items"] []) (GL : FnOk P w K mg base CX0 2 fL fdL ["items"] (spIsListX K))
    (gU : mg "check_unlike" = some (.ref fU)) (kU : PySem.W.keepIn K (.ref fU) = true) (bU : Binds K fdU ["things"] []) (GU : FnOk P w K mg base (L2.CX P w) 4 fU fdU ["things"] (spUnlikeX K CD))
    (TB : BadTxt P w K mg base CB fB dB) (TT : ErrTxt P w K mg base "TooMany" "limit" "too many" CT fT dT) :
    FnOk P w K mg base (L2.CX P w) 5 f fd ["lists"] (spCheckX K CB CT CD) := by
  refine F.okX scCheck (fun vs H Q E h => ?_) (fun cdv A outer s H vs Q E hr h => ?_)
  · obtain ⟨x, rfl, _⟩ := h
    rfl
  · obtain ⟨x, rfl, h⟩ := h
    obtain ⟨tm, hm⟩ := T.most
    have hr2 : Room 2 _ := hr.mono (by decide)
    have hr3 : Room 3 _ := hr.mono (by decide)
    refine ⟨_, pss_cons (ps_if (PW.pt (pw_or (pt_not (pt_val (pe_callB call_isi (by rfl) T.isinstance (by decide +kernel) (pa_cons (pv 0) (pa_cons (pe_bltn (v := .ty "list") (by rfl) T.list (by decide +kernel) rfl) pa_nil)))))
        (pw_or1 (pt_not (pt_val (pe_callB (cr_all rfl) (by rfl) T.all (by decide +kernel) (pa_cons (pe_lc (own := [("items", 1)]) (g := gName 1) (tt := tYes) rfl scCheck.nd (pi_list (pv 0)) (blkOk_by (N := ["lists", "items"]) (sc := defScope sCheck) (by decide +kernel))
          (fun _ _ _ _ _ => pg_name (i := 1) scCheck.nd rfl (Or.inl rfl)) (fun _ _ _ _ _ => pts_nil) (fun _ _ _ _ _ => pe_call GL hr2 rfl gL kL bL .nil pass0 (pa_cons (pv 1) pa_nil))) pa_nil)))))))
          (pss_one (ps_raise rfl (takes_of rfl rfl rfl rfl) (pmk_oex TB.T TB.iC TB.tI TB.GI hr2 TB.bI .nil pass0 rfl TB.gC (pa_cons pe_str pa_nil)))) pss_nil)
      (pss_cons (ps_if (PW.pt (pw_or (pt_cmpR op_gt (pe_callB call_len_seq (by rfl) T.len PySem.boot_len (pa_cons (pv 0) pa_nil)) (pe_glob (v := .int 30) rfl hm ⟨_, rfl⟩) (nomark _))
        (pw_or1 (pt_val (pe_callB (cr_any rfl) (by rfl) T.any (by decide +kernel) (pa_cons (pe_lc (own := [("items", 1)]) (g := gName 1) (tt := tYes) (te := tOp rGt (tCB (rLenQ K) (tCons (tVar 1) tNil)) (tC (.int 30))) rfl scCheck.nd (pi_list (pv 0)) (blkOk_by (N := ["lists", "items"]) (sc := defScope sCheck) (by decide +kernel))
          (fun _ _ _ _ _ => pg_name (i := 1) scCheck.nd rfl (Or.inl rfl)) (fun _ _ _ _ _ => pts_nil) (fun _ _ _ _ _ => pe_cmpR op_gt (pe_callB call_lenQ (by rfl) T.len PySem.boot_len (pa_cons (pv 1) pa_nil)) (pe_glob (v := .int 30) rfl hm ⟨_, rfl⟩) (nomark _))) pa_nil))))))
          (pss_one (ps_raise rfl (takes_of rfl rfl rfl rfl) (pmk_oex TT.T TT.iC TT.tI TT.GI hr3 TT.bI .nil pass0 rfl TT.gC (pa_cons (pe_glob (v := .int 30) rfl hm ⟨_, rfl⟩) pa_nil)))) pss_nil)
      (pss_one (ps_for (passes_of rfl) rfl (pi_list (pv 0)) (pg_name (i := 1) scCheck.nd rfl (Or.inl rfl)) (pss_one (ps_expr (pe_callS GU hr rfl gU kU bU (fun σ => passAt (takes_of rfl rfl rfl rfl) σ) (pa_cons (pv 1) pa_nil))))))), ?_⟩
    rcases h with ⟨t, ty, hk, th⟩ | ⟨a, items, g, rfl, hS, hl, hi, hall, th⟩ | ⟨a, ps, rfl, hL, few, short, CE⟩
    · refine ⟨_, rfl, _, .ty "list", t, .type "list", false, rfl, .ty _, ty, hk, false, rfl, iteT (iteT ?_)⟩
      exact mk_bad (y := .str "lists") TB ⟨rfl, Same.refl _, th⟩ fun imp q => imp _ _ q
    · refine ⟨_, rfl, _, .ty "list", .type "list", .type "list", true, rfl, .ty _, tyx_list hS, kit_ty (by decide +kernel), true, rfl, iteF ?_⟩
      refine ⟨_, rfl, a, rfl, ⟨_, hS⟩, fun D hD => lc_pure (K := K) (xs := items) 1 (fun y => .bl (g y)) hS (Nat.le_of_lt (small1000 hl)) hD (fun _ => rfl) (fun j x H1 Q1 hx s1 q1 => ?_) fun H1 s1 h1 => ?_⟩
      · rcases hi x (List.mem_of_getElem? hx) H1 s1 with ⟨t, ty, hk, e⟩ | ⟨a', items', f', rfl, hS', hl', hi', e⟩
        · rw [e] at q1
          exact ⟨_, rfl, x, rfl, .inl ⟨t, ty, hk, q1 _ (Same.refl _)⟩⟩
        · rw [e] at q1
          exact ⟨_, rfl, _, rfl, .inr ⟨a', items', f', rfl, hS', hl', hi', fun H' s' => q1 H' s'⟩⟩
      · have e1 : items.map (fun y => V.bl (g y)) = (items.map g).map V.bl := by rw [List.map_map]; rfl
        refine ⟨D, items.map g, rfl, SqL.of (by rw [h1, e1]), ?_⟩
        have e2 : (items.map g).all id = items.all g := by rw [List.all_map]; rfl
        rw [e2, hall]
        refine ⟨false, rfl, iteT ?_⟩
        exact mk_bad (y := .str "lists") TB ⟨rfl, Same.refl _, th _ s1⟩ fun imp q => imp _ _ q
    · have sz : (ps.map fun p => V.ref p.1).length ≤ sizeLine := by rw [List.length_map]; exact Nat.le_of_lt (small1000 few)
      refine ⟨_, rfl, _, .ty "list", .type "list", .type "list", true, rfl, .ty _, tyx_list hL.1, kit_ty (by decide +kernel), true, rfl, iteF ?_⟩
      refine ⟨_, rfl, a, rfl, ⟨_, hL.1⟩, fun D hD => lc_pure (K := K) (xs := refsOf ps) 1 (fun _ => .bl true) hL.1 sz hD (fun _ => rfl) (fun j x H1 Q1 hx s1 q1 => ?_) fun H1 s1 h1 => ?_⟩
      · obtain ⟨p, hp, rfl⟩ := get_map hx
        have mp := List.mem_of_getElem? hp
        rcases lst_ints (hL.2 p mp) (short p mp) H1 s1 with ⟨t, ty, hk, e⟩ | ⟨a', items', f', e0, hS', hl', hi', e⟩
        · cases e
        · refine ⟨_, rfl, _, rfl, .inr ⟨a', items', f', e0, hS', hl', hi', fun H' s' => ?_⟩⟩
          rw [← e]
          exact q1 H' s'
      refine ⟨D, _, rfl, SqL.of (by rw [h1, all_true _ _ fun _ _ => rfl]), ?_⟩
      rw [all_id]
      refine ⟨true, rfl, iteF ?_⟩
      have hL1 := hL.keep s1
      refine ⟨_, rfl, a, _, rfl, .inl hL1.1, _, _, rfl, rfl, _, rfl, ?_⟩
      by_cases c1 : 30 < ps.length
      · rw [decide_eq_true (p := (30 : Int) < ((ps.map fun p => V.ref p.1).length : Nat)) (by rw [List.length_map]; omega)]
        refine iteT (iteT ?_)
        exact mk_err (y := .int 30) TT ⟨rfl, Same.refl _, CE.many (.inl c1) _ s1⟩ fun imp q => imp _ _ q
      · rw [decide_eq_false (p := (30 : Int) < ((ps.map fun p => V.ref p.1).length : Nat)) (by rw [List.length_map]; omega)]
        refine iteF ?_
        refine ⟨_, rfl, a, rfl, ⟨_, hL1.1⟩, fun D2 hD2 => lc_selX (K := K) (ps := ps) (gv := fun p => V.ref p.1) 1 (fun p => V.bl (decide (30 < p.2.length))) (fun _ => true) hL1.1 (small1000 few) hD2 (fun _ => rfl)
          (fun j p H2 Q1 _ s2 q1 => q1 _ (Same.refl _)) (fun j p H2 Q1 hp _ s2 q1 => ?_) fun H2 s2 h2 => ?_⟩
        · have mp := List.mem_of_getElem? hp
          refine ⟨_, rfl, p.1, _, rfl, .inl (s2.seq (hL1.2 p mp)), _, _, rfl, rfl, ?_⟩
          have c2 : decide ((30 : Int) < ((p.2.map V.int).length : Nat)) = decide (30 < p.2.length) := by
            rw [List.length_map]
            by_cases q : 30 < p.2.length
            · rw [decide_eq_true q, decide_eq_true (by omega)]
            · rw [decide_eq_false q, decide_eq_false (by omega)]
          show Q1 (.bl (decide ((30 : Int) < ((p.2.map V.int).length : Nat)))) H2
          rw [c2]
          exact q1 _ (Same.refl _)
        rw [List.filter_eq_self.mpr fun _ _ => rfl] at h2
        have e1 : ps.map (fun p => V.bl (decide (30 < p.2.length))) = (ps.map fun p => decide (30 < p.2.length)).map V.bl := by rw [List.map_map]; rfl
        refine ⟨D2, _, rfl, SqL.of (by rw [h2, e1]), ?_⟩
        have e2 : (ps.map fun p => decide (30 < p.2.length)).any id = ps.any fun p => decide (30 < p.2.length) := by rw [List.any_map]; rfl
        rw [e2]
        cases hany : ps.any fun p => decide (30 < p.2.length) with
        | true =>
          obtain ⟨p, hp, hp2⟩ := List.any_eq_true.mp hany
          refine ⟨true, rfl, iteT ?_⟩
          exact mk_err (y := .int 30) TT ⟨rfl, Same.refl _, CE.many (.inr ⟨p, hp, of_decide_eq_true hp2⟩) _ (s1.trans s2)⟩ fun imp q => imp _ _ q
        | false =>
          have sh : ∀ p ∈ ps, p.2.length ≤ 30 := fun p hp => by
            have := List.any_eq_false.mp hany p hp
            simp only [decide_eq_true_eq] at this
            omega
          refine ⟨false, rfl, iteF ?_⟩
          have hL2 := hL1.keep s2
          refine ⟨_, rfl, a, rfl, ⟨_, hL2.1⟩, for_list (K := K) (a := a) (xs := refsOf ps) (fun i σ H' => (∃ v : Option V, σ = [some (.ref a), v]) ∧ Same H H' ∧ ∀ q ∈ ps.take i, q.2.Nodup)
            ⟨⟨_, rfl⟩, s1.trans s2, fun q hq => by simp at hq⟩ (fun i σ H' _ ⟨_, s3, _⟩ => s3.seq hL.1) ?_ ?_⟩
          · rintro i y σ H' hi ⟨⟨v, rfl⟩, s3, nd⟩
            obtain ⟨p, hp, rfl⟩ := get_map hi
            have mp := List.mem_of_getElem? hp
            refine ⟨_, rfl, p.1, p.2, rfl, s3.seq (hL.2 p mp), short p mp, fun ndp H4 s4 => ⟨⟨_, rfl⟩, s3.trans s4, fun q hq => ?_⟩, fun z tw H4 s4 => CE.twice (by omega) sh i p z hp nd tw _ (s3.trans s4)⟩
            rw [take_snoc hp] at hq
            rcases List.mem_append.mp hq with m | m
            · exact nd q m
            · rw [List.mem_singleton.mp m]; exact ndp
          · rintro σ H' ⟨⟨v, rfl⟩, s3, nd⟩
            have e : ps.take (refsOf ps).length = ps := List.take_of_length_le (by rw [List.length_map]; exact Nat.le_refl _)
            rw [e] at nd
            exact CE.fit ⟨by omega, sh, nd⟩ _ s3
end
end Pr

set_option autoImplicit true
set_option Elab.async false
set_option linter.all false
set_option maxRecDepth 100000
set_option maxHeartbeats 4000000
namespace Pr
open PySem L2 Two
theorem putK_len {kvs : List (Key × V)} {k : Key} {v y : V} (h : valV kvs k = some v) : (putK kvs k y).length = kvs.length := by
  unfold putK
  rw [valV_any, h]
  simp
/-- the dict that counts: of each item that is left, f of it -/
def Cts (kvs : List (Key × V)) (inn : Int → Prop) (f : Int → Int) : Prop := ∀ y, inn y → valV kvs (.inl y) = some (.int (f y))
def inL (rs : List (List Int)) (y : Int) : Prop := ∃ r ∈ rs, y ∈ r
theorem Cts.put {kvs : List (Key × V)} {inn inn' : Int → Prop} {f f' : Int → Int} {z : Int} {c : Int} (h : Cts kvs inn f) (sub : ∀ y, inn' y → y ≠ z → inn y) (hz : f' z = c) (he : ∀ y, inn' y → y ≠ z → f' y = f y) :
    Cts (putK kvs (.inl z) (.int c)) inn' f' := fun y hy => by
  rw [valV_put]
  by_cases e : y = z
  · subst e
    rw [if_pos rfl, hz]
  · rw [if_neg (fun q => e (Sum.inl.inj q)), h y (sub y hy e), he y hy e]
theorem Cts.imp {kvs : List (Key × V)} {inn inn' : Int → Prop} {f f' : Int → Int} (h : Cts kvs inn f) (sub : ∀ y, inn' y → inn y) (he : ∀ y, inn' y → f' y = f y) : Cts kvs inn' f' := fun y hy => by
  rw [h y (sub y hy), he y hy]
theorem inL_at {ps : List (Addr × List Int)} {p : Addr × List Int} {y : Int} (hp : p ∈ ps) (hy : y ∈ p.2) : inL (lsOf ps) y := ⟨p.2, List.mem_map.mpr ⟨p, hp, rfl⟩, hy⟩
theorem lsOf_at {ps : List (Addr × List Int)} {i : Nat} {p : Addr × List Int} (h : ps[i]? = some p) : (lsOf ps)[i]? = some p.2 := by
  rw [List.getElem?_map, h]
  rfl
section
variable {P : Program} {w : World} {K : PySem.W.Frag} {mg : Str → Option Value} {base : Heap}
/-! ### _times_behind -/
def spTimes (K : PySem.W.Frag) : Sp := fun vs H Q _ => ∃ (a : Addr) (ps : List (Addr × List Int)), vs = [.ref a] ∧ LofL K H a ps ∧ Fit ps ∧
  ∀ (H' : Hp) (B : Addr) (kvs : List (Key × V)), Same H H' → H B = none → H' B = some (.dK kvs) → kvs.length ≤ 900 → Cts kvs (inL (lsOf ps)) (fun y => Mg.cnt (lsOf ps) y) → Q (.ref B) H'
theorem scTimes : FnScope ["lists", "items", "item", "behind"] ["lists"] (defScope sTimes) := ⟨rfl, rfl, rfl, by decide +kernel, rfl, by decide +kernel, by decide +kernel⟩
theorem ok_times {f : Addr} {fd : FuncData} (F : Fun K "_times_behind" "_times_behind" sTimes f fd) (T : Txt mg) : FnOk P w K mg base CX0 1 f fd ["lists"] (spTimes K) := by
  refine F.ok scTimes (fun vs H Q E h => ?_) (fun cdv A outer s H vs Q E hr h => ?_)
  · obtain ⟨a, ps, rfl, _⟩ := h
    rfl
  · obtain ⟨a, ps, rfl, hL, fit, k⟩ := h
    have hu := hu_of hr
    refine ⟨_, pss_cons (ps_setDc2 (i := 3) (own := [("items", 1), ("item", 2)]) (vs1 := [2]) (wi1 := iList K (tVar 1)) (g := gName 1) (g1 := gName 2) (tk := tVar 2) (tv := tC (.int 0)) rfl scTimes.nd rfl rfl (swD rfl rfl rfl (by decide +kernel)) (pi_list (pv 0))
        (blkOk_by (N := ["lists", "items", "item", "behind"]) (sc := defScope sTimes) (by decide +kernel)) (by decide)
        (fun _ _ _ _ _ => pg_name (i := 1) scTimes.nd rfl (Or.inl rfl)) (fun _ _ _ _ _ => pi_list (pv 1)) (fun _ _ _ _ _ => pg_name (i := 2) scTimes.nd rfl (Or.inl rfl)) (fun _ _ _ _ _ => pv 2) (fun _ _ _ _ _ => pe_int))
      (pss_cons (ps_for PassesOwn.never rfl (pi_list (pv 0)) (pg_name (i := 1) scTimes.nd rfl (Or.inl rfl))
        (pss_one (ps_for PassesOwn.never rfl (pi_list (pe_slice sl_list (pv 1) (po_some pe_int) po_none)) (pg_name (i := 2) scTimes.nd rfl (Or.inl rfl))
          (pss_one (ps_daug hu (pv 3) (pv 2) pe_int in_add (fun _ _ _ => rfl))))))
      (pss_one (ps_ret (pv 3)))), ?_⟩
    refine ⟨_, rfl, a, rfl, ⟨_, hL.1⟩, fun B hB => ?_⟩
    refine outer_list (K := K) (xs := refsOf ps) (fun i G => Same H G ∧ ∃ kvs, G B = some (.dK kvs) ∧ kvs.length ≤ 30 * i ∧ Cts kvs (inL ((lsOf ps).take i)) (fun _ => 0))
      ⟨same_new hB, [], upd_same, Nat.le_refl _, fun y hy => by obtain ⟨r, hr, _⟩ := hy; cases hr⟩ (fun i G _ p => p.1.seq hL.1) (fun i x G hx p => ?_) (fun G p => ?_)
    · obtain ⟨q, hq, rfl⟩ := get_map hx
      obtain ⟨s1, kvs, hG, hk, hc⟩ := p
      have mq := List.mem_of_getElem? hq
      have short := fit.short q mq
      have few : i < 30 := by
        have := (List.getElem?_eq_some_iff.mp hq).1
        have := fit.few
        omega
      refine ⟨rfl, _, rfl, q.1, rfl, ⟨_, s1.seq (hL.2 q mq)⟩, ?_⟩
      refine inner_list (K := K) (xs := q.2.map V.int) (fun j G => Same H G ∧ ∃ kvs, G B = some (.dK kvs) ∧ kvs.length ≤ 30 * i + j ∧ Cts kvs (fun y => inL ((lsOf ps).take i) y ∨ y ∈ q.2.take j) (fun _ => 0))
        ⟨s1, kvs, hG, by omega, hc.imp (fun y hy => hy.elim id fun k => (nomatch k)) fun _ _ => rfl⟩ (fun j G _ p => p.1.seq (hL.2 q mq)) (fun j x G hx p => ?_) (fun G p => ?_)
      · obtain ⟨z, hz, rfl⟩ := get_map hx
        obtain ⟨s2, kvs, hG, hk, hc⟩ := p
        have hj := (List.getElem?_eq_some_iff.mp hz).1
        refine ⟨rfl, _, rfl, kvs, Sum.inl z, rfl, hG, small1000 (by omega), same_upd s2 hB, _, upd_same, ?_, ?_⟩
        · have := length_putK kvs (Sum.inl z) (V.int 0)
          omega
        · refine hc.put (fun y hy ne => hy.imp id fun k => ?_) rfl (fun _ _ _ => rfl)
          rw [take_snoc hz] at k
          rcases List.mem_append.mp k with k | k
          · exact k
          · exact absurd (List.mem_singleton.mp k) ne
      · obtain ⟨s2, kvs, hG, hk, hc⟩ := p
        rw [List.length_map] at hk hc
        refine ⟨s2, kvs, hG, by omega, hc.imp (fun y hy => ?_) fun _ _ => rfl⟩
        obtain ⟨r, hr, hy⟩ := hy
        rw [take_snoc (lsOf_at hq)] at hr
        rcases List.mem_append.mp hr with m | m
        · exact .inl ⟨r, m, hy⟩
        · rw [List.mem_singleton.mp m] at hy
          exact .inr (by rw [List.take_length]; exact hy)
    · obtain ⟨s1, kvs, hG, hk, hc⟩ := p
      rw [List.length_map] at hk hc
      have few := fit.few
      have hc : Cts kvs (inL (lsOf ps)) (fun _ => 0) := hc.imp (fun y hy => by
        have e : (lsOf ps).take ps.length = lsOf ps := List.take_of_length_le (by rw [List.length_map]; exact Nat.le_refl _)
        rw [e]
        exact hy) fun _ _ => rfl
      show tSeq _ _ _ ([some (.ref a), none, none, none].set 3 (some (.ref B))) G
      refine ⟨_, rfl, a, rfl, ⟨_, s1.seq hL.1⟩, for_list (K := K) (a := a) (xs := refsOf ps) (fun i σ G => ∃ (v1 v2 : Option V) (kvs : List (Key × V)), σ = [some (.ref a), v1, v2, some (.ref B)] ∧ Same H G ∧ G B = some (.dK kvs) ∧ kvs.length ≤ 900 ∧
          Cts kvs (inL (lsOf ps)) (fun y => Mg.cnt ((lsOf ps).take i) y))
        ⟨none, none, kvs, rfl, s1, hG, by omega, hc⟩ (fun i σ G _ ⟨_, _, _, _, s2, _⟩ => s2.seq hL.1) ?_ ?_⟩
      · rintro i x σ G2 hx ⟨v1, v2, kvs, rfl, s2, hG2, hk2, hc2⟩
        obtain ⟨q, hq, rfl⟩ := get_map hx
        have mq := List.mem_of_getElem? hq
        refine ⟨_, rfl, _, rfl, q.1, _, rfl, s2.seq (hL.2 q mq), fun L hLn => ?_⟩
        rw [cut_tail, ← List.map_tail]
        have ndt : q.2.tail.Nodup := (fit.nd q mq).sublist (List.tail_sublist _)
        refine ⟨L, rfl, ⟨_, SqL.of upd_same⟩, for_list (K := K) (a := L) (xs := q.2.tail.map V.int) (fun j σ G => ∃ (v2 : Option V) (kvs : List (Key × V)), σ = [some (.ref a), some (.ref q.1), v2, some (.ref B)] ∧ Same H G ∧ G L = some (.lst (q.2.tail.map V.int)) ∧ G B = some (.dK kvs) ∧ kvs.length ≤ 900 ∧
            Cts kvs (inL (lsOf ps)) (fun y => (Mg.cnt ((lsOf ps).take i) y : Int) + Mg.one (q.2.tail.take j) y))
          ⟨v2, kvs, rfl, same_upd s2 (none_of_same s2 hLn), upd_same, by rw [upd_ne (ne_of_none hG2 hLn)]; exact hG2, hk2, hc2.imp (fun _ h => h) fun y _ => by simp [Mg.one]⟩
          (fun j σ G _ ⟨_, _, _, _, h, _⟩ => SqL.of h) ?_ ?_⟩
        · rintro j x σ G3 hx ⟨v2, kvs, rfl, s3, hL3, hB3, hk3, hc3⟩
          obtain ⟨z, hz, rfl⟩ := get_map hx
          have zin : inL (lsOf ps) z := inL_at mq (List.mem_of_mem_tail (List.mem_of_getElem? hz))
          have hv := hc3 z zin
          refine ⟨_, rfl, _, rfl, B, _, rfl, by rw [← hv]; exact DGet.k (k := Sum.inl z) hB3, _, _, rfl, rfl, _, DPut.k (k := Sum.inl z) hB3 (small1000 (by omega)), ?_⟩
          refine ⟨_, _, rfl, same_upd s3 hB, by rw [upd_ne (ne_of hL3 hB3 (by intro e; cases e))]; exact hL3, upd_same, by rw [putK_len hv]; exact hk3, ?_⟩
          refine hc3.put (fun y hy _ => hy) ?_ (fun y _ ne => ?_)
          · show (Mg.cnt ((lsOf ps).take i) z : Int) + Mg.one (q.2.tail.take (j + 1)) z = (Mg.cnt ((lsOf ps).take i) z : Int) + Mg.one (q.2.tail.take j) z + 1
            rw [Mg.one_take_succ ndt hz, if_pos rfl]
            omega
          · show (Mg.cnt ((lsOf ps).take i) y : Int) + Mg.one (q.2.tail.take (j + 1)) y = _
            rw [Mg.one_take_succ ndt hz, if_neg ne]
        · rintro σ G3 ⟨v2, kvs, rfl, s3, hL3, hB3, hk3, hc3⟩
          rw [List.length_map] at hc3
          refine ⟨_, _, kvs, rfl, s3, hB3, hk3, hc3.imp (fun _ h => h) fun y _ => ?_⟩
          show (Mg.cnt ((lsOf ps).take (i + 1)) y : Int) = _
          rw [take_snoc (lsOf_at hq), Mg.cnt_append, Mg.cnt_one, List.take_length]
          omega
      · rintro σ G2 ⟨v1, v2, kvs, rfl, s2, hG2, hk2, hc2⟩
        refine ⟨_, rfl, k G2 B kvs s2 hB hG2 hk2 ?_⟩
        rw [List.length_map] at hc2
        have e : (lsOf ps).take ps.length = lsOf ps := List.take_of_length_le (by rw [List.length_map]; exact Nat.le_refl _)
        rw [e] at hc2
        exact hc2
end
end Pr

set_option autoImplicit true
set_option Elab.async false
set_option linter.all false
set_option maxRecDepth 100000
set_option maxHeartbeats 4000000
namespace Pr
open PySem L2 Two
section
variable {P : Program} {w : World} {K : PySem.W.Frag} {mg : Str → Option Value} {base : Heap}
theorem at0 (z : Int) (t : List Int) : atI ((z :: t).map V.int) 0 = some (.int z) := atI_nat (xs := (z :: t).map V.int) (j := 0) rfl
theorem seq0 (z : Int) (t : List Int) : seqIndex? 0 ((z :: t).map V.int).length = some 0 := by
  unfold seqIndex?
  simp
/-! ### _first_free -/
def freeV : Option Int → V
  | some x => .int x
  | none => .non
def spFree (K : PySem.W.Frag) : Sp := fun vs H Q _ => ∃ (R B : Addr) (ps : List (Addr × List Int)) (kvs : List (Key × V)), vs = [.ref R, .ref B] ∧ LofL K H R ps ∧ H B = some (.dK kvs) ∧
  Cts kvs (inL (lsOf ps)) (fun y => Mg.cnt (lsOf ps) y) ∧ Q (freeV (Mg.firstFree (lsOf ps))) H
theorem scFree : FnScope ["rests", "behind", "rest"] ["rests", "behind"] (defScope sFree) := ⟨rfl, rfl, rfl, by decide +kernel, rfl, by decide +kernel, by decide +kernel⟩
theorem heads_snoc_nil {rs : List (List Int)} : Mg.heads (rs ++ [[]]) = Mg.heads rs := by
  rw [Mg.heads_append]
  exact List.append_nil _
theorem heads_snoc {rs : List (List Int)} {z : Int} {t : List Int} : Mg.heads (rs ++ [z :: t]) = Mg.heads rs ++ [z] := Mg.heads_append _ _
theorem find_split {rs : List (List Int)} {i : Nat} {c : Int → Bool} (h : (Mg.heads (rs.take i)).find? c = none) {z : Int} {t : List Int} (hz : rs[i]? = some (z :: t)) (hc : c z = true) : (Mg.heads rs).find? c = some z := by
  obtain ⟨hlt, hv⟩ := List.getElem?_eq_some_iff.mp hz
  have e : rs = rs.take i ++ (z :: t) :: rs.drop (i + 1) := by
    conv => lhs; rw [← List.take_append_drop i rs, List.drop_eq_getElem_cons hlt, hv]
  rw [e, Mg.heads_append, List.find?_append, h]
  show (Mg.heads ([z :: t] ++ rs.drop (i + 1))).find? c = some z
  rw [Mg.heads_append]
  show (z :: Mg.heads (rs.drop (i + 1))).find? c = some z
  rw [List.find?_cons_of_pos hc]
theorem ok_free {f : Addr} {fd : FuncData} (F : Fun K "_first_free" "_first_free" sFree f fd) (T : Txt mg) : FnOk P w K mg base CX0 1 f fd ["rests", "behind"] (spFree K) := by
  refine F.ok scFree (fun vs H Q E h => ?_) (fun cdv A outer s H vs Q E hr h => ?_)
  · obtain ⟨R, B, ps, kvs, rfl, _⟩ := h
    rfl
  · obtain ⟨R, B, ps, kvs, rfl, hL, hB, hc, k⟩ := h
    have hu := hu_of hr
    refine ⟨_, pss_cons (ps_for PassesOwn.never rfl (pi_list (pv 0)) (pg_name (i := 2) scFree.nd rfl (Or.inl rfl))
        (pss_one (ps_if (PW.pt (pw_and (pt_truth (pv 2) (by intro _; rfl)) (pw_and1 (pt_cmpR op_eq (pe_dget hu (pv 1) (pe_ix ix_list (pv 2) pe_int (fun _ _ => rfl)) (fun _ _ => rfl)) pe_int (nomark _)))))
          (pss_one (ps_ret (pe_ix ix_list (pv 2) pe_int (fun _ _ => rfl)))) pss_nil)))
      (pss_one (ps_ret pe_non)), ?_⟩
    refine ⟨_, rfl, R, rfl, ⟨_, hL.1⟩, for_list (K := K) (a := R) (xs := refsOf ps) (fun i σ G => G = H ∧ ∃ v : Option V, σ = [some (.ref R), some (.ref B), v] ∧ (Mg.heads ((lsOf ps).take i)).find? (Mg.clear (lsOf ps)) = none)
      ⟨rfl, none, rfl, rfl⟩ (fun i σ G _ p => by rw [p.1]; exact hL.1) ?_ ?_⟩
    · rintro i x σ G hx ⟨rfl, v, rfl, hf⟩
      obtain ⟨q, hq, rfl⟩ := get_map hx
      have mq := List.mem_of_getElem? hq
      have hS := hL.2 q mq
      have hl := lsOf_at hq
      rcases hqv : q.2 with _ | ⟨z, t⟩
      · rw [hqv] at hS hl
        refine ⟨_, rfl, false, .inl ⟨_, hS, rfl⟩, iteF (iteF ⟨rfl, _, rfl, ?_⟩)⟩
        rw [take_snoc hl, heads_snoc_nil]
        exact hf
      · rw [hqv] at hS hl
        have hv := hc z (inL_at mq (by rw [hqv]; exact List.mem_cons_self))
        refine ⟨_, rfl, true, .inl ⟨_, hS, rfl⟩, iteT ?_⟩
        refine ⟨_, rfl, _, rfl, q.1, _, 0, .int z, rfl, rfl, hS, at0 _ _, B, _, rfl, by rw [← hv]; exact DGet.k (k := Sum.inl z) hB, rfl, _, rfl, ?_⟩
        have e : decide (V.int (Mg.cnt (lsOf ps) z : Int) = V.int 0) = Mg.clear (lsOf ps) z := by
          rw [Mg.clear_dec]
          by_cases h0 : (Mg.cnt (lsOf ps) z : Int) = 0
          · rw [h0]
            rfl
          · rw [decide_eq_false h0, decide_eq_false fun e => h0 (V.int.inj e)]
        rw [e]
        cases hcl : Mg.clear (lsOf ps) z with
        | false =>
          refine iteF ⟨rfl, _, rfl, ?_⟩
          rw [take_snoc hl, heads_snoc, List.find?_append, hf]
          show [z].find? (Mg.clear (lsOf ps)) = none
          rw [List.find?_cons_of_neg (by rw [hcl]; decide)]
          rfl
        | true =>
          refine iteT ⟨_, rfl, q.1, _, 0, .int z, rfl, rfl, hS, at0 _ _, ?_⟩
          have ff : Mg.firstFree (lsOf ps) = some z := find_split hf hl hcl
          rw [ff] at k
          exact k
    · rintro σ G ⟨rfl, v, rfl, hf⟩
      have ff : Mg.firstFree (lsOf ps) = none := by
        have e : (lsOf ps).take (refsOf ps).length = lsOf ps := List.take_of_length_le (by rw [List.length_map, List.length_map]; exact Nat.le_refl _)
        rw [e] at hf
        exact hf
      rw [ff] at k
      exact k

/-! ### _take -/
/-- the rests: a list of lists of its own -/
structure Own (H : Hp) (R : Addr) (ps : List (Addr × List Int)) : Prop where
  at_ : H R = some (.lst (refsOf ps))
  each : ∀ p ∈ ps, H p.1 = some (.lst (p.2.map V.int))
  nd : (ps.map (·.1)).Nodup
theorem Own.lofl {K : PySem.W.Frag} {H : Hp} {R : Addr} {ps : List (Addr × List Int)} (o : Own H R ps) : LofL K H R ps := ⟨SqL.of o.at_, fun p hp => SqL.of (o.each p hp)⟩
theorem refs_ints {ps : List (Addr × List Int)} {p : Addr × List Int} (hp : p ∈ ps) : refsOf ps ≠ p.2.map V.int := by
  intro e
  cases ps with
  | nil => cases hp
  | cons q qs =>
    cases h : p.2 with
    | nil =>
      rw [h] at e
      cases e
    | cons z t =>
      rw [h] at e
      cases e
theorem Own.ne {H : Hp} {R : Addr} {ps : List (Addr × List Int)} (o : Own H R ps) {p : Addr × List Int} (hp : p ∈ ps) : p.1 ≠ R :=
  (ne_of o.at_ (o.each p hp) (fun e => refs_ints hp (HO.lst.inj e))).symm
/-- a list of pairs with one more item taken -/
def taken (x : Int) (ps : List (Addr × List Int)) : List (Addr × List Int) := ps.map fun p => (p.1, Mg.pull1 x p.2)
theorem taken_ls (x : Int) (ps : List (Addr × List Int)) : lsOf (taken x ps) = Mg.pull x (lsOf ps) := by
  unfold taken Mg.pull lsOf
  rw [List.map_map, List.map_map]
  rfl
theorem taken_refs (x : Int) (ps : List (Addr × List Int)) : refsOf (taken x ps) = refsOf ps := by
  unfold taken refsOf
  rw [List.map_map]
  rfl
theorem taken_fst (x : Int) (ps : List (Addr × List Int)) : (taken x ps).map (·.1) = ps.map (·.1) := by
  unfold taken
  rw [List.map_map]
  rfl
/-- nothing but these addresses has changed -/
def But (S : Addr → Prop) (H H' : Hp) : Prop := ∀ b o, ¬ S b → H b = some o → H' b = some o
def spTake : Sp := fun vs H Q _ => ∃ (x : Int) (R B : Addr) (ps : List (Addr × List Int)) (kvs : List (Key × V)), vs = [.int x, .ref R, .ref B] ∧ Own H R ps ∧ H B = some (.dK kvs) ∧ kvs.length ≤ 900 ∧
  Cts kvs (inL (lsOf ps)) (fun y => Mg.cnt (lsOf ps) y) ∧ (∀ p ∈ ps, p.2.Nodup ∧ p.2.length ≤ 30) ∧
  ∀ (H' : Hp) (kvs' : List (Key × V)), But (fun b => b = B ∨ b ∈ ps.map (·.1)) H H' → Own H' R (taken x ps) → H' B = some (.dK kvs') → kvs'.length ≤ 900 →
    Cts kvs' (inL (Mg.pull x (lsOf ps))) (fun y => Mg.cnt (Mg.pull x (lsOf ps)) y) → Q .non H'
theorem scTake : FnScope ["item", "rests", "behind", "rest"] ["item", "rests", "behind"] (defScope sTake) := ⟨rfl, rfl, rfl, by decide +kernel, rfl, by decide +kernel, by decide +kernel⟩
theorem nodup_fst {ps : List (Addr × List Int)} (nd : (ps.map (·.1)).Nodup) {i j : Nat} {p q : Addr × List Int} (hp : ps[i]? = some p) (hq : ps[j]? = some q) (e : p.1 = q.1) : i = j := by
  induction ps generalizing i j with
  | nil => simp at hp
  | cons a l ih =>
    have nd := List.nodup_cons.mp nd
    match i, j with
    | 0, 0 => rfl
    | 0, j + 1 =>
      have h1 : a = p := Option.some.inj hp
      have h2 : l[j]? = some q := hq
      exact absurd (List.mem_map.mpr ⟨q, List.mem_of_getElem? h2, by rw [← e, ← h1]⟩) nd.1
    | i + 1, 0 =>
      have h1 : a = q := Option.some.inj hq
      have h2 : l[i]? = some p := hp
      exact absurd (List.mem_map.mpr ⟨p, List.mem_of_getElem? h2, by rw [e, ← h1]⟩) nd.1
    | i + 1, j + 1 => exact congrArg (· + 1) (ih nd.2 (show l[i]? = some p from hp) (show l[j]? = some q from hq))
/-- what stands behind i turns -/
structure TakeI (H G : Hp) (x : Int) (R B : Addr) (ps : List (Addr × List Int)) (kvs : List (Key × V)) (i : Nat) : Prop where
  but : But (fun b => b = B ∨ b ∈ ps.map (·.1)) H G
  at_ : G R = some (.lst (refsOf ps))
  old : ∀ (k : Nat) (p : Addr × List Int), ps[k]? = some p → i ≤ k → G p.1 = some (.lst (p.2.map V.int))
  new : ∀ (k : Nat) (p : Addr × List Int), ps[k]? = some p → k < i → G p.1 = some (.lst ((Mg.pull1 x p.2).map V.int))
  dic : G B = some (.dK kvs)
  len : kvs.length ≤ 900
  cts : Cts kvs (inL (Mg.mix x (lsOf ps) i)) (fun y => Mg.cnt (Mg.mix x (lsOf ps) i) y)
theorem ok_take {f : Addr} {fd : FuncData} (F : Fun K "_take" "_take" sTake f fd) (T : Txt mg) : FnOk P w K mg base CX0 1 f fd ["item", "rests", "behind"] spTake := by
  refine F.ok scTake (fun vs H Q E h => ?_) (fun cdv A outer s H vs Q E hr h => ?_)
  · obtain ⟨x, R, B, ps, kvs, rfl, _⟩ := h
    rfl
  · obtain ⟨x, R, B, ps, kvs, rfl, own, hB, hlen, hc, small, k⟩ := h
    have hu := hu_of hr
    have BR : B ≠ R := ne_of hB own.at_ (by intro e; cases e)
    have Bp : ∀ p ∈ ps, B ≠ p.1 := fun p hp => ne_of hB (own.each p hp) (by intro e; cases e)
    refine ⟨_, pss_one (ps_for PassesOwn.never rfl (pi_list (pv 1)) (pg_name (i := 3) scTake.nd rfl (Or.inl rfl))
        (pss_one (ps_if (PW.pt (pw_and (pt_truth (pv 3) (by intro _; rfl)) (pw_and1 (pt_cmpR op_eq (pe_ix ix_list (pv 3) pe_int (fun _ _ => rfl)) (pv 0) (nomark _)))))
          (pss_cons (ps_delL (pv 3) pe_int) (pss_one (ps_if (pt_truth (pv 3) (by intro _; rfl)) (pss_one (ps_daug hu (pv 2) (pe_ix ix_list (pv 3) pe_int (fun _ _ => rfl)) pe_int in_sub (fun _ _ _ => rfl))) pss_nil))) pss_nil))), ?_⟩
    refine ⟨_, rfl, R, rfl, ⟨_, SqL.of own.at_⟩, for_list (K := K) (a := R) (xs := refsOf ps) (fun i σ G => ∃ (v : Option V) (kvs : List (Key × V)), σ = [some (.int x), some (.ref R), some (.ref B), v] ∧ TakeI H G x R B ps kvs i)
      ⟨none, kvs, rfl, ⟨fun b o _ e => e, own.at_, fun k p hp _ => own.each p (List.mem_of_getElem? hp), fun k p hp h => (Nat.not_lt_zero _ h).elim, hB, hlen, by rw [Mg.mix_zero]; exact hc⟩⟩
      (fun i σ G _ ⟨_, _, _, t⟩ => SqL.of t.at_) ?_ ?_⟩
    · rintro i y σ G hy ⟨v, kvs, rfl, t⟩
      obtain ⟨q, hq, rfl⟩ := get_map hy
      have mq := List.mem_of_getElem? hq
      have hS := t.old i q hq (Nat.le_refl _)
      have hl := lsOf_at hq
      obtain ⟨ndq, szq⟩ := small q mq
      -- a turn that changes nothing
      have idle : Mg.pull1 x q.2 = q.2 → Mg.mix x (lsOf ps) (i + 1) = Mg.mix x (lsOf ps) i → TakeI H G x R B ps kvs (i + 1) := fun e1 e2 =>
        ⟨t.but, t.at_, fun k p hp h => t.old k p hp (by omega), fun k p hp h => by
          by_cases e : k = i
          · subst e
            rw [hq] at hp
            cases hp
            rw [e1]
            exact hS
          · exact t.new k p hp (by omega), t.dic, t.len, by rw [e2]; exact t.cts⟩
      rcases hqv : q.2 with _ | ⟨z, r⟩
      · rw [hqv] at hS hl
        refine ⟨_, rfl, false, .inl ⟨_, SqL.of hS, rfl⟩, iteF (iteF ⟨_, kvs, rfl, idle (by rw [hqv]; rfl) (Mg.mix_none hl (fun e => nomatch e))⟩)⟩
      · rw [hqv] at hS hl
        refine ⟨_, rfl, true, .inl ⟨_, SqL.of hS, rfl⟩, iteT ?_⟩
        refine ⟨_, rfl, q.1, _, 0, .int z, rfl, rfl, SqL.of hS, at0 _ _, _, rfl, rfl, _, rfl, ?_⟩
        by_cases hzx : z = x
        · subst hzx
          rw [decide_eq_true rfl]
          refine iteT ?_
          refine ⟨_, rfl, q.1, _, 0, 0, rfl, rfl, hS, by decide, by decide, seq0 _ _, ?_⟩
          have pz : Mg.pull1 z (z :: r) = r := by unfold Mg.pull1; simp
          have hS2 : upd G q.1 (.lst (((z :: r).map V.int).eraseIdx 0)) q.1 = some (.lst (r.map V.int)) := upd_same
          -- what stands when the list is shorter
          have short : ∀ kvs2 : List (Key × V), ∀ G2 : Hp, (∀ b, b ≠ B → b ≠ q.1 → G2 b = G b) → G2 q.1 = some (.lst (r.map V.int)) → G2 B = some (.dK kvs2) → kvs2.length ≤ 900 → Cts kvs2 (inL (Mg.mix z (lsOf ps) (i + 1))) (fun y => Mg.cnt (Mg.mix z (lsOf ps) (i + 1)) y) →
              TakeI H G2 z R B ps kvs2 (i + 1) := fun kvs2 G2 same hq2 hB2 hl2 hc2 => by
            have other : ∀ (k : Nat) (p : Addr × List Int), ps[k]? = some p → k ≠ i → G2 p.1 = G p.1 := fun k p hp ne =>
              same p.1 (fun e => Bp p (List.mem_of_getElem? hp) e.symm) (fun e => ne (nodup_fst own.nd hp hq e))
            refine ⟨fun b o hb e => ?_, by rw [same R BR.symm (own.ne mq).symm]; exact t.at_, fun k p hp h => by rw [other k p hp (by omega)]; exact t.old k p hp (by omega), fun k p hp h => ?_, hB2, hl2, hc2⟩
            · rw [same b (fun e => hb (.inl e)) (fun e => hb (.inr (by rw [e]; exact List.mem_map.mpr ⟨q, mq, rfl⟩)))]
              exact t.but b o hb e
            · by_cases e : k = i
              · subst e
                rw [hq] at hp
                cases hp
                rw [hqv, pz]
                exact hq2
              · rw [other k p hp e]
                exact t.new k p hp (by omega)
          cases r with
          | nil =>
            refine ⟨_, rfl, false, .inl ⟨_, SqL.of hS2, rfl⟩, iteF ⟨_, kvs, rfl, short kvs _ (fun b h1 h2 => upd_ne h2) hS2 (by rw [upd_ne (Bp q mq)]; exact t.dic) t.len ?_⟩⟩
            refine t.cts.imp (fun y hy => ?_) fun y _ => by rw [Mg.mix_nil hl]
            obtain ⟨r1, hr1, hy⟩ := hy
            obtain ⟨e1, e2⟩ := Mg.mix_at (x := z) hl
            rw [e2] at hr1
            refine ⟨r1, ?_, hy⟩
            rw [e1]
            rcases List.mem_append.mp hr1 with m | m
            · exact List.mem_append_left _ m
            · rcases List.mem_cons.mp m with m | m
              · rw [m, pz] at hy
                cases hy
              · exact List.mem_append_right _ (List.mem_cons_of_mem _ m)
          | cons h' r' =>
            obtain ⟨e1, e2⟩ := Mg.mix_at (x := z) hl
            have inh : inL (Mg.mix z (lsOf ps) i) h' := ⟨z :: h' :: r', by rw [e1]; simp, by simp⟩
            have hv := t.cts h' inh
            have hBu : upd G q.1 (.lst (((z :: h' :: r').map V.int).eraseIdx 0)) B = some (.dK kvs) := by rw [upd_ne (Bp q mq)]; exact t.dic
            refine ⟨_, rfl, true, .inl ⟨_, SqL.of hS2, rfl⟩, iteT ?_⟩
            refine ⟨_, rfl, _, rfl, q.1, _, 0, .int h', rfl, rfl, SqL.of hS2, at0 _ _, B, _, rfl, by rw [← hv]; exact DGet.k (k := Sum.inl h') hBu, _, _, rfl, rfl, _, DPut.k (k := Sum.inl h') hBu (small1000 (by have := t.len; omega)), ?_⟩
            refine ⟨_, _, rfl, short _ _ (fun b h1 h2 => by rw [upd_ne h1, upd_ne h2]) (by rw [upd_ne (Bp q mq).symm]; exact hS2) upd_same (by rw [putK_len hv]; exact t.len) ?_⟩
            rw [hqv] at ndq
            refine t.cts.put (fun y hy ne => ?_) ?_ (fun y _ ne => ?_)
            · obtain ⟨r1, hr1, hy⟩ := hy
              rw [e2] at hr1
              rcases List.mem_append.mp hr1 with m | m
              · exact ⟨r1, by rw [e1]; exact List.mem_append_left _ m, hy⟩
              · rcases List.mem_cons.mp m with m | m
                · rw [m, pz] at hy
                  exact ⟨z :: h' :: r', by rw [e1]; simp, List.mem_cons_of_mem _ hy⟩
                · exact ⟨r1, by rw [e1]; exact List.mem_append_right _ (List.mem_cons_of_mem _ m), hy⟩
            · show (Mg.cnt (Mg.mix z (lsOf ps) (i + 1)) h' : Int) = _
              rw [Mg.mix_cons hl ndq, if_pos rfl]
            · show (Mg.cnt (Mg.mix z (lsOf ps) (i + 1)) y : Int) = _
              rw [Mg.mix_cons hl ndq, if_neg ne]
        · rw [decide_eq_false fun e => hzx (V.int.inj e)]
          have nh : (z :: r).head? ≠ some x := fun e => hzx (Option.some.inj e)
          exact iteF ⟨_, kvs, rfl, idle (by rw [hqv]; unfold Mg.pull1; rw [if_neg nh]) (Mg.mix_none hl nh)⟩
    · rintro σ G ⟨v, kvs, rfl, t⟩
      have e : (refsOf ps).length = (lsOf ps).length := by rw [List.length_map, List.length_map]
      have tc := t.cts
      rw [e, Mg.mix_all] at tc
      refine k G kvs t.but ⟨by rw [taken_refs]; exact t.at_, fun p hp => ?_, by rw [taken_fst]; exact own.nd⟩ t.dic t.len tc
      obtain ⟨q, hq, e2⟩ := List.mem_map.mp (show p ∈ ps.map _ from hp)
      subst e2
      obtain ⟨n, hn⟩ := List.getElem?_of_mem hq
      exact t.new n q hn (by have := (List.getElem?_eq_some_iff.mp hn).1; rw [List.length_map]; exact this)
end
end Pr

set_option autoImplicit true
set_option autoImplicit false
namespace Mg
/-! ### the way that is gone -/
def hasIt (rs : List (List Int)) (x : Int) (i : Nat) : Bool := ((rs[i]?).getD []).tail.contains x
/-- the first rest in which x stands behind, and its first item -/
def nxt (rs : List (List Int)) (x : Int) : Int × Nat :=
  ((rs[((List.range rs.length).filter (hasIt rs x)).headD 0]?.getD []).headD 0, ((List.range rs.length).filter (hasIt rs x)).headD 0)
def wayOf (rs : List (List Int)) (x0 : Int) : Nat → List (Int × Nat)
  | 0 => []
  | m + 1 => wayOf rs x0 m ++ [nxt rs (((x0 :: (wayOf rs x0 m).map (·.1))[m]?).getD 0)]
theorem wayOf_len (rs : List (List Int)) (x0 : Int) : ∀ m, (wayOf rs x0 m).length = m
  | 0 => rfl
  | m + 1 => by
    show (wayOf rs x0 m ++ [_]).length = m + 1
    rw [List.length_append, wayOf_len rs x0 m]
    rfl
theorem wayOf_take (rs : List (List Int)) (x0 : Int) (m : Nat) : ∀ k, (wayOf rs x0 (m + k)).take m = wayOf rs x0 m
  | 0 => List.take_of_length_le (by rw [Nat.add_zero, wayOf_len]; exact Nat.le_refl _)
  | k + 1 => by
    show (wayOf rs x0 (m + k) ++ [_]).take m = _
    rw [List.take_append_of_le_length (by rw [wayOf_len]; omega)]
    exact wayOf_take rs x0 m k
abbrev xsW (rs : List (List Int)) (x0 : Int) (m : Nat) : List Int := x0 :: (wayOf rs x0 m).map (·.1)
theorem xsW_at (rs : List (List Int)) (x0 : Int) {m j : Nat} (h : j ≤ m) (k : Nat) : (xsW rs x0 (m + k))[j]? = (xsW rs x0 m)[j]? := by
  cases j with
  | zero => rfl
  | succ j =>
    show ((wayOf rs x0 (m + k)).map (·.1))[j]? = ((wayOf rs x0 m).map (·.1))[j]?
    rw [← wayOf_take rs x0 m k, List.map_take, List.getElem?_take_of_lt (by omega)]
/-- the ring that is found -/
def RingDet (rs : List (List Int)) (ring : List (Int × Nat)) : Prop := ∃ (x0 : Int) (m p : Nat), (heads rs).head? = some x0 ∧ ((xsW rs x0 m).take m).Nodup ∧ p < m ∧ (xsW rs x0 m)[p]? = (xsW rs x0 m)[m]? ∧ ring = ((wayOf rs x0 m).drop p).reverse
theorem nodup_get {l : List Int} {i j : Nat} {y : Int} (nd : l.Nodup) (hi : l[i]? = some y) (hj : l[j]? = some y) : i = j := by
  obtain ⟨l1, e1⟩ := List.getElem?_eq_some_iff.mp hi
  obtain ⟨l2, e2⟩ := List.getElem?_eq_some_iff.mp hj
  exact nodup_at nd l1 l2 (e1.trans e2.symm)
theorem ring_lt {rs : List (List Int)} {x0 : Int} {m k p : Nat} (nd : ((xsW rs x0 (m + (k + 1))).take (m + (k + 1))).Nodup) (hp : p < m) (hx : (xsW rs x0 m)[p]? = (xsW rs x0 m)[m]?) : False := by
  have lenm : (xsW rs x0 m).length = m + 1 := by simp [wayOf_len]
  obtain ⟨y, hy⟩ : ∃ y, (xsW rs x0 m)[m]? = some y := ⟨_, List.getElem?_eq_getElem (by omega)⟩
  have a : ((xsW rs x0 (m + (k + 1))).take (m + (k + 1)))[p]? = some y := by
    rw [List.getElem?_take_of_lt (by omega), xsW_at rs x0 (by omega), hx]; exact hy
  have b : ((xsW rs x0 (m + (k + 1))).take (m + (k + 1)))[m]? = some y := by
    rw [List.getElem?_take_of_lt (by omega), xsW_at rs x0 (by omega)]; exact hy
  have := nodup_get nd a b
  omega
theorem RingDet.unique {rs : List (List Int)} {r1 r2 : List (Int × Nat)} (h1 : RingDet rs r1) (h2 : RingDet rs r2) : r1 = r2 := by
  obtain ⟨x, m, p, a1, a2, a3, a4, a5⟩ := h1
  obtain ⟨x', m', p', b1, b2, b3, b4, b5⟩ := h2
  rw [a1] at b1
  cases b1
  have em : m = m' := by
    rcases Nat.lt_trichotomy m m' with h | h | h
    · obtain ⟨k, rfl⟩ := Nat.exists_eq_add_of_lt h
      exact (ring_lt (k := k) (by exact b2) a3 a4).elim
    · exact h
    · obtain ⟨k, rfl⟩ := Nat.exists_eq_add_of_lt h
      exact (ring_lt (k := k) (by exact a2) b3 b4).elim
  subst em
  have lenm : (xsW rs x m).length = m + 1 := by simp [wayOf_len]
  obtain ⟨y, hy⟩ : ∃ y, (xsW rs x m)[m]? = some y := ⟨_, List.getElem?_eq_getElem (by omega)⟩
  have ep : p = p' := nodup_get a2 (y := y) (by rw [List.getElem?_take_of_lt a3, a4]; exact hy) (by rw [List.getElem?_take_of_lt b3, b4]; exact hy)
  subst ep
  rw [a5, b5]
end Mg

set_option autoImplicit true
set_option Elab.async false
set_option linter.all false
set_option maxRecDepth 100000
set_option maxHeartbeats 4000000
namespace Pr
open PySem L2 Two
def tTru (K : PySem.W.Frag) (ta : TE) : TT := fun σ H Q => ta σ H fun x H' => ∃ k, TruV K x H' k ∧ Q k H'
theorem pt_tru {X : Cx} {a : Expr} {ta : TE} (ha : PE X a ta) (he : ∀ whole, isTrue a X.env whole = (do let v ← whole; standAt a.pos; holding [v] (truthy v)) := by intro _; rfl) : PT X a (tTru X.K ta) := pt_truth ha he
theorem inV_ints (x : Int) : ∀ l : List Int, inV (.int x) (l.map V.int) = l.contains x
  | [] => rfl
  | y :: l => by
    have ih := inV_ints x l
    unfold inV at ih ⊢
    rw [List.map_cons, List.any_cons, ih, List.contains_cons]
    congr 1
    show (y == x) = (x == y)
    exact Bool.beq_comm
theorem flat_ints : ∀ l : List Int, (l.map V.int).all flatV = true
  | [] => rfl
  | _ :: l => flat_ints l
theorem nodup_len : ∀ {l m : List Int}, l.Nodup → (∀ x ∈ l, x ∈ m) → l.length ≤ m.length
  | [], _, _, _ => Nat.zero_le _
  | a :: l, m, nd, h => by
    have nd := List.nodup_cons.mp nd
    have ha := h a List.mem_cons_self
    have q := nodup_len (l := l) (m := m.erase a) nd.2 fun x hx => (List.mem_erase_of_ne (fun e : x = a => nd.1 (by rw [← e]; exact hx))).mpr (h x (List.mem_cons_of_mem _ hx))
    have e := List.length_erase_of_mem ha
    have := List.length_pos_of_mem ha
    simp only [List.length_cons]
    omega
theorem heads_len (rs : List (List Int)) : (Mg.heads rs).length ≤ rs.length := List.length_filterMap_le _ _
def hasB (rs : List (List Int)) (x : Int) (i : Nat) : Bool := ((rs[i]?).getD []).tail.contains x
theorem range_snoc (j : Nat) : List.range (j + 1) = List.range j ++ [j] := List.range_succ
theorem cut_drop (xs : List V) (p : Nat) (h : p ≤ xs.length) : cutV xs (some (p : Int)) none = xs.drop p := by
  unfold cutV
  rw [HT.sIx_nat, HT.sIx_none, Nat.min_eq_left h]
  exact List.take_of_length_le (by rw [List.length_drop]; exact Nat.le_refl _)

/-- tuples (item, index) at the addresses beside them -/
def TupsAt (H : Hp) (us : List (Addr × Int × Nat)) : Prop := ∀ u ∈ us, H u.1 = some (.tup [.int u.2.1, .int (u.2.2 : Nat)])
abbrev tupRefs (us : List (Addr × Int × Nat)) : List V := us.map fun u => V.ref u.1
abbrev xsOf (x0 : Int) (us : List (Addr × Int × Nat)) : List Int := x0 :: (us.map (·.2)).map (·.1)
structure RingI (H0 H : Hp) (Wy Pl : Addr) (rs : List (List Int)) (x0 : Int) (us : List (Addr × Int × Nat)) (kvs : List (Key × V)) (cur : Int) : Prop where
  same : Same H0 H
  wy : H Wy = some (.lst (tupRefs us))
  tup : TupsAt H us
  pl : H Pl = some (.dK kvs)
  len : kvs.length = us.length
  way : Mg.Way rs x0 (us.map (·.2))
  cur : (xsOf x0 us)[us.length]? = some cur
  keys : ∀ (k : Nat) (y : Int), k < us.length → (xsOf x0 us)[k]? = some y → valV kvs (.inl y) = some (.int k)
  no : ∀ y, (∀ k, k < us.length → (xsOf x0 us)[k]? ≠ some y) → valV kvs (.inl y) = none
  nd : ((xsOf x0 us).take us.length).Nodup
  mem : ∀ y ∈ xsOf x0 us, y ∈ Mg.heads rs
  det : us.map (·.2) = Mg.wayOf rs x0 us.length
theorem RingI.few {H0 H : Hp} {Wy Pl : Addr} {rs : List (List Int)} {x0 cur : Int} {us : List (Addr × Int × Nat)} {kvs : List (Key × V)} (r : RingI H0 H Wy Pl rs x0 us kvs cur) : us.length ≤ rs.length := by
  have a := nodup_len r.nd fun y hy => r.mem y (List.mem_of_mem_take hy)
  have b := heads_len rs
  rw [List.length_take] at a
  simp only [List.length_cons, List.length_map] at a
  omega
def spRingOf (K : PySem.W.Frag) : Sp := fun vs H Q _ => ∃ (R : Addr) (ps : List (Addr × List Int)), vs = [.ref R] ∧ LofL K H R ps ∧ ps.length ≤ 30 ∧ (∀ p ∈ ps, p.2.Nodup) ∧ Mg.firstFree (lsOf ps) = none ∧ (∃ r ∈ lsOf ps, r ≠ []) ∧
  ∀ (H' : Hp) (q : Addr) (us : List (Addr × Int × Nat)) (x0 : Int) (way : List (Int × Nat)) (p : Nat), Same H H' → H q = none → H' q = some (.lst (tupRefs us)) → TupsAt H' us → Mg.Way (lsOf ps) x0 way → ((x0 :: way.map (·.1)).take way.length).Nodup → p < way.length →
    (x0 :: way.map (·.1))[p]? = (x0 :: way.map (·.1))[way.length]? → us.map (·.2) = (way.drop p).reverse → us.length ≤ 30 → Mg.RingDet (lsOf ps) (us.map (·.2)) → Q (.ref q) H'
section
variable {P : Program} {w : World} {K : PySem.W.Frag} {mg : Str → Option Value} {base : Heap}
theorem scRingOf : FnScope ["rests", "way", "places", "item", "index", "rest", "at"] ["rests"] (defScope sRingOf) := ⟨rfl, rfl, rfl, by decide +kernel, rfl, by decide +kernel, by decide +kernel⟩
def tHeadOf (K : PySem.W.Frag) : TE := tOp (rIxL K) (tVar 5) (tC (.int 0))
def tHasIt (K : PySem.W.Frag) : TT := tTest (tOp (rIn K false) (tVar 3) (tSl (rSlL K) (tVar 5) (tPart (tC (.int 1))) tNoPart))
theorem ok_ringOf {f : Addr} {fd : FuncData} (F : Fun K "_ring_of" "_ring_of" sRingOf f fd) (T : Txt mg) : FnOk P w K mg base CX0 1 f fd ["rests"] (spRingOf K) := by
  refine F.ok scRingOf (fun vs H Q E h => ?_) (fun cdv A outer s H vs Q E hr h => ?_)
  · obtain ⟨R, ps, rfl, _⟩ := h
    rfl
  · obtain ⟨R, ps, rfl, hL, few, nds, stuck, ⟨r1, hr1, ne1⟩, k⟩ := h
    have hu := hu_of hr
    have szR : (refsOf ps).length ≤ 30 := by rw [List.length_map]; exact few
    refine ⟨_, pss_cons (ps_set (i := 1) scRingOf.nd rfl (Or.inl rfl) (pe_lst pa_nil)) (pss_cons (ps_set (i := 2) scRingOf.nd rfl (Or.inl rfl) pe_dnewK)
      (pss_cons (ps_set (i := 3) scRingOf.nd rfl (Or.inr rfl) (pe_ix ix_list (pe_lc (own := [("rest", 5)]) (g := gName 5) (tt := tTru K (tVar 5)) (te := tHeadOf K) rfl scRingOf.nd (pi_list (pv 0)) (blkOk_by (N := ["rests", "way", "places", "item", "index", "rest", "at"]) (sc := defScope sRingOf) (by decide +kernel))
          (fun _ _ _ _ _ => pg_name (i := 5) scRingOf.nd rfl (Or.inl rfl)) (fun _ _ _ _ _ => pts_one (pt_tru (pv 5))) (fun _ _ _ _ _ => pe_ix ix_list (pv 5) pe_int (fun _ _ => rfl))) pe_int (fun _ _ => rfl)))
      (pss_cons (ps_while PassesOwn.never (pt_cmp (pc_dnotin hu (pv 3) (pv 2)))
        (pss_cons (ps_dput hu (pv 2) (pv 3) (pe_callB call_len_seq (by rfl) T.len PySem.boot_len (pa_cons (pv 1) pa_nil)) rfl)
        (pss_cons (ps_set (i := 4) scRingOf.nd rfl (Or.inl rfl) (pe_ix ix_list (pe_lc (own := [("at", 6), ("rest", 5)]) (g := gTup K 2 (gCons (gName 6) (gCons (gName 5) gNil))) (tt := tHasIt K) (te := tVar 6) rfl scRingOf.nd (pi_enum (by rfl) T.enum (pa_cons (pv 0) pa_nil)) (blkOk_by (N := ["rests", "way", "places", "item", "index", "rest", "at"]) (sc := defScope sRingOf) (by decide +kernel))
            (fun _ _ _ _ _ => pg_tup rfl (pgs_cons (pg_name (i := 6) scRingOf.nd rfl (Or.inl rfl)) (pgs_cons (pg_name (i := 5) scRingOf.nd rfl (Or.inl rfl)) pgs_nil))) (fun _ _ _ _ _ => pts_one (pt_cmpR op_in_seq (pv 3) (pe_slice sl_list (pv 5) (po_some pe_int) po_none) (by rfl))) (fun _ _ _ _ _ => pv 6)) pe_int (fun _ _ => rfl)))
        (pss_cons (ps_set (i := 3) scRingOf.nd rfl (Or.inr rfl) (pe_ix ix_list (pe_ix ix_list (pv 0) (pv 4) (fun _ _ => rfl)) pe_int (fun _ _ => rfl)))
        (pss_one (ps_expr (pe_bm PySem.F.plainAttrs_list PySem.F.slot_list_append PySem.F.type_list_append mt_append (pv 1) (pa_cons (pe_tup (pa_cons (pv 3) (pa_cons (pv 4) pa_nil))) pa_nil))))))))
      (pss_one (ps_ret (pe_revL (pe_slice sl_list (pv 1) (po_some (pe_dget hu (pv 2) (pv 3) (fun _ _ => rfl))) po_none))))))), ?_⟩
    refine ⟨Nat.zero_le _, fun Wy nWy => fun Pl nPl0 => ?_⟩
    have nPl : H Pl = none := none_of_same (same_new nWy) nPl0
    have WP : Wy ≠ Pl := fun e => by rw [← e, upd_same] at nPl0; cases nPl0
    have s0 : Same H (upd (upd H Wy (.lst [])) Pl (.dK [])) := same_upd (same_new nWy) nPl
    refine ⟨_, rfl, R, rfl, ⟨_, s0.seq hL.1⟩, fun D1 hD1 => lc_list (K := K) (a := R) (xs := refsOf ps) (fun j G => Same (upd (upd H Wy (.lst [])) Pl (.dK [])) G ∧ G D1 = some (.lst ((Mg.heads ((lsOf ps).take j)).map V.int)))
      ⟨same_new hD1, upd_same⟩ (fun j G _ p => (s0.trans p.1).seq hL.1) (fun j x G hx p => ?_) (fun G p => ?_)⟩
    · obtain ⟨q, hq, rfl⟩ := get_map hx
      have mq := List.mem_of_getElem? hq
      have hS := (s0.trans p.1).seq (hL.2 q mq)
      have hl := lsOf_at hq
      refine ⟨rfl, ?_⟩
      rcases hqv : q.2 with _ | ⟨z, t⟩
      · rw [hqv] at hS hl
        refine ⟨_, rfl, false, .inl ⟨_, hS, rfl⟩, iteF ⟨p.1, ?_⟩⟩
        rw [take_snoc hl, heads_snoc_nil]
        exact p.2
      · rw [hqv] at hS hl
        refine ⟨_, rfl, true, .inl ⟨_, hS, rfl⟩, iteT ⟨_, rfl, q.1, _, 0, .int z, rfl, rfl, hS, at0 _ _, _, p.2, ?_, same_upd p.1 hD1, ?_⟩⟩
        · have a1 := heads_len ((lsOf ps).take j)
          rw [List.length_map]
          refine small1000 ?_
          rw [List.length_take, List.length_map] at a1
          omega
        · rw [upd_same, take_snoc hl, heads_snoc, List.map_append]
          rfl
    · obtain ⟨s1, hD⟩ := p
      have e : (lsOf ps).take (refsOf ps).length = lsOf ps := List.take_of_length_le (by rw [List.length_map, List.length_map]; exact Nat.le_refl _)
      rw [e] at hD
      obtain ⟨x0, xt, hx0⟩ : ∃ x0 xt, Mg.heads (lsOf ps) = x0 :: xt := by
        cases hh : Mg.heads (lsOf ps) with
        | cons x0 xt => exact ⟨x0, xt, rfl⟩
        | nil =>
          exfalso
          cases r1 with
          | nil => exact ne1 rfl
          | cons z t =>
            have q : z ∈ Mg.heads (lsOf ps) := Mg.mem_heads.mpr ⟨z :: t, hr1, rfl⟩
            rw [hh] at q
            cases q
      have hD2 := hD
      rw [hx0] at hD2
      refine ⟨D1, _, 0, .int x0, rfl, rfl, SqL.of hD2, at0 _ _, ?_⟩
      have start : RingI H G Wy Pl (lsOf ps) x0 [] [] x0 := ⟨s0.trans s1, s1 _ _ (by rw [upd_ne WP]; exact upd_same), (fun u hu => nomatch hu), s1 _ _ upd_same, rfl, Mg.Way.nil, rfl, (fun k y h => nomatch h), fun y _ => rfl, List.nodup_nil, fun y hy => by
        rw [List.mem_singleton.mp hy, hx0]
        exact List.mem_cons_self, rfl⟩
      show tSeq _ _ _ ([some (.ref R), some (.ref Wy), some (.ref Pl), none, none, none, none].set 3 (some (.int x0))) G
      refine while_by (fun σ G => ∃ (v4 : Option V) (us : List (Addr × Int × Nat)) (kvs : List (Key × V)) (cur : Int), σ = [some (.ref R), some (.ref Wy), some (.ref Pl), some (.int cur), v4, none, none] ∧ RingI H G Wy Pl (lsOf ps) x0 us kvs cur)
        (fun σ G => match G Pl with | some (.dK kvs) => 31 - kvs.length | _ => 0) ⟨none, [], [], x0, rfl, start⟩ ?_ ?_
      · rintro σ G ⟨v4, us, kvs, cur, rfl, I⟩
        have fewU : us.length ≤ 30 := by have := I.few; rw [List.length_map] at this; omega
        refine ⟨_, rfl, _, rfl, Pl, _, rfl, DGet.k (k := Sum.inl cur) I.pl, _, rfl, ?_⟩
        cases hv : valV kvs (Sum.inl cur) with
        | some v =>
          refine iteF ?_
          -- the end
          obtain ⟨p, hp, hpx⟩ : ∃ p, p < us.length ∧ (xsOf x0 us)[p]? = some cur := Decidable.byContradiction fun n => by
            rw [I.no cur fun k hk e => n ⟨k, hk, e⟩] at hv
            cases hv
          have hv2 := I.keys p cur hp hpx
          have dg : DGet G Pl (.int cur) (some (.int (p : Nat))) := by rw [← hv2]; exact DGet.k (k := Sum.inl cur) I.pl
          refine ⟨_, rfl, _, rfl, _, rfl, Pl, .int (p : Nat), rfl, dg, (p : Nat), rfl, Wy, _, rfl, SqL.of I.wy, fun L hL2 => ?_⟩
          rw [cut_drop _ _ (by rw [List.length_map]; omega)]
          refine ⟨L, _, rfl, SqL.of upd_same, fun q hq => ?_⟩
          have sL : Same G (upd (upd G L (.lst ((tupRefs us).drop p))) q (.lst ((tupRefs us).drop p).reverse)) := same_upd (same_new hL2) (none_of_same (same_new hL2) hq)
          refine k _ q (us.drop p).reverse x0 (us.map (·.2)) p (I.same.trans sL) (none_of_same (I.same.trans (same_new hL2)) hq) ?_ (fun u hu => sL _ _ (I.tup u (List.mem_of_mem_drop (List.mem_reverse.mp hu)))) I.way ?_ (by rw [List.length_map]; exact hp) ?_ ?_ ?_ ?_
          · unfold tupRefs; rw [upd_same, List.map_reverse, List.map_drop]
          · rw [List.length_map]; exact I.nd
          · rw [List.length_map, I.cur]; exact hpx
          · rw [List.map_reverse, List.map_drop]
          · rw [List.length_reverse, List.length_drop]; omega
          · have e := I.det
            refine ⟨x0, us.length, p, by rw [hx0]; rfl, ?_, hp, ?_, ?_⟩
            · unfold Mg.xsW; rw [← e]; exact I.nd
            · unfold Mg.xsW; rw [← e]; exact hpx.trans I.cur.symm
            · rw [← e, List.map_reverse, List.map_drop]
        | none =>
          refine iteT ?_
          have curIn : cur ∈ Mg.heads (lsOf ps) := I.mem cur (List.mem_of_getElem? I.cur)
          have szU : (tupRefs us).length = us.length := by rw [List.length_map]
          refine ⟨_, rfl, Wy, _, rfl, .inl (SqL.of I.wy), _, rfl, _, rfl, Pl, _, rfl, DPut.k (k := Sum.inl cur) I.pl (small1000 (by rw [I.len]; omega)), ?_⟩
          rw [szU]
          obtain ⟨kvs2, hkv⟩ : ∃ z, z = putK kvs (Sum.inl cur) (.int (us.length : Nat)) := ⟨_, rfl⟩
          rw [← hkv]
          have len2 : kvs2.length = us.length + 1 := by rw [hkv, putK_new _ hv, List.length_append, I.len]; rfl
          obtain ⟨G1, hG1⟩ : ∃ z, z = upd G Pl (.dK kvs2) := ⟨_, rfl⟩
          rw [← hG1]
          have s1 : Same H G1 := by rw [hG1]; exact same_upd I.same nPl
          have wy1 : G1 Wy = some (.lst (tupRefs us)) := by rw [hG1, upd_ne WP]; exact I.wy
          have pl1 : G1 Pl = some (.dK kvs2) := by rw [hG1]; exact upd_same
          have tup1 : TupsAt G1 us := fun u hu => by rw [hG1, upd_ne (ne_of (I.tup u hu) I.pl (by intro e; cases e))]; exact I.tup u hu
          refine ⟨_, rfl, R, _, rfl, s1.seq hL.1, fun D2 hD2 => lc_it (walk_enum (K := K) (a := R) (xs := refsOf ps)) (fun j G' => Same G1 G' ∧ G' D2 = some (.lst (((List.range j).filter (hasB (lsOf ps) cur)).map fun i => V.int (i : Nat))))
            ⟨same_new hD2, upd_same⟩ (fun j G' _ p => (s1.trans p.1).seq hL.1) (fun j x G2 G3 hj p y => ?_) (fun G2 p => ?_)⟩
          · obtain ⟨T1, a1, y1, rfl, nT, rfl, e1, e2⟩ := y
            cases e1
            obtain ⟨q, hq, rfl⟩ := get_map e2
            have mq := List.mem_of_getElem? hq
            have nTD : D2 ≠ T1 := ne_of_none p.2 nT
            have s2 : Same G1 (upd G2 T1 (.tup [.int (j : Nat), .ref q.1])) := same_upd p.1 (none_of_same p.1 nT)
            refine ⟨T1, _, rfl, SqT.of upd_same, rfl, _, _, rfl, _, _, rfl, rfl, rfl, ?_⟩
            refine ⟨_, rfl, _, rfl, 1, rfl, q.1, _, rfl, (s1.trans s2).seq (hL.2 q mq), fun L hL2 => ?_⟩
            rw [cut_tail, ← List.map_tail]
            refine ⟨L, _, rfl, .inl (SqL.of upd_same), rfl, flat_ints _, _, rfl, ?_⟩
            rw [inV_ints]
            have e3 : q.2.tail.contains cur = hasB (lsOf ps) cur j := by unfold hasB; rw [lsOf_at hq]; rfl
            have s3 : Same G1 (upd (upd G2 T1 (.tup [.int (j : Nat), .ref q.1])) L (.lst (q.2.tail.map V.int))) := same_upd s2 (none_of_same s2 hL2)
            have d3 : (upd (upd G2 T1 (.tup [.int (j : Nat), .ref q.1])) L (.lst (q.2.tail.map V.int))) D2 = some (.lst (((List.range j).filter (hasB (lsOf ps) cur)).map fun i => V.int (i : Nat))) := by
              rw [upd_ne (ne_of_none (show (upd G2 T1 (.tup [.int (j : Nat), .ref q.1])) D2 = _ by rw [upd_ne nTD]; exact p.2) hL2), upd_ne nTD]
              exact p.2
            show if (if false = true then !q.2.tail.contains cur else q.2.tail.contains cur) = true then _ else _
            rw [if_neg Bool.false_ne_true, e3]
            cases hb : hasB (lsOf ps) cur j with
            | false =>
              refine iteF ⟨s3, ?_⟩
              rw [range_snoc, List.filter_append, List.filter_cons_of_neg (by rw [hb]; decide), d3]
              simp
            | true =>
              refine iteT ⟨_, rfl, _, d3, ?_, same_upd s3 hD2, ?_⟩
              · refine small1000 ?_
                have := List.length_filter_le (hasB (lsOf ps) cur) (List.range j)
                rw [List.length_range] at this
                rw [List.length_map]
                omega
              · rw [upd_same, range_snoc, List.filter_append, List.filter_cons_of_pos hb, List.map_append]
                rfl
          · obtain ⟨s2, hD3⟩ := p
            obtain ⟨i0, F', hF⟩ : ∃ i0 F', (List.range (refsOf ps).length).filter (hasB (lsOf ps) cur) = i0 :: F' := by
              cases hh : (List.range (refsOf ps).length).filter (hasB (lsOf ps) cur) with
              | cons i0 F' => exact ⟨i0, F', rfl⟩
              | nil =>
                exfalso
                obtain ⟨r, hr, hc⟩ := Mg.firstFree_none stuck curIn
                obtain ⟨n, hn⟩ := List.getElem?_of_mem hr
                have lt := (List.getElem?_eq_some_iff.mp hn).1
                have q := List.filter_eq_nil_iff.mp hh n (List.mem_range.mpr (by rw [List.length_map] at lt ⊢; exact lt))
                unfold hasB at q
                rw [hn] at q
                exact q (List.contains_iff_mem.mpr hc)
            have mF : i0 ∈ (List.range (refsOf ps).length).filter (hasB (lsOf ps) cur) := by rw [hF]; exact List.mem_cons_self
            obtain ⟨m1, m2⟩ := List.mem_filter.mp mF
            have lt0 : i0 < ps.length := by have := List.mem_range.mp m1; rw [List.length_map] at this; exact this
            have hq : ps[i0]? = some ps[i0] := List.getElem?_eq_getElem lt0
            generalize ps[i0] = q at hq
            have mq := List.mem_of_getElem? hq
            have hl := lsOf_at hq
            have cq : cur ∈ q.2.tail := by unfold hasB at m2; rw [hl] at m2; exact List.contains_iff_mem.mp m2
            obtain ⟨a, t, hqv⟩ : ∃ a t, q.2 = a :: t := by
              cases hh : q.2 with
              | nil => rw [hh] at cq; cases cq
              | cons a t => exact ⟨a, t, rfl⟩
            rw [hqv] at cq hl
            rw [hF] at hD3
            have hS := (s1.trans s2).seq (hL.2 q mq)
            rw [hqv] at hS
            have ref0 : (refsOf ps)[i0]? = some (V.ref q.1) := by rw [List.getElem?_map, hq]; rfl
            refine ⟨D2, _, 0, .int (i0 : Nat), rfl, rfl, SqL.of hD3, atI_nat (xs := (i0 :: F').map fun i => V.int (i : Nat)) (j := 0) rfl, ?_⟩
            refine ⟨_, rfl, _, rfl, R, _, (i0 : Nat), .ref q.1, rfl, rfl, (s1.trans s2).seq hL.1, atI_nat ref0, q.1, _, 0, .int a, rfl, rfl, hS, at0 _ _, ?_⟩
            have wy2 := s2 _ _ wy1
            refine ⟨_, rfl, .inl ⟨rfl, _, SqL.of wy2⟩, _, rfl, _, rfl, by show 2 ≤ sizeLine; decide, fun t' ht' => ?_⟩
            have W' : Wy ≠ t' := ne_of_none wy2 ht'
            refine ⟨Wy, _, _, rfl, rfl, by rw [upd_ne W']; exact wy2, small1000 (by rw [szU]; omega), ?_⟩
            have s4 : Same H (upd (upd G2 t' (.tup [.int a, .int (i0 : Nat)])) Wy (.lst (tupRefs us ++ [.ref t']))) := same_upd (same_upd (s1.trans s2) (none_of_same (s1.trans s2) ht')) nWy
            have pl4 : (upd (upd G2 t' (.tup [.int a, .int (i0 : Nat)])) Wy (.lst (tupRefs us ++ [.ref t']))) Pl = some (.dK kvs2) := by
              have pl2 := s2 _ _ pl1
              rw [upd_ne WP.symm, upd_ne (ne_of_none pl2 ht')]
              exact pl2
            have xs' : xsOf x0 (us ++ [(t', a, i0)]) = xsOf x0 us ++ [a] := by simp
            have lx : (xsOf x0 us).length = us.length + 1 := by simp
            have curAt : ∀ k y, k < us.length → (xsOf x0 us)[k]? = some y → y ≠ cur := fun k y hk hy e => by
              have q := I.keys k y hk hy
              rw [e, hv] at q
              cases q
            have aIn : a ∈ Mg.heads (lsOf ps) := Mg.mem_heads.mpr ⟨a :: t, List.mem_of_getElem? hl, rfl⟩
            refine ⟨⟨_, us ++ [(t', a, i0)], kvs2, a, rfl, ⟨s4, by unfold tupRefs; rw [upd_same, List.map_append]; rfl, fun u hu => ?_, pl4, by rw [len2, List.length_append]; rfl, ?_, ?_, fun k y hk hy => ?_, fun y hy => ?_, ?_, fun y hy => ?_, ?_⟩⟩, ?_⟩
            · rcases List.mem_append.mp hu with m | m
              · have t2 := s2 _ _ (tup1 u m)
                rw [upd_ne (ne_of t2 wy2 (by intro e; cases e)), upd_ne (ne_of_none t2 ht')]
                exact t2
              · rw [List.mem_singleton.mp m, upd_ne W'.symm]
                exact upd_same
            · rw [List.map_append]
              exact I.way.snoc (by rw [List.length_map]; exact I.cur) hl cq
            · rw [xs', List.length_append]
              rw [List.getElem?_append_right (by rw [lx]; simp)]
              simp
            · rw [List.length_append] at hk
              have hk : k < us.length + 1 := hk
              rw [xs', List.getElem?_append_left (by rw [lx]; exact hk)] at hy
              rw [hkv, valV_put]
              by_cases e : k < us.length
              · rw [if_neg (fun q => curAt k y e hy (Sum.inl.inj q))]
                exact I.keys k y e hy
              · have e2 : k = us.length := by omega
                subst e2
                rw [I.cur] at hy
                cases hy
                rw [if_pos rfl]
            · have ny : y ≠ cur := fun e => hy us.length (by rw [List.length_append]; simp) (by rw [xs', List.getElem?_append_left (by rw [lx]; omega), e]; exact I.cur)
              rw [hkv, valV_put, if_neg (fun q => ny (Sum.inl.inj q))]
              refine I.no y fun k hk e => hy k (by rw [List.length_append]; omega) ?_
              rw [xs', List.getElem?_append_left (by rw [lx]; omega)]
              exact e
            · have e : (xsOf x0 (us ++ [(t', a, i0)])).take (us ++ [(t', a, i0)]).length = (xsOf x0 us).take us.length ++ [cur] := by
                rw [xs', List.length_append]
                show ((xsOf x0 us) ++ [a]).take (us.length + 1) = _
                rw [List.take_append_of_le_length (by rw [lx]; exact Nat.le_refl _), take_snoc I.cur]
              rw [e]
              refine List.nodup_append.mpr ⟨I.nd, by simp, fun b hb c hc => ?_⟩
              rw [List.mem_singleton.mp hc]
              obtain ⟨n, hn⟩ := List.getElem?_of_mem hb
              have ln : n < us.length := by
                have := (List.getElem?_eq_some_iff.mp hn).1
                rw [List.length_take] at this
                omega
              rw [List.getElem?_take_of_lt ln] at hn
              exact curAt n b ln hn
            · rw [xs'] at hy
              rcases List.mem_append.mp hy with m | m
              · exact I.mem y m
              · rw [List.mem_singleton.mp m]
                exact aIn
            · have e : (us ++ [(t', a, i0)]).length = us.length + 1 := by rw [List.length_append]; rfl
              rw [e]
              show (us ++ [(t', a, i0)]).map (·.2) = Mg.wayOf (lsOf ps) x0 us.length ++ [_]
              rw [List.map_append, I.det]
              show _ ++ [(a, i0)] = _
              congr 2
              have ec : ((x0 :: (Mg.wayOf (lsOf ps) x0 us.length).map (·.1))[us.length]?).getD 0 = cur := by
                rw [← I.det]
                have c := I.cur
                unfold xsOf at c
                rw [c]
                rfl
              rw [ec]
              unfold Mg.nxt
              have ef : (List.range (lsOf ps).length).filter (Mg.hasIt (lsOf ps) cur) = i0 :: F' := by
                have z : (lsOf ps).length = (refsOf ps).length := by rw [List.length_map, List.length_map]
                rw [z]
                exact hF
              rw [ef]
              show (a, i0) = ((((lsOf ps)[i0]?).getD []).headD 0, i0)
              rw [hl]
              rfl
            · show (match (upd (upd G2 t' (.tup [.int a, .int (i0 : Nat)])) Wy (.lst (tupRefs us ++ [.ref t']))) Pl with | some (.dK kvs) => 31 - kvs.length | _ => 0) < (match G Pl with | some (.dK kvs) => 31 - kvs.length | _ => 0)
              rw [pl4, I.pl]
              show 31 - kvs2.length < 31 - kvs.length
              rw [len2, I.len]
              omega
      · rintro σ G Q1 Q2 imp ⟨x, hx, y, hy, a, o, h1, h2, c, h3, h4⟩
        exact ⟨x, hx, y, hy, a, o, h1, h2, c, h3, imp _ _ h4⟩
end
end Pr

set_option autoImplicit true
set_option Elab.async false
set_option linter.all false
set_option maxRecDepth 100000
set_option maxHeartbeats 4000000
namespace Pr
open PySem L2 Two
theorem while_m {c : TT} {tb : TS} {D : Ends} {σ : L2.St} {H : Hp} (W : Nat → L2.St → Hp → Prop) (h0 : ∃ m, W m σ H)
    (hs : ∀ m σ H, W m σ H → c σ H fun b H1 => if b = true then tb { D with nx := fun σ' H' => ∃ m', m' < m ∧ W m' σ' H', ct := fun σ' H' => ∃ m', m' < m ∧ W m' σ' H', bk := D.nx } σ H1 else D.nx σ H1)
    (mono : ∀ σ H Q Q', (∀ b H1, Q b H1 → Q' b H1) → c σ H Q → c σ H Q') : tWhile c tb D σ H := by
  refine ⟨W, h0, fun m σ H w => mono σ H _ _ (fun b H1 q => ?_) (hs m σ H w)⟩
  cases b with
  | true => exact ⟨_, fun σ' H' z => z, q⟩
  | false => exact q
def rListQ (K : PySem.W.Frag) : List V → Hp → VK → Prop := fun xs H Q => ∃ p ys, xs = [V.ref p] ∧ (SqL K H p ys ∨ SqT K H p ys) ∧ ∀ l, H l = none → Q (.ref l) (upd H l (.lst ys))
theorem call_listQ {X : Cx} : CallR X (.type "list") (rListQ X.K) := call_list_of
/-- lists of lists of ints as data -/
def intsD (l : List Int) : PyData := .list (l.map PyData.int)
def listsD (ls : List (List Int)) : PyData := .list (ls.map intsD)
theorem dp_ints {K : PySem.W.Frag} {H : Hp} : ∀ l : List Int, DpAll K H (l.map V.int) (l.map PyData.int)
  | [] => .nil
  | z :: l => .cons (.int z) (dp_ints l)
theorem dp_list {K : PySem.W.Frag} {H : Hp} {a : Addr} {l : List Int} (h : SqL K H a (l.map V.int)) : Dp K H (.ref a) (intsD l) := .lst h (dp_ints l)
theorem dp_lists {K : PySem.W.Frag} {H : Hp} {a : Addr} {ps : List (Addr × List Int)} (h : LofL K H a ps) : Dp K H (.ref a) (listsD (lsOf ps)) := by
  refine .lst h.1 ?_
  have q : ∀ qs : List (Addr × List Int), (∀ p ∈ qs, SqL K H p.1 (p.2.map V.int)) → DpAll K H (qs.map fun p => V.ref p.1) ((lsOf qs).map intsD) := by
    intro qs
    induction qs with
    | nil => intro _; exact .nil
    | cons p qs ih => intro hq; exact .cons (dp_list (hq p List.mem_cons_self)) (ih fun r hr => hq r (List.mem_cons_of_mem _ hr))
  exact q ps h.2
theorem plain_ints : ∀ l : List Int, PyData.plainAll (l.map PyData.int) = true
  | [] => rfl
  | _ :: l => by
    show (PyData.plain (.int _) && PyData.plainAll (l.map PyData.int)) = true
    rw [plain_ints l]
    rfl
theorem plain_lists : ∀ ls : List (List Int), PyData.plainAll (ls.map intsD) = true
  | [] => rfl
  | l :: ls => by
    show (PyData.plainAll (l.map PyData.int) && PyData.plainAll (ls.map intsD)) = true
    rw [plain_ints, plain_lists ls]
    rfl
theorem truthy_lists : ∀ ls : List (List Int), (ls.map intsD).any PyData.truthy = ls.any fun l => !l.isEmpty
  | [] => rfl
  | l :: ls => by
    rw [List.map_cons, List.any_cons, List.any_cons, truthy_lists ls]
    congr 1
    cases l <;> rfl

/-- what merge hands back -/
def MergeOut (H H' : Hp) (ls : List (List Int)) (v : V) : Prop := ∃ t q : Addr, v = .ref t ∧ H t = none ∧ H q = none ∧
  ((∃ n, (∀ r ∈ (Mg.st ls n).2, r = []) ∧ H' t = some (.tup [.str "order", .ref q]) ∧ H' q = some (.lst ((Mg.st ls n).1.map V.int))) ∨
   (∃ (n : Nat) (us : List (Addr × Int × Nat)), Mg.firstFree (Mg.st ls n).2 = none ∧ (∃ r ∈ (Mg.st ls n).2, r ≠ []) ∧ H' t = some (.tup [.str "ring", .ref q]) ∧ H' q = some (.lst (tupRefs us)) ∧ TupsAt H' us ∧ Mg.IsRing ls (us.map (·.2)) ∧ us.length ≤ 30 ∧ Mg.RingDet (Mg.st ls n).2 (us.map (·.2))))
def spMerge (K : PySem.W.Frag) : Sp := fun vs H Q _ => ∃ (a : Addr) (ps : List (Addr × List Int)), vs = [.ref a] ∧ LofL K H a ps ∧ Fit ps ∧ ∀ v H', Same H H' → MergeOut H H' (lsOf ps) v → Q v H'
theorem scMerge : FnScope ["lists", "rests", "behind", "order", "item", "items"] ["lists"] (defScope sMerge) := ⟨rfl, rfl, rfl, by decide +kernel, rfl, by decide +kernel, by decide +kernel⟩
/-- what holds between two turns of merge -/
structure MrgI (H G : Hp) (R B O : Addr) (ls : List (List Int)) (as : List Addr) (n : Nat) (qs : List (Addr × List Int)) (kvs : List (Key × V)) : Prop where
  same : Same H G
  own : Own G R qs
  fst : qs.map (·.1) = as
  snd : lsOf qs = (Mg.st ls n).2
  dic : G B = some (.dK kvs)
  len : kvs.length ≤ 900
  cts : Cts kvs (inL (lsOf qs)) (fun y => Mg.cnt (lsOf qs) y)
  ord : G O = some (.lst ((Mg.st ls n).1.map V.int))
theorem st_len_le (ls : List (List Int)) : ∀ n, ∀ (i : Nat) (r : List Int), (Mg.st ls n).2[i]? = some r → ∃ l ∈ ls, r.length ≤ l.length
  | 0, i, r, h => ⟨r, List.mem_of_getElem? h, Nat.le_refl _⟩
  | n + 1, i, r, h => by
    cases hf : Mg.firstFree (Mg.st ls n).2 with
    | none => rw [Mg.st_none hf] at h; exact st_len_le ls n i r h
    | some x =>
      rw [Mg.st_some hf] at h
      obtain ⟨r0, h0, rfl⟩ := get_map (f := Mg.pull1 x) h
      obtain ⟨l, hl, e⟩ := st_len_le ls n i r0 h0
      exact ⟨l, hl, Nat.le_trans (Mg.pull1_le x r0) e⟩
theorem st_short {ls : List (List Int)} (h : ∀ l ∈ ls, l.length ≤ 30) (n : Nat) : ∀ r ∈ (Mg.st ls n).2, r.length ≤ 30 := fun r hr => by
  obtain ⟨i, hi⟩ := List.getElem?_of_mem hr
  obtain ⟨l, hl, e⟩ := st_len_le ls n i r hi
  exact Nat.le_trans e (h l hl)
theorem sum_le (ls : List (List Int)) (h : ∀ l ∈ ls, l.length ≤ 30) : Mg.size ls ≤ 30 * ls.length := by
  induction ls with
  | nil => exact Nat.le_refl _
  | cons l ls ih =>
    have a := h l List.mem_cons_self
    have b := ih fun x hx => h x (List.mem_cons_of_mem _ hx)
    show l.length + Mg.size ls ≤ _
    rw [List.length_cons]
    omega
theorem st_ord_len (ls : List (List Int)) : ∀ n, (Mg.st ls n).1.length + Mg.size (Mg.st ls n).2 ≤ Mg.size ls
  | 0 => by show 0 + Mg.size ls ≤ _; omega
  | n + 1 => by
    have ih := st_ord_len ls n
    cases hf : Mg.firstFree (Mg.st ls n).2 with
    | none => rw [Mg.st_none hf]; exact ih
    | some x =>
      have q := Mg.size_step hf
      rw [Mg.st_some hf]
      simp only [List.length_append, List.length_singleton]
      omega
section
variable {P : Program} {w : World} {K : PySem.W.Frag} {mg : Str → Option Value} {base : Heap}
theorem ok_merge {f fC fT fF fK fR : Addr} {fd fdC fdT fdF fdK fdR : FuncData} (F : Fun K "merge" "merge" sMerge f fd) (T : Txt mg)
    (gC : mg "_check_lists" = some (.ref fC)) (kC : PySem.W.keepIn K (.ref fC) = true) (bC : Binds K fdC ["lists"] []) (GC : FnOk P w K mg base CX0 3 fC fdC ["lists"] (spCheck K))
    (gT : mg "_times_behind" = some (.ref fT)) (kT : PySem.W.keepIn K (.ref fT) = true) (bT : Binds K fdT ["lists"] []) (GT : FnOk P w K mg base CX0 1 fT fdT ["lists"] (spTimes K))
    (gF : mg "_first_free" = some (.ref fF)) (kF : PySem.W.keepIn K (.ref fF) = true) (bF : Binds K fdF ["rests", "behind"] []) (GF : FnOk P w K mg base CX0 1 fF fdF ["rests", "behind"] (spFree K))
    (gK : mg "_take" = some (.ref fK)) (kK : PySem.W.keepIn K (.ref fK) = true) (bK : Binds K fdK ["item", "rests", "behind"] []) (GK : FnOk P w K mg base CX0 1 fK fdK ["item", "rests", "behind"] spTake)
    (gR : mg "_ring_of" = some (.ref fR)) (kR : PySem.W.keepIn K (.ref fR) = true) (bR : Binds K fdR ["rests"] []) (GR : FnOk P w K mg base CX0 1 fR fdR ["rests"] (spRingOf K)) :
    FnOk P w K mg base CX0 4 f fd ["lists"] (spMerge K) := by
  refine F.ok scMerge (fun vs H Q E h => ?_) (fun cdv A outer s H vs Q E hr h => ?_)
  · obtain ⟨a, ps, rfl, _⟩ := h
    rfl
  · obtain ⟨a, ps, rfl, hL, fit, k⟩ := h
    have hu := hu_of hr
    have hr1 : Room 1 _ := hr.mono (by decide)
    refine ⟨_, pss_cons (ps_expr (pe_call GC hr rfl gC kC bC .nil pass0 (pa_cons (pv 0) pa_nil)))
      (pss_cons (ps_setLc (i := 1) (own := [("items", 5)]) (g := gName 5) (tt := tYes) (te := tCB (rListQ K) (tCons (tVar 5) tNil)) rfl scMerge.nd rfl rfl (sw_true rfl rfl rfl (by decide +kernel)) (pi_list (pv 0)) (blkOk_by (N := ["lists", "rests", "behind", "order", "item", "items"]) (sc := defScope sMerge) (by decide +kernel))
          (fun _ _ _ _ _ => pg_name (i := 5) scMerge.nd rfl (Or.inl rfl)) (fun _ _ _ _ _ => pts_nil) (fun _ _ _ _ _ => pe_callTy call_listQ (by rfl) T.list (by decide +kernel) (pa_cons (pv 5) pa_nil)))
      (pss_cons (ps_set (i := 2) scMerge.nd rfl (Or.inl rfl) (pe_call GT hr1 rfl gT kT bT .nil pass0 (pa_cons (pv 0) pa_nil)))
      (pss_cons (ps_set (i := 3) scMerge.nd rfl (Or.inl rfl) (pe_lst pa_nil))
      (pss_cons (ps_while PassesOwn.never (pt_val (pe_callB (cr_anyD rfl) (by rfl) T.any (by decide +kernel) (pa_cons (pv 1) pa_nil)))
        (pss_cons (ps_set (i := 4) scMerge.nd rfl (Or.inl rfl) (pe_call GF hr1 rfl gF kF bF .nil pass0 (pa_cons (pv 1) (pa_cons (pv 2) pa_nil))))
        (pss_cons (ps_if (pt_cmpR op_isN (pv 4) pe_non (nomark _)) (pss_one (ps_ret (pe_tup (pa_cons pe_str (pa_cons (pe_call GR hr1 rfl gR kR bR .nil pass0 (pa_cons (pv 1) pa_nil)) pa_nil))))) pss_nil)
        (pss_cons (ps_expr (pe_bm PySem.F.plainAttrs_list PySem.F.slot_list_append PySem.F.type_list_append mt_append (pv 3) (pa_cons (pv 4) pa_nil)))
        (pss_one (ps_expr (pe_call GK hr1 rfl gK kK bK .nil pass0 (pa_cons (pv 4) (pa_cons (pv 1) (pa_cons (pv 2) pa_nil))))))))))
      (pss_one (ps_ret (pe_tup (pa_cons pe_str (pa_cons (pv 3) pa_nil))))))))), ?_⟩
    have fewL : (lsOf ps).length ≤ 30 := by rw [List.length_map]; exact fit.few
    have shortL : ∀ l ∈ lsOf ps, l.length ≤ 30 := fun l hl => by obtain ⟨p, hp, rfl⟩ := List.mem_map.mp hl; exact fit.short p hp
    have ndL : ∀ l ∈ lsOf ps, l.Nodup := fun l hl => by obtain ⟨p, hp, rfl⟩ := List.mem_map.mp hl; exact fit.nd p hp
    have sumL := sum_le (lsOf ps) shortL
    refine ⟨_, rfl, a, ps, rfl, hL, fit, fun H1 s1 => ?_⟩
    refine ⟨_, rfl, a, rfl, ⟨_, s1.seq hL.1⟩, fun R hR => lc_list (K := K) (a := a) (xs := refsOf ps) (fun j G => ∃ qs : List (Addr × List Int), Same H1 G ∧ G R = some (.lst (refsOf qs)) ∧ (∀ q ∈ qs, G q.1 = some (.lst (q.2.map V.int)) ∧ H1 q.1 = none ∧ q.1 ≠ R) ∧ (qs.map (·.1)).Nodup ∧ lsOf qs = (lsOf ps).take j)
      ⟨[], same_new hR, upd_same, (fun q hq => nomatch hq), List.nodup_nil, rfl⟩ (fun j G _ ⟨_, p, _⟩ => (s1.trans p).seq hL.1) (fun j x G hx p => ?_) (fun G p => ?_)⟩
    · obtain ⟨p0, hp0, rfl⟩ := get_map hx
      have mp := List.mem_of_getElem? hp0
      obtain ⟨qs, s2, hGR, each, nd, lq⟩ := p
      have hS := (s1.trans s2).seq (hL.2 p0 mp)
      refine ⟨rfl, ?_⟩
      unfold tYes
      simp only [if_true]
      refine ⟨_, rfl, p0.1, _, rfl, .inl hS, fun l hl => ⟨_, by rw [upd_ne (ne_of_none hGR hl)]; exact hGR, ?_, qs ++ [(l, p0.2)], same_upd (same_upd s2 (none_of_same s2 hl)) hR, ?_, fun q hq => ?_, ?_, ?_⟩⟩
      · refine small1000 ?_
        have e := congrArg List.length lq
        rw [List.length_map, List.length_take, List.length_map] at e
        have := fit.few
        rw [List.length_map]
        omega
      · unfold refsOf
        rw [upd_same, List.map_append]
        rfl
      · rcases List.mem_append.mp hq with m | m
        · obtain ⟨e1, e2, e3⟩ := each q m
          exact ⟨by rw [upd_ne e3, upd_ne (ne_of_none e1 hl)]; exact e1, e2, e3⟩
        · rw [List.mem_singleton.mp m]
          exact ⟨by rw [upd_ne (ne_of_none hGR hl).symm]; exact upd_same, none_of_same s2 hl, (ne_of_none hGR hl).symm⟩
      · rw [List.map_append]
        refine List.nodup_append.mpr ⟨nd, by simp, fun b hb c hc => ?_⟩
        obtain ⟨q, hq, rfl⟩ := List.mem_map.mp hb
        rw [List.mem_singleton.mp hc]
        exact ne_of_none (each q hq).1 hl
      · unfold lsOf
        rw [List.map_append]
        show lsOf qs ++ [p0.2] = _
        rw [lq, take_snoc (lsOf_at hp0)]
    · obtain ⟨qs0, s2, hGR, each, nd, lq⟩ := p
      have e0 : (lsOf ps).take (refsOf ps).length = lsOf ps := List.take_of_length_le (by rw [List.length_map, List.length_map]; exact Nat.le_refl _)
      rw [e0] at lq
      have own0 : Own G R qs0 := ⟨hGR, fun q hq => (each q hq).1, nd⟩
      show tSeq _ _ _ ([some (.ref a), none, none, none, none, none].set 1 (some (.ref R))) G
      refine ⟨_, rfl, a, ps, rfl, hL.keep (s1.trans s2), fit, fun H3 B kvs s3 nB hB hlen hc => ?_⟩
      refine ⟨Nat.zero_le _, fun O hO => ?_⟩
      have s03 : Same H H3 := (s1.trans s2).trans s3
      have nBH : H B = none := none_of_same (s1.trans s2) nB
      have nOH : H O = none := none_of_same s03 hO
      have nR : H R = none := none_of_same s1 hR
      have nq : ∀ b ∈ qs0.map (·.1), H b = none := fun b hb => by
        obtain ⟨q, hq, rfl⟩ := List.mem_map.mp hb
        exact none_of_same s1 (each q hq).2.1
      have O3 : ∀ {b : Addr} {o : HO}, H3 b = some o → (upd H3 O (.lst [])) b = some o := fun {b o} e => by rw [upd_ne (ne_of_none e hO)]; exact e
      have start : MrgI H (upd H3 O (.lst [])) R B O (lsOf ps) (qs0.map (·.1)) 0 qs0 kvs :=
        ⟨same_upd s03 nOH, ⟨O3 (s3 _ _ own0.at_), fun q hq => O3 (s3 _ _ (own0.each q hq)), nd⟩, rfl, lq, O3 hB, hlen, by rw [lq]; exact hc, upd_same⟩
      have OR : O ≠ R := (ne_of_none (s3 _ _ hGR) hO).symm
      have OB : O ≠ B := (ne_of_none hB hO).symm
      have Oq : O ∉ qs0.map (·.1) := fun m => by
        obtain ⟨q, hq, e⟩ := List.mem_map.mp m
        exact ne_of_none (s3 _ _ (own0.each q hq)) hO e
      refine while_m (fun m σ G => ∃ (v4 : Option V) (n : Nat) (qs : List (Addr × List Int)) (kvs : List (Key × V)), m = Mg.size (lsOf qs) ∧ σ = [some (.ref a), some (.ref R), some (.ref B), some (.ref O), v4, none] ∧ MrgI H G R B O (lsOf ps) (qs0.map (·.1)) n qs kvs)
        ⟨_, none, 0, qs0, kvs, rfl, rfl, start⟩ ?_ ?_
      · rintro m σ G ⟨v4, n, qs, kvs, rfl, rfl, I⟩
        have ok := Mg.ok_st ndL n
        have okl : (lsOf qs).length = (lsOf ps).length := by rw [I.snd]; exact ok.len
        have shortQ : ∀ r ∈ lsOf qs, r.length ≤ 30 := by rw [I.snd]; exact st_short shortL n
        have ndQ : ∀ r ∈ lsOf qs, r.Nodup := by rw [I.snd]; exact ok.nodups ndL
        have lofl := I.own.lofl (K := K)
        refine ⟨_, rfl, R, _, rfl, dp_lists lofl, plain_lists _, fun d hd => ?_, _, rfl, ?_⟩
        · obtain ⟨r, hr', rfl⟩ := List.mem_map.mp hd
          show ((r.map PyData.int).length : Int) < 2 ^ 63
          have := shortQ r hr'
          rw [List.length_map]
          omega
        rw [truthy_lists]
        cases hany : (lsOf qs).any fun l => !l.isEmpty with
        | false =>
          refine iteF ?_
          have empty : ∀ r ∈ (Mg.st (lsOf ps) n).2, r = [] := fun r hr' => by
            rw [← I.snd] at hr'
            have q := List.any_eq_false.mp hany r hr'
            cases r with
            | nil => rfl
            | cons z t => exact absurd rfl q
          refine ⟨_, rfl, by show 2 ≤ sizeLine; decide, fun t ht => ?_⟩
          refine k _ _ (same_upd I.same (none_of_same I.same ht)) ⟨t, O, rfl, none_of_same I.same ht, nOH, .inl ⟨n, empty, upd_same, ?_⟩⟩
          rw [upd_ne (ne_of_none I.ord ht)]
          exact I.ord
        | true =>
          refine iteT ?_
          obtain ⟨r1, hr1', hne⟩ := List.any_eq_true.mp hany
          have ne1 : r1 ≠ [] := fun e => by rw [e] at hne; cases hne
          refine ⟨_, rfl, _, rfl, R, B, qs, kvs, rfl, lofl, I.dic, I.cts, ?_⟩
          cases hf : Mg.firstFree (lsOf qs) with
          | none =>
            refine ⟨_, rfl, rfl, _, rfl, ?_⟩
            refine iteT ?_
            have hf' := hf
            rw [I.snd] at hf'
            refine ⟨_, rfl, R, qs, rfl, lofl, by rw [List.length_map, List.length_map] at okl; rw [okl]; exact fit.few, fun p hp => ndQ _ (List.mem_map.mpr ⟨p, hp, rfl⟩), hf, ⟨r1, hr1', ne1⟩, fun H4 q us x0 way pp s4 nq4 hq4 tp hw hnd hp1 hp2 hus hsz det => ?_⟩
            refine ⟨by show 2 ≤ sizeLine; decide, fun t ht => ?_⟩
            have s5 : Same H H4 := I.same.trans s4
            refine k _ _ (same_upd s5 (none_of_same s5 ht)) ⟨t, q, rfl, none_of_same s5 ht, none_of_same I.same nq4, .inr ⟨n, us, hf', ⟨r1, by rw [← I.snd]; exact hr1', ne1⟩, upd_same, by rw [upd_ne (ne_of_none hq4 ht)]; exact hq4, fun u hu => by rw [upd_ne (ne_of_none (tp u hu) ht)]; exact tp u hu, ?_, hsz, by rw [← I.snd]; exact det⟩⟩
            rw [hus]
            refine Mg.ring_of_way (rs := lsOf qs) hw ?_ ndQ hnd hp1 hp2
            rw [I.snd]
            exact ok.suf
          | some x =>
            refine ⟨_, rfl, rfl, _, rfl, ?_⟩
            refine iteF ?_
            have hf' := hf
            rw [I.snd] at hf'
            have ordLen := st_ord_len (lsOf ps) n
            refine ⟨_, rfl, .inl ⟨rfl, _, SqL.of I.ord⟩, _, rfl, O, _, _, rfl, rfl, I.ord, small1000 (by rw [List.length_map]; omega), ?_⟩
            have OR2 : ∀ {b : Addr} {o : HO}, b ≠ O → G b = some o → (upd G O (.lst ((Mg.st (lsOf ps) n).1.map V.int ++ [.int x]))) b = some o := fun {b o} ne e => by rw [upd_ne ne]; exact e
            have qO : ∀ q ∈ qs, q.1 ≠ O := fun q hq e => Oq (by rw [← I.fst]; exact List.mem_map.mpr ⟨q, hq, e⟩)
            refine ⟨_, rfl, _, rfl, _, rfl, x, R, B, qs, kvs, rfl, ⟨OR2 OR.symm I.own.at_, fun q hq => OR2 (qO q hq) (I.own.each q hq), I.own.nd⟩, OR2 OB.symm I.dic, I.len, I.cts, fun p hp => ⟨ndQ _ (List.mem_map.mpr ⟨p, hp, rfl⟩), shortQ _ (List.mem_map.mpr ⟨p, hp, rfl⟩)⟩, fun H4 kvs4 but own4 hB4 hl4 hc4 => ?_⟩
            refine ⟨Mg.size (lsOf (taken x qs)), by rw [taken_ls]; exact Mg.size_step hf, _, n + 1, taken x qs, kvs4, rfl, rfl, fun b o e => ?_, own4, by rw [taken_fst]; exact I.fst, by rw [taken_ls, I.snd, Mg.st_some hf'], hB4, hl4, by rw [taken_ls]; exact hc4, ?_⟩
            · have bO : b ≠ O := ne_of_none e nOH
              refine but b o (fun z => z.elim (ne_of_none e nBH) fun m => ?_) (OR2 bO (I.same b o e))
              rw [I.fst] at m
              exact absurd (nq b m) (by rw [e]; exact fun z => nomatch z)
            · have hO4 := but O _ (fun z => z.elim OB fun m => Oq (by rw [← I.fst]; exact m)) (upd_same (H := G) (a := O) (o := .lst ((Mg.st (lsOf ps) n).1.map V.int ++ [.int x])))
              rw [hO4, Mg.st_some hf', List.map_append]
              rfl
      · rintro σ G Q1 Q2 imp ⟨x, hx, a1, ds, h1, h2, h3, h4, c, h5, h6⟩
        exact ⟨x, hx, a1, ds, h1, h2, h3, h4, c, h5, imp _ _ h6⟩
end
end Pr

set_option autoImplicit true
set_option Elab.async false
set_option linter.all false
set_option maxRecDepth 100000
set_option maxHeartbeats 1000000
/-! merge, raising too. -/
namespace Pr
open PySem L2 Two ClX
section
variable {P : Program} {w : World} {K : PySem.W.Frag} {mg : Str → Option Value} {base : Heap}
theorem check_mono {CB CT CD : Addr} {vs : List V} {H : Hp} {Q Q' : VK} {E : XK} (imp : ∀ v H', Q v H' → Q' v H') (h : spCheckX K CB CT CD vs H Q E) : spCheckX K CB CT CD vs H Q' E := by
  obtain ⟨x, e, h⟩ := h
  refine ⟨x, e, ?_⟩
  rcases h with h | h | ⟨a, ps, e2, hL, few, short, CE⟩
  · exact .inl h
  · exact .inr (.inl h)
  · exact .inr (.inr ⟨a, ps, e2, hL, few, short, ⟨fun f H' s => imp _ _ (CE.fit f H' s), CE.many, CE.twice⟩⟩)
/-- the check, then the merge -/
def spMergeX (K : PySem.W.Frag) (CB CT CD : Addr) : Sp := fun vs H Q E => spCheckX K CB CT CD vs H (fun _ H1 => ∃ (a : Addr) (ps : List (Addr × List Int)), vs = [.ref a] ∧ LofL K H1 a ps ∧ Fit ps ∧ ∀ v H', Same H1 H' → MergeOut H1 H' (lsOf ps) v → Q v H') E
theorem ok_mergeX {f fC fT fF fK fR CB CT CD : Addr} {fd fdC fdT fdF fdK fdR : FuncData} (F : Fun K "merge" "merge" sMerge f fd) (T : Txt mg)
    (gC : mg "_check_lists" = some (.ref fC)) (kC : PySem.W.keepIn K (.ref fC) = true) (bC : Binds K fdC ["lists"] []) (GC : FnOk P w K mg base (L2.CX P w) 5 fC fdC ["lists"] (spCheckX K CB CT CD))
    (gT : mg "_times_behind" = some (.ref fT)) (kT : PySem.W.keepIn K (.ref fT) = true) (bT : Binds K fdT ["lists"] []) (GT : FnOk P w K mg base CX0 1 fT fdT ["lists"] (spTimes K))
    (gF : mg "_first_free" = some (.ref fF)) (kF : PySem.W.keepIn K (.ref fF) = true) (bF : Binds K fdF ["rests", "behind"] []) (GF : FnOk P w K mg base CX0 1 fF fdF ["rests", "behind"] (spFree K))
    (gK : mg "_take" = some (.ref fK)) (kK : PySem.W.keepIn K (.ref fK) = true) (bK : Binds K fdK ["item", "rests", "behind"] []) (GK : FnOk P w K mg base CX0 1 fK fdK ["item", "rests", "behind"] spTake)
    (gR : mg "_ring_of" = some (.ref fR)) (kR : PySem.W.keepIn K (.ref fR) = true) (bR : Binds K fdR ["rests"] []) (GR : FnOk P w K mg base CX0 1 fR fdR ["rests"] (spRingOf K)) :
    FnOk P w K mg base (L2.CX P w) 6 f fd ["lists"] (spMergeX K CB CT CD) := by
  refine F.okX scMerge (fun vs H Q E h => ?_) (fun cdv A outer s Hs vs Q E hr h => ?_)
  · obtain ⟨x, rfl, _⟩ := h
    rfl
  · obtain ⟨x, rfl⟩ : ∃ x, vs = [x] := ⟨h.choose, h.choose_spec.1⟩
    have hu := hu_of hr
    have hr1 : Room 1 _ := hr.mono (by decide)
    refine ⟨_, pss_cons (ps_expr (pe_callS GC hr rfl gC kC bC (fun σ => passAt (takes_of rfl rfl rfl rfl) σ) (pa_cons (pv 0) pa_nil)))
      (pss_cons (ps_setLc (i := 1) (own := [("items", 5)]) (g := gName 5) (tt := tYes) (te := tCB (rListQ K) (tCons (tVar 5) tNil)) rfl scMerge.nd rfl rfl (sw_true rfl rfl rfl (by decide +kernel)) (pi_list (pv 0)) (blkOk_by (N := ["lists", "rests", "behind", "order", "item", "items"]) (sc := defScope sMerge) (by decide +kernel))
          (fun _ _ _ _ _ => pg_name (i := 5) scMerge.nd rfl (Or.inl rfl)) (fun _ _ _ _ _ => pts_nil) (fun _ _ _ _ _ => pe_callTy call_listQ (by rfl) T.list (by decide +kernel) (pa_cons (pv 5) pa_nil)))
      (pss_cons (ps_set (i := 2) scMerge.nd rfl (Or.inl rfl) (pe_call GT hr1 rfl gT kT bT .nil pass0 (pa_cons (pv 0) pa_nil)))
      (pss_cons (ps_set (i := 3) scMerge.nd rfl (Or.inl rfl) (pe_lst pa_nil))
      (pss_cons (ps_while (passes_of rfl) (pt_val (pe_callB (cr_anyD rfl) (by rfl) T.any (by decide +kernel) (pa_cons (pv 1) pa_nil)))
        (pss_cons (ps_set (i := 4) scMerge.nd rfl (Or.inl rfl) (pe_call GF hr1 rfl gF kF bF .nil pass0 (pa_cons (pv 1) (pa_cons (pv 2) pa_nil))))
        (pss_cons (ps_if (pt_cmpR op_isN (pv 4) pe_non (nomark _)) (pss_one (ps_ret (pe_tup (pa_cons pe_str (pa_cons (pe_call GR hr1 rfl gR kR bR .nil pass0 (pa_cons (pv 1) pa_nil)) pa_nil))))) pss_nil)
        (pss_cons (ps_expr (pe_bm PySem.F.plainAttrs_list PySem.F.slot_list_append PySem.F.type_list_append mt_append (pv 3) (pa_cons (pv 4) pa_nil)))
        (pss_one (ps_expr (pe_call GK hr1 rfl gK kK bK .nil pass0 (pa_cons (pv 4) (pa_cons (pv 1) (pa_cons (pv 2) pa_nil))))))))))
      (pss_one (ps_ret (pe_tup (pa_cons pe_str (pa_cons (pv 3) pa_nil))))))))), ?_⟩
    refine ⟨_, rfl, check_mono (fun v H q => ?_) h⟩
    obtain ⟨a, ps, ev, hL, fit, k⟩ := q
    obtain rfl : x = .ref a := (List.cons.inj ev).1
    have s1 : Same H H := Same.refl H
    have fewL : (lsOf ps).length ≤ 30 := by rw [List.length_map]; exact fit.few
    have shortL : ∀ l ∈ lsOf ps, l.length ≤ 30 := fun l hl => by obtain ⟨p, hp, rfl⟩ := List.mem_map.mp hl; exact fit.short p hp
    have ndL : ∀ l ∈ lsOf ps, l.Nodup := fun l hl => by obtain ⟨p, hp, rfl⟩ := List.mem_map.mp hl; exact fit.nd p hp
    have sumL := sum_le (lsOf ps) shortL
    refine ⟨_, rfl, a, rfl, ⟨_, s1.seq hL.1⟩, fun R hR => lc_list (K := K) (a := a) (xs := refsOf ps) (fun j G => ∃ qs : List (Addr × List Int), Same H G ∧ G R = some (.lst (refsOf qs)) ∧ (∀ q ∈ qs, G q.1 = some (.lst (q.2.map V.int)) ∧ H q.1 = none ∧ q.1 ≠ R) ∧ (qs.map (·.1)).Nodup ∧ lsOf qs = (lsOf ps).take j)
      ⟨[], same_new hR, upd_same, (fun q hq => nomatch hq), List.nodup_nil, rfl⟩ (fun j G _ ⟨_, p, _⟩ => (s1.trans p).seq hL.1) (fun j x G hx p => ?_) (fun G p => ?_)⟩
    · obtain ⟨p0, hp0, rfl⟩ := get_map hx
      have mp := List.mem_of_getElem? hp0
      obtain ⟨qs, s2, hGR, each, nd, lq⟩ := p
      have hS := (s1.trans s2).seq (hL.2 p0 mp)
      refine ⟨rfl, ?_⟩
      unfold tYes
      simp only [if_true]
      refine ⟨_, rfl, p0.1, _, rfl, .inl hS, fun l hl => ⟨_, by rw [upd_ne (ne_of_none hGR hl)]; exact hGR, ?_, qs ++ [(l, p0.2)], same_upd (same_upd s2 (none_of_same s2 hl)) hR, ?_, fun q hq => ?_, ?_, ?_⟩⟩
      · refine small1000 ?_
        have e := congrArg List.length lq
        rw [List.length_map, List.length_take, List.length_map] at e
        have := fit.few
        rw [List.length_map]
        omega
      · unfold refsOf
        rw [upd_same, List.map_append]
        rfl
      · rcases List.mem_append.mp hq with m | m
        · obtain ⟨e1, e2, e3⟩ := each q m
          exact ⟨by rw [upd_ne e3, upd_ne (ne_of_none e1 hl)]; exact e1, e2, e3⟩
        · rw [List.mem_singleton.mp m]
          exact ⟨by rw [upd_ne (ne_of_none hGR hl).symm]; exact upd_same, none_of_same s2 hl, (ne_of_none hGR hl).symm⟩
      · rw [List.map_append]
        refine List.nodup_append.mpr ⟨nd, by simp, fun b hb c hc => ?_⟩
        obtain ⟨q, hq, rfl⟩ := List.mem_map.mp hb
        rw [List.mem_singleton.mp hc]
        exact ne_of_none (each q hq).1 hl
      · unfold lsOf
        rw [List.map_append]
        show lsOf qs ++ [p0.2] = _
        rw [lq, take_snoc (lsOf_at hp0)]
    · obtain ⟨qs0, s2, hGR, each, nd, lq⟩ := p
      have e0 : (lsOf ps).take (refsOf ps).length = lsOf ps := List.take_of_length_le (by rw [List.length_map, List.length_map]; exact Nat.le_refl _)
      rw [e0] at lq
      have own0 : Own G R qs0 := ⟨hGR, fun q hq => (each q hq).1, nd⟩
      show tSeq _ _ _ ([some (.ref a), none, none, none, none, none].set 1 (some (.ref R))) G
      refine ⟨_, rfl, a, ps, rfl, hL.keep (s1.trans s2), fit, fun H3 B kvs s3 nB hB hlen hc => ?_⟩
      refine ⟨Nat.zero_le _, fun O hO => ?_⟩
      have s03 : Same H H3 := (s1.trans s2).trans s3
      have nBH : H B = none := none_of_same (s1.trans s2) nB
      have nOH : H O = none := none_of_same s03 hO
      have nR : H R = none := none_of_same s1 hR
      have nq : ∀ b ∈ qs0.map (·.1), H b = none := fun b hb => by
        obtain ⟨q, hq, rfl⟩ := List.mem_map.mp hb
        exact none_of_same s1 (each q hq).2.1
      have O3 : ∀ {b : Addr} {o : HO}, H3 b = some o → (upd H3 O (.lst [])) b = some o := fun {b o} e => by rw [upd_ne (ne_of_none e hO)]; exact e
      have start : MrgI H (upd H3 O (.lst [])) R B O (lsOf ps) (qs0.map (·.1)) 0 qs0 kvs :=
        ⟨same_upd s03 nOH, ⟨O3 (s3 _ _ own0.at_), fun q hq => O3 (s3 _ _ (own0.each q hq)), nd⟩, rfl, lq, O3 hB, hlen, by rw [lq]; exact hc, upd_same⟩
      have OR : O ≠ R := (ne_of_none (s3 _ _ hGR) hO).symm
      have OB : O ≠ B := (ne_of_none hB hO).symm
      have Oq : O ∉ qs0.map (·.1) := fun m => by
        obtain ⟨q, hq, e⟩ := List.mem_map.mp m
        exact ne_of_none (s3 _ _ (own0.each q hq)) hO e
      refine while_m (fun m σ G => ∃ (v4 : Option V) (n : Nat) (qs : List (Addr × List Int)) (kvs : List (Key × V)), m = Mg.size (lsOf qs) ∧ σ = [some (.ref a), some (.ref R), some (.ref B), some (.ref O), v4, none] ∧ MrgI H G R B O (lsOf ps) (qs0.map (·.1)) n qs kvs)
        ⟨_, none, 0, qs0, kvs, rfl, rfl, start⟩ ?_ ?_
      · rintro m σ G ⟨v4, n, qs, kvs, rfl, rfl, I⟩
        have ok := Mg.ok_st ndL n
        have okl : (lsOf qs).length = (lsOf ps).length := by rw [I.snd]; exact ok.len
        have shortQ : ∀ r ∈ lsOf qs, r.length ≤ 30 := by rw [I.snd]; exact st_short shortL n
        have ndQ : ∀ r ∈ lsOf qs, r.Nodup := by rw [I.snd]; exact ok.nodups ndL
        have lofl := I.own.lofl (K := K)
        refine ⟨_, rfl, R, _, rfl, dp_lists lofl, plain_lists _, fun d hd => ?_, _, rfl, ?_⟩
        · obtain ⟨r, hr', rfl⟩ := List.mem_map.mp hd
          show ((r.map PyData.int).length : Int) < 2 ^ 63
          have := shortQ r hr'
          rw [List.length_map]
          omega
        rw [truthy_lists]
        cases hany : (lsOf qs).any fun l => !l.isEmpty with
        | false =>
          refine iteF ?_
          have empty : ∀ r ∈ (Mg.st (lsOf ps) n).2, r = [] := fun r hr' => by
            rw [← I.snd] at hr'
            have q := List.any_eq_false.mp hany r hr'
            cases r with
            | nil => rfl
            | cons z t => exact absurd rfl q
          refine ⟨_, rfl, by show 2 ≤ sizeLine; decide, fun t ht => ?_⟩
          refine k _ _ (same_upd I.same (none_of_same I.same ht)) ⟨t, O, rfl, none_of_same I.same ht, nOH, .inl ⟨n, empty, upd_same, ?_⟩⟩
          rw [upd_ne (ne_of_none I.ord ht)]
          exact I.ord
        | true =>
          refine iteT ?_
          obtain ⟨r1, hr1', hne⟩ := List.any_eq_true.mp hany
          have ne1 : r1 ≠ [] := fun e => by rw [e] at hne; cases hne
          refine ⟨_, rfl, _, rfl, R, B, qs, kvs, rfl, lofl, I.dic, I.cts, ?_⟩
          cases hf : Mg.firstFree (lsOf qs) with
          | none =>
            refine ⟨_, rfl, rfl, _, rfl, ?_⟩
            refine iteT ?_
            have hf' := hf
            rw [I.snd] at hf'
            refine ⟨_, rfl, R, qs, rfl, lofl, by rw [List.length_map, List.length_map] at okl; rw [okl]; exact fit.few, fun p hp => ndQ _ (List.mem_map.mpr ⟨p, hp, rfl⟩), hf, ⟨r1, hr1', ne1⟩, fun H4 q us x0 way pp s4 nq4 hq4 tp hw hnd hp1 hp2 hus hsz det => ?_⟩
            refine ⟨by show 2 ≤ sizeLine; decide, fun t ht => ?_⟩
            have s5 : Same H H4 := I.same.trans s4
            refine k _ _ (same_upd s5 (none_of_same s5 ht)) ⟨t, q, rfl, none_of_same s5 ht, none_of_same I.same nq4, .inr ⟨n, us, hf', ⟨r1, by rw [← I.snd]; exact hr1', ne1⟩, upd_same, by rw [upd_ne (ne_of_none hq4 ht)]; exact hq4, fun u hu => by rw [upd_ne (ne_of_none (tp u hu) ht)]; exact tp u hu, ?_, hsz, by rw [← I.snd]; exact det⟩⟩
            rw [hus]
            refine Mg.ring_of_way (rs := lsOf qs) hw ?_ ndQ hnd hp1 hp2
            rw [I.snd]
            exact ok.suf
          | some x =>
            refine ⟨_, rfl, rfl, _, rfl, ?_⟩
            refine iteF ?_
            have hf' := hf
            rw [I.snd] at hf'
            have ordLen := st_ord_len (lsOf ps) n
            refine ⟨_, rfl, .inl ⟨rfl, _, SqL.of I.ord⟩, _, rfl, O, _, _, rfl, rfl, I.ord, small1000 (by rw [List.length_map]; omega), ?_⟩
            have OR2 : ∀ {b : Addr} {o : HO}, b ≠ O → G b = some o → (upd G O (.lst ((Mg.st (lsOf ps) n).1.map V.int ++ [.int x]))) b = some o := fun {b o} ne e => by rw [upd_ne ne]; exact e
            have qO : ∀ q ∈ qs, q.1 ≠ O := fun q hq e => Oq (by rw [← I.fst]; exact List.mem_map.mpr ⟨q, hq, e⟩)
            refine ⟨_, rfl, _, rfl, _, rfl, x, R, B, qs, kvs, rfl, ⟨OR2 OR.symm I.own.at_, fun q hq => OR2 (qO q hq) (I.own.each q hq), I.own.nd⟩, OR2 OB.symm I.dic, I.len, I.cts, fun p hp => ⟨ndQ _ (List.mem_map.mpr ⟨p, hp, rfl⟩), shortQ _ (List.mem_map.mpr ⟨p, hp, rfl⟩)⟩, fun H4 kvs4 but own4 hB4 hl4 hc4 => ?_⟩
            refine ⟨Mg.size (lsOf (taken x qs)), by rw [taken_ls]; exact Mg.size_step hf, _, n + 1, taken x qs, kvs4, rfl, rfl, fun b o e => ?_, own4, by rw [taken_fst]; exact I.fst, by rw [taken_ls, I.snd, Mg.st_some hf'], hB4, hl4, by rw [taken_ls]; exact hc4, ?_⟩
            · have bO : b ≠ O := ne_of_none e nOH
              refine but b o (fun z => z.elim (ne_of_none e nBH) fun m => ?_) (OR2 bO (I.same b o e))
              rw [I.fst] at m
              exact absurd (nq b m) (by rw [e]; exact fun z => nomatch z)
            · have hO4 := but O _ (fun z => z.elim OB fun m => Oq (by rw [← I.fst]; exact m)) (upd_same (H := G) (a := O) (o := .lst ((Mg.st (lsOf ps) n).1.map V.int ++ [.int x])))
              rw [hO4, Mg.st_some hf', List.map_append]
              rfl
      · rintro σ G Q1 Q2 imp ⟨x, hx, a1, ds, h1, h2, h3, h4, c, h5, h6⟩
        exact ⟨x, hx, a1, ds, h1, h2, h3, h4, c, h5, imp _ _ h6⟩
end
end Pr

set_option autoImplicit true
set_option Elab.async false
set_option linter.all false
set_option maxRecDepth 100000
set_option maxHeartbeats 1000000
namespace Pr
open PySem L2 Two ClX
abbrev sIsName : Stmt := top 17
abbrev sCkName : Stmt := top 24
abbrev sCkNames : Stmt := top 27
abbrev sCkMore : Stmt := top 29
abbrev cLayout : Stmt := top 34
structure TxtN (mg : Str → Option Value) : Prop extends Txt mg where
  reversed : mg "reversed" = none
  min : mg "min" = none
  max : mg "max" = none
  longest : ∃ t, mg "LONGEST_NAME" = some (.int 8 t)
  fields : ∃ t, mg "MOST_FIELDS" = some (.int 6 t)
theorem ad {H G : Hp} {p : Addr} {o : HO} (s : Same H G) (n : G p = none) : Same H (upd G p o) := s.trans (same_new n)
theorem app {H : Hp} {p q : Addr} {o u : HO} (h : H q = some u) (n : H p = none) : (upd H p o) q = some u := by rw [upd_ne (ne_of_none h n)]; exact h
theorem ite_true_of {c : Bool} {A B : Prop} (h : c = true) (a : A) : if c = true then A else B := by rw [if_pos h]; exact a
theorem ite_false_of {c : Bool} {A B : Prop} (h : c = false) (b : B) : if c = true then A else B := by rw [h]; exact b
theorem ite_neg_of {c : Bool} {A B : Prop} (h : c = true) (b : B) : if (!c) = true then A else B := by rw [h]; exact b
theorem ite_pos_of {c : Bool} {A B : Prop} (h : c = false) (a : A) : if (!c) = true then A else B := by rw [h]; exact a
/-! ### what a name is -/
def isLetter (c : Nat) : Bool := decide (97 ≤ c) && decide (c ≤ 122)
def isName (z : Str) : Bool := decide (1 ≤ z.length) && decide (z.length ≤ 8) && z.cps.toList.all isLetter
theorem le_a (c : Nat) : (!decide ((⟨#[c]⟩ : Str).cps.toList < ("a" : Str).cps.toList)) = decide (97 ≤ c) := by
  have e : ("a" : Str).cps.toList = [97] := by decide +kernel
  rw [e]
  show (!decide ([c] < [97])) = _
  by_cases h : c < 97
  · have : [c] < [97] := List.Lex.rel h
    rw [decide_eq_true this, decide_eq_false (by omega)]; rfl
  · have : ¬ [c] < [97] := fun q => by
      cases q with
      | rel q => exact h q
      | cons q => cases q
    rw [decide_eq_false this, decide_eq_true (by omega)]; rfl
theorem le_z (c : Nat) : (!decide (("z" : Str).cps.toList < (⟨#[c]⟩ : Str).cps.toList)) = decide (c ≤ 122) := by
  have e : ("z" : Str).cps.toList = [122] := by decide +kernel
  rw [e]
  show (!decide ([122] < [c])) = _
  by_cases h : 122 < c
  · have : [122] < [c] := List.Lex.rel h
    rw [decide_eq_true this, decide_eq_false (by omega)]; rfl
  · have : ¬ [122] < [c] := fun q => by
      cases q with
      | rel q => exact h q
      | cons q => cases q
    rw [decide_eq_false this, decide_eq_true (by omega)]; rfl
theorem all_bl (l : List Nat) : (l.map isLetter).all id = l.all isLetter := by rw [List.all_map]; rfl
theorem scIsName : FnScope ["thing", "letter"] ["thing"] (defScope sIsName) := ⟨rfl, rfl, rfl, by decide +kernel, rfl, by decide +kernel, by decide +kernel⟩
/-- x is of a type that is no str -/
def NotStr (K : PySem.W.Frag) (H : Hp) (x : V) : Prop := ∃ t, TyX K H x t ∧ PySem.W.kitOne K t (.type "str") = some false
def spIsName (K : PySem.W.Frag) : Sp := fun vs H Q _ => ∃ x, vs = [x] ∧ ((NotStr K H x ∧ Q (.bl false) H) ∨ ∃ z : Str, x = .str z ∧ z.length ≤ sizeLine ∧ ∀ H', Same H H' → Q (.bl (isName z)) H')
section
variable {P : Program} {w : World} {K : PySem.W.Frag} {mg : Str → Option Value} {base : Heap}
theorem ok_isName {f : Addr} {fd : FuncData} (F : Fun K "is_name" "is_name" sIsName f fd) (T : TxtN mg) : FnOk P w K mg base CX0 1 f fd ["thing"] (spIsName K) := by
  refine F.ok scIsName (fun vs H Q E h => ?_) (fun cdv A outer s H vs Q E hr h => ?_)
  · obtain ⟨x, rfl, _⟩ := h
    rfl
  · obtain ⟨x, rfl, h⟩ := h
    obtain ⟨tl, hl⟩ := T.longest
    refine ⟨_, pss_cons (ps_if (PW.pt (pw_or (pt_not (pt_val (pe_callB call_isi (by rfl) T.isinstance (by decide +kernel) (pa_cons (pv 0) (pa_cons (pe_bltn (v := .ty "str") (by rfl) T.str (by decide +kernel) rfl) pa_nil)))))
        (pw_or1 (pt_not (pt_chain op_le op_le pe_int (pe_callB call_len_str (by rfl) T.len PySem.boot_len (pa_cons (pv 0) pa_nil)) (pe_glob (v := .int 8) rfl hl ⟨_, rfl⟩)))))) (pss_one (ps_ret pe_bl)) pss_nil)
      (pss_one (ps_ret (pe_callB (cr_all rfl) (by rfl) T.all (by decide +kernel) (pa_cons (pe_lc (own := [("letter", 1)]) (g := gName 1) (tt := tYes) rfl scIsName.nd (pi_str (pv 0)) (blkOk_by (N := ["thing", "letter"]) (sc := defScope sIsName) (by decide +kernel))
        (fun _ _ _ _ _ => pg_name (i := 1) scIsName.nd rfl (Or.inl rfl)) (fun _ _ _ _ _ => pts_nil) (fun _ _ _ _ _ => pe_chain op_le_str op_le_str pe_str (pv 1) pe_str)) pa_nil)))), ?_⟩
    rcases h with ⟨⟨t, ty, kt⟩, q⟩ | ⟨z, rfl, hz, q⟩
    · exact ⟨_, rfl, x, .ty "str", t, .type "str", false, rfl, .ty _, ty, kt, false, rfl, iteT q⟩
    · refine ⟨_, rfl, _, .ty "str", .type "str", .type "str", true, rfl, .ty _, .base (.str z), kit_ty (by decide +kernel), true, rfl, iteF ?_⟩
      refine ⟨_, rfl, z, rfl, hz, _, _, rfl, rfl, _, rfl, ?_⟩
      have hlen : ∀ b, (decide (1 ≤ z.length) && decide (z.length ≤ 8)) = b → b = false → isName z = false := fun b e1 e2 => by
        unfold isName; rw [e1, e2]; rfl
      by_cases h1 : 1 ≤ z.length
      · refine ite_true_of (decide_eq_true (by exact_mod_cast h1)) ⟨_, _, rfl, rfl, _, rfl, ?_⟩
        by_cases h2 : z.length ≤ 8
        · refine ite_neg_of (decide_eq_true (by exact_mod_cast h2)) ?_
          have e1 : (decide (1 ≤ z.length) && decide (z.length ≤ 8)) = true := by rw [decide_eq_true h1, decide_eq_true h2]; rfl
          refine ⟨_, rfl, z, rfl, fun D hD => lc_it walk_str (fun j H' => Same H H' ∧ H' D = some (.lst ((z.cps.toList.take j).map fun c => V.bl (isLetter c)))) ⟨same_new hD, upd_same⟩ (fun _ _ _ _ => trivial) (fun j x H1 H2 hj p y => ?_) (fun H1 p => ?_)⟩
          · obtain ⟨rfl, c, hc, rfl⟩ := y
            refine ⟨rfl, ?_⟩
            unfold tYes
            simp only [if_true]
            have hc2 : z.cps.toList[j]? = some c := by rw [← hc]; simp
            have done : ∃ acc, H2 D = some (.lst acc) ∧ acc.length < sizeLine ∧ Same H (upd H2 D (.lst (acc ++ [.bl (isLetter c)]))) ∧ (upd H2 D (.lst (acc ++ [.bl (isLetter c)]))) D = some (.lst ((z.cps.toList.take (j + 1)).map fun c => V.bl (isLetter c))) := by
              refine ⟨_, p.2, ?_, same_upd p.1 hD, ?_⟩
              · refine small1000 ?_
                rw [List.length_map, List.length_take]
                have : z.cps.toList.length ≤ 8 := by rw [Array.length_toList]; exact h2
                omega
              · rw [upd_same, take_snoc hc2, List.map_append]; rfl
            refine ⟨_, rfl, _, _, rfl, rfl, _, rfl, ?_⟩
            rw [le_a]
            by_cases g1 : 97 ≤ c
            · refine ite_true_of (decide_eq_true g1) ⟨_, _, rfl, rfl, ?_⟩
              rw [le_z, show decide (c ≤ 122) = isLetter c from by unfold isLetter; rw [decide_eq_true g1]; rfl]
              exact done
            · refine ite_false_of (decide_eq_false g1) ?_
              rw [show V.bl false = V.bl (isLetter c) from by unfold isLetter; rw [decide_eq_false g1]; rfl]
              exact done
          · have e := p.2
            rw [show z.cps.toList.take z.cps.size = z.cps.toList from List.take_of_length_le (by rw [Array.length_toList]; exact Nat.le_refl _)] at e
            refine ⟨D, z.cps.toList.map isLetter, rfl, SqL.of (by rw [e, List.map_map]; rfl), ?_⟩
            have e2 := q _ p.1
            rw [show isName z = (z.cps.toList.map isLetter).all id from by unfold isName; rw [e1, all_bl]; rfl] at e2
            exact e2
        · refine ite_pos_of (decide_eq_false (by exact_mod_cast h2)) ?_
          have e := q H (Same.refl H)
          rw [hlen _ rfl (by rw [decide_eq_false h2, Bool.and_false])] at e
          exact e
      · refine ite_false_of (decide_eq_false (by exact_mod_cast h1)) ⟨_, rfl, iteT ?_⟩
        have e := q H (Same.refl H)
        rw [hlen _ rfl (by rw [decide_eq_false h1]; rfl)] at e
        exact e
end
end Pr

set_option autoImplicit true
set_option Elab.async false
set_option linter.all false
set_option maxRecDepth 100000
set_option maxHeartbeats 1000000
/-! check_name, check_names, check_unlike, check_more_fields. -/
namespace Pr
open PySem L2 Two ClX
/-- what a check of names may be shown -/
def ItemK (K : PySem.W.Frag) (H : Hp) (y : V) : Prop := (∃ z : Str, y = .str z ∧ z.length ≤ sizeLine) ∨ ∀ H', Same H H' → NotStr K H' y ∧ ∀ z, y ≠ .str z
def isNm : V → Bool
  | .str z => isName z
  | _ => false
theorem ItemK.keep {K : PySem.W.Frag} {H H' : Hp} {y : V} (i : ItemK K H y) (s : Same H H') : ItemK K H' y := i.imp id fun h G g => h G (s.trans g)
def spCkName (K : PySem.W.Frag) (CN : Addr) : Sp := fun vs H Q E => ∃ x, vs = [x] ∧ ItemK K H x ∧ (isNm x = true → ∀ H', Same H H' → Q .non H') ∧ (isNm x = false → ∀ H', Same H H' → Thrown H' E CN [("name", x), ("why", .str "name")])
theorem scCkName : FnScope ["name"] ["name"] (defScope sCkName) := ⟨rfl, rfl, rfl, by decide +kernel, rfl, by decide +kernel, by decide +kernel⟩
theorem isNm_not {y : V} (h : ∀ z, y ≠ .str z) : isNm y = false := by
  cases y with
  | str z => exact absurd rfl (h z)
  | _ => rfl
section
variable {P : Program} {w : World} {K : PySem.W.Frag} {mg : Str → Option Value} {base : Heap}
theorem ok_ckName {f fN CN fI : Addr} {fd fdN dI : FuncData} (F : Fun K "check_name" "check_name" sCkName f fd) (T : TxtN mg) (TN : ErrTxt P w K mg base "BadName" "name" "name" CN fI dI)
    (gN : mg "is_name" = some (.ref fN)) (kN : PySem.W.keepIn K (.ref fN) = true) (bN : Binds K fdN ["thing"] []) (GN : FnOk P w K mg base CX0 1 fN fdN ["thing"] (spIsName K)) : FnOk P w K mg base (L2.CX P w) 4 f fd ["name"] (spCkName K CN) := by
  refine F.okX scCkName (fun vs H Q E h => ?_) (fun cdv A outer s H vs Q E hr h => ?_)
  · obtain ⟨x, rfl, _⟩ := h
    rfl
  · obtain ⟨x, rfl, it, ok, bad⟩ := h
    have hr1 : Room 1 _ := hr.mono (by decide)
    refine ⟨_, pss_one (ps_if (pt_not (pt_val (pe_call GN hr1 rfl gN kN bN .nil pass0 (pa_cons (pv 0) pa_nil)))) (pss_one (ps_raise rfl (takes_of rfl rfl rfl rfl) (pmk_oex TN.T TN.iC TN.tI TN.GI hr TN.bI .nil pass0 rfl TN.gC (pa_cons (pv 0) pa_nil)))) pss_nil), ?_⟩
    refine ⟨_, rfl, x, rfl, ?_⟩
    rcases it with ⟨z, rfl, hz⟩ | hn
    · refine .inr ⟨z, rfl, hz, fun H' s' => ⟨_, rfl, ?_⟩⟩
      cases e : isName z with
      | true => exact iteF (ok e _ s')
      | false =>
        refine iteT (mk_err (y := .str z) TN ⟨_, rfl, rfl, Same.refl _, bad e _ s'⟩ ?_)
        rintro A B imp ⟨x, hx, q⟩
        exact ⟨x, hx, imp _ _ q⟩
    · obtain ⟨ns, nz⟩ := hn H (Same.refl _)
      refine .inl ⟨ns, _, rfl, iteT (mk_err (y := x) TN ⟨_, rfl, rfl, Same.refl _, bad (isNm_not nz) _ (Same.refl _)⟩ ?_)⟩
      rintro A B imp ⟨x, hx, q⟩
      exact ⟨x, hx, imp _ _ q⟩
/-! ### check_names -/
def spCkNames (K : PySem.W.Frag) (CB CN : Addr) : Sp := fun vs H Q E => ∃ x, vs = [x] ∧ ((∃ t, TyX K H x t ∧ PySem.W.kitOne K t (.type "list") = some false ∧ Thrown H E CB [("why", .str "fields")]) ∨
  ∃ (a : Addr) (xs : List V), x = .ref a ∧ SqL K H a xs ∧ (∀ y ∈ xs, ItemK K H y) ∧ (xs.all isNm = true → ∀ H', Same H H' → Q .non H') ∧
    ∀ i y, xs[i]? = some y → (xs.take i).all isNm = true → isNm y = false → ∀ H', Same H H' → Thrown H' E CN [("name", y), ("why", .str "name")])
theorem scCkNames : FnScope ["fields", "name"] ["fields"] (defScope sCkNames) := ⟨rfl, rfl, rfl, by decide +kernel, rfl, by decide +kernel, by decide +kernel⟩
theorem ok_ckNames {f fN CN CB fI : Addr} {fd fdN dI : FuncData} (F : Fun K "check_names" "check_names" sCkNames f fd) (T : TxtN mg) (TB : BadTxt P w K mg base CB fI dI)
    (gN : mg "check_name" = some (.ref fN)) (kN : PySem.W.keepIn K (.ref fN) = true) (bN : Binds K fdN ["name"] []) (GN : FnOk P w K mg base (L2.CX P w) 4 fN fdN ["name"] (spCkName K CN)) : FnOk P w K mg base (L2.CX P w) 5 f fd ["fields"] (spCkNames K CB CN) := by
  refine F.okX scCkNames (fun vs H Q E h => ?_) (fun cdv A outer s H vs Q E hr h => ?_)
  · obtain ⟨x, rfl, _⟩ := h
    rfl
  · obtain ⟨x, rfl, h⟩ := h
    refine ⟨_, pss_cons (ps_if (pt_not (pt_val (pe_callB call_isi (by rfl) T.isinstance (by decide +kernel) (pa_cons (pv 0) (pa_cons (pe_bltn (v := .ty "list") (by rfl) T.list (by decide +kernel) rfl) pa_nil)))))
        (pss_one (ps_raise rfl (takes_of rfl rfl rfl rfl) (pmk_oex TB.T TB.iC TB.tI TB.GI (hr.mono (by decide)) TB.bI .nil pass0 rfl TB.gC (pa_cons pe_str pa_nil)))) pss_nil)
      (pss_one (ps_for (passes_of rfl) rfl (pi_list (pv 0)) (pg_name (i := 1) scCkNames.nd rfl (Or.inl rfl))
        (pss_one (ps_expr (pe_callS GN hr rfl gN kN bN (fun σ => passAt (takes_of rfl rfl rfl rfl) σ) (pa_cons (pv 1) pa_nil)))))), ?_⟩
    rcases h with ⟨t, ty, kt, th⟩ | ⟨a, xs, rfl, hS, it, ok, bad⟩
    · refine ⟨_, rfl, x, .ty "list", t, .type "list", false, rfl, .ty _, ty, kt, false, rfl, iteT ?_⟩
      exact mk_bad (y := .str "fields") TB ⟨rfl, Same.refl _, th⟩ fun imp q => imp _ _ q
    · refine ⟨_, rfl, _, .ty "list", .type "list", .type "list", true, rfl, .ty _, tyx_list hS, kit_ty (by decide +kernel), true, rfl, iteF ?_⟩
      refine ⟨_, rfl, a, rfl, ⟨_, hS⟩, for_list (K := K) (a := a) (xs := xs) (fun i σ G => (∃ v : Option V, σ = [some (.ref a), v]) ∧ Same H G ∧ (xs.take i).all isNm = true) ⟨⟨_, rfl⟩, Same.refl _, rfl⟩ (fun i σ G _ p => p.2.1.seq hS) ?_ ?_⟩
      · rintro i y σ G hy ⟨⟨v, rfl⟩, s1, al⟩
        refine ⟨_, rfl, y, rfl, (it y (List.mem_of_getElem? hy)).keep s1, fun e H' s' => ⟨⟨_, rfl⟩, s1.trans s', ?_⟩, fun e H' s' => bad i y hy al e _ (s1.trans s')⟩
        rw [take_snoc hy, List.all_append, al]
        simpa using e
      · rintro σ G ⟨⟨v, rfl⟩, s1, al⟩
        rw [List.take_length] at al
        exact ok al _ s1
/-! ### check_unlike -/
def TwiceK (ks : List Key) (k : Key) : Prop := ∃ i, ks[i]? = some k ∧ k ∈ ks.take i ∧ (ks.take i).Nodup
def spCkUnlike (K : PySem.W.Frag) (CD : Addr) : Sp := fun vs H Q E => ∃ (a : Addr) (ks : List Key), vs = [.ref a] ∧ SqL K H a (ks.map kV) ∧ ks.length ≤ 1000 ∧ (ks.Nodup → ∀ H', Same H H' → Q .non H') ∧
  ∀ k, TwiceK ks k → ∀ H', Same H H' → Thrown H' E CD [("thing", kV k), ("why", .str "duplicate")]
theorem ok_ckUnlike {f C fI : Addr} {fd dI : FuncData} (F : Fun K "check_unlike" "check_unlike" sUnlike f fd) (T : TxtN mg) (TD : ErrTxt P w K mg base "Duplicate" "thing" "duplicate" C fI dI) : FnOk P w K mg base (L2.CX P w) 4 f fd ["things"] (spCkUnlike K C) := by
  refine F.okX scUnlike (fun vs H Q E h => ?_) (fun cdv A outer s H vs Q E hr h => ?_)
  · obtain ⟨a, ns, rfl, _⟩ := h
    rfl
  · obtain ⟨a, ks, rfl, hS, hl, k, th⟩ := h
    refine ⟨_, pss_cons (ps_set (i := 1) scUnlike.nd rfl (Or.inl rfl) (pe_callTy0 cr_set0K (by rfl) T.set (by decide +kernel)))
      (pss_one (ps_for (passes_of rfl) rfl (pi_list (pv 0)) (pg_name (i := 2) scUnlike.nd rfl (Or.inl rfl))
        (pss_cons (ps_if (pt_cmpR or_sinK (pv 2) (pv 1) (by rfl)) (pss_one (ps_raise rfl (takes_of rfl rfl rfl rfl) (pmk_oex TD.T TD.iC TD.tI TD.GI hr TD.bI .nil pass0 rfl TD.gC (pa_cons (pv 2) pa_nil)))) pss_nil) (pss_one (ps_expr (pe_saddK (pv 1) (pa_cons (pv 2) pa_nil))))))), ?_⟩
    refine ⟨rfl, fun p hp => ?_⟩
    refine ⟨_, rfl, a, rfl, ⟨_, (same_new hp).seq hS⟩, for_list (K := K) (a := a) (xs := ks.map kV) (fun i σ H' => ∃ (v : Option V) (S : Key → Bool) (n : Nat), σ = [some (.ref a), some (.ref p), v] ∧ Same H H' ∧ H' p = some (SetK P w p S n) ∧ n ≤ i ∧ (∀ z, S z = true ↔ z ∈ ks.take i) ∧ (ks.take i).Nodup)
      ⟨none, fun _ => false, 0, rfl, same_new hp, upd_same, Nat.le_refl _, (fun z => by simp), by simp⟩ (fun i σ H' _ ⟨_, _, _, _, s1, _⟩ => s1.seq hS) ?_ ?_⟩
    · rintro i y σ H' hi ⟨v, S, n, rfl, s1, hp1, hn, hz, nd⟩
      obtain ⟨z, hz1, rfl⟩ := get_map hi
      have hlt := (List.getElem?_eq_some_iff.mp hz1).1
      refine ⟨_, rfl, _, rfl, z, p, S, n, rfl, rfl, hp1, _, rfl, ?_⟩
      cases e : S z with
      | true =>
        refine iteT (mk_err (y := kV z) TD ⟨_, rfl, rfl, Same.refl _, th z ⟨i, hz1, (hz z).mp e, nd⟩ H' s1⟩ ?_)
        rintro A B imp ⟨x, hx, q⟩
        exact ⟨x, hx, imp _ _ q⟩
      | false =>
        refine iteF ?_
        refine ⟨_, rfl, ⟨p, S, n, rfl, hp1⟩, _, rfl, p, z, S, n, rfl, rfl, hp1, by unfold scanBound; omega, ?_⟩
        have zn : z ∉ ks.take i := fun m => by rw [(hz z).mpr m] at e; cases e
        refine ⟨_, _, _, rfl, same_upd s1 hp, upd_same, by rw [e]; simp; omega, fun z2 => ?_, ?_⟩
        · rw [take_snoc hz1, Bool.or_eq_true_iff, hz z2, List.mem_append, List.mem_singleton, decide_eq_true_iff]
        · rw [take_snoc hz1]
          exact List.nodup_append.mpr ⟨nd, by simp, fun x hx y hy => by rw [List.mem_singleton.mp hy]; rintro rfl; exact zn hx⟩
    · rintro σ H' ⟨v, S, n, rfl, s1, _, _, _, nd⟩
      rw [List.length_map, List.take_length] at nd
      exact k nd _ s1
end
end Pr

set_option autoImplicit true
set_option Elab.async false
set_option linter.all false
set_option maxRecDepth 100000
set_option maxHeartbeats 1000000
/-! Layout: made, its fields, its room. -/
namespace Pr
open PySem L2 Two ClX SlX
abbrev sMore : Stmt := sCkMore
abbrev mInit : Stmt := within cLayout 1
abbrev mFields : Stmt := within cLayout 2
abbrev mHas : Stmt := within cLayout 3
abbrev mWith : Stmt := within cLayout 4
abbrev mOff : Stmt := within cLayout 5
abbrev mFirst : Stmt := within cLayout 6
abbrev mLen : Stmt := within cLayout 7
abbrev mGet : Stmt := within cLayout 8
abbrev mIter : Stmt := within cLayout 9
abbrev mCont : Stmt := within cLayout 10
abbrev mAdd : Stmt := within cLayout 11
abbrev mLe : Stmt := within cLayout 12
abbrev mEq : Stmt := within cLayout 13
abbrev mRepr : Stmt := within cLayout 14
theorem slt_keep {H H' : Hp} {a C dx : Addr} {vs : List (Option V)} (s : Same H H') (h : Slt H a C dx vs) : Slt H' a C dx vs := h.imp (fun ⟨x, y⟩ => ⟨s _ _ x, y⟩) (fun ⟨x, y⟩ => ⟨s _ _ x, s _ _ y⟩)
theorem sqt_keep {K : PySem.W.Frag} {H H' : Hp} {a : Addr} {xs : List V} (s : Same H H') (h : SqT K H a xs) : SqT K H' a xs := by
  rcases h with (h | ⟨o, h⟩) | h
  · exact .inl (.inl (s _ _ h))
  · exact .inl (.inr ⟨o, s _ _ h⟩)
  · exact .inr h
theorem tyx_tup {K : PySem.W.Frag} {H : Hp} {a : Addr} {xs : List V} (h : H a = some (.tup xs)) : TyX K H (.ref a) (.type "tuple") := .base (.tup h)
/-- a is a layout -/
def IsLay (K : PySem.W.Frag) (C : Addr) (H : Hp) (a : Addr) (fs : List Str) (r : Bool) : Prop := ∃ dx t, Slt H a C dx [some (.ref t), some (.bl r)] ∧ H t = some (.tup (fs.map V.str)) ∧ ∀ z ∈ fs, isName z = true
theorem IsLay.keep {K : PySem.W.Frag} {C : Addr} {H H' : Hp} {a : Addr} {fs : List Str} {r : Bool} (h : IsLay K C H a fs r) (s : Same H H') : IsLay K C H' a fs r := let ⟨dx, t, h1, h2, h3⟩ := h; ⟨dx, t, slt_keep s h1, s _ _ h2, h3⟩
/-- the class -/
structure LayC (K : PySem.W.Frag) (mg : Str → Option Value) (C p0 p1 : Addr) : Prop where
  c : SCls K C
  s0 : Slot1 K C "_fields" p0 0
  s1 : Slot1 K C "_room" p1 1
  g : mg "Layout" = some (.ref C)
  si : SIsi K C
section
variable {P : Program} {w : World} {K : PySem.W.Frag} {mg : Str → Option Value} {base : Heap}
/-- a def with defaults -/
theorem okXD {x qual : Str} {st : Stmt} {f : Addr} {N ps : List Str} {k : Nat} {sp : Sp} {oc dV kV doc pm cdv ct : Value} {od an : Option Addr} {osl : Array (Option Value)}
    (lk : K.lookup f = some ⟨oc, od, .func (PySem.W.fnOf x qual (defArgs st) (defBody st) (defScope st) dV kV doc pm an cdv ct), osl⟩) (hcd : PySem.W.codeIn K cdv qual = true) (S : FnScope N ps (defScope st)) (len : ∀ vs H Q E, sp vs H Q E → vs.length = ps.length)
    (hbody : ∀ (A : Around) (outer : List Env) (s : Shared) (H : Hp) (vs : List V) (Q : VK) (E : XK), Room k (A.deeper (PyProof.Rows.envOfC qual (defScope st) s.heap.objs.size f cdv)) → sp vs H Q E →
      ∃ t, PSs (cxOf (L2.CX P w) P w K mg base N qual (defScope st) f cdv A outer s H E) (defBody st) t ∧ t { nx := fun _ H' => Q .non H', rt := Q } (start N vs) H) :
    FnOk P w K mg base (L2.CX P w) (k + 1) f (PySem.W.fnOf x qual (defArgs st) (defBody st) (defScope st) dV kV doc pm an cdv ct) ps sp :=
  fn_of lk hcd S len fun A outer s H vs Q E hr hsp => hbody A outer s H vs Q E hr hsp
theorem passE {X : Cx} {E : XK} (h : ∀ c d H, ¬ E c d H) : Passes (L2.CX X.prog X.w) X E := fun _ _ _ _ _ _ _ c => by
  obtain ⟨a, B, H', cls, d, _, _, _, _, _, _, _, e⟩ := c
  exact (h _ _ _ e).elim
theorem ckNames_mono {CB CN : Addr} {vs : List V} {H : Hp} {Q Q' : VK} {E : XK} (imp : ∀ v H', Q v H' → Q' v H') (h : spCkNames K CB CN vs H Q E) : spCkNames K CB CN vs H Q' E := by
  obtain ⟨x, e, h⟩ := h
  refine ⟨x, e, ?_⟩
  rcases h with h | ⟨a, xs, e2, hS, it, ok, bad⟩
  · exact .inl h
  · exact .inr ⟨a, xs, e2, hS, it, fun al H' s => imp _ _ (ok al H' s), bad⟩
theorem name_len {z : Str} (h : isName z = true) : z.length ≤ sizeLine := by
  unfold isName at h
  rw [Bool.and_eq_true, Bool.and_eq_true] at h
  exact Nat.le_trans (of_decide_eq_true h.1.2) (by decide)
/-! ### __init__ -/
def spLInit (K : PySem.W.Frag) (C CB CN : Addr) : Sp := fun vs H Q E => ∃ a dx x r, vs = [.ref a, x, r] ∧ H a = some (.ins C dx []) ∧ H dx = some (.own a) ∧ dx ≠ a ∧
  spCkNames K CB CN [x] H (fun _ H1 => ∃ (l : Addr) (fs : List Str), Same H H1 ∧ x = .ref l ∧ SqL K H1 l (fs.map V.str) ∧
    ((∃ rb, r = .bl rb ∧ ∀ t, H1 t = none → Q .non (slH (upd H1 t (.tup (fs.map V.str))) a C dx [some (.ref t), some (.bl rb)])) ∨
     ((∃ t, TyX K H1 r t ∧ PySem.W.kitOne K t (.type "bool") = some false) ∧ Thrown H1 E CB [("why", .str "room")]))) E
theorem scLInit : FnScope ["self", "fields", "has_room"] ["self", "fields", "has_room"] (defScope mInit) := ⟨rfl, rfl, rfl, by decide +kernel, rfl, by decide +kernel, by decide +kernel⟩
theorem ok_lInit {f fN C p0 p1 CB CN fI : Addr} {fdN dI : FuncData} {oc dV kV doc pm cdv ct : Value} {od an : Option Addr} {osl : Array (Option Value)}
    (lk : K.lookup f = some ⟨oc, od, .func (PySem.W.fnOf "__init__" "Layout.__init__" (defArgs mInit) (defBody mInit) (defScope mInit) dV kV doc pm an cdv ct), osl⟩) (hcd : PySem.W.codeIn K cdv "Layout.__init__" = true) (T : TxtN mg) (L : LayC K mg C p0 p1)
    (TB : BadTxt P w K mg base CB fI dI) (gN : mg "check_names" = some (.ref fN)) (kN : PySem.W.keepIn K (.ref fN) = true) (bN : Binds K fdN ["fields"] []) (GN : FnOk P w K mg base (L2.CX P w) 5 fN fdN ["fields"] (spCkNames K CB CN)) :
    FnOk P w K mg base (L2.CX P w) 6 f (PySem.W.fnOf "__init__" "Layout.__init__" (defArgs mInit) (defBody mInit) (defScope mInit) dV kV doc pm an cdv ct) ["self", "fields", "has_room"] (spLInit K C CB CN) := by
  refine okXD lk hcd scLInit (fun vs H Q E h => ?_) (fun A outer s H vs Q E hr h => ?_)
  · obtain ⟨a, dx, x, r, rfl, _⟩ := h
    rfl
  · obtain ⟨a, dx, x, r, rfl, ha, hdx, ne, h⟩ := h
    refine ⟨_, pss_cons (ps_expr (pe_callS GN hr rfl gN kN bN (fun σ => passAt (takes_of rfl rfl rfl rfl) σ) (pa_cons (pv 1) pa_nil)))
      (pss_cons (ps_if (pt_not (pt_val (pe_callB call_isi (by rfl) T.isinstance (by decide +kernel) (pa_cons (pv 2) (pa_cons (pe_bltn (v := .ty "bool") (by rfl) T.bool (by decide +kernel) rfl) pa_nil)))))
        (pss_one (ps_raise rfl (takes_of rfl rfl rfl rfl) (pmk_oex TB.T TB.iC TB.tI TB.GI (hr.mono (by decide)) TB.bI .nil pass0 rfl TB.gC (pa_cons pe_str pa_nil)))) pss_nil)
      (pss_cons (ps_sl (pv 0) (pe_callTy call_tuple_of (by rfl) T.tuple (by decide +kernel) (pa_cons (pv 1) pa_nil)))
      (pss_one (ps_sl (pv 0) (pv 2))))), ?_⟩
    refine ⟨_, rfl, ?_⟩
    dsimp only [tNil]
    refine ckNames_mono (fun v H1 q => ?_) h
    obtain ⟨l, fs, s1, rfl, hS, q⟩ := q
    have ha1 := s1 _ _ ha
    rcases q with ⟨rb, rfl, q⟩ | ⟨⟨t, ty, kt⟩, th⟩
    · refine ⟨_, rfl, _, .ty "bool", .type "bool", .type "bool", true, rfl, .ty _, .base (.bl rb), kit_ty (by decide +kernel), true, rfl, iteF ?_⟩
      refine ⟨_, rfl, l, _, rfl, .inl ⟨hS, fun t nt => ?_⟩⟩
      refine ⟨_, rfl, a, C, dx, p0, [], 0, rfl, .inl ⟨app ha1 nt, rfl⟩, L.c, L.s0, ?_⟩
      refine ⟨_, rfl, _, rfl, a, C, dx, p1, _, 1, rfl, slH_slt ne, L.c, L.s1, ?_⟩
      rw [slH_twice ne]
      exact q t nt
    · refine ⟨_, rfl, r, .ty "bool", t, .type "bool", false, rfl, .ty _, ty, kt, false, rfl, iteT ?_⟩
      exact mk_bad (y := .str "room") TB ⟨rfl, Same.refl _, th⟩ fun imp q => imp _ _ q
/-- what is made -/
theorem lay_made {C CB CN : Addr} {H0 : Hp} {l : Addr} {fs : List Str} {rb : Bool} {Q : VK} {E : XK} (hS : SqL K H0 l (fs.map V.str)) (nm : ∀ z ∈ fs, isName z = true) (k : ∀ a H2, Same H0 H2 → IsLay K C H2 a fs rb → Q (.ref a) H2) :
    ∀ a dx, H0 a = none → H0 dx = none → dx ≠ a → spLInit K C CB CN [.ref a, .ref l, .bl rb] (upd (upd H0 dx (.own a)) a (.ins C dx [])) (fun v H2 => v = .non ∧ Q (.ref a) H2) E := by
  intro a dx na nd ne
  have s0 : Same H0 (upd (upd H0 dx (.own a)) a (.ins C dx [])) := same_upd (same_new nd) na
  have ea : (upd (upd H0 dx (.own a)) a (.ins C dx [])) a = some (.ins C dx []) := upd_same
  have ed : (upd (upd H0 dx (.own a)) a (.ins C dx [])) dx = some (.own a) := by rw [upd_ne ne]; exact upd_same
  refine ⟨a, dx, _, _, rfl, ea, ed, ne, _, rfl, .inr ⟨l, fs.map V.str, rfl, s0.seq hS, fun y hy => ?_, fun _ H1 s1 => ⟨l, fs, s1, rfl, (s0.trans s1).seq hS, .inl ⟨rb, rfl, fun t nt => ⟨rfl, k _ _ (fun b o e => ?_) ⟨dx, t, slH_slt ne, ?_, nm⟩⟩⟩⟩, fun i y hy _ bad => ?_⟩⟩
  · obtain ⟨z, hz, rfl⟩ := List.mem_map.mp hy
    exact .inl ⟨z, rfl, name_len (nm z hz)⟩
  · have b1 : b ≠ a := ne_of_none e na
    have b2 : b ≠ dx := ne_of_none e nd
    rw [slH_ne b1 b2]
    exact app (s1 _ _ (s0 _ _ e)) nt
  · have t1 : t ≠ a := (ne_of_none (s1 _ _ ea) nt).symm
    have t2 : t ≠ dx := (ne_of_none (s1 _ _ ed) nt).symm
    rw [slH_ne t1 t2]
    exact upd_same
  · obtain ⟨z, hz, rfl⟩ := List.mem_map.mp (List.mem_of_getElem? hy)
    rw [show isNm (V.str z) = true from nm z hz] at bad
    cases bad
/-! ### fields, has_room, with_room -/
def spFields (K : PySem.W.Frag) (C : Addr) : Sp := fun vs H Q _ => ∃ a fs r, vs = [.ref a] ∧ IsLay K C H a fs r ∧ ∀ p, H p = none → Q (.ref p) (upd H p (.lst (fs.map V.str)))
def spHas (K : PySem.W.Frag) (C : Addr) : Sp := fun vs H Q _ => ∃ a fs r, vs = [.ref a] ∧ IsLay K C H a fs r ∧ Q (.bl r) H
def spWith (K : PySem.W.Frag) (C : Addr) : Sp := fun vs H Q _ => ∃ a fs r, vs = [.ref a] ∧ IsLay K C H a fs r ∧ ∀ b H', Same H H' → IsLay K C H' b fs true → Q (.ref b) H'
theorem scSelf {st : Stmt} (h : FnScope ["self"] ["self"] (defScope st)) : FnScope ["self"] ["self"] (defScope st) := h
theorem scFields : FnScope ["self"] ["self"] (defScope mFields) := ⟨rfl, rfl, rfl, by decide +kernel, rfl, by decide +kernel, by decide +kernel⟩
theorem scHas : FnScope ["self"] ["self"] (defScope mHas) := ⟨rfl, rfl, rfl, by decide +kernel, rfl, by decide +kernel, by decide +kernel⟩
theorem scWith : FnScope ["self"] ["self"] (defScope mWith) := ⟨rfl, rfl, rfl, by decide +kernel, rfl, by decide +kernel, by decide +kernel⟩
theorem ok_fields {f C p0 p1 : Addr} {fd : FuncData} (F : Fun K "fields" "Layout.fields" mFields f fd) (T : TxtN mg) (L : LayC K mg C p0 p1) : FnOk P w K mg base CX0 1 f fd ["self"] (spFields K C) := by
  refine F.ok scFields (fun vs H Q E h => ?_) (fun cdv A outer s H vs Q E hr h => ?_)
  · obtain ⟨a, fs, r, rfl, _⟩ := h
    rfl
  · obtain ⟨a, fs, r, rfl, ⟨dx, t, hs, ht, _⟩, k⟩ := h
    refine ⟨_, pss_one (ps_ret (pe_callTy call_list_of (by rfl) T.list (by decide +kernel) (pa_cons (pe_sl (pv 0)) pa_nil))), ?_⟩
    exact ⟨_, rfl, a, C, dx, p0, _, 0, _, rfl, hs, L.c, L.s0, rfl, t, _, rfl, .inr (SqT.of ht), fun p np => k p np⟩
theorem ok_has {f C p0 p1 : Addr} {fd : FuncData} (F : Fun K "has_room" "Layout.has_room" mHas f fd) (L : LayC K mg C p0 p1) : FnOk P w K mg base CX0 1 f fd ["self"] (spHas K C) := by
  refine F.ok scHas (fun vs H Q E h => ?_) (fun cdv A outer s H vs Q E hr h => ?_)
  · obtain ⟨a, fs, r, rfl, _⟩ := h
    rfl
  · obtain ⟨a, fs, r, rfl, ⟨dx, t, hs, ht, _⟩, k⟩ := h
    refine ⟨_, pss_one (ps_ret (pe_sl (pv 0))), ?_⟩
    exact ⟨_, rfl, a, C, dx, p1, _, 1, _, rfl, hs, L.c, L.s1, rfl, k⟩
theorem ok_with {f g fI C p0 p1 CB CN : Addr} {fd gd dI : FuncData} (F : Fun K "with_room" "Layout.with_room" mWith f fd) (L : LayC K mg C p0 p1) (M : Mk K C fI) (bI : Binds K dI ["self", "fields", "has_room"] []) (GI : FnOk P w K mg base (L2.CX P w) 6 fI dI ["self", "fields", "has_room"] (spLInit K C CB CN))
    (mF : Meth K C "fields" g) (bF : Binds K gd ["self"] []) (GF : FnOk P w K mg base CX0 1 g gd ["self"] (spFields K C)) : FnOk P w K mg base CX0 8 f fd ["self"] (spWith K C) := by
  refine F.ok scWith (fun vs H Q E h => ?_) (fun cdv A outer s H vs Q E hr h => ?_)
  · obtain ⟨a, fs, r, rfl, _⟩ := h
    rfl
  · obtain ⟨a, fs, r, rfl, hL, k⟩ := h
    have hr1 : Room 1 _ := hr.mono (by decide)
    refine ⟨_, pss_one (ps_ret (pe_make M GI hr (by rfl) L.g bI .nil (passE (E := fun _ _ _ => False) fun _ _ _ z => z) (pa_cons (pe_methSl0 (pv 0) L.c mF (GF.raw bF .nil) hr1 pass0) (pa_cons pe_bl pa_nil)))), ?_⟩
    obtain ⟨dx, t, hs, ht, nm⟩ := hL
    refine ⟨_, rfl, a, dx, _, rfl, hs, a, fs, r, rfl, ⟨dx, t, hs, ht, nm⟩, fun p np => ?_⟩
    exact lay_made (K := K) (SqL.of upd_same) nm fun b H2 s2 hb => k b H2 ((same_new np).trans s2) hb
end
end Pr

set_option autoImplicit true
set_option Elab.async false
set_option linter.all false
set_option maxRecDepth 100000
set_option maxHeartbeats 1000000
/-! Layout: len, [], in, +. -/
namespace Pr
open PySem L2 Two ClX SlX
/-! ### texts as data -/
def strsD (fs : List Str) : PyData := .tuple (fs.map PyData.str)
theorem dpAll_strs {K : PySem.W.Frag} {H : Hp} : ∀ fs : List Str, DpAll K H (fs.map V.str) (fs.map PyData.str)
  | [] => .nil
  | _ :: fs => .cons (.str _) (dpAll_strs fs)
theorem dp_strs {K : PySem.W.Frag} {H : Hp} {t : Addr} {fs : List Str} (h : H t = some (.tup (fs.map V.str))) : Dp K H (.ref t) (strsD fs) := .tup (SqT.of h) (dpAll_strs fs)
theorem name_strOk {z : Str} (h : isName z = true) : PyData.strOk z = true := by
  unfold isName at h
  rw [Bool.and_eq_true] at h
  have h2 := List.all_eq_true.mp h.2
  unfold PyData.strOk
  rw [← Array.all_toList, List.all_eq_true]
  intro c hc
  have := h2 c hc
  unfold isLetter at this
  rw [Bool.and_eq_true, decide_eq_true_iff, decide_eq_true_iff] at this
  exact decide_eq_true (by omega)
theorem lay_strs : ∀ fs : List Str, (∀ z ∈ fs, isName z = true) → PyData.canLayAll0 (fs.map PyData.str) = true
  | [], _ => rfl
  | z :: fs, h => by
    show (PyData.strOk z && PyData.canLayAll0 (fs.map PyData.str)) = true
    rw [name_strOk (h z List.mem_cons_self), lay_strs fs fun y hy => h y (List.mem_cons_of_mem _ hy)]
    rfl
theorem depth_strs : ∀ fs : List Str, PyData.depthAll (fs.map PyData.str) ≤ 1
  | [] => Nat.zero_le _
  | z :: fs => by
    show max 0 (PyData.depthAll (fs.map PyData.str)) ≤ 1
    have := depth_strs fs
    omega
theorem shaped_strs {fs : List Str} (h : ∀ z ∈ fs, isName z = true) : SeqAt.shaped (strsD fs) = true := by
  unfold SeqAt.shaped
  have a : (strsD fs).canLay0 = true := lay_strs fs h
  have b : (strsD fs).depth ≤ 64 := by
    show PyData.depthAll (fs.map PyData.str) + 1 ≤ 64
    have := depth_strs fs
    omega
  rw [a, decide_eq_true b]
  rfl
theorem eqv_strs : ∀ fs gs : List Str, PyData.eqv (strsD fs) (strsD gs) = decide (fs = gs) := by
  have key : ∀ fs gs : List Str, PyData.eqvAll (fs.map PyData.str) (gs.map PyData.str) = decide (fs = gs) := by
    intro fs
    induction fs with
    | nil =>
      intro gs
      cases gs with
      | nil => rfl
      | cons g gs => rfl
    | cons x fs ih =>
      intro gs
      cases gs with
      | nil => rfl
      | cons g gs =>
        show ((x == g) && PyData.eqvAll (fs.map PyData.str) (gs.map PyData.str)) = _
        rw [ih gs]
        by_cases e : x = g
        · subst e
          by_cases e2 : fs = gs
          · subst e2; simp
          · simp [e2]
        · have : (x == g) = false := beq_eq_false_iff_ne.mpr e
          rw [this]
          simp [e]
  exact key
section
variable {P : Program} {w : World} {K : PySem.W.Frag} {mg : Str → Option Value} {base : Heap}
/-- no integer -/
def NotInt (K : PySem.W.Frag) (H : Hp) (x : V) : Prop := ∃ (t : Value) (b1 b2 : Bool), TyX K H x t ∧ PySem.W.kitOne K t (.type "int") = some b1 ∧ PySem.W.kitOne K t (.type "bool") = some b2 ∧ (b1 && !b2) = false
/-! ### len -/
def spLen (K : PySem.W.Frag) (C : Addr) : Sp := fun vs H Q _ => ∃ a fs r, vs = [.ref a] ∧ IsLay K C H a fs r ∧ Q (.int (fs.length : Nat)) H
theorem scLen : FnScope ["self"] ["self"] (defScope mLen) := ⟨rfl, rfl, rfl, by decide +kernel, rfl, by decide +kernel, by decide +kernel⟩
theorem ok_len {f C p0 p1 : Addr} {fd : FuncData} (F : Fun K "__len__" "Layout.__len__" mLen f fd) (T : TxtN mg) (L : LayC K mg C p0 p1) : FnOk P w K mg base CX0 1 f fd ["self"] (spLen K C) := by
  refine F.ok scLen (fun vs H Q E h => ?_) (fun cdv A outer s H vs Q E hr h => ?_)
  · obtain ⟨a, fs, r, rfl, _⟩ := h
    rfl
  · obtain ⟨a, fs, r, rfl, ⟨dx, t, hs, ht, _⟩, k⟩ := h
    refine ⟨_, pss_one (ps_ret (pe_callB call_len_seq (by rfl) T.len PySem.boot_len (pa_cons (pe_sl (pv 0)) pa_nil))), ?_⟩
    refine ⟨_, rfl, a, C, dx, p0, _, 0, _, rfl, hs, L.c, L.s0, rfl, t, _, rfl, .inr (SqT.of ht), ?_⟩
    rw [List.length_map]
    exact k
/-! ### [] -/
def spGet (K : PySem.W.Frag) (C CO : Addr) : Sp := fun vs H Q E => ∃ a fs r x, vs = [.ref a, x] ∧ IsLay K C H a fs r ∧
  ((NotInt K H x ∧ Thrown H E CO [("offset", x), ("why", .str "offset")]) ∨ ∃ i : Int, x = .int i ∧ (∀ (n : Nat) z, i = n → fs[n]? = some z → Q (.str z) H) ∧ (¬ (0 ≤ i ∧ i < fs.length) → Thrown H E CO [("offset", x), ("why", .str "offset")]))
theorem scGet : FnScope ["self", "at"] ["self", "at"] (defScope mGet) := ⟨rfl, rfl, rfl, by decide +kernel, rfl, by decide +kernel, by decide +kernel⟩
theorem ok_get {f g C p0 p1 CO fI : Addr} {fd gd dI : FuncData} (F : Fun K "__getitem__" "Layout.__getitem__" mGet f fd) (T : TxtN mg) (L : LayC K mg C p0 p1) (TO : ErrTxt P w K mg base "BadOffset" "offset" "offset" CO fI dI)
    (gI : mg "is_int" = some (.ref g)) (kI : PySem.W.keepIn K (.ref g) = true) (bI : Binds K gd ["thing"] []) (GI : FnOk P w K mg base CX0 1 g gd ["thing"] (spIsInt K)) : FnOk P w K mg base (L2.CX P w) 4 f fd ["self", "at"] (spGet K C CO) := by
  refine F.okX scGet (fun vs H Q E h => ?_) (fun cdv A outer s H vs Q E hr h => ?_)
  · obtain ⟨a, fs, r, x, rfl, _⟩ := h
    rfl
  · obtain ⟨a, fs, r, x, rfl, ⟨dx, t, hs, ht, nm⟩, h⟩ := h
    have hr1 : Room 1 _ := hr.mono (by decide)
    refine ⟨_, pss_cons (ps_if (PW.pt (pw_or (pt_not (pt_val (pe_call GI hr1 rfl gI kI bI .nil pass0 (pa_cons (pv 1) pa_nil))))
        (pw_or1 (pt_not (pt_chain op_le op_lt pe_int (pv 1) (pe_callB call_len_seq (by rfl) T.len PySem.boot_len (pa_cons (pe_sl (pv 0)) pa_nil)))))))
        (pss_one (ps_raise rfl (takes_of rfl rfl rfl rfl) (pmk_oex TO.T TO.iC TO.tI TO.GI hr TO.bI .nil pass0 rfl TO.gC (pa_cons (pv 1) pa_nil)))) pss_nil)
      (pss_one (ps_ret (pe_ix ix_tup (pe_sl (pv 0)) (pv 1) (fun _ _ => rfl)))), ?_⟩
    have bad : ∀ {y : V}, Thrown H E CO [("offset", y), ("why", .str "offset")] → tMkO CO (spInit K ["why", "offset"] fun y => [("offset", y), ("why", .str "offset")]) [] (tCons (tVar 1) tNil) [some (.ref a), some y] H E := fun {y} th => by
      refine mk_err (y := y) TO ⟨_, rfl, rfl, Same.refl _, th⟩ ?_
      rintro A B imp ⟨x, hx, q⟩
      exact ⟨x, hx, imp _ _ q⟩
    rcases h with ⟨⟨ty, b1, b2, hty, k1, k2, e⟩, th⟩ | ⟨i, rfl, ok, out⟩
    · refine ⟨_, rfl, x, ty, b1, b2, rfl, hty, k1, k2, _, rfl, ?_⟩
      rw [e]
      exact iteT (bad th)
    · refine ⟨_, rfl, .int i, .type "int", true, false, rfl, .base (.int i), kit_ty (by decide +kernel), kit_ty (by decide +kernel), _, rfl, iteF ?_⟩
      refine ⟨_, rfl, _, _, rfl, rfl, _, rfl, ?_⟩
      by_cases h0 : 0 ≤ i
      · refine ite_true_of (decide_eq_true h0) ⟨_, rfl, a, C, dx, p0, _, 0, _, rfl, hs, L.c, L.s0, rfl, t, _, rfl, .inr (SqT.of ht), _, _, rfl, rfl, _, rfl, ?_⟩
        rw [List.length_map]
        by_cases h1 : i < fs.length
        · refine ite_neg_of (decide_eq_true h1) ?_
          obtain ⟨n, rfl⟩ := Int.eq_ofNat_of_zero_le h0
          have hn : n < fs.length := by omega
          refine ⟨_, rfl, a, C, dx, p0, _, 0, _, rfl, hs, L.c, L.s0, rfl, _, rfl, t, _, _, .str fs[n], rfl, rfl, SqT.of ht, atI_nat (by rw [List.getElem?_map, List.getElem?_eq_getElem hn]; rfl), ?_⟩
          exact ok n _ rfl (List.getElem?_eq_getElem hn)
        · exact ite_pos_of (decide_eq_false h1) (bad (out fun q => h1 q.2))
      · exact ite_false_of (decide_eq_false h0) ⟨_, rfl, iteT (bad (out fun q => h0 q.1))⟩
/-! ### in -/
def hasNm (fs : List Str) : V → Bool
  | .str z => decide (z ∈ fs)
  | _ => false
theorem inV_strs {z : Str} : ∀ fs : List Str, inV (.str z) (fs.map V.str) = decide (z ∈ fs)
  | [] => rfl
  | y :: fs => by
    show (eqV (.str y) (.str z) || inV (.str z) (fs.map V.str)) = _
    rw [inV_strs fs]
    have e : eqV (.str y) (.str z) = decide (y = z) := rfl
    rw [e]
    by_cases h : y = z
    · subst h; simp
    · have h2 : ¬ z = y := fun q => h q.symm
      simp [h, h2]
theorem flat_strs : ∀ fs : List Str, (fs.map V.str).all flatV = true
  | [] => rfl
  | _ :: fs => flat_strs fs
def spCont (K : PySem.W.Frag) (C : Addr) : Sp := fun vs H Q _ => ∃ a fs r x, vs = [.ref a, x] ∧ IsLay K C H a fs r ∧ ItemK K H x ∧ ∀ H', Same H H' → Q (.bl (hasNm fs x)) H'
theorem scCont : FnScope ["self", "x"] ["self", "x"] (defScope mCont) := ⟨rfl, rfl, rfl, by decide +kernel, rfl, by decide +kernel, by decide +kernel⟩
theorem ok_cont {f g C p0 p1 : Addr} {fd gd : FuncData} (F : Fun K "__contains__" "Layout.__contains__" mCont f fd) (T : TxtN mg) (L : LayC K mg C p0 p1)
    (gN : mg "is_name" = some (.ref g)) (kN : PySem.W.keepIn K (.ref g) = true) (bN : Binds K gd ["thing"] []) (GN : FnOk P w K mg base CX0 1 g gd ["thing"] (spIsName K)) : FnOk P w K mg base CX0 2 f fd ["self", "x"] (spCont K C) := by
  refine F.ok scCont (fun vs H Q E h => ?_) (fun cdv A outer s H vs Q E hr h => ?_)
  · obtain ⟨a, fs, r, x, rfl, _⟩ := h
    rfl
  · obtain ⟨a, fs, r, x, rfl, ⟨dx, t, hs, ht, nm⟩, it, k⟩ := h
    refine ⟨_, pss_one (ps_ret (pe_and (pe_call GN hr rfl gN kN bN .nil pass0 (pa_cons (pv 1) pa_nil)) (pe_one (pe_cmpR op_in_seq (pv 1) (pe_sl (pv 0)) (by rfl))))), ?_⟩
    refine ⟨_, rfl, x, rfl, ?_⟩
    rcases it with ⟨z, rfl, hz⟩ | hn
    · refine .inr ⟨z, rfl, hz, fun H1 s1 => ⟨_, rfl, ?_⟩⟩
      cases e : isName z with
      | true =>
        refine iteT ⟨_, rfl, _, rfl, a, C, dx, p0, _, 0, _, rfl, slt_keep s1 hs, L.c, L.s0, rfl, t, _, rfl, .inr (SqT.of (s1 _ _ ht)), rfl, flat_strs fs, ?_⟩
        show Q (.bl (inV (.str z) (fs.map V.str))) H1
        rw [inV_strs]
        exact k _ s1
      | false =>
        refine iteF ?_
        have q := k _ s1
        rw [show hasNm fs (V.str z) = false from decide_eq_false fun m => by rw [nm z m] at e; cases e] at q
        exact q
    · obtain ⟨ns, nz⟩ := hn H (Same.refl _)
      refine .inl ⟨ns, _, rfl, iteF ?_⟩
      have q := k _ (Same.refl _)
      rw [show hasNm fs x = false from by cases x with | str z => exact absurd rfl (nz z) | _ => rfl] at q
      exact q
end
end Pr

set_option autoImplicit true
set_option Elab.async false
set_option linter.all false
set_option maxRecDepth 100000
set_option maxHeartbeats 1000000
/-! check_more_fields, Layout: +. -/
namespace Pr
open PySem L2 Two ClX SlX
section
variable {P : Program} {w : World} {K : PySem.W.Frag} {mg : Str → Option Value} {base : Heap}
def TwiceS (gs : List Str) (z : Str) : Prop := TwiceK (gs.map Sum.inr) (Sum.inr z)
theorem kV_strs (gs : List Str) : (gs.map Sum.inr : List Key).map kV = gs.map V.str := by rw [List.map_map]; rfl
theorem nodup_inr {gs : List Str} : (gs.map Sum.inr : List Key).Nodup ↔ gs.Nodup := by
  constructor
  · intro h
    induction gs with
    | nil => exact List.nodup_nil
    | cons x gs ih =>
      obtain ⟨h1, h2⟩ := List.nodup_cons.mp h
      exact List.nodup_cons.mpr ⟨fun m => h1 (List.mem_map.mpr ⟨x, m, rfl⟩), ih h2⟩
  · intro h
    induction gs with
    | nil => exact List.nodup_nil
    | cons x gs ih =>
      obtain ⟨h1, h2⟩ := List.nodup_cons.mp h
      refine List.nodup_cons.mpr ⟨fun m => ?_, ih h2⟩
      obtain ⟨y, hy, e⟩ := List.mem_map.mp m
      cases e
      exact h1 hy
theorem all_names {gs : List Str} : (gs.map V.str).all isNm = gs.all isName := by rw [List.all_map]; rfl
/-- what a check of more fields comes to -/
structure MoreEnd (H1 : Hp) (gs : List Str) (Q : VK) (E : XK) (CD CT : Addr) : Prop where
  fit : gs.Nodup → gs.length ≤ 6 → ∀ H2, Same H1 H2 → Q .non H2
  twice : ∀ z, TwiceS gs z → ∀ H2, Same H1 H2 → Thrown H2 E CD [("thing", .str z), ("why", .str "duplicate")]
  many : gs.Nodup → 6 < gs.length → ∀ H2, Same H1 H2 → Thrown H2 E CT [("limit", .int 6), ("why", .str "too many")]
def spMore (K : PySem.W.Frag) (CB CN CD CT : Addr) : Sp := fun vs H Q E => spCkNames K CB CN vs H (fun _ H1 => ∃ (l : Addr) (gs : List Str), Same H H1 ∧ vs = [.ref l] ∧ SqL K H1 l (gs.map V.str) ∧ gs.length ≤ 1000 ∧ MoreEnd H1 gs Q E CD CT) E
theorem scMore : FnScope ["fields"] ["fields"] (defScope sCkMore) := ⟨rfl, rfl, rfl, by decide +kernel, rfl, by decide +kernel, by decide +kernel⟩
theorem twiceK_of : ∀ {ks : List Key}, ¬ ks.Nodup → ∃ k, TwiceK ks k := by
  have key : ∀ (l m : List Key), m.Nodup → ¬ (m ++ l).Nodup → ∃ z, TwiceK (m ++ l) z := by
    intro l
    induction l with
    | nil => intro m h n; rw [List.append_nil] at n; exact absurd h n
    | cons x l ih =>
      intro m h n
      by_cases hx : x ∈ m
      · refine ⟨x, m.length, by rw [List.getElem?_append_right (Nat.le_refl _), Nat.sub_self]; rfl, ?_, ?_⟩
        · rw [List.take_left' rfl]; exact hx
        · rw [List.take_left' rfl]; exact h
      · have e : m ++ x :: l = (m ++ [x]) ++ l := by simp
        rw [e] at n ⊢
        exact ih (m ++ [x]) (List.nodup_append.mpr ⟨h, by simp, fun a ha b hb => by rw [List.mem_singleton.mp hb]; rintro rfl; exact hx ha⟩) n
  exact fun {l} n => by have := key l [] List.nodup_nil (by simpa using n); simpa using this
theorem ok_more {f fN fU CB CN CD CT fI : Addr} {fd fdN fdU dI : FuncData} (F : Fun K "check_more_fields" "check_more_fields" sCkMore f fd) (T : TxtN mg) (TT : ErrTxt P w K mg base "TooMany" "limit" "too many" CT fI dI)
    (gN : mg "check_names" = some (.ref fN)) (kN : PySem.W.keepIn K (.ref fN) = true) (bN : Binds K fdN ["fields"] []) (GN : FnOk P w K mg base (L2.CX P w) 5 fN fdN ["fields"] (spCkNames K CB CN))
    (gU : mg "check_unlike" = some (.ref fU)) (kU : PySem.W.keepIn K (.ref fU) = true) (bU : Binds K fdU ["things"] []) (GU : FnOk P w K mg base (L2.CX P w) 4 fU fdU ["things"] (spCkUnlike K CD)) :
    FnOk P w K mg base (L2.CX P w) 6 f fd ["fields"] (spMore K CB CN CD CT) := by
  refine F.okX scMore (fun vs H Q E h => ?_) (fun cdv A outer s H vs Q E hr h => ?_)
  · obtain ⟨x, rfl, _⟩ := h
    rfl
  · obtain ⟨x, rfl⟩ : ∃ x, vs = [x] := ⟨h.choose, h.choose_spec.1⟩
    obtain ⟨tm, hm⟩ := T.fields
    refine ⟨_, pss_cons (ps_expr (pe_callS GN hr rfl gN kN bN (fun σ => passAt (takes_of rfl rfl rfl rfl) σ) (pa_cons (pv 0) pa_nil)))
      (pss_cons (ps_expr (pe_callS GU (hr.mono (by decide)) rfl gU kU bU (fun σ => passAt (takes_of rfl rfl rfl rfl) σ) (pa_cons (pv 0) pa_nil)))
      (pss_one (ps_if (pt_cmpR op_gt (pe_callB call_len_seq (by rfl) T.len PySem.boot_len (pa_cons (pv 0) pa_nil)) (pe_glob (v := .int 6) rfl hm ⟨_, rfl⟩) (nomark _))
        (pss_one (ps_raise rfl (takes_of rfl rfl rfl rfl) (pmk_oex TT.T TT.iC TT.tI TT.GI (hr.mono (by decide)) TT.bI .nil pass0 rfl TT.gC (pa_cons (pe_glob (v := .int 6) rfl hm ⟨_, rfl⟩) pa_nil)))) pss_nil))), ?_⟩
    refine ⟨_, rfl, ?_⟩
    dsimp only [tNil]
    refine ckNames_mono (fun v H1 q => ?_) h
    obtain ⟨l, gs, s1, ex, hS, hl, M⟩ := q
    obtain rfl : x = .ref l := (List.cons.inj ex).1
    refine ⟨_, rfl, l, gs.map Sum.inr, rfl, by rw [kV_strs]; exact hS, by rw [List.length_map]; exact hl, fun nd H2 s2 => ?_, fun k tw H2 s2 => ?_⟩
    · have nd := nodup_inr.mp nd
      refine ⟨_, rfl, l, _, rfl, .inl (s2.seq hS), _, _, rfl, rfl, _, rfl, ?_⟩
      rw [List.length_map]
      by_cases h6 : 6 < gs.length
      · refine ite_true_of (decide_eq_true (by exact_mod_cast h6)) ?_
        exact mk_err (y := .int 6) TT ⟨rfl, Same.refl _, M.many nd h6 _ s2⟩ fun imp q => imp _ _ q
      · exact ite_false_of (decide_eq_false (by exact_mod_cast h6)) (M.fit nd (by omega) _ s2)
    · have tw0 := tw
      obtain ⟨i, hi, _⟩ := tw
      obtain ⟨z, _, rfl⟩ := get_map hi
      exact M.twice z tw0 _ s2
/-! ### + -/
def spAdd (K : PySem.W.Frag) (C CB CN CD CT : Addr) : Sp := fun vs H Q E => ∃ a fs r x, vs = [.ref a, x] ∧ IsLay K C H a fs r ∧ fs.length ≤ 1000 ∧
  spMore K CB CN CD CT [x] H (fun _ H1 => ∃ (l : Addr) (gs : List Str), Same H H1 ∧ x = .ref l ∧ H1 l = some (.lst (gs.map V.str)) ∧ gs.length ≤ 1000 ∧ (∀ z ∈ gs, isName z = true) ∧ ∀ b H2, Same H1 H2 → IsLay K C H2 b (fs ++ gs) r → Q (.ref b) H2) E
theorem more_mono {CB CN CD CT : Addr} {vs : List V} {H : Hp} {Q Q' : VK} {E : XK} (imp : ∀ v H', Q v H' → Q' v H') (h : spMore K CB CN CD CT vs H Q E) : spMore K CB CN CD CT vs H Q' E :=
  ckNames_mono (fun v H1 ⟨l, gs, s1, e, hS, hl, M⟩ => ⟨l, gs, s1, e, hS, hl, ⟨fun a b H2 s2 => imp _ _ (M.fit a b H2 s2), M.twice, M.many⟩⟩) h
theorem scAdd : FnScope ["self", "other"] ["self", "other"] (defScope mAdd) := ⟨rfl, rfl, rfl, by decide +kernel, rfl, by decide +kernel, by decide +kernel⟩
theorem ok_add {f fM g fI C p0 p1 CB CN CD CT : Addr} {fd fdM gd dI : FuncData} (F : Fun K "__add__" "Layout.__add__" mAdd f fd) (L : LayC K mg C p0 p1)
    (gM : mg "check_more_fields" = some (.ref fM)) (kM : PySem.W.keepIn K (.ref fM) = true) (bM : Binds K fdM ["fields"] []) (GM : FnOk P w K mg base (L2.CX P w) 6 fM fdM ["fields"] (spMore K CB CN CD CT))
    (M : Mk K C fI) (bI : Binds K dI ["self", "fields", "has_room"] []) (GI : FnOk P w K mg base (L2.CX P w) 6 fI dI ["self", "fields", "has_room"] (spLInit K C CB CN))
    (mF : Meth K C "fields" g) (bF : Binds K gd ["self"] []) (GF : FnOk P w K mg base CX0 1 g gd ["self"] (spFields K C)) : FnOk P w K mg base (L2.CX P w) 8 f fd ["self", "other"] (spAdd K C CB CN CD CT) := by
  refine F.okX scAdd (fun vs H Q E h => ?_) (fun cdv A outer s H vs Q E hr h => ?_)
  · obtain ⟨a, fs, r, x, rfl, _⟩ := h
    rfl
  · obtain ⟨a, fs, r, x, rfl, hL, hf, h⟩ := h
    have hr1 : Room 1 _ := hr.mono (by decide)
    refine ⟨_, pss_cons (ps_expr (pe_callS GM (hr.mono (by decide)) rfl gM kM bM (fun σ => passAt (takes_of rfl rfl rfl rfl) σ) (pa_cons (pv 1) pa_nil)))
      (pss_one (ps_ret (pe_make M GI hr (by rfl) L.g bI .nil (passE (E := fun _ _ _ => False) fun _ _ _ z => z) (pa_cons (pe_op op_cat (pe_methSl0 (pv 0) L.c mF (GF.raw bF .nil) hr1 pass0) (pv 1)) (pa_cons (pe_sl (pv 0)) pa_nil))))), ?_⟩
    refine ⟨_, rfl, ?_⟩
    dsimp only [tNil]
    refine more_mono (fun v H1 q => ?_) h
    obtain ⟨l, gs, s1, rfl, hl, hg, ng, k⟩ := q
    obtain ⟨dx, t, hs, ht, nm⟩ := hL.keep s1
    refine ⟨_, rfl, a, dx, _, rfl, hs, a, fs, r, rfl, ⟨dx, t, hs, ht, nm⟩, fun p np => ⟨_, rfl, p, l, _, _, rfl, rfl, upd_same, app hl np, ?_, fun p2 np2 => ?_⟩⟩
    · rw [List.length_map, List.length_map]; exact Nat.le_trans (by omega : _ ≤ 2000) (by decide)
    · have s2 : Same H1 _ := ad (o := .lst (fs.map V.str ++ gs.map V.str)) (same_new (o := .lst (fs.map V.str)) np) np2
      refine ⟨_, rfl, a, C, dx, p1, _, 1, _, rfl, slt_keep s2 hs, L.c, L.s1, rfl, ?_⟩
      exact lay_made (K := K) (fs := fs ++ gs) (SqL.of (by rw [List.map_append]; exact upd_same)) (fun z hz => (List.mem_append.mp hz).elim (nm z) (ng z)) fun b H2 s3 hb => k b H2 (s2.trans s3) hb
end
end Pr

set_option autoImplicit true
set_option Elab.async false
set_option linter.all false
set_option maxRecDepth 100000
set_option maxHeartbeats 1000000
/-! Layout: offset_of, ==, <=, first_difference. -/
namespace Two
open PySem PySem.Spec PyProof.Rows L2
theorem callR_or {X : Cx} {f : Value} {r1 r2 : List V → Hp → VK → Prop} (h1 : CallR X f r1) (h2 : CallR X f r2) : CallR X f (fun xs H Q => r1 xs H Q ∨ r2 xs H Q) := fun pins s σ H xs us Q I r h => h.elim (h1 pins s σ H xs us Q I r) (h2 pins s σ H xs us Q I r)
end Two
namespace Pr
open PySem L2 Two ClX SlX
theorem kit_self {K : PySem.W.Frag} {C : Addr} : PySem.W.kitOne K (.ref C) (.ref C) = some true := by
  unfold PySem.W.kitOne
  simp
section
variable {P : Program} {w : World} {K : PySem.W.Frag} {mg : Str → Option Value} {base : Heap}
/-! ### == -/
def spEq (K : PySem.W.Frag) (C : Addr) : Sp := fun vs H Q _ => ∃ a fs r y, vs = [.ref a, y] ∧ IsLay K C H a fs r ∧
  ((∃ t, TyX K H y t ∧ PySem.W.kitOne K t (.ref C) = some false ∧ Q (.bl false) H) ∨ ∃ b gs r2, y = .ref b ∧ IsLay K C H b gs r2 ∧ Q (.bl (decide (fs = gs) && decide (r = r2))) H)
theorem scEq : FnScope ["self", "other"] ["self", "other"] (defScope mEq) := ⟨rfl, rfl, rfl, by decide +kernel, rfl, by decide +kernel, by decide +kernel⟩
theorem ok_eq {f C p0 p1 : Addr} {fd : FuncData} (F : Fun K "__eq__" "Layout.__eq__" mEq f fd) (T : TxtN mg) (L : LayC K mg C p0 p1) : FnOk P w K mg base CX0 1 f fd ["self", "other"] (spEq K C) := by
  refine F.ok scEq (fun vs H Q E h => ?_) (fun cdv A outer s H vs Q E hr h => ?_)
  · obtain ⟨a, fs, r, y, rfl, _⟩ := h
    rfl
  · obtain ⟨a, fs, r, y, rfl, ⟨dx, t, hs, ht, nm⟩, h⟩ := h
    refine ⟨_, pss_one (ps_ret (pe_and (pe_callB (callR_or call_isi (call_isiSl (.ref C))) (by rfl) T.isinstance (by decide +kernel) (pa_cons (pv 1) (pa_cons (pe_glob (v := .ref C) (by rfl) L.g rfl) pa_nil)))
      (pe_and (pe_cmpR (op_eqD hr.units) (pe_sl (pv 0)) (pe_sl (pv 1)) (nomark _)) (pe_one (pe_cmpR op_eq (pe_sl (pv 0)) (pe_sl (pv 1)) (nomark _)))))), ?_⟩
    rcases h with ⟨ty, hty, kt, q⟩ | ⟨b, gs, r2, rfl, ⟨dy, u, hs2, hu, nm2⟩, q⟩
    · exact ⟨_, rfl, .inl ⟨y, .ref C, ty, .ref C, false, rfl, .own C, hty, kt, _, rfl, iteF q⟩⟩
    · refine ⟨_, rfl, .inr ⟨b, C, dy, _, .ref C, true, rfl, rfl, fun _ e => e, hs2, L.c, L.si, kit_self, _, rfl, iteT ?_⟩⟩
      refine ⟨_, rfl, a, C, dx, p0, _, 0, _, rfl, hs, L.c, L.s0, rfl, _, rfl, b, C, dy, p0, _, 0, _, rfl, hs2, L.c, L.s0, rfl, _, _, dp_strs ht, dp_strs hu, shaped_strs nm, shaped_strs nm2, _, rfl, ?_⟩
      rw [eqv_strs]
      by_cases e : fs = gs
      · refine ite_true_of (decide_eq_true e) ⟨_, rfl, a, C, dx, p1, _, 1, _, rfl, hs, L.c, L.s1, rfl, _, rfl, b, C, dy, p1, _, 1, _, rfl, hs2, L.c, L.s1, rfl, rfl, ?_⟩
        have e2 : decide (V.bl r = V.bl r2) = (decide (fs = gs) && decide (r = r2)) := by
          rw [decide_eq_true e, Bool.true_and]
          by_cases q : r = r2
          · rw [decide_eq_true q, decide_eq_true (by rw [q])]
          · rw [decide_eq_false q, decide_eq_false fun z => q (V.bl.inj z)]
        rw [e2]
        exact q
      · refine ite_false_of (decide_eq_false e) ?_
        rw [decide_eq_false e, Bool.false_and] at q
        exact q
end
end Pr

set_option autoImplicit true
set_option Elab.async false
set_option linter.all false
set_option maxRecDepth 100000
set_option maxHeartbeats 1000000
/-! Shapes: what they hold. check_class, check_bases. -/
namespace Pr
open PySem L2 Two ClX SlX
abbrev sCkClass : Stmt := top 26
abbrev sCkBases : Stmt := top 30
abbrev cShape : Stmt := top 45
/-- a class, as its shape has it -/
structure Cm where
  bases : List Nat
  fields : List Str
  roomy : Bool
  order : List Nat
  line : List Nat
  lay : List Str
  room : Bool
def natV (n : Nat) : V := .int (n : Nat)
def natsV (ns : List Nat) : List V := ns.map natV
/-- the offsets of a class's own fields, from n on -/
def offs : Nat → List Str → List (Key × V)
  | _, [] => []
  | n, z :: zs => (Sum.inr z, natV n) :: offs (n + 1) zs
theorem offs_snoc (z : Str) : ∀ (n : Nat) (xs : List Str), offs n (xs ++ [z]) = offs n xs ++ [(Sum.inr z, natV (n + xs.length))]
  | n, [] => rfl
  | n, x :: xs => by
    show (Sum.inr x, natV n) :: offs (n + 1) (xs ++ [z]) = (Sum.inr x, natV n) :: (offs (n + 1) xs ++ [(Sum.inr z, natV (n + (xs.length + 1)))])
    rw [offs_snoc z (n + 1) xs, show n + 1 + xs.length = n + (xs.length + 1) from by omega]
theorem offs_len : ∀ (n : Nat) (xs : List Str), (offs n xs).length = xs.length
  | _, [] => rfl
  | n, _ :: xs => congrArg Nat.succ (offs_len (n + 1) xs)
theorem offs_none (z : Str) : ∀ (n : Nat) (xs : List Str), z ∉ xs → valV (offs n xs) (Sum.inr z) = none
  | _, [], _ => rfl
  | n, x :: xs, h => by
    have hx : (Sum.inr x : Key) ≠ Sum.inr z := fun e => h (List.mem_cons.mpr (.inl (Sum.inr.inj e).symm))
    have := offs_none z (n + 1) xs fun m => h (List.mem_cons_of_mem _ m)
    unfold valV at this ⊢
    show (List.find? _ ((Sum.inr x, natV n) :: offs (n + 1) xs)).map _ = none
    rw [List.find?_cons_of_neg (by simpa using hx)]
    exact this
/-- a is the shape of m -/
def IsShape (K : PySem.W.Frag) (CL CS : Addr) (H : Hp) (a : Addr) (m : Cm) : Prop := ∃ dx po pl pn pb pf pd, H a = some (.ins CS dx [("_order", .ref po), ("_layout", .ref pl), ("_offsets", .ref pd), ("_line", .ref pn), ("_bases", .ref pb), ("_fields", .ref pf), ("_roomy", .bl m.roomy)]) ∧
  H po = some (.lst (natsV m.order)) ∧ IsLay K CL H pl m.lay m.room ∧ H pn = some (.lst (natsV m.line)) ∧ H pb = some (.lst (natsV m.bases)) ∧ H pf = some (.lst (m.fields.map V.str)) ∧ H pd = some (.dK (offs (m.lay.length - m.fields.length) m.fields))
theorem IsShape.keep {K : PySem.W.Frag} {CL CS : Addr} {H H' : Hp} {a : Addr} {m : Cm} (h : IsShape K CL CS H a m) (s : Same H H') : IsShape K CL CS H' a m :=
  let ⟨dx, po, pl, pn, pb, pf, pd, h1, h2, h3, h4, h5, h6, h7⟩ := h; ⟨dx, po, pl, pn, pb, pf, pd, s _ _ h1, s _ _ h2, h3.keep s, s _ _ h4, s _ _ h5, s _ _ h6, s _ _ h7⟩
/-- the list of the shapes -/
def ShapesAt (K : PySem.W.Frag) (CL CS : Addr) (H : Hp) (S : Addr) (ps : List (Addr × Cm)) : Prop := SqL K H S (ps.map fun p => V.ref p.1) ∧ ∀ p ∈ ps, IsShape K CL CS H p.1 p.2
theorem ShapesAt.keep {K : PySem.W.Frag} {CL CS : Addr} {H H' : Hp} {S : Addr} {ps : List (Addr × Cm)} (h : ShapesAt K CL CS H S ps) (s : Same H H') : ShapesAt K CL CS H' S ps := ⟨s.seq h.1, fun p hp => (h.2 p hp).keep s⟩
/-- what the class Shape says -/
structure ShC (K : PySem.W.Frag) (mg : Str → Option Value) (CS : Addr) : Prop where
  cl : Cls K CS
  g : mg "Shape" = some (.ref CS)
  nO : NoAttr K CS "_order"
  nL : NoAttr K CS "_layout"
  nD : NoAttr K CS "_offsets"
  nN : NoAttr K CS "_line"
  nB : NoAttr K CS "_bases"
  nF : NoAttr K CS "_fields"
  nR : NoAttr K CS "_roomy"
abbrev mShBases : Stmt := within (top 45) 1
abbrev mShFields : Stmt := within (top 45) 2
abbrev mShOrder : Stmt := within (top 45) 5
abbrev mShLine : Stmt := within (top 45) 6
abbrev mShLay : Stmt := within (top 45) 7
section
variable {P : Program} {w : World} {K : PySem.W.Frag} {mg : Str → Option Value} {base : Heap}
/-! ### the methods of a shape that tell a list -/
def spShList (K : PySem.W.Frag) (CL CS : Addr) (f : Cm → List V) : Sp := fun vs H Q _ => ∃ a m, vs = [.ref a] ∧ IsShape K CL CS H a m ∧ ∀ p, H p = none → Q (.ref p) (upd H p (.lst (f m)))
theorem scShBases : FnScope ["self"] ["self"] (defScope mShBases) := ⟨rfl, rfl, rfl, by decide +kernel, rfl, by decide +kernel, by decide +kernel⟩
theorem scShFields : FnScope ["self"] ["self"] (defScope mShFields) := ⟨rfl, rfl, rfl, by decide +kernel, rfl, by decide +kernel, by decide +kernel⟩
theorem scShOrder : FnScope ["self"] ["self"] (defScope mShOrder) := ⟨rfl, rfl, rfl, by decide +kernel, rfl, by decide +kernel, by decide +kernel⟩
theorem scShLine : FnScope ["self"] ["self"] (defScope mShLine) := ⟨rfl, rfl, rfl, by decide +kernel, rfl, by decide +kernel, by decide +kernel⟩
theorem scShLay : FnScope ["self"] ["self"] (defScope mShLay) := ⟨rfl, rfl, rfl, by decide +kernel, rfl, by decide +kernel, by decide +kernel⟩
theorem ok_shBases {f CL CS : Addr} {fd : FuncData} (F : Fun K "bases" "Shape.bases" mShBases f fd) (T : TxtN mg) (S : ShC K mg CS) : FnOk P w K mg base CX0 1 f fd ["self"] (spShList K CL CS fun m => natsV m.bases) := by
  refine F.ok scShBases (fun vs H Q E h => ?_) (fun cdv A outer s H vs Q E hr h => ?_)
  · obtain ⟨a, m, rfl, _⟩ := h
    rfl
  · obtain ⟨a, m, rfl, ⟨dx, po, pl, pn, pb, pf, pd, h1, h2, h3, h4, h5, h6, h7⟩, k⟩ := h
    refine ⟨_, pss_one (ps_ret (pe_callTy call_list_of (by rfl) T.list (by decide +kernel) (pa_cons (pe_fld (pv 0) rfl) pa_nil))), ?_⟩
    exact ⟨_, rfl, a, CS, dx, _, _, rfl, h1, S.cl, S.nB, rfl, pb, _, rfl, .inl (SqL.of h5), fun p np => k p np⟩
theorem ok_shFields {f CL CS : Addr} {fd : FuncData} (F : Fun K "fields" "Shape.fields" mShFields f fd) (T : TxtN mg) (S : ShC K mg CS) : FnOk P w K mg base CX0 1 f fd ["self"] (spShList K CL CS fun m => m.fields.map V.str) := by
  refine F.ok scShFields (fun vs H Q E h => ?_) (fun cdv A outer s H vs Q E hr h => ?_)
  · obtain ⟨a, m, rfl, _⟩ := h
    rfl
  · obtain ⟨a, m, rfl, ⟨dx, po, pl, pn, pb, pf, pd, h1, h2, h3, h4, h5, h6, h7⟩, k⟩ := h
    refine ⟨_, pss_one (ps_ret (pe_callTy call_list_of (by rfl) T.list (by decide +kernel) (pa_cons (pe_fld (pv 0) rfl) pa_nil))), ?_⟩
    exact ⟨_, rfl, a, CS, dx, _, _, rfl, h1, S.cl, S.nF, rfl, pf, _, rfl, .inl (SqL.of h6), fun p np => k p np⟩
theorem ok_shOrder {f CL CS : Addr} {fd : FuncData} (F : Fun K "order" "Shape.order" mShOrder f fd) (T : TxtN mg) (S : ShC K mg CS) : FnOk P w K mg base CX0 1 f fd ["self"] (spShList K CL CS fun m => natsV m.order) := by
  refine F.ok scShOrder (fun vs H Q E h => ?_) (fun cdv A outer s H vs Q E hr h => ?_)
  · obtain ⟨a, m, rfl, _⟩ := h
    rfl
  · obtain ⟨a, m, rfl, ⟨dx, po, pl, pn, pb, pf, pd, h1, h2, h3, h4, h5, h6, h7⟩, k⟩ := h
    refine ⟨_, pss_one (ps_ret (pe_callTy call_list_of (by rfl) T.list (by decide +kernel) (pa_cons (pe_fld (pv 0) rfl) pa_nil))), ?_⟩
    exact ⟨_, rfl, a, CS, dx, _, _, rfl, h1, S.cl, S.nO, rfl, po, _, rfl, .inl (SqL.of h2), fun p np => k p np⟩
theorem ok_shLine {f CL CS : Addr} {fd : FuncData} (F : Fun K "line" "Shape.line" mShLine f fd) (T : TxtN mg) (S : ShC K mg CS) : FnOk P w K mg base CX0 1 f fd ["self"] (spShList K CL CS fun m => natsV m.line) := by
  refine F.ok scShLine (fun vs H Q E h => ?_) (fun cdv A outer s H vs Q E hr h => ?_)
  · obtain ⟨a, m, rfl, _⟩ := h
    rfl
  · obtain ⟨a, m, rfl, ⟨dx, po, pl, pn, pb, pf, pd, h1, h2, h3, h4, h5, h6, h7⟩, k⟩ := h
    refine ⟨_, pss_one (ps_ret (pe_callTy call_list_of (by rfl) T.list (by decide +kernel) (pa_cons (pe_fld (pv 0) rfl) pa_nil))), ?_⟩
    exact ⟨_, rfl, a, CS, dx, _, _, rfl, h1, S.cl, S.nN, rfl, pn, _, rfl, .inl (SqL.of h4), fun p np => k p np⟩
def spShLay (K : PySem.W.Frag) (CL CS : Addr) : Sp := fun vs H Q _ => ∃ a m, vs = [.ref a] ∧ IsShape K CL CS H a m ∧ ∀ b, IsLay K CL H b m.lay m.room → Q (.ref b) H
theorem ok_shLay {f CL CS : Addr} {fd : FuncData} (F : Fun K "layout" "Shape.layout" mShLay f fd) (S : ShC K mg CS) : FnOk P w K mg base CX0 1 f fd ["self"] (spShLay K CL CS) := by
  refine F.ok scShLay (fun vs H Q E h => ?_) (fun cdv A outer s H vs Q E hr h => ?_)
  · obtain ⟨a, m, rfl, _⟩ := h
    rfl
  · obtain ⟨a, m, rfl, ⟨dx, po, pl, pn, pb, pf, pd, h1, h2, h3, h4, h5, h6, h7⟩, k⟩ := h
    refine ⟨_, pss_one (ps_ret (pe_fld (pv 0) rfl)), ?_⟩
    exact ⟨_, rfl, a, CS, dx, _, _, rfl, h1, S.cl, S.nL, rfl, k pl h3⟩
end
end Pr

set_option autoImplicit true
set_option Elab.async false
set_option linter.all false
set_option maxRecDepth 100000
set_option maxHeartbeats 1000000
/-! check_class, check_bases. -/
namespace Pr
open PySem L2 Two ClX SlX
theorem scCkClass : FnScope ["number", "many"] ["number", "many"] (defScope sCkClass) := ⟨rfl, rfl, rfl, by decide +kernel, rfl, by decide +kernel, by decide +kernel⟩
theorem scCkBases : FnScope ["bases", "many", "base"] ["bases", "many"] (defScope sCkBases) := ⟨rfl, rfl, rfl, by decide +kernel, rfl, by decide +kernel, by decide +kernel⟩
section
variable {P : Program} {w : World} {K : PySem.W.Frag} {mg : Str → Option Value} {base : Heap}
/-- x is the number of one of many classes, or NoClass -/
def spCkClass (K : PySem.W.Frag) (CN : Addr) : Sp := fun vs H Q E => ∃ (x : V) (m : Nat), vs = [x, .int m] ∧
  ((NotInt K H x ∧ Thrown H E CN [("number", x), ("why", .str "class")]) ∨ ∃ i : Int, x = .int i ∧ (∀ n : Nat, i = n → n < m → Q .non H) ∧ (¬ (0 ≤ i ∧ i < m) → Thrown H E CN [("number", x), ("why", .str "class")]))
theorem ok_ckClass {f g CN fI : Addr} {fd gd dI : FuncData} (F : Fun K "check_class" "check_class" sCkClass f fd) (TC : ErrTxt P w K mg base "NoClass" "number" "class" CN fI dI)
    (gI : mg "is_int" = some (.ref g)) (kI : PySem.W.keepIn K (.ref g) = true) (bI : Binds K gd ["thing"] []) (GI : FnOk P w K mg base CX0 1 g gd ["thing"] (spIsInt K)) : FnOk P w K mg base (L2.CX P w) 4 f fd ["number", "many"] (spCkClass K CN) := by
  refine F.okX scCkClass (fun vs H Q E h => ?_) (fun cdv A outer s H vs Q E hr h => ?_)
  · obtain ⟨x, m, rfl, _⟩ := h
    rfl
  · obtain ⟨x, m, rfl, h⟩ := h
    have hr1 : Room 1 _ := hr.mono (by decide)
    refine ⟨_, pss_one (ps_if (PW.pt (pw_or (pt_not (pt_val (pe_call GI hr1 rfl gI kI bI .nil pass0 (pa_cons (pv 0) pa_nil))))
        (pw_or1 (pt_not (pt_chain op_le op_lt pe_int (pv 0) (pv 1))))))
        (pss_one (ps_raise rfl (takes_of rfl rfl rfl rfl) (pmk_oex TC.T TC.iC TC.tI TC.GI hr TC.bI .nil pass0 rfl TC.gC (pa_cons (pv 0) pa_nil)))) pss_nil), ?_⟩
    have bad : ∀ {y : V}, Thrown H E CN [("number", y), ("why", .str "class")] → tMkO CN (spInit K ["why", "number"] fun y => [("number", y), ("why", .str "class")]) [] (tCons (tVar 0) tNil) [some y, some (.int m)] H E := fun {y} th => by
      refine mk_err (y := y) TC ⟨_, rfl, rfl, Same.refl _, th⟩ ?_
      rintro A B imp ⟨x, hx, q⟩
      exact ⟨x, hx, imp _ _ q⟩
    rcases h with ⟨⟨ty, b1, b2, hty, k1, k2, e⟩, th⟩ | ⟨i, rfl, ok, out⟩
    · refine ⟨_, rfl, x, ty, b1, b2, rfl, hty, k1, k2, _, rfl, ?_⟩
      rw [e]
      exact iteT (bad th)
    · refine ⟨_, rfl, .int i, .type "int", true, false, rfl, .base (.int i), kit_ty (by decide +kernel), kit_ty (by decide +kernel), _, rfl, iteF ?_⟩
      refine ⟨_, rfl, _, _, rfl, rfl, _, rfl, ?_⟩
      by_cases h0 : 0 ≤ i
      · refine ite_true_of (decide_eq_true h0) ⟨_, rfl, _, _, rfl, rfl, _, rfl, ?_⟩
        by_cases h1 : i < m
        · refine ite_neg_of (decide_eq_true h1) ?_
          obtain ⟨n, rfl⟩ := Int.eq_ofNat_of_zero_le h0
          exact ok n rfl (by omega)
        · exact ite_pos_of (decide_eq_false h1) (bad (out fun q => h1 q.2))
      · exact ite_false_of (decide_eq_false h0) ⟨_, rfl, iteT (bad (out fun q => h0 q.1))⟩
/-! ### check_bases -/
def isCls (m : Nat) : V → Bool
  | .int i => decide (0 ≤ i) && decide (i < m)
  | _ => false
def ItemI (K : PySem.W.Frag) (H : Hp) (y : V) : Prop := (∃ i : Int, y = .int i) ∨ ((∀ i, y ≠ .int i) ∧ ∀ H', Same H H' → NotInt K H' y)
theorem ItemI.keep {K : PySem.W.Frag} {H H' : Hp} {y : V} (i : ItemI K H y) (s : Same H H') : ItemI K H' y := i.imp id fun h => ⟨h.1, fun G g => h.2 G (s.trans g)⟩
theorem cls_nats {m : Nat} : ∀ {xs : List V}, xs.all (isCls m) = true → ∃ ns, xs = natsV ns ∧ ∀ n ∈ ns, n < m
  | [], _ => ⟨[], rfl, fun n h => nomatch h⟩
  | x :: xs, h => by
    rw [List.all_cons, Bool.and_eq_true] at h
    obtain ⟨ns, e, hn⟩ := cls_nats h.2
    cases x with
    | int i =>
      have h1 : (decide (0 ≤ i) && decide (i < (m : Nat))) = true := h.1
      rw [Bool.and_eq_true, decide_eq_true_iff, decide_eq_true_iff] at h1
      obtain ⟨n, rfl⟩ := Int.eq_ofNat_of_zero_le h1.1
      refine ⟨n :: ns, by rw [e]; rfl, fun k hk => ?_⟩
      rcases List.mem_cons.mp hk with rfl | hk
      · omega
      · exact hn k hk
    | _ => exact absurd h.1 (by unfold isCls; exact Bool.false_ne_true)
def keysN (ns : List Nat) : List Key := ns.map fun (n : Nat) => (Sum.inl (n : Int) : Key)
theorem kV_nats (ns : List Nat) : (keysN ns).map kV = natsV ns := by unfold keysN natsV; rw [List.map_map]; rfl
theorem nodup_keysN {ns : List Nat} : (keysN ns).Nodup ↔ ns.Nodup := by
  induction ns with
  | nil => exact ⟨fun _ => List.nodup_nil, fun _ => List.nodup_nil⟩
  | cons n ns ih =>
    show ((Sum.inl (n : Int) : Key) :: keysN ns).Nodup ↔ _
    rw [List.nodup_cons, List.nodup_cons, ih]
    have e : (Sum.inl (n : Int) : Key) ∈ keysN ns ↔ n ∈ ns := by
      unfold keysN
      rw [List.mem_map]
      constructor
      · rintro ⟨k, hk, e⟩
        have : (k : Int) = n := by injection e
        obtain rfl : k = n := by omega
        exact hk
      · exact fun h => ⟨n, h, rfl⟩
    rw [e]
structure BasesEnd (H : Hp) (ns : List Nat) (Q : VK) (E : XK) (CD CT : Addr) : Prop where
  fit : ns.Nodup → ns.length ≤ 5 → ∀ H', Same H H' → Q .non H'
  twice : ∀ k, TwiceK (keysN ns) k → ∀ H', Same H H' → Thrown H' E CD [("thing", kV k), ("why", .str "duplicate")]
  many : ns.Nodup → 5 < ns.length → ∀ H', Same H H' → Thrown H' E CT [("limit", .int 5), ("why", .str "too many")]
def spCkBases (K : PySem.W.Frag) (CB CN CD CT : Addr) : Sp := fun vs H Q E => ∃ (x : V) (m : Nat), vs = [x, .int m] ∧ ((∃ t, TyX K H x t ∧ PySem.W.kitOne K t (.type "list") = some false ∧ Thrown H E CB [("why", .str "bases")]) ∨
  ∃ (a : Addr) (xs : List V), x = .ref a ∧ SqL K H a xs ∧ xs.length ≤ 1000 ∧ (∀ y ∈ xs, ItemI K H y) ∧ (xs = [] → Thrown H E CB [("why", .str "bases")]) ∧
    (∀ i y, xs[i]? = some y → (xs.take i).all (isCls m) = true → isCls m y = false → ∀ H', Same H H' → Thrown H' E CN [("number", y), ("why", .str "class")]) ∧
    ∀ ns, xs = natsV ns → ns ≠ [] → (∀ n ∈ ns, n < m) → BasesEnd H ns Q E CD CT)
theorem isCls_not {m : Nat} {y : V} (h : ∀ i, y ≠ .int i) : isCls m y = false := by
  cases y with
  | int i => exact absurd rfl (h i)
  | _ => rfl
theorem ok_ckBases {f fN fU CB CN CD CT fI fJ : Addr} {fd fdN fdU dI dJ : FuncData} (F : Fun K "check_bases" "check_bases" sCkBases f fd) (T : TxtN mg) (hm : ∃ t, mg "MOST_BASES" = some (.int 5 t)) (TB : BadTxt P w K mg base CB fI dI) (TT : ErrTxt P w K mg base "TooMany" "limit" "too many" CT fJ dJ)
    (gN : mg "check_class" = some (.ref fN)) (kN : PySem.W.keepIn K (.ref fN) = true) (bN : Binds K fdN ["number", "many"] []) (GN : FnOk P w K mg base (L2.CX P w) 4 fN fdN ["number", "many"] (spCkClass K CN))
    (gU : mg "check_unlike" = some (.ref fU)) (kU : PySem.W.keepIn K (.ref fU) = true) (bU : Binds K fdU ["things"] []) (GU : FnOk P w K mg base (L2.CX P w) 4 fU fdU ["things"] (spCkUnlike K CD)) :
    FnOk P w K mg base (L2.CX P w) 5 f fd ["bases", "many"] (spCkBases K CB CN CD CT) := by
  refine F.okX scCkBases (fun vs H Q E h => ?_) (fun cdv A outer s H vs Q E hr h => ?_)
  · obtain ⟨x, m, rfl, _⟩ := h
    rfl
  · obtain ⟨x, m, rfl, h⟩ := h
    obtain ⟨tm, hm⟩ := hm
    refine ⟨_, pss_cons (ps_if (PW.pt (pw_or (pt_not (pt_val (pe_callB call_isi (by rfl) T.isinstance (by decide +kernel) (pa_cons (pv 0) (pa_cons (pe_bltn (v := .ty "list") (by rfl) T.list (by decide +kernel) rfl) pa_nil)))))
        (pw_or1 (pt_cmpR op_eq (pe_callB call_len_seq (by rfl) T.len PySem.boot_len (pa_cons (pv 0) pa_nil)) pe_int (nomark _)))))
        (pss_one (ps_raise rfl (takes_of rfl rfl rfl rfl) (pmk_oex TB.T TB.iC TB.tI TB.GI (hr.mono (by decide)) TB.bI .nil pass0 rfl TB.gC (pa_cons pe_str pa_nil)))) pss_nil)
      (pss_cons (ps_for (passes_of rfl) rfl (pi_list (pv 0)) (pg_name (i := 2) scCkBases.nd rfl (Or.inl rfl))
        (pss_one (ps_expr (pe_callS GN hr rfl gN kN bN (fun σ => passAt (takes_of rfl rfl rfl rfl) σ) (pa_cons (pv 2) (pa_cons (pv 1) pa_nil))))))
      (pss_cons (ps_expr (pe_callS GU hr rfl gU kU bU (fun σ => passAt (takes_of rfl rfl rfl rfl) σ) (pa_cons (pv 0) pa_nil)))
      (pss_one (ps_if (pt_cmpR op_gt (pe_callB call_len_seq (by rfl) T.len PySem.boot_len (pa_cons (pv 0) pa_nil)) (pe_glob (v := .int 5) rfl hm ⟨_, rfl⟩) (nomark _))
        (pss_one (ps_raise rfl (takes_of rfl rfl rfl rfl) (pmk_oex TT.T TT.iC TT.tI TT.GI (hr.mono (by decide)) TT.bI .nil pass0 rfl TT.gC (pa_cons (pe_glob (v := .int 5) rfl hm ⟨_, rfl⟩) pa_nil)))) pss_nil)))), ?_⟩
    rcases h with ⟨t, ty, kt, th⟩ | ⟨a, xs, rfl, hS, hl, it, emp, bad, en⟩
    · refine ⟨_, rfl, x, .ty "list", t, .type "list", false, rfl, .ty _, ty, kt, false, rfl, iteT (iteT ?_)⟩
      exact mk_bad (y := .str "bases") TB ⟨rfl, Same.refl _, th⟩ fun imp q => imp _ _ q
    · refine ⟨_, rfl, _, .ty "list", .type "list", .type "list", true, rfl, .ty _, tyx_list hS, kit_ty (by decide +kernel), true, rfl, iteF ?_⟩
      refine ⟨_, rfl, a, xs, rfl, .inl hS, rfl, _, rfl, ?_⟩
      by_cases e0 : xs = []
      · have e1 : decide (V.int (xs.length : Nat) = V.int 0) = true := by rw [e0]; rfl
        rw [e1]
        refine iteT ?_
        exact mk_bad (y := .str "bases") TB ⟨rfl, Same.refl _, emp e0⟩ fun imp q => imp _ _ q
      · refine ite_false_of (decide_eq_false (by intro q; exact e0 (List.length_eq_zero_iff.mp (by have := V.int.inj q; omega)))) ?_
        refine ⟨_, rfl, a, rfl, ⟨_, hS⟩, for_list (K := K) (a := a) (xs := xs) (fun i σ G => (∃ v : Option V, σ = [some (.ref a), some (.int m), v]) ∧ G = H ∧ (xs.take i).all (isCls m) = true) ⟨⟨_, rfl⟩, rfl, rfl⟩ (fun i σ G _ p => by rw [p.2.1]; exact hS) ?_ ?_⟩
        · rintro i y σ G hy ⟨⟨v, rfl⟩, rfl, al⟩
          refine ⟨_, rfl, _, rfl, y, m, rfl, ?_⟩
          have nx : isCls m y = true → (xs.take (i + 1)).all (isCls m) = true := fun e => by
            rw [take_snoc hy, List.all_append, al]
            simpa using e
          rcases it y (List.mem_of_getElem? hy) with ⟨z, rfl⟩ | ⟨nz, hn⟩
          · refine .inr ⟨z, rfl, fun n e hlt => ⟨⟨_, rfl⟩, rfl, nx ?_⟩, fun out => bad i _ hy al ?_ _ (Same.refl _)⟩
            · subst e
              show (decide ((0 : Int) ≤ (n : Nat)) && decide (((n : Nat) : Int) < (m : Nat))) = true
              rw [decide_eq_true (by omega), decide_eq_true (by omega)]
              rfl
            · cases e : isCls m (.int z) with
              | false => rfl
              | true =>
                replace e : (decide (0 ≤ z) && decide (z < (m : Nat))) = true := e
                rw [Bool.and_eq_true, decide_eq_true_iff, decide_eq_true_iff] at e
                exact absurd e out
          · exact .inl ⟨hn _ (Same.refl _), bad i _ hy al (isCls_not nz) _ (Same.refl _)⟩
        · rintro σ G ⟨⟨v, rfl⟩, rfl, al⟩
          rw [List.take_length] at al
          obtain ⟨ns, rfl, lt⟩ := cls_nats al
          have B := en ns rfl (fun q => e0 (by rw [q]; rfl)) lt
          have hl2 : (natsV ns).length = ns.length := List.length_map _
          refine ⟨_, rfl, a, keysN ns, rfl, by rw [kV_nats]; exact hS, by unfold keysN; rw [List.length_map, ← hl2]; exact hl, fun nd H2 s2 => ?_, fun k tw H2 s2 => B.twice k tw _ s2⟩
          refine ⟨_, rfl, a, _, rfl, .inl (s2.seq hS), _, _, rfl, rfl, _, rfl, ?_⟩
          rw [hl2]
          by_cases h6 : 5 < ns.length
          · refine ite_true_of (decide_eq_true (by exact_mod_cast h6)) ?_
            exact mk_err (y := .int 5) TT ⟨rfl, Same.refl _, B.many (nodup_keysN.mp nd) h6 _ s2⟩ fun imp q => imp _ _ q
          · exact ite_false_of (decide_eq_false (by exact_mod_cast h6)) (B.fit (nodup_keysN.mp nd) (by omega) _ s2)
end
end Pr

set_option autoImplicit true
set_option Elab.async false
set_option linter.all false
set_option maxRecDepth 100000
set_option maxHeartbeats 1000000
/-! _collision_between. -/
namespace Pr
open PySem L2 Two ClX SlX
abbrev sColOf : Stmt := top 46
abbrev sBetween : Stmt := top 47
theorem atN {xs : List V} {i : Nat} {v : V} (h : xs[i]? = some v) : atI xs (i : Nat) = some v := atI_nat h
theorem nats_get {ns : List Nat} {i n : Nat} (h : ns[i]? = some n) : (natsV ns)[i]? = some (V.int (n : Nat)) := by unfold natsV; rw [List.getElem?_map, h]; rfl
theorem flat_nats (ns : List Nat) : (natsV ns).all flatV = true := by
  induction ns with
  | nil => rfl
  | cons n ns ih => exact ih
theorem inV_nats {z : Nat} : ∀ ns : List Nat, inV (.int (z : Nat)) (natsV ns) = decide (z ∈ ns)
  | [] => rfl
  | y :: ns => by
    show (eqV (.int (y : Nat)) (.int (z : Nat)) || inV (.int (z : Nat)) (natsV ns)) = _
    rw [inV_nats ns]
    have e : eqV (.int (y : Nat)) (.int (z : Nat)) = decide ((y : Int) = z) := rfl
    rw [e]
    by_cases h : y = z
    · subst h; simp
    · have h2 : ¬ z = y := fun q => h q.symm
      have h3 : ¬ (y : Int) = z := fun q => h (by omega)
      simp [h2, h3]
/-- t is the collision (owners, offset, names) -/
def IsCol (H : Hp) (t : Addr) (x y off : Nat) (nx ny : Str) : Prop := ∃ o n, H t = some (.tup [.ref o, .int (off : Nat), .ref n]) ∧ H o = some (.tup [.int (x : Nat), .int (y : Nat)]) ∧ H n = some (.tup [.str nx, .str ny])
/-- what two lines come to -/
structure Meet (ms : List Cm) (one other : List Nat) (off : Nat) (nx ny : Str) : Prop where
  x : ∃ x m, one[0]? = some x ∧ ms[x]? = some m ∧ m.lay[off]? = some nx
  y : ∃ y m, other[0]? = some y ∧ ms[y]? = some m ∧ m.lay[off]? = some ny
  c : ∃ c m, (one.filter fun o => decide (o ∈ other))[0]? = some c ∧ ms[c]? = some m ∧ m.lay.length = off
section
variable {P : Program} {w : World} {K : PySem.W.Frag} {mg : Str → Option Value} {base : Heap}
theorem ShapesAt.get {CL CS : Addr} {H : Hp} {S : Addr} {ps : List (Addr × Cm)} (h : ShapesAt K CL CS H S ps) {i : Nat} {m : Cm} (e : (ps.map (·.2))[i]? = some m) : ∃ a, (ps.map fun p => V.ref p.1)[i]? = some (.ref a) ∧ IsShape K CL CS H a m := by
  obtain ⟨p, hp, rfl⟩ := get_map e
  exact ⟨p.1, by rw [List.getElem?_map, hp]; rfl, h.2 p (List.mem_of_getElem? hp)⟩
def spBetween (K : PySem.W.Frag) (CL CS : Addr) : Sp := fun vs H Q _ => ∃ (a b S : Addr) (one other : List Nat) (ps : List (Addr × Cm)) (off : Nat) (nx ny : Str), vs = [.ref a, .ref b, .ref S] ∧ SqL K H a (natsV one) ∧ SqL K H b (natsV other) ∧ ShapesAt K CL CS H S ps ∧
  one.length ≤ 1000 ∧ off ≤ 1000 ∧ Meet (ps.map (·.2)) one other off nx ny ∧ ∀ H' t x y, Same H H' → one[0]? = some x → other[0]? = some y → IsCol H' t x y off nx ny → Q (.ref t) H'
theorem scBetween : FnScope ["one", "other", "shapes", "common", "offset", "owners", "owner"] ["one", "other", "shapes"] (defScope sBetween) := ⟨rfl, rfl, rfl, by decide +kernel, rfl, by decide +kernel, by decide +kernel⟩
/-- what a layout's len and [] are known by -/
structure LayOps (P : Program) (w : World) (K : PySem.W.Frag) (mg : Str → Option Value) (base : Heap) (CL CO fL fG : Addr) (dL dG : FuncData) : Prop where
  sL : PySem.W.findIn K (.ref CL) "__len__" = some (some (.ref fL))
  fnL : PySem.W.isFn K (.ref fL) = true
  bL : Binds K dL ["self"] []
  GL : FnOk P w K mg base CX0 1 fL dL ["self"] (spLen K CL)
  sG : PySem.W.findIn K (.ref CL) "__getitem__" = some (some (.ref fG))
  inG : PySem.W.fnIn K fG = true
  fnG : PySem.W.isFn K (.ref fG) = true
  bG : Binds K dG ["self", "at"] []
  GG : FnOk P w K mg base (L2.CX P w) 4 fG dG ["self", "at"] (spGet K CL CO)
structure ShOps (P : Program) (w : World) (K : PySem.W.Frag) (mg : Str → Option Value) (base : Heap) (CL CS fY : Addr) (dY : FuncData) : Prop where
  C : ShC K mg CS
  mY : Meth K CS "layout" fY
  bY : Binds K dY ["self"] []
  GY : FnOk P w K mg base CX0 1 fY dY ["self"] (spShLay K CL CS)
def tBetEl (K : PySem.W.Frag) (CL CS CO : Addr) : TE := tOp (fun x i H Q => ∃ a dx vs, x = .ref a ∧ Slt H a CL dx vs ∧ spGet K CL CO [x, i] H Q fun _ _ _ => False) (tMeth CS "layout" (spShLay K CL CS) [] (fun _ _ _ => False) (tOp (rIxL K) (tVar 2) (tVar 6)) tNil) (tVar 4)
theorem ok_between {f CL CS CO fL fG fY : Addr} {fd dL dG dY : FuncData} (F : Fun K "_collision_between" "_collision_between" sBetween f fd) (T : TxtN mg) (L : LayOps P w K mg base CL CO fL fG dL dG) (S : ShOps P w K mg base CL CS fY dY) :
    FnOk P w K mg base (L2.CX P w) 6 f fd ["one", "other", "shapes"] (spBetween K CL CS) := by
  refine F.okX scBetween (fun vs H Q E h => ?_) (fun cdv A outer s H vs Q E hr h => ?_)
  · obtain ⟨a, b, S, one, other, ps, off, nx, ny, rfl, _⟩ := h
    rfl
  · obtain ⟨a, b, S0, one, other, ps, off, nx, ny, rfl, h1, h2, hS, l1, lo, M, k⟩ := h
    have hr1 : Room 1 _ := hr.mono (by decide)
    have hr2 : Room 2 _ := hr.mono (by decide)
    have hr5 : Room 5 _ := hr.mono (by decide)
    obtain ⟨⟨x, mx, hx, ex, ox⟩, ⟨y, my, hy, ey, oy⟩, ⟨c, mc, hc', ec, oc⟩⟩ := M
    refine ⟨_, pss_cons (ps_setLc (i := 3) (own := [("owner", 6)]) (g := gName 6) (tt := tTest (tOp (rIn K false) (tVar 6) (tVar 1))) (te := tVar 6) rfl scBetween.nd rfl rfl (sw_true rfl rfl rfl (by decide +kernel)) (pi_list (pv 0)) (blkOk_by (N := ["one", "other", "shapes", "common", "offset", "owners", "owner"]) (sc := defScope sBetween) (by decide +kernel))
          (fun _ _ _ _ _ => pg_name (i := 6) scBetween.nd rfl (Or.inl rfl)) (fun _ _ _ _ _ => pts_one (pt_cmpR op_in_seq (pv 6) (pv 1) (by rfl))) (fun _ _ _ _ _ => pv 6))
      (pss_cons (ps_set (i := 4) scBetween.nd rfl (Or.inr rfl) (pe_callB (call_lenSl (C := CL) L.sL L.fnL (L.GL.raw L.bL .nil) hr2 pass0) (by rfl) T.len PySem.boot_len (pa_cons (pe_meth0 (pe_ix ix_list (pv 2) (pe_ix ix_list (pv 3) pe_int (fun _ _ => rfl)) (fun _ _ => rfl)) S.C.cl S.mY S.GY hr1 S.bY .nil pass0) pa_nil)))
      (pss_cons (ps_set (i := 5) scBetween.nd rfl (Or.inl rfl) (pe_tup (pa_cons (pe_ix ix_list (pv 0) pe_int (fun _ _ => rfl)) (pa_cons (pe_ix ix_list (pv 1) pe_int (fun _ _ => rfl)) pa_nil))))
      (pss_one (ps_ret (pe_tup (pa_cons (pv 5) (pa_cons (pv 4) (pa_cons (pe_callTy call_tuple_of (by rfl) T.tuple (by decide +kernel) (pa_cons
        (pe_lc (own := [("owner", 6)]) (g := gName 6) (tt := tYes) (te := tBetEl K CL CS CO) rfl scBetween.nd (pi_tup (pv 5)) (blkOk_by (N := ["one", "other", "shapes", "common", "offset", "owners", "owner"]) (sc := defScope sBetween) (by decide +kernel))
          (fun _ _ _ _ _ => pg_name (i := 6) scBetween.nd rfl (Or.inl rfl)) (fun _ _ _ _ _ => pts_nil)
          (fun _ _ _ _ _ => pe_subSl (C := CL) (sp := fun vs H Q E => spGet K CL CO (vs ++ []) H Q E) (E := fun _ _ _ => False) (pe_meth0 (pe_ix ix_list (pv 2) (pv 6) (fun _ _ => rfl)) S.C.cl S.mY S.GY hr1 S.bY .nil pass0) (pv 4) (fun _ _ => rfl) L.sG L.inG L.fnG (L.GG.raw L.bG .nil) hr5 (passE fun _ _ _ z => z))) pa_nil)) pa_nil)))))))), ?_⟩
    have c0 : ∀ {xs : List Nat} {z : Nat}, xs[0]? = some z → atI (natsV xs) 0 = some (V.int (z : Nat)) := fun e => atI_nat (j := 0) (nats_get e)
    have read : ∀ {G : Hp} {i : Nat} {m : Cm}, ShapesAt K CL CS G S0 ps → (ps.map (·.2))[i]? = some m → ∃ a, atI (ps.map fun p => V.ref p.1) (i : Nat) = some (.ref a) ∧ IsShape K CL CS G a m := fun h e => by
      obtain ⟨a, h1, h2⟩ := h.get e
      exact ⟨a, atI_nat h1, h2⟩
    refine ⟨_, rfl, a, rfl, ⟨_, h1⟩, fun D hD => lc_selX (K := K) (ps := one) (gv := natV) 6 natV (fun o => decide (o ∈ other)) h1 (small1000 l1) hD (fun _ => rfl) (fun j z G Q1 hz s1 q1 => ?_) (fun j z G Q1 hz _ s1 q1 => ⟨_, rfl, q1 _ (Same.refl _)⟩) fun G1 s1 d1 => ?_⟩
    · refine ⟨_, rfl, _, rfl, b, _, rfl, .inl (s1.seq h2), rfl, flat_nats _, _, rfl, ?_⟩
      have e := inV_nats (z := z) other
      show Q1 (if false = true then !inV (natV z) (natsV other) else inV (natV z) (natsV other)) G
      rw [if_neg Bool.false_ne_true, show inV (natV z) (natsV other) = decide (z ∈ other) from e]
      exact q1 _ (Same.refl _)
    · have hS1 := hS.keep s1
      obtain ⟨ac, ac1, ac2⟩ := read hS1 ec
      have ac3 := ac2
      obtain ⟨dx, po, pl, pn, pb, pf, pd, g1, _⟩ := ac3
      refine ⟨_, rfl, _, rfl, D, _, 0, _, rfl, rfl, SqL.of d1, c0 hc', S0, _, _, _, rfl, rfl, hS1.1, ac1, ac, dx, _, rfl, g1, rfl, ac, mc, rfl, ac2, fun bl hbl => ?_⟩
      obtain ⟨dl, tl, hsl, htl, nml⟩ := hbl
      refine ⟨bl, dl, _, rfl, hsl, bl, _, _, rfl, ⟨dl, tl, hsl, htl, nml⟩, mc.lay.length, rfl, by rw [oc]; omega, ?_⟩
      rw [oc]
      refine ⟨_, rfl, a, _, 0, _, rfl, rfl, s1.seq h1, c0 hx, _, rfl, b, _, 0, _, rfl, rfl, s1.seq h2, c0 hy, by show 2 ≤ sizeLine; decide, fun o no => ?_⟩
      have s2 : Same H (upd G1 o (.tup [.int (x : Nat), .int (y : Nat)])) := same_upd s1 (none_of_same s1 no)
      refine ⟨_, rfl, _, rfl, _, rfl, o, rfl, ⟨_, SqT.of upd_same⟩, fun D2 hD2 => lc_tup (K := K) (a := o) (xs := [.int (x : Nat), .int (y : Nat)]) (fun j G => Same (upd G1 o (.tup [.int (x : Nat), .int (y : Nat)])) G ∧ G D2 = some (.lst ([V.str nx, V.str ny].take j)))
        ⟨same_new hD2, upd_same⟩ (fun j G _ p => SqT.of (p.1 _ _ upd_same)) (fun j z G hz p => ?_) fun G p => ?_⟩
      · have hSG := hS.keep (s2.trans p.1)
        have main : ∀ {i : Nat} {m : Cm} {nm : Str}, z = .int (i : Nat) → (ps.map (·.2))[i]? = some m → m.lay[off]? = some nm → [V.str nx, V.str ny][j]? = some (V.str nm) → tBetEl K CL CS CO [some (.ref a), some (.ref b), some (.ref S0), some (.ref D), some (.int (off : Nat)), some (.ref o), some z] G fun r H4 => ∃ acc, H4 D2 = some (.lst acc) ∧ acc.length < sizeLine ∧ Same (upd G1 o (.tup [.int (x : Nat), .int (y : Nat)])) (upd H4 D2 (.lst (acc ++ [r]))) ∧ (upd H4 D2 (.lst (acc ++ [r]))) D2 = some (.lst ([V.str nx, V.str ny].take (j + 1))) := fun {i m nm} ez em eo en => by
          subst ez
          obtain ⟨am, am1, am2⟩ := read hSG em
          have am3 := am2
          obtain ⟨dx2, po2, pl2, pn2, pb2, pf2, pd2, g2, _⟩ := am3
          refine ⟨_, rfl, _, rfl, S0, _, _, _, rfl, rfl, hSG.1, am1, am, dx2, _, rfl, g2, rfl, am, m, rfl, am2, fun bm hbm => ?_⟩
          have hb2 := hbm
          obtain ⟨dm, tm, hsm, htm, nmm⟩ := hb2
          refine ⟨_, rfl, bm, dm, _, rfl, hsm, bm, m.lay, m.room, _, rfl, hbm, .inr ⟨_, rfl, fun n v en2 ev => ?_, fun out => ?_⟩⟩
          · obtain rfl : off = n := by omega
            obtain rfl : v = nm := by rw [eo] at ev; exact (Option.some.inj ev).symm
            refine ⟨_, p.2, ?_, same_upd p.1 ?_, ?_⟩
            · rw [List.length_take]; exact Nat.lt_of_le_of_lt (Nat.min_le_right _ _) (by show 2 < sizeLine; decide)
            · exact hD2
            · rw [upd_same, take_snoc en]
          · have := (List.getElem?_eq_some_iff.mp eo).1
            exact absurd ⟨by omega, by omega⟩ out
        refine ⟨rfl, ?_⟩
        unfold tYes
        simp only [if_true]
        rcases j with _ | _ | j
        · exact main (Option.some.inj hz).symm ex ox rfl
        · exact main (Option.some.inj hz).symm ey oy rfl
        · cases hz
      · refine ⟨D2, _, rfl, .inl ⟨SqL.of p.2, fun tn ntn => ?_⟩⟩
        refine ⟨by show 3 ≤ sizeLine; decide, fun tt ntt => ?_⟩
        have s3 := s2.trans p.1
        have s4 := same_upd (o := .tup [V.str nx, V.str ny]) s3 (none_of_same s3 ntn)
        refine k _ tt x y (same_upd s4 (none_of_same s4 ntt)) hx hy ⟨o, tn, upd_same, ?_, ?_⟩
        · have oO : G o = some (.tup [.int (x : Nat), .int (y : Nat)]) := p.1 _ _ upd_same
          exact app (app oO ntn) ntt
        · exact app upd_same ntt
end
end Pr

set_option autoImplicit true
set_option Elab.async false
set_option linter.all false
set_option maxRecDepth 100000
set_option maxHeartbeats 1000000
/-! collision_of. -/
namespace Pr
open PySem L2 Two ClX SlX
/-! ### what it finds -/
def lineAt (ms : List Cm) (i : Nat) : List Nat := match ms[i]? with
  | some m => m.line
  | none => []
/-- two lines of which neither begins on the other -/
def apart (one other : List Nat) : Bool := match one[0]?, other[0]? with
  | some x, some y => decide (x ∉ other) && decide (y ∉ one)
  | _, _ => false
def colOf (ms : List Cm) : List Nat → Option (Nat × Nat)
  | [] => none
  | z :: ns => match ns.find? fun y => apart (lineAt ms z) (lineAt ms y) with
    | some y => some (z, y)
    | none => colOf ms ns
structure LinesOk (ms : List Cm) : Prop where
  ne : ∀ m ∈ ms, ∃ o, m.line[0]? = some o
  short : ∀ m ∈ ms, m.line.length ≤ 1000
  meet : ∀ (i j : Nat) (mi mj : Cm), ms[i]? = some mi → ms[j]? = some mj → apart mi.line mj.line = true → ∃ off nx ny, off ≤ 1000 ∧ Meet ms mi.line mj.line off nx ny
section
variable {P : Program} {w : World} {K : PySem.W.Frag} {mg : Str → Option Value} {base : Heap}
def spColOf (K : PySem.W.Frag) (CL CS : Addr) : Sp := fun vs H Q _ => ∃ (a S : Addr) (ns : List Nat) (ps : List (Addr × Cm)), vs = [.ref a, .ref S] ∧ SqL K H a (natsV ns) ∧ ShapesAt K CL CS H S ps ∧ ns.length ≤ 1000 ∧ (∀ n ∈ ns, n < ps.length) ∧ LinesOk (ps.map (·.2)) ∧
  (colOf (ps.map (·.2)) ns = none → ∀ H', Same H H' → Q .non H') ∧
  ∀ i j, colOf (ps.map (·.2)) ns = some (i, j) → ∀ H' t x y off nx ny, Same H H' → (lineAt (ps.map (·.2)) i)[0]? = some x → (lineAt (ps.map (·.2)) j)[0]? = some y → Meet (ps.map (·.2)) (lineAt (ps.map (·.2)) i) (lineAt (ps.map (·.2)) j) off nx ny → IsCol H' t x y off nx ny → Q (.ref t) H'
theorem scColOf : FnScope ["numbers", "shapes", "at", "first", "second", "one", "other"] ["numbers", "shapes"] (defScope sColOf) := ⟨rfl, rfl, rfl, by decide +kernel, rfl, by decide +kernel, by decide +kernel⟩
structure ShLineOps (P : Program) (w : World) (K : PySem.W.Frag) (mg : Str → Option Value) (base : Heap) (CL CS fN : Addr) (dN : FuncData) : Prop where
  C : ShC K mg CS
  m : Meth K CS "line" fN
  b : Binds K dN ["self"] []
  G : FnOk P w K mg base CX0 1 fN dN ["self"] (spShList K CL CS fun m => natsV m.line)
theorem colOf_drop {ms : List Cm} {ns : List Nat} {i z : Nat} (h : ns[i]? = some z) : colOf ms (ns.drop i) = match (ns.drop (i + 1)).find? fun y => apart (lineAt ms z) (lineAt ms y) with
    | some y => some (z, y)
    | none => colOf ms (ns.drop (i + 1)) := by
  have hl := (List.getElem?_eq_some_iff.mp h)
  rw [List.drop_eq_getElem_cons hl.1, hl.2]
  rfl
theorem find_drop {α : Type} {l : List α} {f : α → Bool} {j : Nat} {y : α} (h : l[j]? = some y) (n : f y = false) : (l.drop j).find? f = (l.drop (j + 1)).find? f := by
  have hl := (List.getElem?_eq_some_iff.mp h)
  rw [List.drop_eq_getElem_cons hl.1, hl.2, List.find?_cons_of_neg (by rw [n]; decide)]
theorem find_here {α : Type} {l : List α} {f : α → Bool} {j : Nat} {y : α} (h : l[j]? = some y) (n : f y = true) : (l.drop j).find? f = some y := by
  have hl := (List.getElem?_eq_some_iff.mp h)
  rw [List.drop_eq_getElem_cons hl.1, hl.2, List.find?_cons_of_pos n]
theorem ok_colOf {f CL CS fB fN : Addr} {fd dB dN : FuncData} (F : Fun K "collision_of" "collision_of" sColOf f fd) (T : TxtN mg) (L : ShLineOps P w K mg base CL CS fN dN)
    (gB : mg "_collision_between" = some (.ref fB)) (kB : PySem.W.keepIn K (.ref fB) = true) (bB : Binds K dB ["one", "other", "shapes"] []) (GB : FnOk P w K mg base (L2.CX P w) 6 fB dB ["one", "other", "shapes"] (spBetween K CL CS)) :
    FnOk P w K mg base (L2.CX P w) 7 f fd ["numbers", "shapes"] (spColOf K CL CS) := by
  refine F.okX scColOf (fun vs H Q E h => ?_) (fun cdv A outer s H vs Q E hr h => ?_)
  · obtain ⟨a, S, ns, ps, rfl, _⟩ := h
    rfl
  · obtain ⟨a, S, ns, ps, rfl, hA, hS, few, lt, W, kn, kc⟩ := h
    have hr1 : Room 1 _ := hr.mono (by decide)
    refine ⟨_, pss_cons (ps_for (passes_of rfl) rfl (pi_enum (by rfl) T.enum (pa_cons (pv 0) pa_nil)) (pg_tup rfl (pgs_cons (pg_name (i := 2) scColOf.nd rfl (Or.inl rfl)) (pgs_cons (pg_name (i := 3) scColOf.nd rfl (Or.inl rfl)) pgs_nil)))
        (pss_one (ps_for (passes_of rfl) rfl (pi_list (pe_slice sl_list (pv 0) (po_some (pe_op op_add (pv 2) pe_int)) po_none)) (pg_name (i := 4) scColOf.nd rfl (Or.inl rfl))
          (pss_cons (ps_set (i := 5) scColOf.nd rfl (Or.inl rfl) (pe_meth0 (pe_ix ix_list (pv 1) (pv 3) (fun _ _ => rfl)) L.C.cl L.m L.G hr1 L.b .nil pass0))
          (pss_cons (ps_set (i := 6) scColOf.nd rfl (Or.inl rfl) (pe_meth0 (pe_ix ix_list (pv 1) (pv 4) (fun _ _ => rfl)) L.C.cl L.m L.G hr1 L.b .nil pass0))
          (pss_one (ps_if (PW.pt (pw_and (pt_cmpR op_notIn_seq (pe_ix ix_list (pv 5) pe_int (fun _ _ => rfl)) (pv 6) (by rfl)) (pw_and1 (pt_cmpR op_notIn_seq (pe_ix ix_list (pv 6) pe_int (fun _ _ => rfl)) (pv 5) (by rfl)))))
            (pss_one (ps_ret (pe_call GB hr rfl gB kB bB .nil (passE (E := fun _ _ _ => False) fun _ _ _ z => z) (pa_cons (pv 5) (pa_cons (pv 6) (pa_cons (pv 1) pa_nil)))))) pss_nil)))))))
      (pss_one (ps_ret pe_non)), ?_⟩
    refine ⟨_, rfl, a, _, rfl, hA, ?_⟩
    refine for_it (walk_enum (K := K) (a := a) (xs := natsV ns)) (fun i σ G => (∃ (v2 v3 v4 v5 v6 : Option V), σ = [some (.ref a), some (.ref S), v2, v3, v4, v5, v6]) ∧ Same H G ∧ colOf (ps.map (·.2)) ns = colOf (ps.map (·.2)) (ns.drop i))
      ⟨⟨_, _, _, _, _, rfl⟩, Same.refl _, rfl⟩ (fun i σ G _ p => p.2.1.seq hA) ?_ ?_
    · rintro i x σ G G2 hi ⟨⟨v2, v3, v4, v5, v6, rfl⟩, s1, e⟩ ⟨t, e1, e2, rfl, ht, rfl, he1, he2⟩
      obtain rfl := Option.some.inj he1
      obtain ⟨z, hz, rfl⟩ := get_map he2
      have s2 : Same H (upd G t (.tup [.int (i : Nat), natV z])) := same_upd s1 (none_of_same s1 ht)
      refine ⟨t, _, rfl, SqT.of upd_same, rfl, _, _, rfl, _, _, rfl, rfl, ?_⟩
      have hi2 : i < ns.length := (List.getElem?_eq_some_iff.mp hz).1
      refine ⟨_, rfl, _, rfl, _, _, rfl, rfl, _, rfl, a, _, rfl, s2.seq hA, fun Lp hLp => ?_⟩
      have ecut : cutV (natsV ns) (some ((i : Nat) + 1 : Int)) none = natsV (ns.drop (i + 1)) := by
        have := cut_drop (natsV ns) (i + 1) (by unfold natsV; rw [List.length_map]; omega)
        rw [show ((i : Nat) + 1 : Int) = ((i + 1 : Nat) : Int) from by omega, this]
        unfold natsV
        rw [List.map_drop]
      rw [ecut]
      have s3 : Same H (upd (upd G t (.tup [.int (i : Nat), natV z])) Lp (.lst (natsV (ns.drop (i + 1))))) := same_upd s2 (none_of_same s2 hLp)
      rw [colOf_drop hz] at e
      refine ⟨Lp, rfl, ⟨_, SqL.of upd_same⟩, for_list (K := K) (a := Lp) (xs := natsV (ns.drop (i + 1))) (fun j σ G5 => (∃ (v4 v5 v6 : Option V), σ = [some (.ref a), some (.ref S), some (.int (i : Nat)), some (natV z), v4, v5, v6]) ∧ Same (upd (upd G t (.tup [.int (i : Nat), natV z])) Lp (.lst (natsV (ns.drop (i + 1))))) G5 ∧
          (ns.drop (i + 1)).find? (fun y => apart (lineAt (ps.map (·.2)) z) (lineAt (ps.map (·.2)) y)) = ((ns.drop (i + 1)).drop j).find? (fun y => apart (lineAt (ps.map (·.2)) z) (lineAt (ps.map (·.2)) y)))
        ⟨⟨_, _, _, rfl⟩, Same.refl _, rfl⟩ (fun j σ G _ p => SqL.of (p.2.1 _ _ upd_same)) ?_ ?_⟩
      · rintro j x σ G4 hx ⟨⟨v4, v5, v6, rfl⟩, s4, ef⟩
        obtain ⟨y, hy, rfl⟩ := get_map hx
        have s5 := s3.trans s4
        have hS5 := hS.keep s5
        have zl : z < ps.length := lt z (List.mem_of_getElem? hz)
        have yl : y < ps.length := lt y (List.mem_of_mem_drop (List.mem_of_getElem? hy))
        obtain ⟨mz, emz⟩ : ∃ m, (ps.map (·.2))[z]? = some m := ⟨_, List.getElem?_eq_getElem (by rw [List.length_map]; exact zl)⟩
        obtain ⟨my, emy⟩ : ∃ m, (ps.map (·.2))[y]? = some m := ⟨_, List.getElem?_eq_getElem (by rw [List.length_map]; exact yl)⟩
        have lz : lineAt (ps.map (·.2)) z = mz.line := by unfold lineAt; rw [emz]
        have ly : lineAt (ps.map (·.2)) y = my.line := by unfold lineAt; rw [emy]
        obtain ⟨az, az1, az2⟩ := hS5.get emz
        have shz := az2
        obtain ⟨dz, oz, lz1, nz1, bz, fz, pdx, gz, _⟩ := az2
        refine ⟨_, rfl, _, rfl, S, _, _, _, rfl, rfl, hS5.1, atI_nat az1, az, dz, _, rfl, gz, rfl, az, mz, rfl, shz, fun L1 n1 => ?_⟩
        have s6 := same_upd (o := .lst (natsV mz.line)) s5 (none_of_same s5 n1)
        obtain ⟨ay, ay1, ay2⟩ := (hS.keep s6).get emy
        have shy := ay2
        obtain ⟨dy, oy, ly1, ny1, by1, fy, pdx, gy, _⟩ := ay2
        refine ⟨_, rfl, _, rfl, S, _, _, _, rfl, rfl, (hS.keep s6).1, atI_nat ay1, ay, dy, _, rfl, gy, rfl, ay, my, rfl, shy, fun L2 n2 => ?_⟩
        have s7 := same_upd (o := .lst (natsV my.line)) s6 (none_of_same s6 n2)
        have q1 : (upd (upd G4 L1 (.lst (natsV mz.line))) L2 (.lst (natsV my.line))) L1 = some (.lst (natsV mz.line)) := app upd_same n2
        have q2 : (upd (upd G4 L1 (.lst (natsV mz.line))) L2 (.lst (natsV my.line))) L2 = some (.lst (natsV my.line)) := upd_same
        have s47 : Same G4 (upd (upd G4 L1 (.lst (natsV mz.line))) L2 (.lst (natsV my.line))) := ad (same_new n1) n2
        generalize (upd (upd G4 L1 (.lst (natsV mz.line))) L2 (.lst (natsV my.line))) = G7 at s7 q1 q2 s47 ⊢
        have imz := List.mem_of_getElem? emz
        have imy := List.mem_of_getElem? emy
        obtain ⟨x0, hx0⟩ := W.ne mz imz
        obtain ⟨y0, hy0⟩ := W.ne my imy
        have ap : apart mz.line my.line = (decide (x0 ∉ my.line) && decide (y0 ∉ mz.line)) := by unfold apart; rw [hx0, hy0]
        have c0 : ∀ {xs : List Nat} {z : Nat}, xs[0]? = some z → atI (natsV xs) 0 = some (V.int (z : Nat)) := fun e => atI_nat (j := 0) (nats_get e)
        refine ⟨_, rfl, L1, _, 0, _, rfl, rfl, SqL.of q1, c0 hx0, _, rfl, L2, _, rfl, .inl (SqL.of q2), rfl, flat_nats _, _, rfl, ?_⟩
        rw [if_pos rfl, inV_nats]
        have more : apart mz.line my.line = false → (∃ (v4 v5 v6 : Option V), [some (.ref a), some (.ref S), some (.int (i : Nat)), some (natV z), some (natV y), some (.ref L1), some (.ref L2)] = [some (V.ref a), some (.ref S), some (.int (i : Nat)), some (natV z), v4, v5, v6]) ∧ Same (upd (upd G t (.tup [.int (i : Nat), natV z])) Lp (.lst (natsV (ns.drop (i + 1))))) G7 ∧
          (ns.drop (i + 1)).find? (fun y => apart (lineAt (ps.map (·.2)) z) (lineAt (ps.map (·.2)) y)) = ((ns.drop (i + 1)).drop (j + 1)).find? (fun y => apart (lineAt (ps.map (·.2)) z) (lineAt (ps.map (·.2)) y)) := fun e0 => by
          refine ⟨⟨_, _, _, rfl⟩, s4.trans s47, ?_⟩
          rw [ef]
          exact find_drop hy (by rw [lz, ly]; exact e0)
        by_cases hx1 : x0 ∈ my.line
        · exact ite_neg_of (decide_eq_true hx1) (more (by rw [ap, decide_eq_false (fun h => h hx1)]; rfl))
        · refine ite_pos_of (decide_eq_false hx1) ⟨_, rfl, L2, _, 0, _, rfl, rfl, SqL.of q2, c0 hy0, _, rfl, L1, _, rfl, .inl (SqL.of q1), rfl, flat_nats _, _, rfl, ?_⟩
          rw [if_pos rfl, inV_nats]
          by_cases hy1 : y0 ∈ mz.line
          · exact ite_neg_of (decide_eq_true hy1) (more (by rw [ap, decide_eq_false (fun h : y0 ∉ mz.line => h hy1), Bool.and_false]))
          · have ap1 : apart mz.line my.line = true := by rw [ap, decide_eq_true hx1, decide_eq_true hy1]; rfl
            obtain ⟨off, nx, ny, ho, M⟩ := W.meet z y mz my emz emy ap1
            have ecol : colOf (ps.map (·.2)) ns = some (z, y) := by
              rw [e, ef, find_here hy (by rw [lz, ly]; exact ap1)]
            refine ite_pos_of (decide_eq_false hy1) ⟨_, rfl, _, rfl, _, rfl, L1, L2, S, mz.line, my.line, ps, off, nx, ny, rfl, SqL.of q1, SqL.of q2, hS.keep s7, W.short mz imz, ho, M, fun H' t' x y' sH ex ey col => ?_⟩
            exact kc z y ecol H' t' x y' off nx ny (s7.trans sH) (by rw [lz]; exact ex) (by rw [ly]; exact ey) (by rw [lz, ly]; exact M) col
      · rintro σ G4 ⟨⟨v4, v5, v6, rfl⟩, s4, ef⟩
        refine ⟨⟨_, _, _, _, _, rfl⟩, s3.trans s4, ?_⟩
        have hn : (natsV (ns.drop (i + 1))).length = (ns.drop (i + 1)).length := List.length_map _
        rw [hn, List.drop_length] at ef
        rw [e, ef]
        rfl
    · rintro σ G ⟨⟨v2, v3, v4, v5, v6, rfl⟩, s1, e⟩
      have hn : (natsV ns).length = ns.length := List.length_map _
      rw [hn, List.drop_length] at e
      exact kn e _ s1
end
end Pr

set_option autoImplicit true
set_option Elab.async false
set_option linter.all false
set_option maxRecDepth 100000
set_option maxHeartbeats 1000000
namespace Two
open PySem PySem.Spec PyProof.Rows L2 Pr
section
variable {X : Cx} {e : Expr} {te : TE} {p pos p1 p2 k1 k2 : Pos}
/-- max(e, key=len, default=[]) of a list of lists: the first of the longest, else a new list -/
def rMaxLen (K : PySem.W.Frag) (x : V) (H1 : Hp) (Q : VK) : Prop := ∃ (a : Addr) (ys : List V) (kl : Nat → Nat), x = .ref a ∧ SqL K H1 a ys ∧ (∀ i y, ys[i]? = some y → ∃ q zs, y = .ref q ∧ SqL K H1 q zs ∧ zs.length = kl i) ∧
  ∀ d, H1 d = none → (ys = [] → Q (.ref d) (upd H1 d (.lst []))) ∧ ∀ i y, ys[i]? = some y → (∀ j, j < ys.length → kl j ≤ kl i ∧ (j < i → kl j < kl i)) → Q y (upd H1 d (.lst []))
def tMaxLen (K : PySem.W.Frag) (te : TE) : TE := fun σ H Q => te σ H fun x H1 => rMaxLen K x H1 Q
theorem pe_maxLen (hc : X.calm = true) (hg : Gl X "max") (hm : X.mg "max" = none) (hgl : Gl X "len") (hml : X.mg "len" = none) (ha : PE X e te) (hs : starEach [e] X.env = (false, eval e X.env) :: starEach [] X.env := by rfl)
    (he : backTo pos (starEach [e] X.env) = (false, eval e X.env) :: backTo pos (starEach [] X.env) := by rfl) (hpl : (backTo pos (starEach [e] X.env)).any (·.1) = false := by rfl) :
    PE X (.Call (.Name "max" p) [e] [⟨some "key", .Name "len" p1, k1⟩, ⟨some "default", .List [] p2, k2⟩] pos) (tMaxLen X.K te) := by
  refine ⟨fun pins s σ H Q I h => ?_⟩
  refine wpAny_Call_Name_kw (ld_blt I hg hm (by rfl) ?_ (by decide) (by decide))
  refine PyProof.Rows.callWith_kw (thn ((pa_cons ha pa_nil hs).run pos pins s σ H (fun vs H1 => match vs with | [x] => rMaxLen X.K x H1 Q | _ => False) I h) fun us s1 ⟨vs, H1, I1, r1, q1⟩ => ?_) he hpl rfl rfl
  match vs, q1 with
  | [x], q1 =>
  obtain ⟨a, ys, kl, rfl, hS, each, q⟩ := q1
  obtain rfl := Vals.ref1 r1
  show wpAny _ _ (evalAll [(do let v ← eval (.Name "len" p1) X.env; standAt pos; pure v), (do let v ← eval (.List [] p2) X.env; standAt pos; pure v)]) _ _ s1
  refine wpAny_evalAll_cons (wpAny_bind (ld_blt I1 hgl hml PySem.boot_len (wpAny_bind (wpAny_standAt (wpAny_pure ?_))) (by decide) (by decide)))
  refine wpAny_evalAll_cons (wpAny_bind (thn ((pe_lst pa_nil).run pins s1 σ H1 (fun v H2 => ∃ d, v = .ref d ∧ H1 d = none ∧ H2 = upd H1 d (.lst [])) I1 ⟨Nat.zero_le _, fun d nd => ⟨d, rfl, nd, rfl⟩⟩) fun u s2 ⟨v, H2, I2, r2, d, ev, nd, eH⟩ => wpAny_bind (wpAny_standAt (wpAny_pure ?_))))
  subst ev eH
  obtain rfl : u = Value.ref d := r2
  refine wpAny_evalAll_nil ?_
  obtain ⟨none_, some_⟩ := q d nd
  have sm : Same H1 (upd H1 d (.lst [])) := same_new nd
  obtain ⟨its, rv, hl, hz⟩ := I2.list (sm.seq hS)
  refine Mx.max_len (fun i => (kl i : Int)) (I2.ok.hd hc) hl.isList (fun i x hx g tk kp => ?_) (fun e0 g tk kp => ?_) fun i x g tk hx best kp => ?_
  · obtain ⟨y, hy, ry⟩ : ∃ y, ys[i]? = some y ∧ RelV y x := by
      have hl := (List.getElem?_eq_some_iff.mp hx).1
      have hl2 : i < ys.length := by rw [Vals.length rv]; exact hl
      obtain ⟨u2, h1, h2⟩ := Vals.get rv (List.getElem?_eq_getElem hl2)
      rw [hx] at h1
      cases h1
      exact ⟨_, List.getElem?_eq_getElem hl2, h2⟩
    obtain ⟨qa, zs, rfl, hq, hlen⟩ := each i y hy
    obtain rfl : x = Value.ref qa := ry
    obtain ⟨it2, rv2, hl2, hz2⟩ := I2.list (sm.seq hq)
    have h63 := line63
    have hlen2 := Vals.length rv2
    refine Calls.call_len_list (Mx.isl_keep hl2.isList kp) (by simp only [List.size_toArray] <;> omega) ⟨tk + 1 + 1, tk + 1, ?_, rfl⟩
    rw [List.size_toArray, ← hlen2, hlen]
  · refine ⟨.ref d, _, I2.kept kp, rfl, none_ ?_⟩
    rw [e0] at rv
    cases rv
    rfl
  · obtain ⟨y, hy, ry⟩ : ∃ y, ys[i]? = some y ∧ RelV y x := by
      have hl := (List.getElem?_eq_some_iff.mp hx).1
      have hl2 : i < ys.length := by rw [Vals.length rv]; exact hl
      obtain ⟨u2, h1, h2⟩ := Vals.get rv (List.getElem?_eq_getElem hl2)
      rw [hx] at h1
      cases h1
      exact ⟨_, List.getElem?_eq_getElem hl2, h2⟩
    refine ⟨y, _, I2.kept kp, ry, some_ i y hy fun j hj => ?_⟩
    have := best j (by rw [← Vals.length rv]; exact hj)
    exact ⟨Int.ofNat_le.mp this.1, fun z => Int.ofNat_lt.mp (this.2 z)⟩
end
end Two

set_option autoImplicit true
set_option Elab.async false
set_option linter.all false
set_option maxRecDepth 100000
set_option maxHeartbeats 1000000
/-! Errors of several fields. -/
namespace Pr
open PySem L2 Two ClX SlX
abbrev sColInit : Stmt := within (top 10) 0
abbrev sNoOrdInit : Stmt := within (top 11) 0
abbrev sRoomInit : Stmt := within (top 12) 0
def spInitN (K : PySem.W.Frag) (names : List Str) (n : Nat) (fs : List V → List (Str × V)) : Sp := fun vs H Q _ => ∃ (a C : Addr) (ys : List V), vs = .ref a :: ys ∧ ys.length = n ∧ OexC K C ∧ (∀ f ∈ names, PySem.W.findIn K (.ref C) f = some none) ∧ H a = some (exo a C none) ∧
  ∀ (H' : Hp) (dx : Addr), Made H H' a C dx (fs ys) → Q .non H'
structure ErrTxtN (P : Program) (w : World) (K : PySem.W.Frag) (mg : Str → Option Value) (base : Heap) (x : Str) (ps names : List Str) (fs : List V → List (Str × V)) (C fI : Addr) (dI : FuncData) : Prop where
  gC : mg x = some (.ref C)
  T : OexC K C
  iC : PySem.W.findIn K (.ref C) "__init__" = some (some (.ref fI))
  tI : PySem.W.typeIn K (.ref fI) = some (.type "function")
  bI : Binds K dI ("self" :: ps) []
  GI : FnOk P w K mg base CX0 2 fI dI ("self" :: ps) (spInitN K names ps.length fs)
  nn : ∀ f ∈ names, PySem.W.findIn K (.ref C) f = some none
def fsCol : List V → List (Str × V) | [n, o, f, m] => [("names", m), ("offset", f), ("owners", o), ("number", n), ("why", .str "line")] | _ => []
def fsNoOrd : List V → List (Str × V) | [n, r] => [("ring", r), ("number", n), ("why", .str "order")] | _ => []
def fsRoom : List V → List (Str × V) | [n, b] => [("base", b), ("number", n), ("why", .str "room")] | _ => []
section
variable {P : Program} {w : World} {K : PySem.W.Frag} {mg : Str → Option Value} {base : Heap}
theorem mk_errN {x : Str} {ps names : List Str} {fs : List V → List (Str × V)} {C fI : Addr} {dI : FuncData} {ta : TA} {σ : L2.St} {H : Hp} {E : XK} (T : ErrTxtN P w K mg base x ps names fs C fI dI) {ys : List V} (hl : ys.length = ps.length)
    (h : ta σ H fun vs H1 => vs = ys ∧ Same H H1 ∧ Thrown H1 E C (fs ys)) (hz : ys.length ≤ 1000) (mono : ∀ {A B : List V → Hp → Prop}, (∀ v G, A v G → B v G) → ta σ H A → ta σ H B) : tMkO C (spInitN K names ps.length fs) [] ta σ H E := by
  refine mono (fun vs H1 q => ?_) h
  obtain ⟨rfl, s, th⟩ := q
  refine ⟨hz, fun a ha => ⟨a, C, _, rfl, by rw [List.append_nil]; exact hl, T.T, T.nn, upd_same, fun H' dx m => ⟨rfl, dx, _, m.obj, m.dict, ?_, ?_⟩⟩⟩
  · have := m.new
    rw [upd_ne m.ne] at this
    exact this
  · have n0 : H1 dx = none := by
      have := m.new
      rw [upd_ne m.ne] at this
      exact this
    rw [List.append_nil]
    refine th dx _ (fun b o e => ?_) n0 upd_same
    have b1 : b ≠ a := fun q => by rw [q, ha] at e; cases e
    have b2 : b ≠ dx := fun q => by rw [q, n0] at e; cases e
    rw [upd_ne b2, del_ne b1, m.else_ b b1 b2, upd_ne b1]
    exact e
theorem scRoomInit : FnScope ["self", "number", "base"] ["self", "number", "base"] (defScope sRoomInit) := ⟨rfl, rfl, rfl, by decide +kernel, rfl, by decide +kernel, by decide +kernel⟩
theorem ok_roomInit {f fL cL : Addr} {fd dL : FuncData} {mc : Value} (F : Fun K "__init__" "HasRoom.__init__" sRoomInit f fd) (gL : mg "LineError" = some (.ref cL)) (r : CRead K cL mc) (c : CFn K cL mc "__init__" fL) (bL : Binds K dL ["self", "why"] [])
    (GL : FnOk P w K mg base CX0 1 fL dL ["self", "why"] (spInit K ["why"] fun y => [("why", y)])) : FnOk P w K mg base CX0 2 f fd ["self", "number", "base"] (spInitN K ["why", "number", "base"] 2 fsRoom) := by
  refine F.ok scRoomInit (fun vs H Q E h => ?_) (fun cdv A outer s H vs Q E hr h => ?_)
  · obtain ⟨a, C, ys, rfl, e, _⟩ := h
    show ys.length + 1 = 3
    omega
  · obtain ⟨a, C, ys, rfl, e, T, hn, hH, k⟩ := h
    match ys, e with
    | [y1, y2], _ =>
    refine ⟨_, pss_cons (ps_expr (pe_cfn (pe_glob (v := .ref cL) rfl gL rfl) r c GL hr bL .nil pass0 (pa_cons (pv 0) (pa_cons pe_str pa_nil)))) (pss_cons (ps_ost (pv 0) (pv 1)) (pss_one (ps_ost (pv 0) (pv 2)))), ?_⟩
    refine ⟨rfl, _, rfl, a, C, .str "room", rfl, T, fun g hg => hn g (by rw [List.mem_singleton.mp hg]; exact List.mem_cons_self), hH, fun H' dx m => ?_⟩
    refine ⟨_, rfl, _, rfl, a, C, rfl, T, hn _ (by decide), .inr ⟨dx, _, m.obj, m.dict, by show 1 ≤ 900; decide, ?_⟩⟩
    have e2 : (upd H' dx (exd dx [("number", y1), ("why", .str "room")])) a = some (exo a C (some dx)) := by rw [upd_ne m.ne.symm]; exact m.obj
    refine ⟨_, rfl, _, rfl, a, C, rfl, T, hn _ (by decide), .inr ⟨dx, _, e2, upd_same, by show 2 ≤ 900; decide, k _ dx ⟨by rw [upd_ne m.ne.symm]; exact e2, upd_same, m.new, m.ne, fun b h1 h2 => by rw [upd_ne h2, upd_ne h2]; exact m.else_ b h1 h2⟩⟩⟩
theorem scNoOrdInit : FnScope ["self", "number", "ring"] ["self", "number", "ring"] (defScope sNoOrdInit) := ⟨rfl, rfl, rfl, by decide +kernel, rfl, by decide +kernel, by decide +kernel⟩
theorem ok_noOrdInit {f fL cL : Addr} {fd dL : FuncData} {mc : Value} (F : Fun K "__init__" "NoOrder.__init__" sNoOrdInit f fd) (gL : mg "LineError" = some (.ref cL)) (r : CRead K cL mc) (c : CFn K cL mc "__init__" fL) (bL : Binds K dL ["self", "why"] [])
    (GL : FnOk P w K mg base CX0 1 fL dL ["self", "why"] (spInit K ["why"] fun y => [("why", y)])) : FnOk P w K mg base CX0 2 f fd ["self", "number", "ring"] (spInitN K ["why", "number", "ring"] 2 fsNoOrd) := by
  refine F.ok scNoOrdInit (fun vs H Q E h => ?_) (fun cdv A outer s H vs Q E hr h => ?_)
  · obtain ⟨a, C, ys, rfl, e, _⟩ := h
    show ys.length + 1 = 3
    omega
  · obtain ⟨a, C, ys, rfl, e, T, hn, hH, k⟩ := h
    match ys, e with
    | [y1, y2], _ =>
    refine ⟨_, pss_cons (ps_expr (pe_cfn (pe_glob (v := .ref cL) rfl gL rfl) r c GL hr bL .nil pass0 (pa_cons (pv 0) (pa_cons pe_str pa_nil)))) (pss_cons (ps_ost (pv 0) (pv 1)) (pss_one (ps_ost (pv 0) (pv 2)))), ?_⟩
    refine ⟨rfl, _, rfl, a, C, .str "order", rfl, T, fun g hg => hn g (by rw [List.mem_singleton.mp hg]; exact List.mem_cons_self), hH, fun H' dx m => ?_⟩
    refine ⟨_, rfl, _, rfl, a, C, rfl, T, hn _ (by decide), .inr ⟨dx, _, m.obj, m.dict, by show 1 ≤ 900; decide, ?_⟩⟩
    have e2 : (upd H' dx (exd dx [("number", y1), ("why", .str "order")])) a = some (exo a C (some dx)) := by rw [upd_ne m.ne.symm]; exact m.obj
    refine ⟨_, rfl, _, rfl, a, C, rfl, T, hn _ (by decide), .inr ⟨dx, _, e2, upd_same, by show 2 ≤ 900; decide, k _ dx ⟨by rw [upd_ne m.ne.symm]; exact e2, upd_same, m.new, m.ne, fun b h1 h2 => by rw [upd_ne h2, upd_ne h2]; exact m.else_ b h1 h2⟩⟩⟩
theorem scColInit : FnScope ["self", "number", "owners", "offset", "names"] ["self", "number", "owners", "offset", "names"] (defScope sColInit) := ⟨rfl, rfl, rfl, by decide +kernel, rfl, by decide +kernel, by decide +kernel⟩
theorem ok_colInit {f fL cL : Addr} {fd dL : FuncData} {mc : Value} (F : Fun K "__init__" "Collision.__init__" sColInit f fd) (gL : mg "LineError" = some (.ref cL)) (r : CRead K cL mc) (c : CFn K cL mc "__init__" fL) (bL : Binds K dL ["self", "why"] [])
    (GL : FnOk P w K mg base CX0 1 fL dL ["self", "why"] (spInit K ["why"] fun y => [("why", y)])) : FnOk P w K mg base CX0 2 f fd ["self", "number", "owners", "offset", "names"] (spInitN K ["why", "number", "owners", "offset", "names"] 4 fsCol) := by
  refine F.ok scColInit (fun vs H Q E h => ?_) (fun cdv A outer s H vs Q E hr h => ?_)
  · obtain ⟨a, C, ys, rfl, e, _⟩ := h
    show ys.length + 1 = 5
    omega
  · obtain ⟨a, C, ys, rfl, e, T, hn, hH, k⟩ := h
    match ys, e with
    | [y1, y2, y3, y4], _ =>
    refine ⟨_, pss_cons (ps_expr (pe_cfn (pe_glob (v := .ref cL) rfl gL rfl) r c GL hr bL .nil pass0 (pa_cons (pv 0) (pa_cons pe_str pa_nil)))) (pss_cons (ps_ost (pv 0) (pv 1)) (pss_cons (ps_ost (pv 0) (pv 2)) (pss_cons (ps_ost (pv 0) (pv 3)) (pss_one (ps_ost (pv 0) (pv 4)))))), ?_⟩
    refine ⟨rfl, _, rfl, a, C, .str "line", rfl, T, fun g hg => hn g (by rw [List.mem_singleton.mp hg]; exact List.mem_cons_self), hH, fun H' dx m => ?_⟩
    refine ⟨_, rfl, _, rfl, a, C, rfl, T, hn _ (by decide), .inr ⟨dx, _, m.obj, m.dict, by show 1 ≤ 900; decide, ?_⟩⟩
    have e2 : ∀ fs, (upd H' dx (exd dx fs)) a = some (exo a C (some dx)) := fun fs => by rw [upd_ne m.ne.symm]; exact m.obj
    have e3 : ∀ (G : Hp) fs, G a = some (exo a C (some dx)) → (upd G dx (exd dx fs)) a = some (exo a C (some dx)) := fun G fs g => by rw [upd_ne m.ne.symm]; exact g
    refine ⟨_, rfl, _, rfl, a, C, rfl, T, hn _ (by decide), .inr ⟨dx, _, e2 _, upd_same, by show 2 ≤ 900; decide, ?_⟩⟩
    refine ⟨_, rfl, _, rfl, a, C, rfl, T, hn _ (by decide), .inr ⟨dx, _, e3 _ _ (e2 _), upd_same, by show 3 ≤ 900; decide, ?_⟩⟩
    refine ⟨_, rfl, _, rfl, a, C, rfl, T, hn _ (by decide), .inr ⟨dx, _, e3 _ _ (e3 _ _ (e2 _)), upd_same, by show 4 ≤ 900; decide, k _ dx ⟨e3 _ _ (e3 _ _ (e3 _ _ (e2 _))), upd_same, m.new, m.ne, fun b h1 h2 => by rw [upd_ne h2, upd_ne h2, upd_ne h2, upd_ne h2]; exact m.else_ b h1 h2⟩⟩⟩
end
end Pr

set_option autoImplicit true
set_option Elab.async false
set_option linter.all false
set_option maxRecDepth 100000
set_option maxHeartbeats 1000000
/-! _line_above. -/
namespace Pr
open PySem L2 Two ClX SlX
abbrev sLineAbove : Stmt := top 48
/-- the first of the longest lines of the bases -/
def Above (ms : List Cm) (ns l : List Nat) : Prop := (ns = [] ∧ l = []) ∨ ∃ i z : Nat, ns[i]? = some z ∧ l = lineAt ms z ∧ ∀ j y : Nat, ns[j]? = some y → (lineAt ms y).length ≤ l.length ∧ (j < i → (lineAt ms y).length < l.length)
/-- the error of a collision -/
def ColErr (H : Hp) (E : XK) (CC : Addr) (num x y off : Nat) (nx ny : Str) : Prop := ∀ o n, H o = some (.tup [.int (x : Nat), .int (y : Nat)]) → H n = some (.tup [.str nx, .str ny]) → Thrown H E CC (fsCol [.int (num : Nat), .ref o, .int (off : Nat), .ref n])
section
variable {P : Program} {w : World} {K : PySem.W.Frag} {mg : Str → Option Value} {base : Heap}
def spLineAbove (K : PySem.W.Frag) (CL CS CC : Addr) : Sp := fun vs H Q E => ∃ (num : Nat) (b S : Addr) (ns : List Nat) (ps : List (Addr × Cm)), vs = [.int (num : Nat), .ref b, .ref S] ∧ SqL K H b (natsV ns) ∧ ShapesAt K CL CS H S ps ∧ ns.length ≤ 1000 ∧ (∀ n ∈ ns, n < ps.length) ∧ LinesOk (ps.map (·.2)) ∧
  (colOf (ps.map (·.2)) ns = none → ∀ H' p l, Same H H' → H p = none → H' p = some (.lst (natsV l)) → Above (ps.map (·.2)) ns l → Q (.ref p) H') ∧
  ∀ i j, colOf (ps.map (·.2)) ns = some (i, j) → ∀ H' x y off nx ny, Same H H' → (lineAt (ps.map (·.2)) i)[0]? = some x → (lineAt (ps.map (·.2)) j)[0]? = some y → Meet (ps.map (·.2)) (lineAt (ps.map (·.2)) i) (lineAt (ps.map (·.2)) j) off nx ny → ColErr H' E CC num x y off nx ny
theorem scLineAbove : FnScope ["number", "bases", "shapes", "collision", "owners", "offset", "names", "base"] ["number", "bases", "shapes"] (defScope sLineAbove) := ⟨rfl, rfl, rfl, by decide +kernel, rfl, by decide +kernel, by decide +kernel⟩
def tLineEl (K : PySem.W.Frag) (CL CS : Addr) : TE := tMeth CS "line" (spShList K CL CS fun m => natsV m.line) [] (fun _ _ _ => False) (tOp (rIxL K) (tVar 2) (tVar 7)) tNil
theorem ok_lineAbove {f CL CS CC fB fN fI : Addr} {fd dB dN dI : FuncData} (F : Fun K "_line_above" "_line_above" sLineAbove f fd) (T : TxtN mg) (L : ShLineOps P w K mg base CL CS fN dN)
    (TC : ErrTxtN P w K mg base "Collision" ["number", "owners", "offset", "names"] ["why", "number", "owners", "offset", "names"] fsCol CC fI dI)
    (gB : mg "collision_of" = some (.ref fB)) (kB : PySem.W.keepIn K (.ref fB) = true) (bB : Binds K dB ["numbers", "shapes"] []) (GB : FnOk P w K mg base (L2.CX P w) 7 fB dB ["numbers", "shapes"] (spColOf K CL CS)) :
    FnOk P w K mg base (L2.CX P w) 8 f fd ["number", "bases", "shapes"] (spLineAbove K CL CS CC) := by
  refine F.okX scLineAbove (fun vs H Q E h => ?_) (fun cdv A outer s H vs Q E hr h => ?_)
  · obtain ⟨num, b, S, ns, ps, rfl, _⟩ := h
    rfl
  · obtain ⟨num, b, S, ns, ps, rfl, hB, hS, few, lt, W, kn, kc⟩ := h
    have hr1 : Room 1 _ := hr.mono (by decide)
    refine ⟨_, pss_cons (ps_set (i := 3) scLineAbove.nd rfl (Or.inl rfl) (pe_call GB hr rfl gB kB bB .nil (passE (E := fun _ _ _ => False) fun _ _ _ z => z) (pa_cons (pv 1) (pa_cons (pv 2) pa_nil))))
      (pss_cons (ps_if (pt_cmpR op_notN (pv 3) pe_non (nomark _))
        (pss_cons (ps_asg (pv 3) (pg_tup rfl (pgs_cons (pg_name (i := 4) scLineAbove.nd rfl (Or.inl rfl)) (pgs_cons (pg_name (i := 5) scLineAbove.nd rfl (Or.inl rfl)) (pgs_cons (pg_name (i := 6) scLineAbove.nd rfl (Or.inl rfl)) pgs_nil)))))
          (pss_one (ps_raise rfl (takes_of rfl rfl rfl rfl) (pmk_oex TC.T TC.iC TC.tI TC.GI (hr.mono (by decide)) TC.bI .nil pass0 rfl TC.gC (pa_cons (pv 0) (pa_cons (pv 4) (pa_cons (pv 5) (pa_cons (pv 6) pa_nil)))))))) pss_nil)
      (pss_one (ps_ret (pe_maxLen rfl (by rfl) T.max (by rfl) T.len
        (pe_lc (own := [("base", 7)]) (g := gName 7) (tt := tYes) (te := tLineEl K CL CS) rfl scLineAbove.nd (pi_list (pv 1)) (blkOk_by (N := ["number", "bases", "shapes", "collision", "owners", "offset", "names", "base"]) (sc := defScope sLineAbove) (by decide +kernel))
          (fun _ _ _ _ _ => pg_name (i := 7) scLineAbove.nd rfl (Or.inl rfl)) (fun _ _ _ _ _ => pts_nil) (fun _ _ _ _ _ => pe_meth0 (pe_ix ix_list (pv 2) (pv 7) (fun _ _ => rfl)) L.C.cl L.m L.G hr1 L.b .nil pass0)))))), ?_⟩
    refine ⟨_, rfl, _, rfl, b, S, ns, ps, rfl, hB, hS, few, lt, W, fun e H1 s1 => ?_, fun i j e H1 t x y off nx ny s1 ex ey M col => ?_⟩
    · refine ⟨_, rfl, rfl, _, rfl, iteF ?_⟩
      have hB1 := s1.seq hB
      refine ⟨_, rfl, b, rfl, ⟨_, hB1⟩, fun D hD => lc_list (K := K) (a := b) (xs := natsV ns) (fun j G => ∃ qs : List Addr, Same H1 G ∧ G D = some (.lst (qs.map V.ref)) ∧ qs.length = j ∧ ∀ (i : Nat) (q : Addr), qs[i]? = some q → q ≠ D ∧ H1 q = none ∧ ∃ z, ns[i]? = some z ∧ G q = some (.lst (natsV (lineAt (ps.map (·.2)) z))))
        ⟨[], same_new hD, upd_same, rfl, (fun i q h => by simp at h)⟩ (fun j G _ ⟨_, p, _⟩ => p.seq hB1) (fun j x G hx p => ?_) (fun G p => ?_)⟩
      · obtain ⟨z, hz, rfl⟩ := get_map hx
        obtain ⟨qs, s2, gD, lq, each⟩ := p
        have hSG := hS.keep (s1.trans s2)
        have zl : z < ps.length := lt z (List.mem_of_getElem? hz)
        obtain ⟨mz, emz⟩ : ∃ m, (ps.map (·.2))[z]? = some m := ⟨_, List.getElem?_eq_getElem (by rw [List.length_map]; exact zl)⟩
        have lz : lineAt (ps.map (·.2)) z = mz.line := by unfold lineAt; rw [emz]
        obtain ⟨az, az1, az2⟩ := hSG.get emz
        have shz := az2
        obtain ⟨dz, oz, lz1, nz1, bz, fz, pdx, gz, _⟩ := az2
        have jl : j < ns.length := (List.getElem?_eq_some_iff.mp hz).1
        refine ⟨rfl, ?_⟩
        unfold tYes
        simp only [if_true]
        refine ⟨_, rfl, _, rfl, S, _, _, _, rfl, rfl, hSG.1, atI_nat az1, az, dz, _, rfl, gz, rfl, az, mz, rfl, shz, fun q hq => ⟨qs.map V.ref, by rw [upd_ne (ne_of_none gD hq)]; exact gD, ?_, qs ++ [q], same_upd (same_upd s2 (none_of_same s2 hq)) hD, ?_, ?_, fun i p hp => ?_⟩⟩
        · refine small1000 ?_
          rw [List.length_map]
          omega
        · rw [upd_same, List.map_append]
          rfl
        · rw [List.length_append, lq]
          rfl
        · by_cases e1 : i < qs.length
          · rw [List.getElem?_append_left e1] at hp
            obtain ⟨p1, p2, z1, p3, p4⟩ := each i p hp
            exact ⟨p1, p2, z1, p3, by rw [upd_ne p1, upd_ne (ne_of_none p4 hq)]; exact p4⟩
          · have e2 : i = qs.length := by
              have := (List.getElem?_eq_some_iff.mp hp).1
              rw [List.length_append, List.length_singleton] at this
              omega
            subst e2
            rw [List.getElem?_append_right (Nat.le_refl _), Nat.sub_self] at hp
            obtain rfl : q = p := Option.some.inj hp
            have qD : q ≠ D := (ne_of_none gD hq).symm
            exact ⟨qD, none_of_same s2 hq, z, by rw [lq]; exact hz, by rw [upd_ne qD, upd_same, lz]⟩
      · obtain ⟨qs, s2, gD, lq, each⟩ := p
        have gd : ∀ {i z : Nat}, ns[i]? = some z → ns.getD i 0 = z := fun h => by rw [List.getD_eq_getElem?_getD, h]; rfl
        have ln : (natsV ns).length = ns.length := List.length_map _
        rw [ln] at lq
        refine ⟨D, _, fun i => (lineAt (ps.map (·.2)) (ns.getD i 0)).length, rfl, SqL.of gD, fun i y hy => ?_, fun d nd => ⟨fun e0 => ?_, fun i y hy best => ?_⟩⟩
        · obtain ⟨q, hq, rfl⟩ := get_map hy
          obtain ⟨p1, p2, z1, p3, p4⟩ := each i q hq
          exact ⟨q, _, rfl, SqL.of p4, by show _ = (lineAt (ps.map (·.2)) (ns.getD i 0)).length; rw [gd p3]; exact List.length_map _⟩
        · have e1 : ns = [] := by
            have := List.map_eq_nil_iff.mp e0
            rw [this] at lq
            exact List.length_eq_zero_iff.mp lq.symm
          exact kn e _ d [] (same_upd (s1.trans s2) (none_of_same (s1.trans s2) nd)) (none_of_same (s1.trans s2) nd) upd_same (.inl ⟨e1, rfl⟩)
        · obtain ⟨q, hq, rfl⟩ := get_map hy
          obtain ⟨p1, p2, z1, p3, p4⟩ := each i q hq
          refine kn e _ q (lineAt (ps.map (·.2)) z1) (same_upd (s1.trans s2) (none_of_same (s1.trans s2) nd)) (none_of_same s1 p2) (app p4 nd) (.inr ⟨i, z1, p3, rfl, fun j y hj => ?_⟩)
          have b1 := best j (by rw [List.length_map, lq]; exact (List.getElem?_eq_some_iff.mp hj).1)
          dsimp only at b1
          rw [gd p3, gd hj] at b1
          exact b1
    · refine ⟨_, rfl, rfl, _, rfl, iteT ?_⟩
      obtain ⟨o, n, ht, ho, hn⟩ := col
      refine ⟨_, rfl, t, _, rfl, SqT.of ht, rfl, _, _, rfl, _, _, rfl, _, _, rfl, rfl, ?_⟩
      show tMkO CC _ [] (tCons (tVar 0) (tCons (tVar 4) (tCons (tVar 5) (tCons (tVar 6) tNil)))) _ _ _
      refine mk_errN (ys := [.int (num : Nat), .ref o, .int (off : Nat), .ref n]) TC rfl ?_ (by show 4 ≤ 1000; decide) ?_
      · exact ⟨_, rfl, _, rfl, _, rfl, _, rfl, rfl, Same.refl _, kc i j e H1 x y off nx ny s1 ex ey M o n ho hn⟩
      rintro A B imp ⟨x1, hx1, x2, hx2, x3, hx3, x4, hx4, q⟩
      exact ⟨x1, hx1, x2, hx2, x3, hx3, x4, hx4, imp _ _ q⟩
end
end Pr

set_option autoImplicit true
set_option Elab.async false
set_option linter.all false
set_option maxRecDepth 100000
set_option maxHeartbeats 1000000
/-! _order_above. -/
namespace Pr
open PySem L2 Two ClX SlX
abbrev sOrdAbove : Stmt := top 49
def intsN (ns : List Nat) : List Int := ns.map fun (n : Nat) => (n : Int)
theorem natsV_ints (ns : List Nat) : natsV ns = (intsN ns).map V.int := by unfold natsV intsN; rw [List.map_map]; rfl
theorem nodup_ints {ns : List Nat} (h : ns.Nodup) : (intsN ns).Nodup := by
  unfold intsN
  induction ns with
  | nil => exact List.nodup_nil
  | cons n ns ih =>
    obtain ⟨h1, h2⟩ := List.nodup_cons.mp h
    refine List.nodup_cons.mpr ⟨fun m => h1 ?_, ih h2⟩
    obtain ⟨k, hk, e⟩ := List.mem_map.mp m
    have : k = n := Int.ofNat_inj.mp e
    exact this ▸ hk
def orderAt (ms : List Cm) (i : Nat) : List Nat := match ms[i]? with
  | some m => m.order
  | none => []
/-- what is merged for a class -/
def ordLs (ms : List Cm) (ns : List Nat) : List (List Int) := (ns.map fun z => intsN (orderAt ms z)) ++ [intsN ns]
structure OrdsOk (ms : List Cm) : Prop where
  nd : ∀ m ∈ ms, m.order.Nodup
  short : ∀ m ∈ ms, m.order.length ≤ 30
section
variable {P : Program} {w : World} {K : PySem.W.Frag} {mg : Str → Option Value} {base : Heap}
def spOrdAbove (K : PySem.W.Frag) (CL CS CO : Addr) : Sp := fun vs H Q E => ∃ (num : Nat) (b S : Addr) (ns : List Nat) (ps : List (Addr × Cm)), vs = [.int (num : Nat), .ref b, .ref S] ∧ SqL K H b (natsV ns) ∧ ShapesAt K CL CS H S ps ∧ ns.length ≤ 29 ∧ ns.Nodup ∧ (∀ n ∈ ns, n < ps.length) ∧ OrdsOk (ps.map (·.2)) ∧
  (∀ H' q n, Same H H' → H q = none → (∀ r ∈ (Mg.st (ordLs (ps.map (·.2)) ns) n).2, r = []) → H' q = some (.lst ((Mg.st (ordLs (ps.map (·.2)) ns) n).1.map V.int)) → Q (.ref q) H') ∧
  (∀ H' q n (us : List (Addr × Int × Nat)), Same H H' → Mg.firstFree (Mg.st (ordLs (ps.map (·.2)) ns) n).2 = none → (∃ r ∈ (Mg.st (ordLs (ps.map (·.2)) ns) n).2, r ≠ []) → H' q = some (.lst (tupRefs us)) → TupsAt H' us → Mg.IsRing (ordLs (ps.map (·.2)) ns) (us.map (·.2)) → us.length ≤ 30 → Mg.RingDet (Mg.st (ordLs (ps.map (·.2)) ns) n).2 (us.map (·.2)) →
    Thrown H' E CO (fsNoOrd [.int (num : Nat), .ref q]))
theorem scOrdAbove : FnScope ["number", "bases", "shapes", "word", "merged", "base"] ["number", "bases", "shapes"] (defScope sOrdAbove) := ⟨rfl, rfl, rfl, by decide +kernel, rfl, by decide +kernel, by decide +kernel⟩
structure ShOrdOps (P : Program) (w : World) (K : PySem.W.Frag) (mg : Str → Option Value) (base : Heap) (CL CS fN : Addr) (dN : FuncData) : Prop where
  C : ShC K mg CS
  m : Meth K CS "order" fN
  b : Binds K dN ["self"] []
  G : FnOk P w K mg base CX0 1 fN dN ["self"] (spShList K CL CS fun m => natsV m.order)
def tOrdEl (K : PySem.W.Frag) (CL CS : Addr) : TE := tMeth CS "order" (spShList K CL CS fun m => natsV m.order) [] (fun _ _ _ => False) (tOp (rIxL K) (tVar 2) (tVar 5)) tNil
theorem ok_ordAbove {f CL CS CO CB CT CD fM fN fI : Addr} {fd dM dN dI : FuncData} (F : Fun K "_order_above" "_order_above" sOrdAbove f fd) (T : TxtN mg) (L : ShOrdOps P w K mg base CL CS fN dN)
    (TC : ErrTxtN P w K mg base "NoOrder" ["number", "ring"] ["why", "number", "ring"] fsNoOrd CO fI dI)
    (gM : mg "merge" = some (.ref fM)) (kM : PySem.W.keepIn K (.ref fM) = true) (bM : Binds K dM ["lists"] []) (GM : FnOk P w K mg base (L2.CX P w) 6 fM dM ["lists"] (spMergeX K CB CT CD)) :
    FnOk P w K mg base (L2.CX P w) 7 f fd ["number", "bases", "shapes"] (spOrdAbove K CL CS CO) := by
  refine F.okX scOrdAbove (fun vs H Q E h => ?_) (fun cdv A outer s H vs Q E hr h => ?_)
  · obtain ⟨num, b, S, ns, ps, rfl, _⟩ := h
    rfl
  · obtain ⟨num, b, S, ns, ps, rfl, hB, hS, few, ndn, lt, W, ko, kr⟩ := h
    have hr1 : Room 1 _ := hr.mono (by decide)
    refine ⟨_, pss_cons (ps_asg (pe_call GM hr rfl gM kM bM .nil (passE (E := fun _ _ _ => False) fun _ _ _ z => z) (pa_cons (pe_op op_cat
          (pe_lc (own := [("base", 5)]) (g := gName 5) (tt := tYes) (te := tOrdEl K CL CS) rfl scOrdAbove.nd (pi_list (pv 1)) (blkOk_by (N := ["number", "bases", "shapes", "word", "merged", "base"]) (sc := defScope sOrdAbove) (by decide +kernel))
            (fun _ _ _ _ _ => pg_name (i := 5) scOrdAbove.nd rfl (Or.inl rfl)) (fun _ _ _ _ _ => pts_nil) (fun _ _ _ _ _ => pe_meth0 (pe_ix ix_list (pv 2) (pv 5) (fun _ _ => rfl)) L.C.cl L.m L.G hr1 L.b .nil pass0))
          (pe_lst (pa_cons (pe_callTy call_list_of (by rfl) T.list (by decide +kernel) (pa_cons (pv 1) pa_nil)) pa_nil))) pa_nil))
        (pg_tup rfl (pgs_cons (pg_name (i := 3) scOrdAbove.nd rfl (Or.inl rfl)) (pgs_cons (pg_name (i := 4) scOrdAbove.nd rfl (Or.inl rfl)) pgs_nil))))
      (pss_cons (ps_if (pt_cmpR op_eq (pv 3) pe_str (nomark _)) (pss_one (ps_raise rfl (takes_of rfl rfl rfl rfl) (pmk_oex TC.T TC.iC TC.tI TC.GI (hr.mono (by decide)) TC.bI .nil pass0 rfl TC.gC (pa_cons (pv 0) (pa_cons (pv 4) pa_nil))))) pss_nil)
      (pss_one (ps_ret (pv 4)))), ?_⟩
    refine ⟨_, rfl, b, rfl, ⟨_, hB⟩, fun D hD => lc_list (K := K) (a := b) (xs := natsV ns) (fun j G => ∃ qs : List (Addr × List Int), Same H G ∧ G D = some (.lst (refsOf qs)) ∧ (∀ q ∈ qs, q.1 ≠ D ∧ G q.1 = some (.lst (q.2.map V.int))) ∧ lsOf qs = (ns.take j).map fun z => intsN (orderAt (ps.map (·.2)) z))
        ⟨[], same_new hD, upd_same, (fun q h => nomatch h), rfl⟩ (fun j G _ ⟨_, p, _⟩ => p.seq hB) (fun j x G hx p => ?_) (fun G p => ?_)⟩
    · obtain ⟨z, hz, rfl⟩ := get_map hx
      obtain ⟨qs, s2, gD, each, lq⟩ := p
      have hSG := hS.keep s2
      have zl : z < ps.length := lt z (List.mem_of_getElem? hz)
      obtain ⟨mz, emz⟩ : ∃ m, (ps.map (·.2))[z]? = some m := ⟨_, List.getElem?_eq_getElem (by rw [List.length_map]; exact zl)⟩
      have lz : orderAt (ps.map (·.2)) z = mz.order := by unfold orderAt; rw [emz]
      obtain ⟨az, az1, az2⟩ := hSG.get emz
      have shz := az2
      obtain ⟨dz, oz, lz1, nz1, bz, fz, pdx, gz, _⟩ := az2
      have jl : j < ns.length := (List.getElem?_eq_some_iff.mp hz).1
      refine ⟨rfl, ?_⟩
      unfold tYes
      simp only [if_true]
      refine ⟨_, rfl, _, rfl, S, _, _, _, rfl, rfl, hSG.1, atI_nat az1, az, dz, _, rfl, gz, rfl, az, mz, rfl, shz, fun q hq => ⟨refsOf qs, by rw [upd_ne (ne_of_none gD hq)]; exact gD, ?_, qs ++ [(q, intsN mz.order)], same_upd (same_upd s2 (none_of_same s2 hq)) hD, ?_, fun p hp => ?_, ?_⟩⟩
      · refine small1000 ?_
        have e := congrArg List.length lq
        rw [List.length_map, List.length_map, List.length_take] at e
        rw [List.length_map]
        omega
      · rw [upd_same]
        unfold refsOf
        rw [List.map_append]
        rfl
      · have qD : q ≠ D := (ne_of_none gD hq).symm
        rcases List.mem_append.mp hp with hp | hp
        · obtain ⟨p1, p2⟩ := each p hp
          exact ⟨p1, by rw [upd_ne p1, upd_ne (ne_of_none p2 hq)]; exact p2⟩
        · rw [List.mem_singleton.mp hp]
          exact ⟨qD, by rw [upd_ne qD, upd_same]; exact congrArg (fun l => some (HO.lst l)) (natsV_ints mz.order)⟩
      · unfold lsOf
        rw [List.map_append]
        show lsOf qs ++ [intsN mz.order] = _
        rw [lq, take_snoc hz, List.map_append, ← lz]
        rfl
    · obtain ⟨qs, s2, gD, each, lq⟩ := p
      have ln : (natsV ns).length = ns.length := List.length_map _
      rw [ln, List.take_of_length_le (Nat.le_refl _)] at lq
      have lenq : qs.length = ns.length := by
        have e := congrArg List.length lq
        rw [List.length_map, List.length_map] at e
        exact e
      refine ⟨_, rfl, b, _, rfl, .inl (s2.seq hB), fun q1 nq1 => ⟨by show 1 ≤ sizeLine; decide, fun q2 nq2 => ⟨D, q2, _, _, rfl, rfl, app (app gD nq1) nq2, upd_same, ?_, fun q3 nq3 => ?_⟩⟩⟩
      · show (refsOf qs).length + 1 ≤ sizeLine
        have z : (refsOf qs).length < 1000 := by
          unfold refsOf
          rw [List.length_map]
          omega
        exact small1000 (Nat.le_of_lt_succ (by omega))
      have h1 : (upd (upd (upd G q1 (.lst (natsV ns))) q2 (.lst [.ref q1])) q3 (.lst (refsOf qs ++ [.ref q1]))) q1 = some (.lst (natsV ns)) := app (app upd_same nq2) nq3
      have h3 : (upd (upd (upd G q1 (.lst (natsV ns))) q2 (.lst [.ref q1])) q3 (.lst (refsOf qs ++ [.ref q1]))) q3 = some (.lst (refsOf qs ++ [.ref q1])) := upd_same
      have s3 : Same G (upd (upd (upd G q1 (.lst (natsV ns))) q2 (.lst [.ref q1])) q3 (.lst (refsOf qs ++ [.ref q1]))) := ad (ad (same_new nq1) nq2) nq3
      generalize (upd (upd (upd G q1 (.lst (natsV ns))) q2 (.lst [.ref q1])) q3 (.lst (refsOf qs ++ [.ref q1]))) = G3 at h1 h3 s3 ⊢
      have els : lsOf (qs ++ [(q1, intsN ns)]) = ordLs (ps.map (·.2)) ns := by
        unfold lsOf
        rw [List.map_append]
        show lsOf qs ++ [intsN ns] = _
        rw [lq]
        rfl
      have ordz : ∀ l ∈ lsOf qs, l.Nodup ∧ l.length ≤ 30 := fun l hl => by
        rw [lq] at hl
        obtain ⟨z, hz, rfl⟩ := List.mem_map.mp hl
        have zl := lt z hz
        obtain ⟨m, em⟩ : ∃ m, (ps.map (·.2))[z]? = some m := ⟨_, List.getElem?_eq_getElem (by rw [List.length_map]; exact zl)⟩
        have lz : orderAt (ps.map (·.2)) z = m.order := by unfold orderAt; rw [em]
        rw [lz]
        exact ⟨nodup_ints (W.nd m (List.mem_of_getElem? em)), by unfold intsN; rw [List.length_map]; exact W.short m (List.mem_of_getElem? em)⟩
      have all : ∀ p ∈ qs ++ [(q1, intsN ns)], p.2.Nodup ∧ p.2.length ≤ 30 := fun p hp => by
        rcases List.mem_append.mp hp with hp | hp
        · exact ordz _ (List.mem_map.mpr ⟨p, hp, rfl⟩)
        · rw [List.mem_singleton.mp hp]
          exact ⟨nodup_ints ndn, by show (intsN ns).length ≤ 30; unfold intsN; rw [List.length_map]; omega⟩
      have len30 : (qs ++ [(q1, intsN ns)]).length ≤ 30 := by rw [List.length_append, lenq]; show ns.length + 1 ≤ 30; omega
      have hL : LofL K G3 q3 (qs ++ [(q1, intsN ns)]) := ⟨SqL.of (by rw [h3, List.map_append]; rfl), fun p hp => by
        rcases List.mem_append.mp hp with hp | hp
        · exact SqL.of (s3 _ _ (each p hp).2)
        · rw [List.mem_singleton.mp hp]
          exact SqL.of (by rw [h1, natsV_ints])⟩
      have s03 : Same H G3 := s2.trans s3
      refine ⟨_, rfl, .inr (.inr ⟨q3, _, rfl, hL, Nat.le_trans len30 (by decide), fun p hp => Nat.le_trans (all p hp).2 (by decide), ⟨fun f H1 s4 => ⟨q3, _, rfl, hL.keep s4, f, fun v H2 s5 M => ?_⟩, fun h => ?_, fun _ _ i p z hp _ tw => ?_⟩⟩)⟩
      · rw [els] at M
        have s05 := (s03.trans s4).trans s5
        obtain ⟨t, q, rfl, nt, nq, M⟩ := M
        rcases M with ⟨n, em, ht, hq⟩ | ⟨n, us, ff, ex, ht, hq, tu, ir, lu, rd⟩
        · refine ⟨t, _, rfl, SqT.of ht, rfl, _, _, rfl, _, _, rfl, rfl, ?_⟩
          refine ⟨_, rfl, rfl, _, rfl, ?_⟩
          refine ite_false_of (by decide) ⟨_, rfl, ?_⟩
          exact ko H2 q n s05 (none_of_same (s03.trans s4) nq) em hq
        · refine ⟨t, _, rfl, SqT.of ht, rfl, _, _, rfl, _, _, rfl, rfl, ?_⟩
          refine ⟨_, rfl, rfl, _, rfl, ?_⟩
          refine ite_true_of (by decide) ?_
          show tMkO CO _ [] (tCons (tVar 0) (tCons (tVar 4) tNil)) _ _ _
          refine mk_errN (ys := [.int (num : Nat), .ref q]) TC rfl ?_ (by show 2 ≤ 1000; decide) ?_
          · exact ⟨_, rfl, _, rfl, rfl, Same.refl _, kr H2 q n us s05 ff ex hq tu ir lu rd⟩
          rintro A B imp ⟨x1, hx1, x2, hx2, q⟩
          exact ⟨x1, hx1, x2, hx2, imp _ _ q⟩
      · exfalso
        rcases h with h | ⟨p, hp, h⟩
        · omega
        · have := (all p hp).2
          omega
      · exfalso
        obtain ⟨k, h1, h2, h3⟩ := tw
        have nd := (all p (List.mem_of_getElem? hp)).1
        obtain ⟨hk1, e1⟩ := List.getElem?_eq_some_iff.mp h1
        obtain ⟨k2, hk2, e2⟩ := List.mem_take_iff_getElem.mp h2
        have := (List.getElem_inj nd).mp (e2.trans e1.symm)
        omega
end
end Pr

set_option autoImplicit true
set_option Elab.async false
set_option linter.all false
set_option maxRecDepth 100000
set_option maxHeartbeats 1000000
/-! _check_room, _layout_of. -/
namespace Pr
open PySem L2 Two ClX SlX
abbrev sCkRoom : Stmt := top 50
abbrev sLayOf : Stmt := top 51
def roomAt (ms : List Cm) (i : Nat) : Bool := match ms[i]? with
  | some m => m.room
  | none => false
def layAt (ms : List Cm) (i : Nat) : List Str := match ms[i]? with
  | some m => m.lay
  | none => []
section
variable {P : Program} {w : World} {K : PySem.W.Frag} {mg : Str → Option Value} {base : Heap}
/-- a layout's has_room -/
structure LayHas (P : Program) (w : World) (K : PySem.W.Frag) (mg : Str → Option Value) (base : Heap) (CL p0 p1 fH : Addr) (dH : FuncData) : Prop where
  L : LayC K mg CL p0 p1
  m : Meth K CL "has_room" fH
  b : Binds K dH ["self"] []
  G : FnOk P w K mg base CX0 1 fH dH ["self"] (spHas K CL)
def spCkRoom (K : PySem.W.Frag) (CL CS CR : Addr) : Sp := fun vs H Q E => ∃ (num : Nat) (b S : Addr) (ns : List Nat) (ps : List (Addr × Cm)), vs = [.int (num : Nat), .ref b, .ref S] ∧ SqL K H b (natsV ns) ∧ ShapesAt K CL CS H S ps ∧ (∀ n ∈ ns, n < ps.length) ∧
  ((∀ z ∈ ns, roomAt (ps.map (·.2)) z = false) → Q .non H) ∧ ∀ z, ns.find? (roomAt (ps.map (·.2))) = some z → Thrown H E CR (fsRoom [.int (num : Nat), .int (z : Nat)])
theorem scCkRoom : FnScope ["number", "bases", "shapes", "base"] ["number", "bases", "shapes"] (defScope sCkRoom) := ⟨rfl, rfl, rfl, by decide +kernel, rfl, by decide +kernel, by decide +kernel⟩
theorem ok_ckRoom {f CL CS CR p0 p1 fY fH fI : Addr} {fd dY dH dI : FuncData} (F : Fun K "_check_room" "_check_room" sCkRoom f fd) (S : ShOps P w K mg base CL CS fY dY) (L : LayHas P w K mg base CL p0 p1 fH dH)
    (TC : ErrTxtN P w K mg base "HasRoom" ["number", "base"] ["why", "number", "base"] fsRoom CR fI dI) : FnOk P w K mg base (L2.CX P w) 4 f fd ["number", "bases", "shapes"] (spCkRoom K CL CS CR) := by
  refine F.okX scCkRoom (fun vs H Q E h => ?_) (fun cdv A outer s H vs Q E hr h => ?_)
  · obtain ⟨num, b, S, ns, ps, rfl, _⟩ := h
    rfl
  · obtain ⟨num, b, S0, ns, ps, rfl, hB, hS, lt, ok, bad⟩ := h
    have hr1 : Room 1 _ := hr.mono (by decide)
    refine ⟨_, pss_one (ps_for (passes_of rfl) rfl (pi_list (pv 1)) (pg_name (i := 3) scCkRoom.nd rfl (Or.inl rfl))
      (pss_one (ps_if (pt_val (pe_methSl0 (pe_meth0 (pe_ix ix_list (pv 2) (pv 3) (fun _ _ => rfl)) S.C.cl S.mY S.GY hr1 S.bY .nil pass0) L.L.c L.m (L.G.raw L.b .nil) hr1 pass0))
        (pss_one (ps_raise rfl (takes_of rfl rfl rfl rfl) (pmk_oex TC.T TC.iC TC.tI TC.GI (hr.mono (by decide)) TC.bI .nil pass0 rfl TC.gC (pa_cons (pv 0) (pa_cons (pv 3) pa_nil))))) pss_nil))), ?_⟩
    refine ⟨_, rfl, b, rfl, ⟨_, hB⟩, for_list (K := K) (a := b) (xs := natsV ns) (fun j σ G => (∃ v, σ = [some (.int (num : Nat)), some (.ref b), some (.ref S0), v]) ∧ G = H ∧ ∀ z ∈ ns.take j, roomAt (ps.map (·.2)) z = false)
      ⟨⟨_, rfl⟩, rfl, (fun z h => nomatch h)⟩ (fun j σ G _ p => by rw [p.2.1]; exact hB) ?_ ?_⟩
    · rintro j x σ G hx ⟨⟨v, rfl⟩, rfl, no⟩
      obtain ⟨z, hz, rfl⟩ := get_map hx
      have zl : z < ps.length := lt z (List.mem_of_getElem? hz)
      obtain ⟨mz, emz⟩ : ∃ m, (ps.map (·.2))[z]? = some m := ⟨_, List.getElem?_eq_getElem (by rw [List.length_map]; exact zl)⟩
      have lz : roomAt (ps.map (·.2)) z = mz.room := by unfold roomAt; rw [emz]
      obtain ⟨az, az1, az2⟩ := hS.get emz
      have shz := az2
      obtain ⟨dz, oz, lz1, nz1, bz, fz, pdx, gz, _⟩ := az2
      refine ⟨_, rfl, _, rfl, S0, _, _, _, rfl, rfl, hS.1, atI_nat az1, az, dz, _, rfl, gz, rfl, az, mz, rfl, shz, fun bl hbl => ?_⟩
      have hb2 := hbl
      obtain ⟨dl, tl, hsl, htl, nml⟩ := hb2
      refine ⟨bl, dl, _, rfl, hsl, bl, mz.lay, mz.room, rfl, hbl, _, rfl, ?_⟩
      cases e : mz.room with
      | true =>
        refine iteT ?_
        show tMkO CR _ [] (tCons (tVar 0) (tCons (tVar 3) tNil)) _ _ _
        refine mk_errN (ys := [.int (num : Nat), .int (z : Nat)]) TC rfl ?_ (by show 2 ≤ 1000; decide) ?_
        · refine ⟨_, rfl, _, rfl, rfl, Same.refl _, bad z ?_⟩
          have hl := (List.getElem?_eq_some_iff.mp hz)
          have hl1 := hl.1
          rw [List.find?_eq_some_iff_getElem]
          refine ⟨by rw [lz]; exact e, j, hl.1, hl.2, fun i hi => ?_⟩
          have := no (ns[i]'(by omega)) (by rw [List.mem_take_iff_getElem]; exact ⟨i, by rw [Nat.lt_min]; omega, rfl⟩)
          rw [this]
          rfl
        rintro A B imp ⟨x1, hx1, x2, hx2, q⟩
        exact ⟨x1, hx1, x2, hx2, imp _ _ q⟩
      | false =>
        refine iteF ⟨⟨_, rfl⟩, rfl, fun y hy => ?_⟩
        rw [take_snoc hz] at hy
        rcases List.mem_append.mp hy with hy | hy
        · exact no y hy
        · rw [List.mem_singleton.mp hy, lz]
          exact e
    · rintro σ G ⟨⟨v, rfl⟩, rfl, no⟩
      have ln : (natsV ns).length = ns.length := List.length_map _
      rw [ln, List.take_of_length_le (Nat.le_refl _)] at no
      exact ok no
/-! ### _layout_of -/
/-- what a class's layout is built with -/
structure LayMake (P : Program) (w : World) (K : PySem.W.Frag) (mg : Str → Option Value) (base : Heap) (CL p0 p1 CB CN CD CT fI fA fW : Addr) (dI dA dW : FuncData) : Prop where
  M : Mk K CL fI
  bI : Binds K dI ["self", "fields", "has_room"] [Value.bool false]
  GI : FnOk P w K mg base (L2.CX P w) 6 fI dI ["self", "fields", "has_room"] (spLInit K CL CB CN)
  sf : PySem.W.selfFirst K CL = true
  sA : PySem.W.findIn K (.ref CL) "__add__" = some (some (.ref fA))
  fnA : PySem.W.isFn K (.ref fA) = true
  add : ∃ fo ro, PySem.W.findIn K (.type "list") "__add__" = some fo ∧ PySem.W.findIn K (.type "list") "__radd__" = some ro ∧ ((fo.isSome && !isSeqSlot fo) || (ro.isSome && !isSeqSlot ro)) = false
  bA : Binds K dA ["self", "other"] []
  GA : FnOk P w K mg base (L2.CX P w) 8 fA dA ["self", "other"] (spAdd K CL CB CN CD CT)
  mW : Meth K CL "with_room" fW
  bW : Binds K dW ["self"] []
  GW : FnOk P w K mg base CX0 8 fW dW ["self"] (spWith K CL)
def spLayOf (K : PySem.W.Frag) (CL CS : Addr) : Sp := fun vs H Q _ => ∃ (b fl ab S : Addr) (r : Bool) (ns above : List Nat) (gs : List Str) (ps : List (Addr × Cm)), vs = [.ref b, .ref fl, .bl r, .ref ab, .ref S] ∧ SqL K H b (natsV ns) ∧ H fl = some (.lst (gs.map V.str)) ∧ SqL K H ab (natsV above) ∧ ShapesAt K CL CS H S ps ∧
  ns.length ≤ 1000 ∧ (∀ n ∈ ns, n < ps.length) ∧ (∀ n ∈ above, n < ps.length) ∧ (∀ m ∈ ps.map (·.2), m.lay.length ≤ 1000) ∧ gs.Nodup ∧ gs.length ≤ 6 ∧ (∀ z ∈ gs, isName z = true) ∧ (∀ c, above[0]? = some c → roomAt (ps.map (·.2)) c = true → (r || ns.any (roomAt (ps.map (·.2)))) = true) ∧
  ∀ H' l, Same H H' → IsLay K CL H' l (((above[0]?).map (layAt (ps.map (·.2)))).getD [] ++ gs) (r || ns.any (roomAt (ps.map (·.2)))) → Q (.ref l) H'
theorem scLayOf : FnScope ["bases", "fields", "roomy", "above", "shapes", "layout", "has_room", "more", "base"] ["bases", "fields", "roomy", "above", "shapes"] (defScope sLayOf) := ⟨rfl, rfl, rfl, by decide +kernel, rfl, by decide +kernel, by decide +kernel⟩
def tRoomEl (K : PySem.W.Frag) (CL CS : Addr) : TE := tMethSl CL (fun vs H Q E => spHas K CL (vs ++ []) H Q E) (fun _ _ _ => False) (tMeth CS "layout" (spShLay K CL CS) [] (fun _ _ _ => False) (tOp (rIxL K) (tVar 4) (tVar 8)) tNil) tNil
theorem linit_mono {C CB CN : Addr} {vs : List V} {H : Hp} {Q Q' : VK} {E : XK} (imp : ∀ v H', Q v H' → Q' v H') (h : spLInit K C CB CN vs H Q E) : spLInit K C CB CN vs H Q' E := by
  obtain ⟨a, dx, x, r, e, ha, hdx, ne, h⟩ := h
  exact ⟨a, dx, x, r, e, ha, hdx, ne, ckNames_mono (fun v H1 ⟨l, fs, s, ex, hS, q⟩ => ⟨l, fs, s, ex, hS, q.imp (fun ⟨rb, er, k⟩ => ⟨rb, er, fun t nt => imp _ _ (k t nt)⟩) id⟩) h⟩
theorem no_twice {ks : List Key} (nd : ks.Nodup) {k : Key} (t : TwiceK ks k) : False := by
  obtain ⟨i, h1, h2, _⟩ := t
  obtain ⟨hk1, e1⟩ := List.getElem?_eq_some_iff.mp h1
  obtain ⟨k2, hk2, e2⟩ := List.mem_take_iff_getElem.mp h2
  have := (List.getElem_inj nd).mp (e2.trans e1.symm)
  omega
theorem more_ok {CB CN CD CT l : Addr} {gs : List Str} {H : Hp} {Q : VK} {E : XK} (hS : SqL K H l (gs.map V.str)) (nm : ∀ z ∈ gs, isName z = true) (nd : gs.Nodup) (g6 : gs.length ≤ 6) (k : ∀ H', Same H H' → Q .non H') : spMore K CB CN CD CT [.ref l] H Q E := by
  refine ⟨_, rfl, .inr ⟨l, _, rfl, hS, fun y hy => ?_, fun _ H1 s1 => ⟨l, gs, s1, rfl, s1.seq hS, by omega, ⟨fun _ _ H2 s2 => k H2 (s1.trans s2), fun z tw => (no_twice (nodup_inr.mpr nd) tw).elim, fun _ h => by omega⟩⟩, fun i y hy _ bad => ?_⟩⟩
  · obtain ⟨z, hz, rfl⟩ := List.mem_map.mp hy
    exact .inl ⟨z, rfl, name_len (nm z hz)⟩
  · obtain ⟨z, hz, rfl⟩ := List.mem_map.mp (List.mem_of_getElem? hy)
    rw [show isNm (V.str z) = true from nm z hz] at bad
    cases bad
theorem ok_layOf {f CL CS p0 p1 CB CN CD CT fY fH fI fA fW : Addr} {fd dY dH dI dA dW : FuncData} (F : Fun K "_layout_of" "_layout_of" sLayOf f fd) (T : TxtN mg) (S : ShOps P w K mg base CL CS fY dY) (L : LayHas P w K mg base CL p0 p1 fH dH) (B : LayMake P w K mg base CL p0 p1 CB CN CD CT fI fA fW dI dA dW) :
    FnOk P w K mg base (L2.CX P w) 9 f fd ["bases", "fields", "roomy", "above", "shapes"] (spLayOf K CL CS) := by
  refine F.okX scLayOf (fun vs H Q E h => ?_) (fun cdv A outer s H vs Q E hr h => ?_)
  · obtain ⟨b, fl, ab, S, r, ns, above, gs, ps, rfl, _⟩ := h
    rfl
  · obtain ⟨b, fl, ab, S0, r, ns, above, gs, ps, rfl, hB, hF, hA, hS, few, lt, lta, ll, ndg, g6, nmg, hR, k⟩ := h
    have hr1 : Room 1 _ := hr.mono (by decide)
    obtain ⟨fo, ro, a1, a2, a3⟩ := B.add
    refine ⟨_, pss_cons (ps_set (i := 5) scLayOf.nd rfl (Or.inl rfl) (pe_ifExp (pt_truth (pv 3) (by intro _; rfl)) (pe_meth0 (pe_ix ix_list (pv 4) (pe_ix ix_list (pv 3) pe_int (fun _ _ => rfl)) (fun _ _ => rfl)) S.C.cl S.mY S.GY hr1 S.bY .nil pass0)
          (pe_make B.M B.GI (hr.mono (by decide)) (by rfl) L.L.g B.bI (.cons (show RelV (.bl false) (Value.bool false) from rfl) .nil) (passE (E := fun _ _ _ => False) fun _ _ _ z => z) (pa_cons (pe_lst pa_nil) pa_nil))))
      (pss_cons (ps_set (i := 6) scLayOf.nd rfl (Or.inl rfl) (pe_or (pv 2) (pe_one (pe_callB (cr_any rfl) (by rfl) T.any (by decide +kernel) (pa_cons
          (pe_lc (own := [("base", 8)]) (g := gName 8) (tt := tYes) (te := tRoomEl K CL CS) rfl scLayOf.nd (pi_list (pv 0)) (blkOk_by (N := ["bases", "fields", "roomy", "above", "shapes", "layout", "has_room", "more", "base"]) (sc := defScope sLayOf) (by decide +kernel))
            (fun _ _ _ _ _ => pg_name (i := 8) scLayOf.nd rfl (Or.inl rfl)) (fun _ _ _ _ _ => pts_nil)
            (fun _ _ _ _ _ => pe_methSl0 (pe_meth0 (pe_ix ix_list (pv 4) (pv 8) (fun _ _ => rfl)) S.C.cl S.mY S.GY hr1 S.bY .nil pass0) L.L.c L.m (L.G.raw L.b .nil) hr1 pass0)) pa_nil)))))
      (pss_cons (ps_set (i := 7) scLayOf.nd rfl (Or.inl rfl) (pe_op (op_addSl (C := CL) B.sf B.sA B.fnA a1 a2 a3 (B.GA.raw B.bA .nil) hr (passE (E := fun _ _ _ => False) fun _ _ _ z => z)) (pv 5) (pv 1)))
      (pss_one (ps_ret (pe_ifExp (pt_val (pv 6)) (pe_methSl0 (pv 7) L.L.c B.mW (B.GW.raw B.bW .nil) hr pass0) (pv 7)))))), ?_⟩
    obtain ⟨lay0, e0⟩ : ∃ l, l = ((above[0]?).map (layAt (ps.map (·.2)))).getD [] := ⟨_, rfl⟩
    rw [← e0] at k
    have l0 : lay0.length ≤ 1000 := by
      rw [e0]
      cases h : above[0]? with
      | none => exact Nat.zero_le _
      | some c =>
        show (layAt (ps.map (·.2)) c).length ≤ 1000
        unfold layAt
        cases h2 : (ps.map (·.2))[c]? with
        | none => exact Nat.zero_le _
        | some m => exact ll m (List.mem_of_getElem? h2)
    have c0 : ∀ {xs : List Nat} {z : Nat}, xs[0]? = some z → atI (natsV xs) 0 = some (V.int (z : Nat)) := fun e => atI_nat (j := 0) (nats_get e)
    rcases above with _ | ⟨c, cs⟩
    refine ⟨_, rfl, false, .inl ⟨_, hA, rfl⟩, iteF ⟨Nat.zero_le _, fun q nq => ?_⟩⟩
    dsimp only [tNil, List.singleton_append]
    refine fun la dx n1 n2 ne => linit_mono ?_ (lay_made (K := K) (fs := []) (rb := false) (Q := fun v H2 => ∃ l2, v = .ref l2 ∧ Same (upd H q (.lst [])) H2 ∧ IsLay K CL H2 l2 [] false) (SqL.of upd_same) (fun z h => nomatch h) (fun a H2 s2 hb => ⟨a, rfl, s2, hb⟩) la dx n1 n2 ne)
    rintro v H1 ⟨ev, l2, el, s1, hl⟩
    obtain rfl : la = l2 := by injection el
    refine ⟨ev, ?_⟩
    have e1 : lay0 = [] := e0
    obtain ⟨r0, hl, h0⟩ : ∃ r0, IsLay K CL H1 la lay0 r0 ∧ (r0 = true → (r || ns.any (roomAt (ps.map (·.2)))) = true) := ⟨false, by rw [e1]; exact hl, fun z => absurd z (by decide)⟩
    replace s1 : Same H H1 := (same_new nq).trans s1
    rotate_left
    have cl : c < ps.length := lta c List.mem_cons_self
    obtain ⟨mc, emc⟩ : ∃ m, (ps.map (·.2))[c]? = some m := ⟨_, List.getElem?_eq_getElem (by rw [List.length_map]; exact cl)⟩
    obtain ⟨az, az1, az2⟩ := hS.get emc
    have shz := az2
    obtain ⟨dz, oz, lz1, nz1, bz, fz, pdx, gz, _⟩ := az2
    refine ⟨_, rfl, true, .inl ⟨_, hA, rfl⟩, iteT ?_⟩
    refine ⟨_, rfl, _, rfl, ab, _, 0, _, rfl, rfl, hA, c0 (xs := c :: cs) rfl, S0, _, _, _, rfl, rfl, hS.1, atI_nat az1, az, dz, _, rfl, gz, rfl, az, mc, rfl, shz, fun la hl => ?_⟩
    obtain ⟨H1, eH⟩ : ∃ H1, H1 = H := ⟨_, rfl⟩
    have s1 : Same H H1 := by rw [eH]; exact Same.refl _
    obtain ⟨r0, hl, h0⟩ : ∃ r0, IsLay K CL H1 la lay0 r0 ∧ (r0 = true → (r || ns.any (roomAt (ps.map (·.2)))) = true) := ⟨mc.room, by rw [eH, e0]; show IsLay K CL H la (layAt (ps.map (·.2)) c) mc.room; unfold layAt; rw [emc]; exact hl, fun z => hR c rfl (by unfold roomAt; rw [emc]; exact z)⟩
    rw [← eH]
    all_goals
      refine ⟨_, rfl, r, rfl, ?_⟩
      cases r
      refine iteF ⟨_, rfl, b, rfl, ⟨_, s1.seq hB⟩, fun D hD => lc_selX (K := K) (ps := ns) (gv := natV) 8 (fun z => V.bl (roomAt (ps.map (·.2)) z)) (fun _ => true) (s1.seq hB) (small1000 few) hD (fun _ => rfl) (fun j x G Q1 hx s2 q1 => q1 _ (Same.refl _)) (fun j x G Q1 hx _ s2 q1 => ?_) fun H2 s2 d2 => ?_⟩
      obtain ⟨mz, emz⟩ : ∃ m, (ps.map (·.2))[x]? = some m := ⟨_, List.getElem?_eq_getElem (by rw [List.length_map]; exact lt x (List.mem_of_getElem? hx))⟩
      have hSG := hS.keep (s1.trans s2)
      obtain ⟨az, az1, az2⟩ := hSG.get emz
      have shz := az2
      obtain ⟨dz, oz, lz1, nz1, bz, fz, pdx, gz, _⟩ := az2
      have er : roomAt (ps.map (·.2)) x = mz.room := by unfold roomAt; rw [emz]
      rw [er] at q1
      refine ⟨_, rfl, _, rfl, S0, _, _, _, rfl, rfl, hSG.1, atI_nat az1, az, dz, _, rfl, gz, rfl, az, mz, rfl, shz, fun bl hbl => ?_⟩
      have hb2 := hbl
      obtain ⟨dl, tl, hsl, htl, nml⟩ := hb2
      exact ⟨bl, dl, _, rfl, hsl, bl, mz.lay, mz.room, rfl, hbl, q1 _ (Same.refl _)⟩
      have ef : (ns.filter fun _ => true) = ns := List.filter_eq_self.mpr fun _ _ => rfl
      rw [ef] at d2
      refine ⟨D, ns.map (roomAt (ps.map (·.2))), rfl, SqL.of (by rw [d2, List.map_map]; rfl), ?_⟩
      have ea : (ns.map (roomAt (ps.map (·.2)))).any id = ns.any (roomAt (ps.map (·.2))) := by rw [List.any_map]; rfl
      rw [ea]
      obtain ⟨hr2, eh⟩ : ∃ hr2, hr2 = ns.any (roomAt (ps.map (·.2))) := ⟨_, rfl⟩
      rw [← eh]
      rw [← eh, Bool.false_or] at k h0
      replace hl := hl.keep s2
      replace s2 := s1.trans s2
      rotate_left
      refine iteT ?_
      obtain ⟨H2, eH2⟩ : ∃ H2, H2 = H1 := ⟨_, rfl⟩
      obtain ⟨hr2, eh⟩ : ∃ hr2, hr2 = true := ⟨_, rfl⟩
      rw [Bool.true_or, ← eh] at k
      replace h0 : r0 = true → hr2 = true := fun _ => eh
      rw [← eH2, ← eh]
      have s2 : Same H H2 := by rw [eH2]; exact s1
      replace hl : IsLay K CL H2 la lay0 r0 := by rw [eH2]; exact hl
      all_goals
        have hl3 := hl
        obtain ⟨dl, tl, hsl, htl, nml⟩ := hl3
        refine ⟨_, rfl, _, rfl, la, dl, _, fl, _, rfl, hsl, rfl, s2 _ _ hF, la, lay0, r0, .ref fl, rfl, hl, l0, more_ok (SqL.of (s2 _ _ hF)) nmg ndg g6 fun H3 s3 => ⟨fl, gs, s3, rfl, s3 _ _ (s2 _ _ hF), by omega, nmg, fun bm H4 s4 hbm => ?_⟩⟩
        refine ⟨_, rfl, _, rfl, ?_⟩
        have s24 := (s2.trans s3).trans s4
        cases hr2 with
        | false =>
          have e3 : r0 = false := by
            cases e4 : r0 with
            | false => rfl
            | true => exact absurd (h0 e4) (by decide)
          rw [e3] at hbm
          exact iteF ⟨_, rfl, k H4 bm s24 hbm⟩
        | true =>
          have hbm2 := hbm
          obtain ⟨dm, tm, hsm, htm, nmm⟩ := hbm2
          exact iteT ⟨_, rfl, bm, dm, _, rfl, hsm, bm, _, _, rfl, hbm, fun bw H5 s5 hbw => k H5 bw (s24.trans s5) hbw⟩
end
end Pr

set_option autoImplicit true
set_option Elab.async false
set_option linter.all false
set_option maxRecDepth 100000
set_option maxHeartbeats 1000000
/-! Shape.__init__. -/
namespace L2
open PySem PySem.Spec PyProof.Rows
section
variable {J : It} {n : Nat} {G : Hp → Prop} {Y : Nat → Hp → V → Hp → Prop}
/-- a dict comprehension over a walk -/
theorem dc_it (w : Walk J n G Y) {g : TG} {tt : TT} {tk tv : TE} {vs : List Nat} {σ : St} {H1 : Hp} {D : Addr} {Qd : Hp → Prop} (Pv : Nat → Hp → Prop) (h0 : Pv 0 (upd H1 D (.dK []))) (hG : ∀ i H, i ≤ n → Pv i H → G H)
    (hs : ∀ i x H H', i < n → Pv i H → Y i H x H' → g x (wipe σ vs) H' fun σ2 H2 => wipe σ2 vs = wipe σ vs ∧ tt σ2 H2 fun b H3 =>
      if b = true then tk σ2 H3 fun y H4 => tv σ2 H4 fun z H5 => ∃ kvs k, y = kV k ∧ H5 D = some (.dK kvs) ∧ kvs.length < sizeLine ∧ Pv (i + 1) (upd H5 D (.dK (putK kvs k z))) else Pv (i + 1) H3) (hd : ∀ H, Pv n H → Qd H) :
    ∃ W : Nat → Nat → Hp → Prop, (∃ m, W 0 m (upd H1 D (.dK []))) ∧ ∀ i m H, W i m H →
      (J.stop i H ∧ Qd H) ∨ (J.go i H ∧ ∃ Nx : Hp → Prop, (∀ H', Nx H' → ∃ m', m' < m ∧ W (i + 1) m' H') ∧ ∀ x H', J.yld i H x H' → g x (wipe σ vs) H' fun σ2 H2 => wipe σ2 vs = wipe σ vs ∧ tt σ2 H2 fun b H3 =>
        if b = true then tk σ2 H3 fun y H4 => tv σ2 H4 fun z H5 => ∃ kvs k, y = kV k ∧ H5 D = some (.dK kvs) ∧ kvs.length < sizeLine ∧ Nx (upd H5 D (.dK (putK kvs k z))) else Nx H3) := by
  refine ⟨fun i m H => m = n - i ∧ i ≤ n ∧ Pv i H, ⟨n, by simp, Nat.zero_le _, h0⟩, ?_⟩
  rintro i m H ⟨rfl, hi, p⟩
  have q := hG i H hi p
  by_cases hlt : i < n
  · exact .inr ⟨w.goes i H hlt q, Pv (i + 1), fun H' p' => ⟨n - (i + 1), by omega, rfl, hlt, p'⟩, fun x H' y => hs i x H H' hlt p (w.yields i H x H' hlt q y)⟩
  · have e : i = n := by omega
    subst e
    exact .inl ⟨w.stops H q, hd H p⟩
end
end L2
namespace Pr
open PySem L2 Two ClX SlX
abbrev mShInit : Stmt := within (top 45) 0
/-- what a world's classes keep -/
structure WfM (ms : List Cm) : Prop where
  lines : LinesOk ms
  ords : OrdsOk ms
  lays : ∀ m ∈ ms, m.lay.length ≤ 1000
  on : ∀ m ∈ ms, ∀ o ∈ m.line, o < ms.length
  rooms : ∀ m ∈ ms, ∀ o, m.line[0]? = some o → roomAt ms o = true → m.room = true
def MergedTo (ls : List (List Int)) (mg : List Nat) : Prop := ∃ n, (∀ r ∈ (Mg.st ls n).2, r = []) ∧ (Mg.st ls n).1 = intsN mg
def newCm (ms : List Cm) (num : Nat) (ns : List Nat) (gs : List Str) (r : Bool) (above mg : List Nat) : Cm where
  bases := ns
  fields := gs
  roomy := r
  order := num :: mg
  line := if gs = [] ∧ ns ≠ [] then above else num :: above
  lay := ((above[0]?).map (layAt ms)).getD [] ++ gs
  room := r || ns.any (roomAt ms)
/-- the lists of the shape at a are among L -/
def ShL (CS : Addr) (L : Addr → Prop) (H : Hp) (a : Addr) : Prop := ∃ dx us, H a = some (.ins CS dx us) ∧ ∀ f p, f ∈ (["_order", "_line", "_bases", "_fields"] : List Str) → us.lookup f = some (.ref p) → L p
/-- the lists of the shape at a are new -/
def ShNew (CS : Addr) (H0 H : Hp) (a : Addr) : Prop := ShL CS (fun b => H0 b = none) H a
theorem ShL.keep {CS : Addr} {L : Addr → Prop} {H H' : Hp} {a : Addr} (h : ShL CS L H a) (s : Same H H') : ShL CS L H' a := let ⟨dx, us, e, k⟩ := h; ⟨dx, us, s _ _ e, k⟩
theorem ShL.imp {CS : Addr} {L L' : Addr → Prop} {H : Hp} {a : Addr} (h : ShL CS L H a) (i : ∀ b, L b → L' b) : ShL CS L' H a := let ⟨dx, us, e, k⟩ := h; ⟨dx, us, e, fun f p hf hl => i _ (k f p hf hl)⟩
theorem ShL.other {CS : Addr} {L : Addr → Prop} {H : Hp} {p a : Addr} {o : HO} (h : ShL CS L H p) (ne : p ≠ a) : ShL CS L (upd H a o) p := let ⟨dx, us, e, k⟩ := h; ⟨dx, us, by rw [upd_ne ne]; exact e, k⟩
section
variable {P : Program} {w : World} {K : PySem.W.Frag} {mg : Str → Option Value} {base : Heap}
/-- what a class that is asked for comes to -/
structure NewEnd (K : PySem.W.Frag) (CL CS CC CO CR : Addr) (H0 : Hp) (a num : Nat) (ms : List Cm) (ns : List Nat) (gs : List Str) (r : Bool) (Q : VK) (E : XK) : Prop where
  col : ∀ i j, colOf ms ns = some (i, j) → ∀ H' x y off nx ny, Same H0 H' → (lineAt ms i)[0]? = some x → (lineAt ms j)[0]? = some y → Meet ms (lineAt ms i) (lineAt ms j) off nx ny → ColErr H' E CC num x y off nx ny
  ring : colOf ms ns = none → ∀ H' q n (us : List (Addr × Int × Nat)), Same H0 H' → Mg.firstFree (Mg.st (ordLs ms ns) n).2 = none → (∃ r ∈ (Mg.st (ordLs ms ns) n).2, r ≠ []) → H' q = some (.lst (tupRefs us)) → TupsAt H' us → Mg.IsRing (ordLs ms ns) (us.map (·.2)) → us.length ≤ 30 →
    Mg.RingDet (Mg.st (ordLs ms ns) n).2 (us.map (·.2)) → Thrown H' E CO (fsNoOrd [.int (num : Nat), .ref q])
  room : colOf ms ns = none → ∀ mg, MergedTo (ordLs ms ns) mg → r = true → ∀ z, ns.find? (roomAt ms) = some z → ∀ H', Same H0 H' → Thrown H' E CR (fsRoom [.int (num : Nat), .int (z : Nat)])
  ok : colOf ms ns = none → ∀ mg above, MergedTo (ordLs ms ns) mg → Above ms ns above → (r = true → ∀ z ∈ ns, roomAt ms z = false) → ∀ H', Same H0 H' → IsShape K CL CS H' a (newCm ms num ns gs r above mg) → ShNew CS H0 H' a → Q .non H'
def spShInit (K : PySem.W.Frag) (CL CS CC CO CR : Addr) : Sp := fun vs H Q E => ∃ (a dx : Addr) (num : Nat) (b fl S : Addr) (r : Bool) (ns : List Nat) (gs : List Str) (ps : List (Addr × Cm)) (H0 : Hp), vs = [.ref a, .int (num : Nat), .ref b, .ref fl, .bl r, .ref S] ∧ H a = some (.ins CS dx []) ∧ H0 a = none ∧ Same H0 H ∧
  SqL K H0 b (natsV ns) ∧ H0 fl = some (.lst (gs.map V.str)) ∧ ShapesAt K CL CS H0 S ps ∧ ns.length ≤ 29 ∧ ns.Nodup ∧ (∀ n ∈ ns, n < ps.length) ∧ WfM (ps.map (·.2)) ∧ gs.Nodup ∧ gs.length ≤ 6 ∧ (∀ z ∈ gs, isName z = true) ∧ NewEnd K CL CS CC CO CR H0 a num (ps.map (·.2)) ns gs r Q E
theorem scShInit : FnScope ["self", "number", "bases", "fields", "roomy", "shapes", "above", "first", "at", "name"] ["self", "number", "bases", "fields", "roomy", "shapes"] (defScope mShInit) := ⟨rfl, rfl, rfl, by decide +kernel, rfl, by decide +kernel, by decide +kernel⟩
theorem merged_nats {ls : List (List Int)} {n : Nat} (h : ∀ l ∈ ls, ∀ y ∈ l, ∃ k : Nat, y = k) : ∃ mg, (Mg.st ls n).1 = intsN mg := by
  have key : ∀ l : List Int, (∀ y ∈ l, ∃ k : Nat, y = k) → ∃ mg, l = intsN mg := by
    intro l
    induction l with
    | nil => exact fun _ => ⟨[], rfl⟩
    | cons y l ih =>
      intro hl
      obtain ⟨k, rfl⟩ := hl y List.mem_cons_self
      obtain ⟨mg, rfl⟩ := ih fun z hz => hl z (List.mem_cons_of_mem _ hz)
      exact ⟨k :: mg, rfl⟩
  refine key _ fun y hy => ?_
  obtain ⟨l, hl, hy2⟩ := (Mg.st_items ls n).1 y hy
  exact h l hl y hy2
theorem ordLs_nats {ms : List Cm} {ns : List Nat} : ∀ l ∈ ordLs ms ns, ∀ y ∈ l, ∃ k : Nat, y = k := fun l hl y hy => by
  have key : ∀ xs : List Nat, y ∈ intsN xs → ∃ k : Nat, y = k := fun xs h => by
    obtain ⟨k, _, e⟩ := List.mem_map.mp h
    exact ⟨k, e.symm⟩
  rcases List.mem_append.mp hl with hl | hl
  · obtain ⟨z, _, rfl⟩ := List.mem_map.mp hl
    exact key _ hy
  · rw [List.mem_singleton.mp hl] at hy
    exact key _ hy
theorem IsLay.other {C l a C' dx' : Addr} {H : Hp} {fs : List Str} {r : Bool} {us : List (Str × V)} {o : HO} (h : IsLay K C H l fs r) (ha : H a = some (.ins C' dx' us)) : IsLay K C (upd H a o) l fs r := by
  obtain ⟨dx, t, hs, ht, nm⟩ := h
  rcases hs with ⟨_, e⟩ | ⟨h1, h2⟩
  · cases e
  · have n1 : l ≠ a := fun e => by
      rw [e, ha] at h1
      unfold SlO at h1
      cases h1
    have n2 : dx ≠ a := fun e => by
      rw [e, ha] at h2
      cases h2
    have n3 : t ≠ a := fun e => by
      rw [e, ha] at ht
      cases ht
    exact ⟨dx, t, .inr ⟨by rw [upd_ne n1]; exact h1, by rw [upd_ne n2]; exact h2⟩, by rw [upd_ne n3]; exact ht, nm⟩
theorem ok_shInit {f CL CS CC CO CR fA fB fC fD fL : Addr} {fd dA dB dC dD dL : FuncData} (F : Fun K "__init__" "Shape.__init__" mShInit f fd) (T : TxtN mg) (C : ShC K mg CS) (TE : mg "enumerate" = none) (sL : PySem.W.findIn K (.ref CL) "__len__" = some (some (.ref fL))) (fnL : PySem.W.isFn K (.ref fL) = true) (bL : Binds K dL ["self"] []) (GL : FnOk P w K mg base CX0 1 fL dL ["self"] (spLen K CL))
    (gA : mg "_line_above" = some (.ref fA)) (kA : PySem.W.keepIn K (.ref fA) = true) (bA : Binds K dA ["number", "bases", "shapes"] []) (GA : FnOk P w K mg base (L2.CX P w) 8 fA dA ["number", "bases", "shapes"] (spLineAbove K CL CS CC))
    (gB : mg "_order_above" = some (.ref fB)) (kB : PySem.W.keepIn K (.ref fB) = true) (bB : Binds K dB ["number", "bases", "shapes"] []) (GB : FnOk P w K mg base (L2.CX P w) 7 fB dB ["number", "bases", "shapes"] (spOrdAbove K CL CS CO))
    (gC : mg "_check_room" = some (.ref fC)) (kC : PySem.W.keepIn K (.ref fC) = true) (bC : Binds K dC ["number", "bases", "shapes"] []) (GC : FnOk P w K mg base (L2.CX P w) 4 fC dC ["number", "bases", "shapes"] (spCkRoom K CL CS CR))
    (gD : mg "_layout_of" = some (.ref fD)) (kD : PySem.W.keepIn K (.ref fD) = true) (bD : Binds K dD ["bases", "fields", "roomy", "above", "shapes"] []) (GD : FnOk P w K mg base (L2.CX P w) 9 fD dD ["bases", "fields", "roomy", "above", "shapes"] (spLayOf K CL CS)) :
    FnOk P w K mg base (L2.CX P w) 10 f fd ["self", "number", "bases", "fields", "roomy", "shapes"] (spShInit K CL CS CC CO CR) := by
  refine F.okX scShInit (fun vs H Q E h => ?_) (fun cdv A outer s H vs Q E hr h => ?_)
  · obtain ⟨a, dx, num, b, fl, S, r, ns, gs, ps, H0, rfl, _⟩ := h
    rfl
  · obtain ⟨a, dx, num, b, fl, S, r, ns, gs, ps, H0, rfl, ha, na, s0, hB, hF, hS, few, ndn, lt, W, ndg, g6, nmg, N⟩ := h
    refine ⟨_, pss_cons (ps_set (i := 6) scShInit.nd rfl (Or.inl rfl) (pe_callS GA (hr.mono (by decide)) rfl gA kA bA (fun σ => passAt (takes_of rfl rfl rfl rfl) σ) (pa_cons (pv 1) (pa_cons (pv 2) (pa_cons (pv 5) pa_nil)))))
      (pss_cons (ps_fld (f := "_order") (pv 0) (pe_op op_cat (pe_lst (pa_cons (pv 1) pa_nil)) (pe_callS GB (hr.mono (by decide)) rfl gB kB bB (fun σ => passAt (takes_of rfl rfl rfl rfl) σ) (pa_cons (pv 1) (pa_cons (pv 2) (pa_cons (pv 5) pa_nil))))) rfl)
      (pss_cons (ps_if (pt_val (pv 4)) (pss_one (ps_expr (pe_callS GC (hr.mono (by decide)) rfl gC kC bC (fun σ => passAt (takes_of rfl rfl rfl rfl) σ) (pa_cons (pv 1) (pa_cons (pv 2) (pa_cons (pv 5) pa_nil)))))) pss_nil)
      (pss_cons (ps_fld (f := "_layout") (pv 0) (pe_callS GD hr rfl gD kD bD (fun σ => passAt (takes_of rfl rfl rfl rfl) σ) (pa_cons (pv 2) (pa_cons (pv 3) (pa_cons (pv 4) (pa_cons (pv 6) (pa_cons (pv 5) pa_nil)))))) rfl)
      (pss_cons (ps_set (i := 7) scShInit.nd rfl (Or.inr rfl) (pe_op op_sub (pe_callB (call_lenSl (C := CL) sL fnL (GL.raw bL .nil) (hr.mono (by decide)) pass0) (by rfl) T.len PySem.boot_len (pa_cons (pe_fld (pv 0) rfl) pa_nil)) (pe_callB call_len_seq (by rfl) T.len PySem.boot_len (pa_cons (pv 3) pa_nil))))
      (pss_cons (ps_fld (f := "_offsets") (pv 0) (pe_dc (own := [("at", 8), ("name", 9)]) (g := gTup K 2 (gCons (gName 8) (gCons (gName 9) gNil))) (tt := tYes) (tk := tVar 9) (tv := tOp (rI0 fun i j => .int (i + j)) (tVar 7) (tVar 8)) rfl scShInit.nd (pi_enum (by rfl) TE (pa_cons (pv 3) pa_nil)) (blkOk_by (N := ["self", "number", "bases", "fields", "roomy", "shapes", "above", "first", "at", "name"]) (sc := defScope mShInit) (by decide +kernel))
          (fun _ _ _ _ _ => pg_tup rfl (pgs_cons (pg_name (i := 8) scShInit.nd rfl (Or.inl rfl)) (pgs_cons (pg_name (i := 9) scShInit.nd rfl (Or.inl rfl)) pgs_nil))) (fun _ _ _ _ _ => pts_nil) (fun _ _ _ _ _ => pv 9) (fun _ _ _ _ _ => pe_op op_add (pv 7) (pv 8))) rfl)
      (pss_cons (ps_fld (f := "_line") (pv 0) (pe_ifExp (PW.pt (pw_or (pt_truth (pv 3) (by intro _; rfl)) (pw_or1 (pt_not (pt_truth (pv 2) (by intro _; rfl)))))) (pe_op op_cat (pe_lst (pa_cons (pv 1) pa_nil)) (pv 6)) (pv 6)) rfl)
      (pss_cons (ps_fld (f := "_bases") (pv 0) (pe_callTy call_list_of (by rfl) T.list (by decide +kernel) (pa_cons (pv 2) pa_nil)) rfl)
      (pss_cons (ps_fld (f := "_fields") (pv 0) (pe_callTy call_list_of (by rfl) T.list (by decide +kernel) (pa_cons (pv 3) pa_nil)) rfl)
      (pss_one (ps_fld (f := "_roomy") (pv 0) (pv 4) rfl)))))))))), ?_⟩
    have keepL : ∀ {G : Hp} {p : Addr} {xs : List V} {us : List (Str × V)} {o : HO}, G a = some (.ins CS dx us) → G p = some (.lst xs) → (upd G a o) p = some (.lst xs) := fun ga gp => by
      rw [upd_ne (fun e => by rw [e, ga] at gp; cases gp)]
      exact gp
    have keepD : ∀ {G : Hp} {p : Addr} {xs : List (Key × V)} {us : List (Str × V)} {o : HO}, G a = some (.ins CS dx us) → G p = some (.dK xs) → (upd G a o) p = some (.dK xs) := fun ga gp => by
      rw [upd_ne (fun e => by rw [e, ga] at gp; cases gp)]
      exact gp
    refine ⟨_, rfl, _, rfl, _, rfl, num, b, S, ns, ps, rfl, s0.seq hB, hS.keep s0, by omega, lt, W.lines, fun ec H1 pab above s1 np hab ab => ?_, fun i j e H1 x y off nx ny s1 ex ey M => N.col i j e H1 x y off nx ny (s0.trans s1) ex ey M⟩
    have s01 := s0.trans s1
    refine ⟨_, rfl, by show 1 ≤ sizeLine; decide, fun q1 nq1 => ?_⟩
    have s12 : Same H1 (upd H1 q1 (.lst [.int (num : Nat)])) := same_new nq1
    refine ⟨_, rfl, _, rfl, _, rfl, num, b, S, ns, ps, rfl, s12.seq (s01.seq hB), (hS.keep s01).keep s12, few, ndn, lt, W.ords, fun H2 q n s2 nq em hq => ?_, fun H2 q n us s2 ff ex hq tu ir lu rd => N.ring ec H2 q n us ((s01.trans s12).trans s2) ff ex hq tu ir lu rd⟩
    obtain ⟨mg1, emg⟩ := merged_nats (n := n) (ordLs_nats (ms := ps.map (·.2)) (ns := ns))
    have MT : MergedTo (ordLs (ps.map (·.2)) ns) mg1 := ⟨n, em, emg⟩
    rw [emg, ← natsV_ints] at hq
    refine ⟨q1, q, _, _, rfl, rfl, s2 _ _ upd_same, hq, ?_, fun q3 nq3 => ?_⟩
    · show 1 + (natsV mg1).length ≤ sizeLine
      have h1 := st_ord_len (ordLs (ps.map (·.2)) ns) n
      rw [emg] at h1
      have h2 : (intsN mg1).length = mg1.length := List.length_map _
      have h3 : (natsV mg1).length = mg1.length := List.length_map _
      have h4 := sum_le (ordLs (ps.map (·.2)) ns) fun y hy => by
        rcases List.mem_append.mp hy with hy | hy
        · obtain ⟨z, hz, rfl⟩ := List.mem_map.mp hy
          obtain ⟨m, em2⟩ : ∃ m, (ps.map (·.2))[z]? = some m := ⟨_, List.getElem?_eq_getElem (by rw [List.length_map]; exact lt z hz)⟩
          unfold orderAt intsN
          rw [em2, List.length_map]
          exact W.ords.short m (List.mem_of_getElem? em2)
        · rw [List.mem_singleton.mp hy]
          unfold intsN
          rw [List.length_map]
          omega
      have h5 : (ordLs (ps.map (·.2)) ns).length = ns.length + 1 := by unfold ordLs; rw [List.length_append, List.length_map]; rfl
      rw [h5] at h4
      rw [h3]
      exact Nat.le_trans (show 1 + mg1.length ≤ 1000 by omega) (by decide)
    have s02 : Same H0 H2 := (s01.trans s12).trans s2
    have a2 : H2 a = some (.ins CS dx []) := s2 _ _ (app (s1 _ _ ha) nq1)
    refine ⟨_, rfl, a, CS, dx, [], rfl, app a2 nq3, C.cl, C.nO, by show 0 < 1000; decide, ?_⟩
    have s03 : Same H0 (upd (upd H2 q3 (.lst (natsV (num :: mg1)))) a (.ins CS dx [("_order", .ref q3)])) := same_upd (same_upd s02 (none_of_same s02 nq3)) na
    have a3 : (upd (upd H2 q3 (.lst (natsV (num :: mg1)))) a (.ins CS dx [("_order", .ref q3)])) a = some (.ins CS dx [("_order", .ref q3)]) := upd_same
    have o3 : (upd (upd H2 q3 (.lst (natsV (num :: mg1)))) a (.ins CS dx [("_order", .ref q3)])) q3 = some (.lst (natsV (num :: mg1))) := keepL (app a2 nq3) upd_same
    have l3 : (upd (upd H2 q3 (.lst (natsV (num :: mg1)))) a (.ins CS dx [("_order", .ref q3)])) pab = some (.lst (natsV above)) := keepL (app a2 nq3) (app (s2 _ _ (app hab nq1)) nq3)
    show tSeq _ _ _ _ (upd (upd H2 q3 (.lst (natsV (num :: mg1)))) a (.ins CS dx [("_order", .ref q3)]))
    generalize (upd (upd H2 q3 (.lst (natsV (num :: mg1)))) a (.ins CS dx [("_order", .ref q3)])) = H3 at s03 a3 o3 l3 ⊢
    have absub : above = [] ∨ ∃ z ∈ ns, above = lineAt (ps.map (·.2)) z := by
      rcases ab with ⟨_, h⟩ | ⟨i, z, hz, h, _⟩
      · exact .inl h
      · exact .inr ⟨z, List.mem_of_getElem? hz, h⟩
    have lta : ∀ x ∈ above, x < ps.length := by
      rcases absub with h | ⟨z, hz, h⟩
      · rw [h]
        exact fun x hx => nomatch hx
      · intro x hx
        obtain ⟨m, em2⟩ : ∃ m, (ps.map (·.2))[z]? = some m := ⟨_, List.getElem?_eq_getElem (by rw [List.length_map]; exact lt z hz)⟩
        rw [h] at hx
        unfold lineAt at hx
        rw [em2] at hx
        have := W.on m (List.mem_of_getElem? em2) x hx
        rw [List.length_map] at this
        exact this
    have hR : ∀ c, above[0]? = some c → roomAt (ps.map (·.2)) c = true → (r || ns.any (roomAt (ps.map (·.2)))) = true := fun c hc hrm => by
      rcases absub with h | ⟨z, hz, h⟩
      · rw [h] at hc
        cases hc
      · obtain ⟨m, em2⟩ : ∃ m, (ps.map (·.2))[z]? = some m := ⟨_, List.getElem?_eq_getElem (by rw [List.length_map]; exact lt z hz)⟩
        have lz : lineAt (ps.map (·.2)) z = m.line := by unfold lineAt; rw [em2]
        rw [h, lz] at hc
        have := W.rooms m (List.mem_of_getElem? em2) c hc hrm
        rw [Bool.or_eq_true, List.any_eq_true]
        exact .inr ⟨z, hz, by unfold roomAt; rw [em2]; exact this⟩
    refine ⟨_, rfl, r, rfl, ?_⟩
    by_cases hrr : r = true
    refine ite_true_of hrr ⟨_, rfl, _, rfl, _, rfl, num, b, S, ns, ps, rfl, s03.seq hB, hS.keep s03, lt, fun noR => ?_, fun z hz => N.room ec mg1 MT hrr z hz H3 s03⟩
    replace noR : r = true → ∀ z ∈ ns, roomAt (ps.map (·.2)) z = false := fun _ => noR
    rotate_left
    refine ite_false_of (by simpa using hrr) ?_
    have noR : r = true → ∀ z ∈ ns, roomAt (ps.map (·.2)) z = false := fun h => absurd h hrr
    all_goals
      refine ⟨_, rfl, _, rfl, _, rfl, _, rfl, _, rfl, b, fl, pab, S, r, ns, above, gs, ps, rfl, s03.seq hB, s03 _ _ hF, SqL.of l3, hS.keep s03, by omega, lt, lta, W.lays, ndg, g6, nmg, hR, fun H4 l s4 hl => ?_⟩
      refine ⟨_, rfl, a, CS, dx, _, rfl, s4 _ _ a3, C.cl, C.nL, by show 1 < 1000; decide, ?_⟩
      have s05 : Same H0 (upd H4 a (.ins CS dx [("_order", .ref q3), ("_layout", .ref l)])) := same_upd (s03.trans s4) na
      have a4 := s4 _ _ a3
      have a5 : (upd H4 a (.ins CS dx [("_order", .ref q3), ("_layout", .ref l)])) a = some (.ins CS dx [("_order", .ref q3), ("_layout", .ref l)]) := upd_same
      have o5 : (upd H4 a (.ins CS dx [("_order", .ref q3), ("_layout", .ref l)])) q3 = some (.lst (natsV (num :: mg1))) := keepL a4 (s4 _ _ o3)
      have l5 : (upd H4 a (.ins CS dx [("_order", .ref q3), ("_layout", .ref l)])) pab = some (.lst (natsV above)) := keepL a4 (s4 _ _ l3)
      have y5 := hl.other (o := .ins CS dx [("_order", .ref q3), ("_layout", .ref l)]) a4
      show tSeq _ _ _ _ (upd H4 a (.ins CS dx [("_order", .ref q3), ("_layout", .ref l)]))
      generalize (upd H4 a (.ins CS dx [("_order", .ref q3), ("_layout", .ref l)])) = H5 at s05 a5 o5 l5 y5 ⊢
      obtain ⟨ly, ely⟩ : ∃ ly, ly = (newCm (ps.map (·.2)) num ns gs r above mg1).lay := ⟨_, rfl⟩
      have y5b : IsLay K CL H5 l ly (newCm (ps.map (·.2)) num ns gs r above mg1).room := by rw [ely]; exact y5
      have lyE : ly.length = (ly.length - gs.length) + gs.length := by
        have : gs.length ≤ ly.length := by
          rw [ely]
          show gs.length ≤ (((above[0]?).map (layAt (ps.map (·.2)))).getD [] ++ gs).length
          rw [List.length_append]
          exact Nat.le_add_left _ _
        omega
      obtain ⟨f0, ef0⟩ : ∃ f0, f0 = ly.length - gs.length := ⟨_, rfl⟩
      rw [← ef0] at lyE
      have lyb : ly.length < 2 ^ 62 := by
        have : ly.length ≤ 1006 := by
          rw [ely]
          show (((above[0]?).map (layAt (ps.map (·.2)))).getD [] ++ gs).length ≤ 1006
          rw [List.length_append]
          have h1 : (((above[0]?).map (layAt (ps.map (·.2)))).getD []).length ≤ 1000 := by
            cases ea : above[0]? with
            | none => exact Nat.zero_le _
            | some c =>
              show (layAt (ps.map (·.2)) c).length ≤ 1000
              have hc := lta c (List.mem_of_getElem? ea)
              obtain ⟨m, em2⟩ : ∃ m, (ps.map (·.2))[c]? = some m := ⟨_, List.getElem?_eq_getElem (by rw [List.length_map]; exact hc)⟩
              unfold layAt
              rw [em2]
              exact W.lays m (List.mem_of_getElem? em2)
          omega
        omega
      have y5c := y5b
      obtain ⟨dl, tl, hsl, htl, nml⟩ := y5c
      refine ⟨_, rfl, a, CS, dx, _, _, rfl, a5, C.cl, C.nL, rfl, l, dl, _, rfl, hsl, l, _, _, rfl, y5b, _, rfl, lyb, _, rfl, fl, _, rfl, .inl (SqL.of (s05 _ _ hF)), ((ly.length : Nat) : Int), (((gs.map V.str).length : Nat) : Int), rfl, rfl, ?_⟩
      have eI : ((ly.length : Nat) : Int) - (((gs.map V.str).length : Nat) : Int) = ((f0 : Nat) : Int) := by rw [List.length_map]; omega
      dsimp only
      rw [eI]
      refine ⟨_, rfl, fl, gs.map V.str, rfl, SqL.of (s05 _ _ hF), fun D nD => dc_it (walk_enum (K := K) (a := fl) (xs := gs.map V.str)) (fun j G => Same H5 G ∧ G D = some (.dK (offs f0 (gs.take j)))) ⟨same_new nD, upd_same⟩ (fun j G _ p => SqL.of (p.1 _ _ (s05 _ _ hF))) (fun j x G G2 hj p hy => ?_) (fun G p => ?_)⟩
      · obtain ⟨T1, a1, y1, rfl, nT, rfl, e1, e2⟩ := hy
        cases e1
        obtain ⟨z, hz, rfl⟩ := get_map e2
        have nTD : D ≠ T1 := ne_of_none p.2 nT
        have jl : j < gs.length := (List.getElem?_eq_some_iff.mp hz).1
        refine ⟨T1, _, rfl, SqT.of upd_same, rfl, _, _, rfl, _, _, rfl, rfl, rfl, _, rfl, _, rfl, _, rfl, _, _, rfl, rfl, offs f0 (gs.take j), Sum.inr z, rfl, ?_, ?_, ?_, ?_⟩
        · rw [upd_ne nTD]
          exact p.2
        · rw [offs_len, List.length_take]
          exact Nat.lt_of_le_of_lt (Nat.min_le_right _ _) (Nat.lt_of_le_of_lt g6 (by decide))
        · exact same_upd (same_upd p.1 (none_of_same p.1 nT)) nD
        · have zn : z ∉ gs.take j := fun m => by
            have nd := ndg
            rw [← List.take_append_drop j gs] at nd
            have dz : gs.drop j = z :: gs.drop (j + 1) := by
              obtain ⟨h1, h2⟩ := List.getElem?_eq_some_iff.mp hz
              rw [← h2]
              exact List.drop_eq_getElem_cons h1
            rw [dz] at nd
            exact (List.nodup_append.mp nd).2.2 _ m _ List.mem_cons_self rfl
          rw [upd_same, putK_new _ (offs_none z f0 _ zn), show gs.take (j + 1) = gs.take j ++ [z] from take_snoc hz, offs_snoc, List.length_take, Nat.min_eq_left (Nat.le_of_lt jl)]
          rfl
      have p2 : G D = some (.dK (offs f0 gs)) := by
        have := p.2
        rw [List.length_map, List.take_of_length_le (Nat.le_refl _)] at this
        exact this
      have a5p := p.1 _ _ a5
      refine ⟨_, rfl, a, CS, dx, _, rfl, a5p, C.cl, C.nD, by show 2 < 1000; decide, ?_⟩
      have s05' : Same H0 (upd G a (.ins CS dx [("_order", .ref q3), ("_layout", .ref l), ("_offsets", .ref D)])) := same_upd (s05.trans p.1) na
      have a5' : (upd G a (.ins CS dx [("_order", .ref q3), ("_layout", .ref l), ("_offsets", .ref D)])) a = some (.ins CS dx [("_order", .ref q3), ("_layout", .ref l), ("_offsets", .ref D)]) := upd_same
      have o5' : (upd G a (.ins CS dx [("_order", .ref q3), ("_layout", .ref l), ("_offsets", .ref D)])) q3 = some (.lst (natsV (num :: mg1))) := keepL a5p (p.1 _ _ o5)
      have l5' : (upd G a (.ins CS dx [("_order", .ref q3), ("_layout", .ref l), ("_offsets", .ref D)])) pab = some (.lst (natsV above)) := keepL a5p (p.1 _ _ l5)
      have y5' := (y5.keep p.1).other (o := .ins CS dx [("_order", .ref q3), ("_layout", .ref l), ("_offsets", .ref D)]) a5p
      have d5' : (upd G a (.ins CS dx [("_order", .ref q3), ("_layout", .ref l), ("_offsets", .ref D)])) D = some (.dK (offs f0 gs)) := keepD a5p p2
      clear hsl htl y5b y5 o5 l5 a5
      show tSeq _ _ _ _ (upd G a (.ins CS dx [("_order", .ref q3), ("_layout", .ref l), ("_offsets", .ref D)]))
      generalize (upd G a (.ins CS dx [("_order", .ref q3), ("_layout", .ref l), ("_offsets", .ref D)])) = H5 at s05' a5' o5' l5' y5' d5' ⊢
      clear s05
      have s05 := s05'
      have a5 := a5'
      have o5 := o5'
      have l5 := l5'
      have y5 := y5'
      have d5 := d5'
      obtain ⟨ln, eln⟩ : ∃ ln, ln = (newCm (ps.map (·.2)) num ns gs r above mg1).line := ⟨_, rfl⟩
      have eln2 : ln = if gs = [] ∧ ns ≠ [] then above else num :: above := eln
      have alen : above.length ≤ 1000 := by
        rcases absub with h | ⟨z, hz, h⟩
        · rw [h]
          exact Nat.zero_le _
        · obtain ⟨m, em2⟩ : ∃ m, (ps.map (·.2))[z]? = some m := ⟨_, List.getElem?_eq_getElem (by rw [List.length_map]; exact lt z hz)⟩
          rw [h]
          unfold lineAt
          rw [em2]
          exact W.lines.short m (List.mem_of_getElem? em2)
      have bnd : [V.int (num : Nat)].length + (natsV above).length ≤ sizeLine := by
        show 1 + (natsV above).length ≤ sizeLine
        have e : (natsV above).length = above.length := List.length_map _
        rw [e, Nat.add_comm]
        exact Nat.le_trans (Nat.succ_le_succ alen) (by decide)
      refine ⟨_, rfl, _, .inl ⟨_, SqL.of (s05 _ _ hF), rfl⟩, ?_⟩
      by_cases eg : gs = []
      refine ite_false_of (by rw [eg]; rfl) ⟨_, rfl, _, .inl ⟨_, s05.seq hB, rfl⟩, ?_⟩
      by_cases en : ns = []
      refine ite_true_of (by rw [en]; rfl) ?_
      rotate_left
      refine ite_false_of (by cases ns with | nil => exact absurd rfl en | cons n ns => rfl) ⟨_, rfl, ?_⟩
      rw [if_pos ⟨eg, en⟩] at eln2
      obtain ⟨H6, eH6⟩ : ∃ H6, H6 = H5 := ⟨_, rfl⟩
      have s6 : Same H5 H6 := by rw [eH6]; exact Same.refl _
      obtain ⟨pn, epn⟩ : ∃ pn, pn = pab := ⟨_, rfl⟩
      have fpn : H0 pn = none := by rw [epn]; exact none_of_same s0 np
      have n6 : H6 pn = some (.lst (natsV ln)) := by rw [eH6, epn, eln2]; exact l5
      rw [← eH6, ← epn]
      rotate_left
      refine ite_true_of (by cases gs with | nil => exact absurd rfl eg | cons n ns => rfl) ?_
      refine ⟨_, rfl, by show 1 ≤ sizeLine; decide, fun q4 nq4 => ⟨_, rfl, q4, pab, _, _, rfl, rfl, upd_same, app l5 nq4, bnd, fun q5 nq5 => ?_⟩⟩
      rw [if_neg (fun h => eg h.1)] at eln2
      have s6 : Same H5 (upd (upd H5 q4 (.lst [.int (num : Nat)])) q5 (.lst ([.int (num : Nat)] ++ natsV above))) := ad (same_new nq4) nq5
      have n6 : (upd (upd H5 q4 (.lst [.int (num : Nat)])) q5 (.lst ([.int (num : Nat)] ++ natsV above))) q5 = some (.lst (natsV ln)) := by rw [eln2]; exact upd_same
      generalize (upd (upd H5 q4 (.lst [.int (num : Nat)])) q5 (.lst ([.int (num : Nat)] ++ natsV above))) = H6 at s6 n6 ⊢
      obtain ⟨pn, epn⟩ : ∃ pn, pn = q5 := ⟨_, rfl⟩
      have fpn : H0 pn = none := by rw [epn]; exact none_of_same (s05.trans (same_new nq4)) nq5
      rw [← epn] at n6 ⊢
      rotate_left
      refine ⟨_, rfl, by show 1 ≤ sizeLine; decide, fun q4 nq4 => ⟨_, rfl, q4, pab, _, _, rfl, rfl, upd_same, app l5 nq4, bnd, fun q5 nq5 => ?_⟩⟩
      rw [if_neg (fun h => h.2 en)] at eln2
      have s6 : Same H5 (upd (upd H5 q4 (.lst [.int (num : Nat)])) q5 (.lst ([.int (num : Nat)] ++ natsV above))) := ad (same_new nq4) nq5
      have n6 : (upd (upd H5 q4 (.lst [.int (num : Nat)])) q5 (.lst ([.int (num : Nat)] ++ natsV above))) q5 = some (.lst (natsV ln)) := by rw [eln2]; exact upd_same
      generalize (upd (upd H5 q4 (.lst [.int (num : Nat)])) q5 (.lst ([.int (num : Nat)] ++ natsV above))) = H6 at s6 n6 ⊢
      obtain ⟨pn, epn⟩ : ∃ pn, pn = q5 := ⟨_, rfl⟩
      have fpn : H0 pn = none := by rw [epn]; exact none_of_same (s05.trans (same_new nq4)) nq5
      rw [← epn] at n6 ⊢
      rotate_left
      all_goals
        have a6 := s6 _ _ a5
        refine ⟨_, rfl, a, CS, dx, _, rfl, a6, C.cl, C.nN, by show 3 < 1000; decide, ?_⟩
        have s07 : Same H0 (upd H6 a (.ins CS dx [("_order", .ref q3), ("_layout", .ref l), ("_offsets", .ref D), ("_line", .ref pn)])) := same_upd (s05.trans s6) na
        have a7 : (upd H6 a (.ins CS dx [("_order", .ref q3), ("_layout", .ref l), ("_offsets", .ref D), ("_line", .ref pn)])) a = some (.ins CS dx [("_order", .ref q3), ("_layout", .ref l), ("_offsets", .ref D), ("_line", .ref pn)]) := upd_same
        have o7 := keepL (o := .ins CS dx [("_order", .ref q3), ("_layout", .ref l), ("_offsets", .ref D), ("_line", .ref pn)]) a6 (s6 _ _ o5)
        have d7 := keepD (o := .ins CS dx [("_order", .ref q3), ("_layout", .ref l), ("_offsets", .ref D), ("_line", .ref pn)]) a6 (s6 _ _ d5)
        have n7 := keepL (o := .ins CS dx [("_order", .ref q3), ("_layout", .ref l), ("_offsets", .ref D), ("_line", .ref pn)]) a6 n6
        have y7 := (y5.keep s6).other (o := .ins CS dx [("_order", .ref q3), ("_layout", .ref l), ("_offsets", .ref D), ("_line", .ref pn)]) a6
        show tSeq _ _ _ _ (upd H6 a (.ins CS dx [("_order", .ref q3), ("_layout", .ref l), ("_offsets", .ref D), ("_line", .ref pn)]))
        generalize (upd H6 a (.ins CS dx [("_order", .ref q3), ("_layout", .ref l), ("_offsets", .ref D), ("_line", .ref pn)])) = H7 at s07 a7 o7 n7 y7 d7 ⊢
        refine ⟨_, rfl, b, _, rfl, .inl (s07.seq hB), fun q6 nq6 => ⟨_, rfl, a, CS, dx, _, rfl, app a7 nq6, C.cl, C.nB, by show 4 < 1000; decide, ?_⟩⟩
        have s08 : Same H0 (upd (upd H7 q6 (.lst (natsV ns))) a (.ins CS dx [("_order", .ref q3), ("_layout", .ref l), ("_offsets", .ref D), ("_line", .ref pn), ("_bases", .ref q6)])) := same_upd (same_upd s07 (none_of_same s07 nq6)) na
        have a8 : (upd (upd H7 q6 (.lst (natsV ns))) a (.ins CS dx [("_order", .ref q3), ("_layout", .ref l), ("_offsets", .ref D), ("_line", .ref pn), ("_bases", .ref q6)])) a = some (.ins CS dx [("_order", .ref q3), ("_layout", .ref l), ("_offsets", .ref D), ("_line", .ref pn), ("_bases", .ref q6)]) := upd_same
        have o8 := keepL (o := .ins CS dx [("_order", .ref q3), ("_layout", .ref l), ("_offsets", .ref D), ("_line", .ref pn), ("_bases", .ref q6)]) (app (o := .lst (natsV ns)) a7 nq6) (app o7 nq6)
        have d8 := keepD (o := .ins CS dx [("_order", .ref q3), ("_layout", .ref l), ("_offsets", .ref D), ("_line", .ref pn), ("_bases", .ref q6)]) (app (o := .lst (natsV ns)) a7 nq6) (app d7 nq6)
        have n8 := keepL (o := .ins CS dx [("_order", .ref q3), ("_layout", .ref l), ("_offsets", .ref D), ("_line", .ref pn), ("_bases", .ref q6)]) (app (o := .lst (natsV ns)) a7 nq6) (app n7 nq6)
        have b8 := keepL (o := .ins CS dx [("_order", .ref q3), ("_layout", .ref l), ("_offsets", .ref D), ("_line", .ref pn), ("_bases", .ref q6)]) (app (o := .lst (natsV ns)) a7 nq6) upd_same
        have y8 := (y7.keep (same_new (o := .lst (natsV ns)) nq6)).other (o := .ins CS dx [("_order", .ref q3), ("_layout", .ref l), ("_offsets", .ref D), ("_line", .ref pn), ("_bases", .ref q6)]) (app a7 nq6)
        show tSeq _ _ _ _ (upd (upd H7 q6 (.lst (natsV ns))) a (.ins CS dx [("_order", .ref q3), ("_layout", .ref l), ("_offsets", .ref D), ("_line", .ref pn), ("_bases", .ref q6)]))
        generalize (upd (upd H7 q6 (.lst (natsV ns))) a (.ins CS dx [("_order", .ref q3), ("_layout", .ref l), ("_offsets", .ref D), ("_line", .ref pn), ("_bases", .ref q6)])) = H8 at s08 a8 o8 n8 b8 y8 d8 ⊢
        refine ⟨_, rfl, fl, _, rfl, .inl (SqL.of (s08 _ _ hF)), fun q7 nq7 => ⟨_, rfl, a, CS, dx, _, rfl, app a8 nq7, C.cl, C.nF, by show 5 < 1000; decide, ?_⟩⟩
        have s09 : Same H0 (upd (upd H8 q7 (.lst (gs.map V.str))) a (.ins CS dx [("_order", .ref q3), ("_layout", .ref l), ("_offsets", .ref D), ("_line", .ref pn), ("_bases", .ref q6), ("_fields", .ref q7)])) := same_upd (same_upd s08 (none_of_same s08 nq7)) na
        have a9 : (upd (upd H8 q7 (.lst (gs.map V.str))) a (.ins CS dx [("_order", .ref q3), ("_layout", .ref l), ("_offsets", .ref D), ("_line", .ref pn), ("_bases", .ref q6), ("_fields", .ref q7)])) a = some (.ins CS dx [("_order", .ref q3), ("_layout", .ref l), ("_offsets", .ref D), ("_line", .ref pn), ("_bases", .ref q6), ("_fields", .ref q7)]) := upd_same
        have o9 := keepL (o := .ins CS dx [("_order", .ref q3), ("_layout", .ref l), ("_offsets", .ref D), ("_line", .ref pn), ("_bases", .ref q6), ("_fields", .ref q7)]) (app (o := .lst (gs.map V.str)) a8 nq7) (app o8 nq7)
        have d9 := keepD (o := .ins CS dx [("_order", .ref q3), ("_layout", .ref l), ("_offsets", .ref D), ("_line", .ref pn), ("_bases", .ref q6), ("_fields", .ref q7)]) (app (o := .lst (gs.map V.str)) a8 nq7) (app d8 nq7)
        have n9 := keepL (o := .ins CS dx [("_order", .ref q3), ("_layout", .ref l), ("_offsets", .ref D), ("_line", .ref pn), ("_bases", .ref q6), ("_fields", .ref q7)]) (app (o := .lst (gs.map V.str)) a8 nq7) (app n8 nq7)
        have b9 := keepL (o := .ins CS dx [("_order", .ref q3), ("_layout", .ref l), ("_offsets", .ref D), ("_line", .ref pn), ("_bases", .ref q6), ("_fields", .ref q7)]) (app (o := .lst (gs.map V.str)) a8 nq7) (app b8 nq7)
        have f9 := keepL (o := .ins CS dx [("_order", .ref q3), ("_layout", .ref l), ("_offsets", .ref D), ("_line", .ref pn), ("_bases", .ref q6), ("_fields", .ref q7)]) (app (o := .lst (gs.map V.str)) a8 nq7) upd_same
        have y9 := (y8.keep (same_new (o := .lst (gs.map V.str)) nq7)).other (o := .ins CS dx [("_order", .ref q3), ("_layout", .ref l), ("_offsets", .ref D), ("_line", .ref pn), ("_bases", .ref q6), ("_fields", .ref q7)]) (app a8 nq7)
        refine ⟨_, rfl, _, rfl, a, CS, dx, _, rfl, a9, C.cl, C.nR, by show 6 < 1000; decide, ?_⟩
        refine N.ok ec mg1 above MT ab noR _ (same_upd s09 na) ⟨dx, q3, l, pn, q6, q7, D, upd_same, keepL a9 o9, ?_, ?_, keepL a9 b9, keepL a9 f9, ?_⟩ ⟨dx, _, upd_same, ?_⟩
        · exact y9.other a9
        · rw [← eln]
          exact keepL a9 n9
        · rw [← ely]
          show _ = some (HO.dK (offs (ly.length - gs.length) gs))
          rw [← ef0]
          exact keepD a9 d9
        · intro fn pp hf hl
          have c1 : fn = "_order" ∨ fn = "_line" ∨ fn = "_bases" ∨ fn = "_fields" := by simpa using hf
          rcases c1 with rfl | rfl | rfl | rfl
          · rw [show pp = q3 from V.ref.inj (Option.some.inj (hl.symm.trans (by rfl)))]
            exact none_of_same s02 nq3
          · rw [show pp = pn from V.ref.inj (Option.some.inj (hl.symm.trans (by rfl)))]
            exact fpn
          · rw [show pp = q6 from V.ref.inj (Option.some.inj (hl.symm.trans (by rfl)))]
            exact none_of_same s07 nq6
          · rw [show pp = q7 from V.ref.inj (Option.some.inj (hl.symm.trans (by rfl)))]
            exact none_of_same s08 nq7
end
end Pr

set_option autoImplicit true
set_option Elab.async false
set_option linter.all false
set_option maxRecDepth 100000
set_option maxHeartbeats 1000000
/-! What the classes of a world keep. -/
namespace Pr
open PySem L2 Two ClX SlX
/-- a world's classes: owners and lines, orders, layouts, rooms -/
structure World0 (ms : List Cm) : Prop where
  few : ms.length ≤ 25
  line : ∀ (i : Nat) (m : Cm), ms[i]? = some m → ∃ x t, m.line = x :: t ∧ x ≤ i ∧ lineAt ms x = m.line ∧ ((x = 0 ∧ t = []) ∨ ∃ y t', t = y :: t' ∧ y < x ∧ lineAt ms y = t ∧ (layAt ms y).length < (layAt ms x).length)
  ond : ∀ m ∈ ms, m.order.Nodup
  oit : ∀ (i : Nat) (m : Cm), ms[i]? = some m → ∀ x ∈ m.order, x ≤ i
  lay : ∀ (i : Nat) (m : Cm), ms[i]? = some m → m.lay.length ≤ 6 * i
  room : ∀ m ∈ ms, ∀ o, m.line[0]? = some o → roomAt ms o = true → m.room = true
namespace World0
variable {ms : List Cm}
theorem at_ {i : Nat} {m : Cm} (h : ms[i]? = some m) : lineAt ms i = m.line ∧ layAt ms i = m.lay ∧ roomAt ms i = m.room ∧ orderAt ms i = m.order := by
  unfold lineAt layAt roomAt orderAt
  rw [h]
  exact ⟨rfl, rfl, rfl, rfl⟩
/-- what stands on the line of an owner -/
theorem down (W : World0 ms) : ∀ (x : Nat), x < ms.length → lineAt ms x = x :: (lineAt ms x).tail → (0 ∈ lineAt ms x) ∧ (∀ c ∈ lineAt ms x, c ≤ x ∧ (c = x ∨ (layAt ms c).length < (layAt ms x).length)) ∧ (lineAt ms x).length ≤ x + 1 := by
  intro x
  induction x using Nat.strongRecOn with
  | ind x ih =>
    intro hx hl
    obtain ⟨m, em⟩ : ∃ m, ms[x]? = some m := ⟨_, List.getElem?_eq_getElem hx⟩
    obtain ⟨x', t, e1, e2, e3, e4⟩ := W.line x m em
    rw [(at_ em).1, e1] at hl
    obtain rfl : x' = x := (List.cons.inj hl).1
    rw [(at_ em).1, e1]
    rcases e4 with ⟨rfl, rfl⟩ | ⟨y, t', rfl, yx, ey, ly⟩
    · exact ⟨List.mem_cons_self, fun c hc => by rw [List.mem_singleton.mp hc]; exact ⟨Nat.le_refl _, .inl rfl⟩, Nat.le_refl _⟩
    · obtain ⟨d1, d2, d3⟩ := ih y yx (by omega) (by rw [ey]; rfl)
      rw [ey] at d1 d2 d3
      refine ⟨List.mem_cons_of_mem _ d1, fun c hc => ?_, ?_⟩
      · rcases List.mem_cons.mp hc with rfl | hc
        · exact ⟨Nat.le_refl _, .inl rfl⟩
        · obtain ⟨q1, q2⟩ := d2 c hc
          refine ⟨by omega, .inr ?_⟩
          rcases q2 with rfl | q2
          · exact ly
          · omega
      · show (y :: t').length + 1 ≤ x' + 1
        omega
theorem own (W : World0 ms) {i : Nat} {m : Cm} (h : ms[i]? = some m) : ∃ x, m.line[0]? = some x ∧ x ≤ i ∧ lineAt ms x = m.line ∧ lineAt ms x = x :: (lineAt ms x).tail := by
  obtain ⟨x, t, e1, e2, e3, _⟩ := W.line i m h
  exact ⟨x, by rw [e1]; rfl, e2, e3, by rw [e3, e1]; rfl⟩
theorem wf (W : World0 ms) : WfM ms := by
  have on : ∀ (i : Nat) (m : Cm), ms[i]? = some m → ∃ x, m.line[0]? = some x ∧ x ≤ i ∧ lineAt ms x = m.line ∧ (0 ∈ m.line) ∧ (∀ c ∈ m.line, c ≤ x ∧ (c = x ∨ (layAt ms c).length < (layAt ms x).length)) ∧ m.line.length ≤ x + 1 := fun i m h => by
    obtain ⟨x, h1, h2, h3, h4⟩ := W.own h
    have hi := (List.getElem?_eq_some_iff.mp h).1
    obtain ⟨d1, d2, d3⟩ := W.down x (by omega) h4
    rw [h3] at d1 d2 d3
    exact ⟨x, h1, h2, h3, d1, d2, d3⟩
  have idx : ∀ m ∈ ms, ∃ i, ms[i]? = some m := fun m hm => List.getElem?_of_mem hm
  have lays : ∀ (i : Nat) (m : Cm), ms[i]? = some m → m.lay.length ≤ 1000 := fun i m h => by
    have := W.lay i m h
    have := (List.getElem?_eq_some_iff.mp h).1
    have := W.few
    omega
  refine ⟨⟨fun m hm => ?_, fun m hm => ?_, fun i j mi mj hi hj ap => ?_⟩, ⟨W.ond, fun m hm => ?_⟩, fun m hm => ?_, fun m hm o ho => ?_, W.room⟩
  · obtain ⟨i, h⟩ := idx m hm
    obtain ⟨x, h1, _⟩ := on i m h
    exact ⟨x, h1⟩
  · obtain ⟨i, h⟩ := idx m hm
    obtain ⟨x, _, h2, _, _, _, h3⟩ := on i m h
    have := (List.getElem?_eq_some_iff.mp h).1
    have := W.few
    omega
  · obtain ⟨x, x1, x2, x3, x4, x5, _⟩ := on i mi hi
    obtain ⟨y, y1, y2, y3, y4, y5, _⟩ := on j mj hj
    have il := (List.getElem?_eq_some_iff.mp hi).1
    have jl := (List.getElem?_eq_some_iff.mp hj).1
    unfold apart at ap
    rw [x1, y1] at ap
    rw [Bool.and_eq_true, decide_eq_true_iff, decide_eq_true_iff] at ap
    obtain ⟨c, hc⟩ : ∃ c, (mi.line.filter fun o => decide (o ∈ mj.line))[0]? = some c := by
      have : 0 ∈ (mi.line.filter fun o => decide (o ∈ mj.line)) := List.mem_filter.mpr ⟨x4, decide_eq_true y4⟩
      exact ⟨_, List.getElem?_eq_getElem (List.length_pos_of_mem this)⟩
    have cm := List.mem_filter.mp (List.mem_of_getElem? hc)
    have c1 := cm.1
    have c2 : c ∈ mj.line := of_decide_eq_true cm.2
    obtain ⟨u1, u2⟩ := x5 c c1
    obtain ⟨v1, v2⟩ := y5 c c2
    obtain ⟨mx, emx⟩ : ∃ m, ms[x]? = some m := ⟨_, List.getElem?_eq_getElem (by omega)⟩
    obtain ⟨my, emy⟩ : ∃ m, ms[y]? = some m := ⟨_, List.getElem?_eq_getElem (by omega)⟩
    obtain ⟨mc, emc⟩ : ∃ m, ms[c]? = some m := ⟨_, List.getElem?_eq_getElem (by omega)⟩
    have lx : (layAt ms c).length < (layAt ms x).length := u2.resolve_left fun e => ap.1 (e ▸ c2)
    have ly : (layAt ms c).length < (layAt ms y).length := v2.resolve_left fun e => ap.2 (e ▸ c1)
    rw [(at_ emc).2.1, (at_ emx).2.1] at lx
    rw [(at_ emc).2.1, (at_ emy).2.1] at ly
    exact ⟨mc.lay.length, _, _, lays c mc emc, ⟨x, mx, x1, emx, List.getElem?_eq_getElem lx⟩, ⟨y, my, y1, emy, List.getElem?_eq_getElem ly⟩, ⟨c, mc, hc, emc, rfl⟩⟩
  · obtain ⟨i, h⟩ := idx m hm
    have il := (List.getElem?_eq_some_iff.mp h).1
    have := W.few
    have := nodup_len (m := intsN (List.range (i + 1))) (nodup_ints (W.ond m hm)) fun x hx => by
      obtain ⟨k, hk, rfl⟩ := List.mem_map.mp hx
      exact List.mem_map.mpr ⟨k, List.mem_range.mpr (Nat.lt_succ_of_le (W.oit i m h k hk)), rfl⟩
    unfold intsN at this
    rw [List.length_map, List.length_map, List.length_range] at this
    omega
  · obtain ⟨i, h⟩ := idx m hm
    exact lays i m h
  · obtain ⟨i, h⟩ := idx m hm
    have il := (List.getElem?_eq_some_iff.mp h).1
    obtain ⟨x, _, h2, _, _, h5, _⟩ := on i m h
    have := (h5 o ho).1
    omega
end World0
end Pr

set_option autoImplicit true
set_option Elab.async false
set_option linter.all false
set_option maxRecDepth 100000
set_option maxHeartbeats 1000000
/-! A class more. -/
namespace Pr
open PySem L2 Two ClX SlX
theorem mem_ordLs {ms : List Cm} {ns : List Nat} {l : List Int} (hl : l ∈ ordLs ms ns) : (∃ z ∈ ns, l = intsN (orderAt ms z)) ∨ l = intsN ns := by
  rcases List.mem_append.mp hl with hl | hl
  · obtain ⟨z, hz, rfl⟩ := List.mem_map.mp hl
    exact .inl ⟨z, hz, rfl⟩
  · exact .inr (List.mem_singleton.mp hl)
theorem nodup_of_ints : ∀ {ns : List Nat}, (intsN ns).Nodup → ns.Nodup
  | [], _ => List.nodup_nil
  | n :: ns, h => by
    obtain ⟨h1, h2⟩ := List.nodup_cons.mp (show ((n : Int) :: intsN ns).Nodup from h)
    exact List.nodup_cons.mpr ⟨fun m => h1 (List.mem_map.mpr ⟨n, m, rfl⟩), nodup_of_ints h2⟩
theorem mem_ints {n : Nat} {ns : List Nat} (h : (n : Int) ∈ intsN ns) : n ∈ ns := by
  obtain ⟨k, hk, e⟩ := List.mem_map.mp h
  have : k = n := Int.ofNat_inj.mp e
  exact this ▸ hk
theorem World0.snoc {ms : List Cm} (W : World0 ms) (h24 : ms.length < 25) {ns above mg : List Nat} {gs : List Str} {r : Bool} (lt : ∀ n ∈ ns, n < ms.length) (nd : ns.Nodup) (g6 : gs.length ≤ 6) (first : ns = [] → ms = [] ∧ gs = [])
    (ab : Above ms ns above) (MT : MergedTo (ordLs ms ns) mg) : World0 (ms ++ [newCm ms ms.length ns gs r above mg]) := by
  obtain ⟨m', em'⟩ : ∃ m', m' = newCm ms ms.length ns gs r above mg := ⟨_, rfl⟩
  rw [← em']
  have old : ∀ {j : Nat}, j < ms.length → (ms ++ [m'])[j]? = ms[j]? := fun h => List.getElem?_append_left h
  have oldL : ∀ {j : Nat}, j < ms.length → lineAt (ms ++ [m']) j = lineAt ms j ∧ layAt (ms ++ [m']) j = layAt ms j ∧ roomAt (ms ++ [m']) j = roomAt ms j := fun h => by
    unfold lineAt layAt roomAt
    rw [old h]
    exact ⟨rfl, rfl, rfl⟩
  have newI : (ms ++ [m'])[ms.length]? = some m' := by rw [List.getElem?_append_right (Nat.le_refl _), Nat.sub_self]; rfl
  have newL := World0.at_ newI
  have cases_ : ∀ {i : Nat} {m : Cm}, (ms ++ [m'])[i]? = some m → (i < ms.length ∧ ms[i]? = some m) ∨ (i = ms.length ∧ m = m') := fun {i m} h => by
    by_cases hi : i < ms.length
    · rw [old hi] at h
      exact .inl ⟨hi, h⟩
    · have h1 := (List.getElem?_eq_some_iff.mp h).1
      rw [List.length_append, List.length_singleton] at h1
      obtain rfl : i = ms.length := by omega
      rw [newI] at h
      exact .inr ⟨rfl, (Option.some.inj h).symm⟩
  have mems : ∀ {m : Cm}, m ∈ ms ++ [m'] → m ∈ ms ∨ m = m' := fun h => (List.mem_append.mp h).imp id List.mem_singleton.mp
  -- the line above
  have abv : (ns = [] ∧ above = []) ∨ ∃ z mz x t, z ∈ ns ∧ ms[z]? = some mz ∧ z < ms.length ∧ above = mz.line ∧ mz.line = x :: t ∧ x ≤ z ∧ lineAt ms x = mz.line ∧ ((x = 0 ∧ t = []) ∨ ∃ y t', t = y :: t' ∧ y < x ∧ lineAt ms y = t ∧ (layAt ms y).length < (layAt ms x).length) := by
    rcases ab with h | ⟨i, z, hz, h, _⟩
    · exact .inl h
    · have zn := List.mem_of_getElem? hz
      obtain ⟨mz, emz⟩ : ∃ m, ms[z]? = some m := ⟨_, List.getElem?_eq_getElem (lt z zn)⟩
      obtain ⟨x, t, e1, e2, e3, e4⟩ := W.line z mz emz
      exact .inr ⟨z, mz, x, t, zn, emz, lt z zn, by rw [h, (World0.at_ emz).1], e1, e2, e3, e4⟩
  obtain ⟨n, ends, emg⟩ := MT
  have mgl : ∀ x ∈ mg, x < ms.length := fun x hx => by
    have h1 : (x : Int) ∈ (Mg.st (ordLs ms ns) n).1 := by rw [emg]; exact List.mem_map.mpr ⟨x, hx, rfl⟩
    obtain ⟨l, hl, hxl⟩ := (Mg.st_items _ n).1 _ h1
    rcases mem_ordLs hl with ⟨z, hz, rfl⟩ | rfl
    · obtain ⟨mz, emz⟩ : ∃ m, ms[z]? = some m := ⟨_, List.getElem?_eq_getElem (lt z hz)⟩
      rw [(World0.at_ emz).2.2.2] at hxl
      exact Nat.lt_of_le_of_lt (W.oit z mz emz x (mem_ints hxl)) (lt z hz)
    · exact lt x (mem_ints hxl)
  have mgn : mg.Nodup := by
    have := (Mg.ok_st (ls := ordLs ms ns) (fun l hl => by
      rcases mem_ordLs hl with ⟨z, hz, rfl⟩ | rfl
      · obtain ⟨mz, emz⟩ : ∃ m, ms[z]? = some m := ⟨_, List.getElem?_eq_getElem (lt z hz)⟩
        rw [(World0.at_ emz).2.2.2]
        exact nodup_ints (W.ond mz (List.mem_of_getElem? emz))
      · exact nodup_ints nd) n).nd
    rw [emg] at this
    exact nodup_of_ints this
  have lineE : m'.line = if gs = [] ∧ ns ≠ [] then above else ms.length :: above := by rw [em']; rfl
  have layE : m'.lay = ((above[0]?).map (layAt ms)).getD [] ++ gs := by rw [em']; rfl
  have ordE : m'.order = ms.length :: mg := by rw [em']; rfl
  have roomE : m'.room = (r || ns.any (roomAt ms)) := by rw [em']; rfl
  refine ⟨by rw [List.length_append, List.length_singleton]; omega, fun i m h => ?_, fun m hm => ?_, fun i m h x hx => ?_, fun i m h => ?_, fun m hm o ho hro => ?_⟩
  · rcases cases_ h with ⟨hi, h0⟩ | ⟨rfl, rfl⟩
    · obtain ⟨x, t, e1, e2, e3, e4⟩ := W.line i m h0
      refine ⟨x, t, e1, e2, by rw [(oldL (by omega)).1]; exact e3, e4.imp id ?_⟩
      rintro ⟨y, t', f1, f2, f3, f4⟩
      exact ⟨y, t', f1, f2, by rw [(oldL (by omega)).1]; exact f3, by rw [(oldL (j := y) (by omega)).2.1, (oldL (j := x) (by omega)).2.1]; exact f4⟩
    · by_cases c : gs = [] ∧ ns ≠ []
      · rw [if_pos c] at lineE
        rcases abv with ⟨h1, _⟩ | ⟨z, mz, x, t, zn, emz, zl, ea, e1, e2, e3, e4⟩
        · exact absurd h1 c.2
        · refine ⟨x, t, by rw [lineE, ea, e1], by omega, by rw [(oldL (by omega)).1, e3, lineE, ea], e4.imp id ?_⟩
          rintro ⟨y, t', f1, f2, f3, f4⟩
          exact ⟨y, t', f1, f2, by rw [(oldL (by omega)).1]; exact f3, by rw [(oldL (j := y) (by omega)).2.1, (oldL (j := x) (by omega)).2.1]; exact f4⟩
      · rw [if_neg c] at lineE
        refine ⟨ms.length, above, lineE, Nat.le_refl _, newL.1, ?_⟩
        rcases abv with ⟨h1, h2⟩ | ⟨z, mz, x, t, zn, emz, zl, ea, e1, e2, e3, e4⟩
        · exact .inl ⟨by rw [(first h1).1]; rfl, h2⟩
        · have gne : gs ≠ [] := fun e => c ⟨e, fun e2 => by rw [e2] at zn; cases zn⟩
          refine .inr ⟨x, t, by rw [ea, e1], by omega, by rw [(oldL (by omega)).1, e3, ea], ?_⟩
          rw [(oldL (by omega)).2.1, newL.2.1, layE, ea, e1]
          show (layAt ms x).length < (layAt ms x ++ gs).length
          rw [List.length_append]
          have := List.length_pos_iff.mpr gne
          omega
  · rcases mems hm with hm | rfl
    · exact W.ond m hm
    · rw [ordE]
      exact List.nodup_cons.mpr ⟨fun h => Nat.lt_irrefl _ (mgl _ h), mgn⟩
  · rcases cases_ h with ⟨hi, h0⟩ | ⟨rfl, rfl⟩
    · exact W.oit i m h0 x hx
    · rw [ordE] at hx
      rcases List.mem_cons.mp hx with rfl | hx
      · exact Nat.le_refl _
      · exact Nat.le_of_lt (mgl x hx)
  · rcases cases_ h with ⟨hi, h0⟩ | ⟨rfl, rfl⟩
    · exact W.lay i m h0
    · rw [layE, List.length_append]
      rcases abv with ⟨h1, h2⟩ | ⟨z, mz, x, t, zn, emz, zl, ea, e1, e2, e3, e4⟩
      · rw [h2, (first h1).2]
        exact Nat.zero_le _
      · rw [ea, e1]
        show (layAt ms x).length + gs.length ≤ _
        obtain ⟨mx, emx⟩ : ∃ m, ms[x]? = some m := ⟨_, List.getElem?_eq_getElem (by omega)⟩
        have := W.lay x mx emx
        rw [(World0.at_ emx).2.1]
        omega
  · rcases mems hm with hm | rfl
    · obtain ⟨i, hi⟩ := List.getElem?_of_mem hm
      have il := (List.getElem?_eq_some_iff.mp hi).1
      obtain ⟨x, h1, h2, _⟩ := W.own hi
      obtain rfl : x = o := by rw [h1] at ho; exact Option.some.inj ho
      rw [(oldL (by omega)).2.2] at hro
      exact W.room m hm x h1 hro
    · by_cases c : gs = [] ∧ ns ≠ []
      · rw [if_pos c] at lineE
        rcases abv with ⟨h1, _⟩ | ⟨z, mz, x, t, zn, emz, zl, ea, e1, e2, e3, e4⟩
        · exact absurd h1 c.2
        · rw [lineE, ea, e1] at ho
          obtain rfl : x = o := Option.some.inj ho
          rw [(oldL (by omega)).2.2] at hro
          have := W.room mz (List.mem_of_getElem? emz) x (by rw [e1]; rfl) hro
          rw [roomE, Bool.or_eq_true, List.any_eq_true]
          exact .inr ⟨z, zn, by rw [(World0.at_ emz).2.2.1]; exact this⟩
      · rw [if_neg c] at lineE
        rw [lineE] at ho
        obtain rfl : ms.length = o := Option.some.inj ho
        rw [newL.2.2.1] at hro
        exact hro
end Pr

set_option autoImplicit true
set_option Elab.async false
set_option linter.all false
set_option maxRecDepth 100000
set_option maxHeartbeats 1000000
/-! World: its readers; could_meet. -/
namespace Pr
open PySem L2 Two ClX SlX
abbrev cWorld : Stmt := top 57
abbrev mWCount : Stmt := within (top 57) 2
abbrev mWFields : Stmt := within (top 57) 4
abbrev mWLine : Stmt := within (top 57) 9
abbrev mWShapes : Stmt := within (top 57) 13
abbrev mWShape : Stmt := within (top 57) 19
-- no sCould
/-- W is a world of these classes (S its list of shapes) -/
def IsWorld (K : PySem.W.Frag) (CL CS CW : Addr) (H : Hp) (W : Addr) (ps : List (Addr × Cm)) : Prop := ∃ dx S Tb Lv, H W = some (.ins CW dx [("_shapes", .ref S), ("_tables", .ref Tb), ("_lives", .ref Lv)]) ∧ H S = some (.lst (ps.map fun p => V.ref p.1)) ∧ (∀ p ∈ ps, IsShape K CL CS H p.1 p.2) ∧
  (∃ tbs, H Tb = some (.lst tbs) ∧ tbs.length ≤ 1000) ∧ (∃ lvs, H Lv = some (.lst lvs) ∧ lvs.length ≤ 1000) ∧ World0 (ps.map (·.2))
theorem IsWorld.keep {K : PySem.W.Frag} {CL CS CW : Addr} {H H' : Hp} {W : Addr} {ps : List (Addr × Cm)} (h : IsWorld K CL CS CW H W ps) (s : Same H H') : IsWorld K CL CS CW H' W ps :=
  let ⟨dx, S, Tb, Lv, h1, h2, h3, ⟨t, h4, h5⟩, ⟨l, h6, h7⟩, w⟩ := h; ⟨dx, S, Tb, Lv, s _ _ h1, s _ _ h2, fun p hp => (h3 p hp).keep s, ⟨t, s _ _ h4, h5⟩, ⟨l, s _ _ h6, h7⟩, w⟩
structure WdC (K : PySem.W.Frag) (mg : Str → Option Value) (CW : Addr) : Prop where
  cl : Cls K CW
  g : mg "World" = some (.ref CW)
  nS : NoAttr K CW "_shapes"
  nT : NoAttr K CW "_tables"
  nL : NoAttr K CW "_lives"
section
variable {P : Program} {w : World} {K : PySem.W.Frag} {mg : Str → Option Value} {base : Heap}
def spWCount (K : PySem.W.Frag) (CL CS CW : Addr) : Sp := fun vs H Q _ => ∃ W ps, vs = [.ref W] ∧ IsWorld K CL CS CW H W ps ∧ Q (.int (ps.length : Nat)) H
theorem scWCount : FnScope ["self"] ["self"] (defScope mWCount) := ⟨rfl, rfl, rfl, by decide +kernel, rfl, by decide +kernel, by decide +kernel⟩
theorem ok_wCount {f CL CS CW : Addr} {fd : FuncData} (F : Fun K "count" "World.count" mWCount f fd) (T : TxtN mg) (C : WdC K mg CW) : FnOk P w K mg base CX0 1 f fd ["self"] (spWCount K CL CS CW) := by
  refine F.ok scWCount (fun vs H Q E h => ?_) (fun cdv A outer s H vs Q E hr h => ?_)
  · obtain ⟨W, ps, rfl, _⟩ := h
    rfl
  · obtain ⟨W, ps, rfl, ⟨dx, S, Tb, Lv, h1, h2, _⟩, k⟩ := h
    refine ⟨_, pss_one (ps_ret (pe_callB call_len_seq (by rfl) T.len PySem.boot_len (pa_cons (pe_fld (pv 0) rfl) pa_nil))), ?_⟩
    refine ⟨_, rfl, W, CW, dx, _, _, rfl, h1, C.cl, C.nS, rfl, S, _, rfl, .inl (SqL.of h2), ?_⟩
    rw [List.length_map]
    exact k
def spWShapes (K : PySem.W.Frag) (CL CS CW : Addr) : Sp := fun vs H Q _ => ∃ W ps, vs = [.ref W] ∧ IsWorld K CL CS CW H W ps ∧ ∀ p, H p = none → Q (.ref p) (upd H p (.lst (ps.map fun p => V.ref p.1)))
theorem scWShapes : FnScope ["self"] ["self"] (defScope mWShapes) := ⟨rfl, rfl, rfl, by decide +kernel, rfl, by decide +kernel, by decide +kernel⟩
theorem ok_wShapes {f CL CS CW : Addr} {fd : FuncData} (F : Fun K "shapes" "World.shapes" mWShapes f fd) (T : TxtN mg) (C : WdC K mg CW) : FnOk P w K mg base CX0 1 f fd ["self"] (spWShapes K CL CS CW) := by
  refine F.ok scWShapes (fun vs H Q E h => ?_) (fun cdv A outer s H vs Q E hr h => ?_)
  · obtain ⟨W, ps, rfl, _⟩ := h
    rfl
  · obtain ⟨W, ps, rfl, ⟨dx, S, Tb, Lv, h1, h2, _⟩, k⟩ := h
    refine ⟨_, pss_one (ps_ret (pe_callTy call_list_of (by rfl) T.list (by decide +kernel) (pa_cons (pe_fld (pv 0) rfl) pa_nil))), ?_⟩
    exact ⟨_, rfl, W, CW, dx, _, _, rfl, h1, C.cl, C.nS, rfl, S, _, rfl, .inl (SqL.of h2), fun p np => k p np⟩
/-- a class's number, else NoClass -/
def ClsNum (K : PySem.W.Frag) (H : Hp) (E : XK) (CN : Addr) (x : V) (m : Nat) (Q : Nat → Prop) : Prop := (NotInt K H x ∧ Thrown H E CN [("number", x), ("why", .str "class")]) ∨ ∃ i : Int, x = .int i ∧ (∀ n : Nat, i = n → n < m → Q n) ∧ (¬ (0 ≤ i ∧ i < m) → Thrown H E CN [("number", x), ("why", .str "class")])
def spWShape (K : PySem.W.Frag) (CL CS CW CN : Addr) : Sp := fun vs H Q E => ∃ W x ps, vs = [.ref W, x] ∧ IsWorld K CL CS CW H W ps ∧ ClsNum K H E CN x ps.length fun n => ∀ a m, ps[n]? = some (a, m) → IsShape K CL CS H a m → Q (.ref a) H
theorem scWShape : FnScope ["self", "number"] ["self", "number"] (defScope mWShape) := ⟨rfl, rfl, rfl, by decide +kernel, rfl, by decide +kernel, by decide +kernel⟩
theorem ok_wShape {f g fC CL CS CW CN : Addr} {fd gd dC : FuncData} (F : Fun K "_shape" "World._shape" mWShape f fd) (C : WdC K mg CW) (mC : Meth K CW "count" fC) (bC : Binds K dC ["self"] []) (GC : FnOk P w K mg base CX0 1 fC dC ["self"] (spWCount K CL CS CW))
    (gG : mg "check_class" = some (.ref g)) (kG : PySem.W.keepIn K (.ref g) = true) (bG : Binds K gd ["number", "many"] []) (GG : FnOk P w K mg base (L2.CX P w) 4 g gd ["number", "many"] (spCkClass K CN)) : FnOk P w K mg base (L2.CX P w) 5 f fd ["self", "number"] (spWShape K CL CS CW CN) := by
  refine F.okX scWShape (fun vs H Q E h => ?_) (fun cdv A outer s H vs Q E hr h => ?_)
  · obtain ⟨W, x, ps, rfl, _⟩ := h
    rfl
  · obtain ⟨W, x, ps, rfl, hW, h⟩ := h
    have hr1 : Room 1 _ := hr.mono (by decide)
    refine ⟨_, pss_cons (ps_expr (pe_callS GG hr rfl gG kG bG (fun σ => passAt (takes_of rfl rfl rfl rfl) σ) (pa_cons (pv 1) (pa_cons (pe_meth0 (pv 0) C.cl mC GC hr1 bC .nil pass0) pa_nil))))
      (pss_one (ps_ret (pe_ix ix_list (pe_fld (pv 0) rfl) (pv 1) (fun _ _ => rfl)))), ?_⟩
    have hW2 := hW
    obtain ⟨dx, S, Tb, Lv, h1, h2, h3, _⟩ := hW2
    refine ⟨_, rfl, _, rfl, W, dx, _, rfl, h1, rfl, W, ps, rfl, hW, x, ps.length, rfl, ?_⟩
    rcases h with ⟨ni, th⟩ | ⟨i, rfl, ok, out⟩
    · exact .inl ⟨ni, th⟩
    · refine .inr ⟨i, rfl, fun n e hn => ?_, out⟩
      obtain ⟨p, hp⟩ : ∃ p, ps[n]? = some p := ⟨_, List.getElem?_eq_getElem hn⟩
      subst e
      refine ⟨_, rfl, W, CW, dx, _, _, rfl, h1, C.cl, C.nS, rfl, _, rfl, S, _, _, _, rfl, rfl, SqL.of h2, atI_nat (by rw [List.getElem?_map, hp]; rfl), ?_⟩
      exact ok n rfl hn p.1 p.2 hp (h3 p (List.mem_of_getElem? hp))
/-- a reader by the class's number -/
def spWList (K : PySem.W.Frag) (CL CS CW CN : Addr) (f : Cm → List V) : Sp := fun vs H Q E => ∃ W x ps, vs = [.ref W, x] ∧ IsWorld K CL CS CW H W ps ∧ ClsNum K H E CN x ps.length fun n => ∀ m, (ps.map (·.2))[n]? = some m → ∀ p, H p = none → Q (.ref p) (upd H p (.lst (f m)))
theorem scWLine : FnScope ["self", "number"] ["self", "number"] (defScope mWLine) := ⟨rfl, rfl, rfl, by decide +kernel, rfl, by decide +kernel, by decide +kernel⟩
theorem scWFields : FnScope ["self", "number"] ["self", "number"] (defScope mWFields) := ⟨rfl, rfl, rfl, by decide +kernel, rfl, by decide +kernel, by decide +kernel⟩
theorem isShape_ins {CL CS : Addr} {H : Hp} {a : Addr} {m : Cm} (h : IsShape K CL CS H a m) : ∃ dx us, H a = some (.ins CS dx us) ∧ us.lookup ("line" : Str) = none ∧ us.lookup ("fields" : Str) = none ∧ us.lookup ("order" : Str) = none ∧ us.lookup ("layout" : Str) = none ∧ us.lookup ("bases" : Str) = none := by
  obtain ⟨dx, po, pl, pn, pb, pf, pd, h, _⟩ := h
  exact ⟨dx, _, h, rfl, rfl, rfl, rfl, rfl⟩
theorem ok_wLine {f fS fN CL CS CW CN : Addr} {fd dS dN : FuncData} (F : Fun K "line" "World.line" mWLine f fd) (C : WdC K mg CW) (mS : Meth K CW "_shape" fS) (bS : Binds K dS ["self", "number"] []) (GS : FnOk P w K mg base (L2.CX P w) 5 fS dS ["self", "number"] (spWShape K CL CS CW CN))
    (L : ShLineOps P w K mg base CL CS fN dN) : FnOk P w K mg base (L2.CX P w) 6 f fd ["self", "number"] (spWList K CL CS CW CN fun m => natsV m.line) := by
  refine F.okX scWLine (fun vs H Q E h => ?_) (fun cdv A outer s H vs Q E hr h => ?_)
  · obtain ⟨W, x, ps, rfl, _⟩ := h
    rfl
  · obtain ⟨W, x, ps, rfl, hW, h⟩ := h
    have hr1 : Room 1 _ := hr.mono (by decide)
    refine ⟨_, pss_one (ps_ret (pe_meth0 (pe_meth (E := E) (pv 0) C.cl mS GS hr bS .nil (fun pins σ => passAt (W := fun cls d _ H => E cls d H) (takes_of rfl rfl rfl rfl) σ pins) (pa_cons (pv 1) pa_nil)) L.C.cl L.m L.G hr1 L.b .nil pass0)), ?_⟩
    have hW2 := hW
    obtain ⟨dx, S, Tb, Lv, h1, h2, h3, _⟩ := hW2
    refine ⟨_, rfl, W, dx, _, rfl, h1, rfl, _, rfl, W, x, ps, rfl, hW, ?_⟩
    rcases h with ⟨ni, th⟩ | ⟨i, rfl, ok, out⟩
    · exact .inl ⟨ni, th⟩
    · refine .inr ⟨i, rfl, fun n e hn a m hm sh => ?_, out⟩
      obtain ⟨da, us, ha, uL, uF, uO, uY, uB⟩ := isShape_ins sh
      exact ⟨a, da, _, rfl, ha, uL, a, m, rfl, sh, ok n e hn m (by rw [List.getElem?_map, hm]; rfl)⟩
end
end Pr

set_option autoImplicit true
set_option Elab.async false
set_option linter.all false
set_option maxRecDepth 100000
set_option maxHeartbeats 1000000
/-! World.__init__. -/
namespace Pr
open PySem L2 Two ClX SlX
abbrev mWInit : Stmt := within (top 57) 0
theorem World0.nil : World0 [] := ⟨Nat.zero_le _, fun _ _ h => by simp at h, fun _ h => (nomatch h), fun _ _ h => by simp at h, fun _ _ h => by simp at h, fun _ h => (nomatch h)⟩
theorem newEnd_first {K : PySem.W.Frag} {CL CS CC CO CR : Addr} {H0 : Hp} {a : Addr} {Q : VK} {E : XK} (ok : ∀ mg, MergedTo (ordLs [] []) mg → ∀ H', Same H0 H' → IsShape K CL CS H' a (newCm [] 0 [] [] false [] mg) → ShNew CS H0 H' a → Q .non H') : NewEnd K CL CS CC CO CR H0 a 0 [] [] [] false Q E := by
  refine ⟨(fun i j h => nomatch h), (fun _ H' q n us _ _ ex _ _ _ _ _ => ?_), (fun _ mg _ h => nomatch h), fun _ mg above MT ab _ H' s sh nw => ?_⟩
  · obtain ⟨r, hr, ne⟩ := ex
    exfalso
    cases r with
    | nil => exact ne rfl
    | cons y r =>
      obtain ⟨l, hl, hy⟩ := (Mg.st_items _ n).2 _ hr y List.mem_cons_self
      have e : l = [] := List.mem_singleton.mp hl
      rw [e] at hy
      cases hy
  · rcases ab with ⟨_, rfl⟩ | ⟨i, z, hz, _⟩
    · exact ok mg MT H' s sh nw
    · simp at hz
section
variable {P : Program} {w : World} {K : PySem.W.Frag} {mg : Str → Option Value} {base : Heap}
theorem IsShape.other {CL CS p a C' dx' : Addr} {H : Hp} {m : Cm} {us : List (Str × V)} {o : HO} (h : IsShape K CL CS H p m) (ha : H a = some (.ins C' dx' us)) (ne : p ≠ a) : IsShape K CL CS (upd H a o) p m := by
  obtain ⟨dx, po, pl, pn, pb, pf, pd, h1, h2, h3, h4, h5, h6, h7⟩ := h
  have k : ∀ {q : Addr} {xs : List V}, H q = some (.lst xs) → (upd H a o) q = some (.lst xs) := fun e => by
    rw [upd_ne (fun z => by rw [z, ha] at e; cases e)]
    exact e
  exact ⟨dx, po, pl, pn, pb, pf, pd, by rw [upd_ne ne]; exact h1, k h2, h3.other ha, k h4, k h5, k h6, by rw [upd_ne (fun z => by rw [z, ha] at h7; cases h7)]; exact h7⟩
/-- all but some lists stays -/
def KeepL (L : Addr → Prop) (H H' : Hp) : Prop := ∀ b o, H b = some o → (∀ ps, o ≠ .tbl ps) → (L b ∨ ∀ xs, o ≠ .lst xs) → H' b = some o
theorem KeepL.lay {L : Addr → Prop} {H H' : Hp} {CL a : Addr} {fs : List Str} {r : Bool} (k : KeepL L H H') (h : IsLay K CL H a fs r) : IsLay K CL H' a fs r := by
  obtain ⟨dx, t, hs, ht, nm⟩ := h
  have g : ∀ {q : Addr} {o : HO}, H q = some o → (∀ xs, o ≠ .lst xs) → (∀ ps, o ≠ .tbl ps) → H' q = some o := fun e d d2 => k _ _ e d2 (.inr d)
  refine ⟨dx, t, ?_, g ht (fun _ z => nomatch z) (fun _ z => nomatch z), nm⟩
  exact hs.imp (fun ⟨x, y⟩ => ⟨g x (fun _ z => nomatch z) (fun _ z => nomatch z), y⟩) (fun ⟨x, y⟩ => ⟨g x (fun _ z => nomatch z) (fun _ z => nomatch z), g y (fun _ z => nomatch z) (fun _ z => nomatch z)⟩)
theorem KeepL.shape {L : Addr → Prop} {H H' : Hp} {CL CS a : Addr} {m : Cm} (k : KeepL L H H') (h : IsShape K CL CS H a m) (l : ShL CS L H a) : IsShape K CL CS H' a m ∧ ShL CS L H' a := by
  obtain ⟨dx, po, pl, pn, pb, pf, pd, h1, h2, h3, h4, h5, h6, h7⟩ := h
  obtain ⟨dx2, us, e, hl⟩ := l
  rw [h1] at e
  cases e
  have i := k _ _ h1 (fun _ z => nomatch z) (.inr fun _ z => nomatch z)
  exact ⟨⟨dx, po, pl, pn, pb, pf, pd, i, k _ _ h2 (fun _ z => nomatch z) (.inl (hl "_order" po (by simp) rfl)), k.lay h3, k _ _ h4 (fun _ z => nomatch z) (.inl (hl "_line" pn (by simp) rfl)), k _ _ h5 (fun _ z => nomatch z) (.inl (hl "_bases" pb (by simp) rfl)), k _ _ h6 (fun _ z => nomatch z) (.inl (hl "_fields" pf (by simp) rfl)), k _ _ h7 (fun _ z => nomatch z) (.inr fun _ z => nomatch z)⟩, _, _, i, hl⟩
/-- the lists of a shape stand -/
theorem ShL.live {L : Addr → Prop} {H : Hp} {CL CS a : Addr} {m : Cm} (h : IsShape K CL CS H a m) (l : ShL CS L H a) : ShL CS (fun b => L b ∧ ∃ xs, H b = some (.lst xs)) H a := by
  obtain ⟨dx, po, pl, pn, pb, pf, pd, h1, h2, h3, h4, h5, h6, h7⟩ := h
  obtain ⟨dx2, us, e, hl⟩ := l
  rw [h1] at e
  cases e
  refine ⟨_, _, h1, fun f p hf hp => ⟨hl f p hf hp, ?_⟩⟩
  have c1 : f = "_order" ∨ f = "_line" ∨ f = "_bases" ∨ f = "_fields" := by simpa using hf
  rcases c1 with rfl | rfl | rfl | rfl
  · rw [show p = po from V.ref.inj (Option.some.inj (hp.symm.trans (by rfl)))]
    exact ⟨_, h2⟩
  · rw [show p = pn from V.ref.inj (Option.some.inj (hp.symm.trans (by rfl)))]
    exact ⟨_, h4⟩
  · rw [show p = pb from V.ref.inj (Option.some.inj (hp.symm.trans (by rfl)))]
    exact ⟨_, h5⟩
  · rw [show p = pf from V.ref.inj (Option.some.inj (hp.symm.trans (by rfl)))]
    exact ⟨_, h6⟩
/-- they are not what is new -/
theorem ShL.apart {L : Addr → Prop} {H : Hp} {CL CS a q : Addr} {m : Cm} (h : IsShape K CL CS H a m) (l : ShL CS L H a) (n : H q = none) : ShL CS (fun b => L b ∧ b ≠ q) H a := (l.live h).imp fun b ⟨x, xs, e⟩ => ⟨x, fun z => by rw [z, n] at e; cases e⟩
/-- a world whose lists are among L -/
structure WorldAt (K : PySem.W.Frag) (CL CS CW : Addr) (L : Addr → Prop) (H : Hp) (W dx S Tb Lv : Addr) (ps : List (Addr × Cm)) : Prop where
  w : H W = some (.ins CW dx [("_shapes", .ref S), ("_tables", .ref Tb), ("_lives", .ref Lv)])
  s : H S = some (.lst (ps.map fun p => V.ref p.1))
  sh : ∀ p ∈ ps, IsShape K CL CS H p.1 p.2
  t : ∃ tbs, H Tb = some (.lst tbs) ∧ tbs.length = ps.length
  v : ∃ lvs, H Lv = some (.lst lvs) ∧ lvs.length = ps.length
  w0 : World0 (ps.map (·.2))
  lS : L S
  lT : L Tb
  lV : L Lv
  ne : S ≠ Tb ∧ S ≠ Lv ∧ Tb ≠ Lv
  sl : ∀ p ∈ ps, ShL CS (fun b => L b ∧ b ≠ S ∧ b ≠ Tb ∧ b ≠ Lv) H p.1
theorem WorldAt.few {CL CS CW : Addr} {L : Addr → Prop} {H : Hp} {W dx S Tb Lv : Addr} {ps : List (Addr × Cm)} (w : WorldAt K CL CS CW L H W dx S Tb Lv ps) : ps.length ≤ 25 := by
  have := w.w0.few
  rw [List.length_map] at this
  exact this
theorem WorldAt.is {CL CS CW : Addr} {L : Addr → Prop} {H : Hp} {W dx S Tb Lv : Addr} {ps : List (Addr × Cm)} (w : WorldAt K CL CS CW L H W dx S Tb Lv ps) : IsWorld K CL CS CW H W ps := by
  obtain ⟨tbs, h4, h5⟩ := w.t
  obtain ⟨lvs, h6, h7⟩ := w.v
  have := w.few
  exact ⟨dx, S, Tb, Lv, w.w, w.s, w.sh, ⟨tbs, h4, by omega⟩, ⟨lvs, h6, by omega⟩, w.w0⟩
theorem WorldAt.keepL {CL CS CW : Addr} {L : Addr → Prop} {H H' : Hp} {W dx S Tb Lv : Addr} {ps : List (Addr × Cm)} (w : WorldAt K CL CS CW L H W dx S Tb Lv ps) (k : KeepL L H H') : WorldAt K CL CS CW L H' W dx S Tb Lv ps := by
  obtain ⟨tbs, h4, h5⟩ := w.t
  obtain ⟨lvs, h6, h7⟩ := w.v
  have k2 : KeepL (fun b => L b ∧ b ≠ S ∧ b ≠ Tb ∧ b ≠ Lv) H H' := fun b o e d h => k b o e d (h.imp (·.1) id)
  exact ⟨k _ _ w.w (fun _ z => nomatch z) (.inr fun _ z => nomatch z), k _ _ w.s (fun _ z => nomatch z) (.inl w.lS), fun p hp => (k2.shape (w.sh p hp) (w.sl p hp)).1, ⟨tbs, k _ _ h4 (fun _ z => nomatch z) (.inl w.lT), h5⟩, ⟨lvs, k _ _ h6 (fun _ z => nomatch z) (.inl w.lV), h7⟩, w.w0, w.lS, w.lT, w.lV, w.ne, fun p hp => (k2.shape (w.sh p hp) (w.sl p hp)).2⟩
theorem WorldAt.keep {CL CS CW : Addr} {L : Addr → Prop} {H H' : Hp} {W dx S Tb Lv : Addr} {ps : List (Addr × Cm)} (w : WorldAt K CL CS CW L H W dx S Tb Lv ps) (s : Same H H') : WorldAt K CL CS CW L H' W dx S Tb Lv ps := w.keepL fun b o e _ _ => s b o e
theorem WorldAt.imp {CL CS CW : Addr} {L L' : Addr → Prop} {H : Hp} {W dx S Tb Lv : Addr} {ps : List (Addr × Cm)} (w : WorldAt K CL CS CW L H W dx S Tb Lv ps) (i : ∀ b, L b → L' b) : WorldAt K CL CS CW L' H W dx S Tb Lv ps :=
  ⟨w.w, w.s, w.sh, w.t, w.v, w.w0, i _ w.lS, i _ w.lT, i _ w.lV, w.ne, fun p hp => (w.sl p hp).imp fun b h => ⟨i b h.1, h.2⟩⟩
structure ShMake (P : Program) (w : World) (K : PySem.W.Frag) (mg : Str → Option Value) (base : Heap) (CL CS CC CO CR fI : Addr) (dI : FuncData) : Prop where
  C : ShC K mg CS
  M : Mk K CS fI
  b : Binds K dI ["self", "number", "bases", "fields", "roomy", "shapes"] []
  G : FnOk P w K mg base (L2.CX P w) 10 fI dI ["self", "number", "bases", "fields", "roomy", "shapes"] (spShInit K CL CS CC CO CR)
def spWInit (K : PySem.W.Frag) (CL CS CW : Addr) : Sp := fun vs H Q _ => ∃ (a dx : Addr) (H0 : Hp), vs = [.ref a] ∧ H a = some (.ins CW dx []) ∧ H0 a = none ∧ Same H0 H ∧ ∀ H' p mg, Same H0 H' → MergedTo (ordLs [] []) mg → (∀ S Tb Lv, WorldAt K CL CS CW (fun b => H0 b = none) H' a dx S Tb Lv [(p, newCm [] 0 [] [] false [] mg)] → Q .non H')
theorem scWInit : FnScope ["self"] ["self"] (defScope mWInit) := ⟨rfl, rfl, rfl, by decide +kernel, rfl, by decide +kernel, by decide +kernel⟩
theorem ok_wInit {f CL CS CW CC CO CR fI : Addr} {fd dI : FuncData} (F : Fun K "__init__" "World.__init__" mWInit f fd) (C : WdC K mg CW) (S : ShMake P w K mg base CL CS CC CO CR fI dI) : FnOk P w K mg base (L2.CX P w) 12 f fd ["self"] (spWInit K CL CS CW) := by
  refine F.okX scWInit (fun vs H Q E h => ?_) (fun cdv A outer s H vs Q E hr h => ?_)
  · obtain ⟨a, dx, H0, rfl, _⟩ := h
    rfl
  · obtain ⟨a, dx, H0, rfl, ha, na, s0, k⟩ := h
    refine ⟨_, pss_cons (ps_fld (f := "_shapes") (pv 0) (pe_lst (pa_cons (pe_make S.M S.G hr (by rfl) S.C.g S.b .nil (passE (E := fun _ _ _ => False) fun _ _ _ z => z) (pa_cons pe_int (pa_cons (pe_lst pa_nil) (pa_cons (pe_lst pa_nil) (pa_cons pe_bl (pa_cons (pe_lst pa_nil) pa_nil)))))) pa_nil)) rfl)
      (pss_cons (ps_fld (f := "_tables") (pv 0) (pe_lst (pa_cons pe_dnewK pa_nil)) rfl)
      (pss_one (ps_fld (f := "_lives") (pv 0) (pe_lst (pa_cons pe_int pa_nil)) rfl))), ?_⟩
    have keepL : ∀ {G : Hp} {p C' : Addr} {o' o : HO} {us : List (Str × V)}, G a = some (.ins C' dx us) → G p = some o' → (∀ us, o' ≠ .ins C' dx us) → (upd G a o) p = some o' := fun ga gp no => by
      rw [upd_ne (fun e => by rw [e, ga] at gp; exact no _ (Option.some.inj gp).symm)]
      exact gp
    refine ⟨Nat.zero_le _, fun q1 n1 => ⟨Nat.zero_le _, fun q2 n2 => ⟨Nat.zero_le _, fun q3 n3 => ?_⟩⟩⟩
    dsimp only [tNil]
    intro p dp np nd ne
    have z1 : (upd (upd (upd H q1 (.lst [])) q2 (.lst [])) q3 (.lst [])) q1 = some (.lst []) := app (app upd_same n2) n3
    have z2 : (upd (upd (upd H q1 (.lst [])) q2 (.lst [])) q3 (.lst [])) q2 = some (.lst []) := app upd_same n3
    have z3 : (upd (upd (upd H q1 (.lst [])) q2 (.lst [])) q3 (.lst [])) q3 = some (.lst []) := upd_same
    have sH : Same H (upd (upd (upd H q1 (.lst [])) q2 (.lst [])) q3 (.lst [])) := ad (ad (same_new n1) n2) n3
    show spShInit K CL CS CC CO CR [.ref p, .int (0 : Nat), .ref q1, .ref q2, .bl false, .ref q3] _ _ _
    generalize (upd (upd (upd H q1 (.lst [])) q2 (.lst [])) q3 (.lst [])) = H3 at z1 z2 z3 sH np nd ⊢
    refine ⟨p, dp, 0, q1, q2, q3, false, [], [], [], H3, rfl, upd_same, np, same_upd (same_new nd) np, SqL.of z1, z2, ⟨SqL.of z3, fun _ h => nomatch h⟩, Nat.zero_le _, List.nodup_nil, (fun _ h => nomatch h), World0.nil.wf, List.nodup_nil, Nat.zero_le _, (fun _ h => nomatch h), newEnd_first fun mg1 MT H4 s4 sh nw => ⟨rfl, ?_⟩⟩
    have a3 := sH _ _ ha
    have pa : p ≠ a := fun e => by rw [e, a3] at np; cases np
    have a4 := s4 _ _ a3
    have s04 := (s0.trans sH).trans s4
    have sl3 : ShL CS (fun b => H0 b = none) H4 p := ShL.imp nw fun b e => none_of_same (s0.trans sH) e
    refine ⟨by show 1 ≤ sizeLine; decide, fun q4 n4 => ⟨_, rfl, a, CW, dx, [], rfl, app a4 n4, C.cl, C.nS, by show 0 < 1000; decide, ?_⟩⟩
    have a5 : (upd (upd H4 q4 (.lst [.ref p])) a (.ins CW dx [("_shapes", .ref q4)])) a = some (.ins CW dx [("_shapes", .ref q4)]) := upd_same
    have l5 : (upd (upd H4 q4 (.lst [.ref p])) a (.ins CW dx [("_shapes", .ref q4)])) q4 = some (.lst [.ref p]) := keepL (app a4 n4) upd_same (fun us e => by cases e)
    have sh5 : IsShape K CL CS (upd (upd H4 q4 (.lst [.ref p])) a (.ins CW dx [("_shapes", .ref q4)])) p (newCm [] 0 [] [] false [] mg1) := (sh.keep (same_new n4)).other (app a4 n4) pa
    have sl4 : ShL CS (fun b => H0 b = none ∧ b ≠ q4) H4 p := ShL.apart sh sl3 n4
    have sl5 : ShL CS (fun b => H0 b = none ∧ b ≠ q4) (upd (upd H4 q4 (.lst [.ref p])) a (.ins CW dx [("_shapes", .ref q4)])) p := (sl4.keep (same_new n4)).other pa
    have s05 : Same H0 (upd (upd H4 q4 (.lst [.ref p])) a (.ins CW dx [("_shapes", .ref q4)])) := same_upd (same_upd s04 (none_of_same s04 n4)) na
    show tSeq _ _ _ _ (upd (upd H4 q4 (.lst [.ref p])) a (.ins CW dx [("_shapes", .ref q4)]))
    generalize (upd (upd H4 q4 (.lst [.ref p])) a (.ins CW dx [("_shapes", .ref q4)])) = H5 at a5 l5 sh5 s05 sl5 ⊢
    refine fun q5 n5 => ⟨by show 1 ≤ sizeLine; decide, fun q6 n6 => ⟨_, rfl, a, CW, dx, _, rfl, app (app a5 n5) n6, C.cl, C.nT, by show 1 < 1000; decide, ?_⟩⟩
    have g5 : Same H5 (upd (upd H5 q5 (.dK [])) q6 (.lst [.ref q5])) := ad (same_new n5) n6
    have a6 : (upd (upd H5 q5 (.dK [])) q6 (.lst [.ref q5])) a = some (.ins CW dx [("_shapes", .ref q4)]) := g5 _ _ a5
    have l6 : (upd (upd H5 q5 (.dK [])) q6 (.lst [.ref q5])) q4 = some (.lst [.ref p]) := g5 _ _ l5
    have t6 : (upd (upd H5 q5 (.dK [])) q6 (.lst [.ref q5])) q6 = some (.lst [.ref q5]) := upd_same
    have sh6 := sh5.keep g5
    have e46 : q4 ≠ q6 := ne_of_none (app l5 n5) n6
    have sl6 : ShL CS (fun b => (H0 b = none ∧ b ≠ q4) ∧ b ≠ q6) (upd (upd H5 q5 (.dK [])) q6 (.lst [.ref q5])) p := (ShL.apart (sh5.keep (same_new n5)) (sl5.keep (same_new n5)) n6).keep (same_new n6)
    have s06 := s05.trans g5
    rw [show putF "_tables" (V.ref q6) [("_shapes", V.ref q4)] = ([("_shapes", .ref q4), ("_tables", .ref q6)] : List (Str × V)) from rfl]
    generalize (upd (upd H5 q5 (.dK [])) q6 (.lst [.ref q5])) = H6 at a6 l6 t6 sh6 s06 sl6 ⊢
    have a7 : (upd H6 a (.ins CW dx [("_shapes", .ref q4), ("_tables", .ref q6)])) a = some (.ins CW dx [("_shapes", .ref q4), ("_tables", .ref q6)]) := upd_same
    have l7 := keepL (o := .ins CW dx [("_shapes", .ref q4), ("_tables", .ref q6)]) a6 l6 (fun us e => by cases e)
    have t7 := keepL (o := .ins CW dx [("_shapes", .ref q4), ("_tables", .ref q6)]) a6 t6 (fun us e => by cases e)
    have sh7 := sh6.other (o := .ins CW dx [("_shapes", .ref q4), ("_tables", .ref q6)]) a6 pa
    have sl7 := sl6.other (o := .ins CW dx [("_shapes", .ref q4), ("_tables", .ref q6)]) pa
    have s07 : Same H0 (upd H6 a (.ins CW dx [("_shapes", .ref q4), ("_tables", .ref q6)])) := same_upd s06 na
    generalize (upd H6 a (.ins CW dx [("_shapes", .ref q4), ("_tables", .ref q6)])) = H7 at a7 l7 t7 sh7 s07 sl7 ⊢
    refine ⟨by show 1 ≤ sizeLine; decide, fun q7 n7 => ⟨_, rfl, a, CW, dx, _, rfl, app a7 n7, C.cl, C.nL, by show 2 < 1000; decide, ?_⟩⟩
    have a8 : (upd (upd H7 q7 (.lst [.int 0])) a (.ins CW dx [("_shapes", .ref q4), ("_tables", .ref q6), ("_lives", .ref q7)])) a = some (.ins CW dx [("_shapes", .ref q4), ("_tables", .ref q6), ("_lives", .ref q7)]) := upd_same
    refine k _ p mg1 (same_upd (same_upd s07 (none_of_same s07 n7)) na) MT q4 q6 q7 ⟨a8, keepL (app a7 n7) (app l7 n7) (fun us e => by cases e), fun r hr => ?_, ⟨_, keepL (app a7 n7) (app t7 n7) (fun us e => by cases e), rfl⟩, ⟨_, keepL (app a7 n7) upd_same (fun us e => by cases e), rfl⟩, ?_, none_of_same s04 n4, none_of_same (s05.trans (same_new n5)) n6, none_of_same s07 n7, ⟨e46, ne_of_none l7 n7, ne_of_none t7 n7⟩, fun r hr => ?_⟩
    · rw [List.mem_singleton.mp hr]
      exact (sh7.keep (same_new n7)).other (app a7 n7) pa
    · exact World0.nil.snoc (by decide) (fun _ h => nomatch h) List.nodup_nil (Nat.zero_le _) (fun _ => ⟨rfl, rfl⟩) (.inl ⟨rfl, rfl⟩) MT
    · rw [List.mem_singleton.mp hr]
      exact (((ShL.apart sh7 sl7 n7).imp fun b h => ⟨h.1.1.1, h.1.1.2, h.1.2, h.2⟩).keep (same_new n7)).other pa
end
end Pr

set_option autoImplicit true
set_option Elab.async false
set_option linter.all false
set_option maxRecDepth 100000
set_option maxHeartbeats 1000000
/-! What a value is. -/
namespace Pr
open PySem L2 Two ClX SlX
abbrev sIsValue : Stmt := top 18
abbrev sValueIn : Stmt := top 19
abbrev sCkValue : Stmt := top 25
theorem tyx_sqt {K : PySem.W.Frag} {H : Hp} {a : Addr} {xs : List V} (h : SqT K H a xs) : TyX K H (.ref a) (.type "tuple") := by
  rcases h with (h | ⟨o, h⟩) | ⟨o, its, n, h, c, _⟩
  · exact .base (.tup h)
  · exact .fTuple h
  · exact .kTuple h c
/-- of a type that no value is of -/
def NoVal (K : PySem.W.Frag) (H : Hp) (x : V) : Prop := ∃ t, TyX K H x t ∧ PySem.W.kitOne K t (.type "tuple") = some false ∧ PySem.W.kitOne K t (.type "str") = some false ∧ ∃ b1 b2, PySem.W.kitOne K t (.type "int") = some b1 ∧ PySem.W.kitOne K t (.type "bool") = some b2 ∧ (b1 && !b2) = false
/-- x is a value at most n deep: b -/
inductive Vl (K : PySem.W.Frag) (H : Hp) : V → Nat → Bool → Prop
  | int (i : Int) (n : Nat) : Vl K H (.int i) n true
  | str (z : Str) (n : Nat) : Vl K H (.str z) n true
  | flat {a : Addr} {xs : List V} (h : SqT K H a xs) : Vl K H (.ref a) 0 false
  | deep {a : Addr} {xs : List V} {bs : List Bool} {n : Nat} (h : SqT K H a xs) (l : xs.length = bs.length) (z : xs.length ≤ 1000) (e : ∀ (i : Nat) x b, xs[i]? = some x → bs[i]? = some b → Vl K H x n b) : Vl K H (.ref a) (n + 1) (bs.all id)
  | other {x : V} (n : Nat) (h : ∀ H', Same H H' → NoVal K H' x) : Vl K H x n false
theorem Vl.keep {K : PySem.W.Frag} {H H' : Hp} {x : V} {n : Nat} {b : Bool} (v : Vl K H x n b) (s : Same H H') : Vl K H' x n b := by
  induction v with
  | int i n => exact .int i n
  | str z n => exact .str z n
  | flat h => exact .flat (sqt_keep s h)
  | deep h l z e ih => exact .deep (sqt_keep s h) l z ih
  | other n h => exact .other n fun G g => h G (s.trans g)
section
variable {P : Program} {w : World} {K : PySem.W.Frag} {mg : Str → Option Value} {base : Heap}
def spValIn (K : PySem.W.Frag) (m : Nat) : Sp := fun vs H Q _ => ∃ (x : V) (n : Nat) (b : Bool), vs = [x, .int (n : Nat)] ∧ n ≤ m ∧ Vl K H x n b ∧ ∀ H', Same H H' → Q (.bl b) H'
theorem scValIn : FnScope ["thing", "depth", "part"] ["thing", "depth"] (defScope sValueIn) := ⟨rfl, rfl, rfl, by decide +kernel, rfl, by decide +kernel, by decide +kernel⟩
/-- one turn, by the promise for what is less deep -/
theorem val_turn {f g : Addr} {fd gd : FuncData} {m k : Nat} {sp : Sp} (F : Fun K "_is_value_within" "_is_value_within" sValueIn f fd) (T : TxtN mg) (gF : mg "_is_value_within" = some (.ref f)) (kF : PySem.W.keepIn K (.ref f) = true) (bF : Binds K fd ["thing", "depth"] [])
    (gI : mg "is_int" = some (.ref g)) (kI : PySem.W.keepIn K (.ref g) = true) (bI : Binds K gd ["thing"] []) (GI : FnOk P w K mg base CX0 1 g gd ["thing"] (spIsInt K)) (hk : 1 ≤ k) (GF : FnOk P w K mg base CX0 k f fd ["thing", "depth"] sp)
    (less : ∀ vs H Q E, 0 < m → spValIn K (m - 1) vs H Q E → sp vs H Q E) : FnOk P w K mg base CX0 (k + 1) f fd ["thing", "depth"] (spValIn K m) := by
  refine F.ok scValIn (fun vs H Q E h => ?_) (fun cdv A outer s H vs Q E hr h => ?_)
  · obtain ⟨x, n, b, rfl, _⟩ := h
    rfl
  · obtain ⟨x, n, b, rfl, hn, v, q⟩ := h
    have hr1 : Room 1 _ := hr.mono hk
    refine ⟨_, pss_cons (ps_if (pt_val (pe_callB call_isi (by rfl) T.isinstance (by decide +kernel) (pa_cons (pv 0) (pa_cons (pe_bltn (v := .ty "tuple") (by rfl) T.tuple (by decide +kernel) rfl) pa_nil))))
        (pss_one (ps_ret (pe_and (pe_cmpR op_gt (pv 1) pe_int (nomark _)) (pe_one (pe_callB (cr_all rfl) (by rfl) T.all (by decide +kernel) (pa_cons
          (pe_lc (own := [("part", 2)]) (g := gName 2) (tt := tYes) (te := tCall sp [] (fun _ _ _ => False) (tCons (tVar 2) (tCons (tOp (rI0 fun i j => .int (i - j)) (tVar 1) (tC (.int 1))) tNil))) rfl scValIn.nd (pi_tup (pv 0)) (blkOk_by (N := ["thing", "depth", "part"]) (sc := defScope sValueIn) (by decide +kernel))
            (fun _ _ _ _ _ => pg_name (i := 2) scValIn.nd rfl (Or.inl rfl)) (fun _ _ _ _ _ => pts_nil) (fun _ _ _ _ _ => pe_call GF hr rfl gF kF bF .nil pass0 (pa_cons (pv 2) (pa_cons (pe_op op_sub (pv 1) pe_int) pa_nil)))) pa_nil)))))) pss_nil)
      (pss_one (ps_ret (pe_or (pe_call GI hr1 rfl gI kI bI .nil pass0 (pa_cons (pv 0) pa_nil)) (pe_one (pe_callB call_isi (by rfl) T.isinstance (by decide +kernel) (pa_cons (pv 0) (pa_cons (pe_bltn (v := .ty "str") (by rfl) T.str (by decide +kernel) rfl) pa_nil))))))), ?_⟩
    cases v with
    | int i n =>
      refine ⟨_, rfl, _, .ty "tuple", .type "int", .type "tuple", false, rfl, .ty _, .base (.int i), kit_ty (by decide +kernel), false, rfl, iteF ?_⟩
      exact ⟨_, rfl, _, .type "int", true, false, rfl, .base (.int i), kit_ty (by decide +kernel), kit_ty (by decide +kernel), true, rfl, iteT (q _ (Same.refl _))⟩
    | str z n =>
      refine ⟨_, rfl, _, .ty "tuple", .type "str", .type "tuple", false, rfl, .ty _, .base (.str z), kit_ty (by decide +kernel), false, rfl, iteF ?_⟩
      exact ⟨_, rfl, _, .type "str", false, false, rfl, .base (.str z), kit_ty (by decide +kernel), kit_ty (by decide +kernel), false, rfl, iteF ⟨_, rfl, _, .ty "str", .type "str", .type "str", true, rfl, .ty _, .base (.str z), kit_ty (by decide +kernel), q _ (Same.refl _)⟩⟩
    | other n hv =>
      obtain ⟨t, ty, k1, k2, b1, b2, k3, k4, e⟩ := hv H (Same.refl _)
      refine ⟨_, rfl, _, .ty "tuple", t, .type "tuple", false, rfl, .ty _, ty, k1, false, rfl, iteF ?_⟩
      refine ⟨_, rfl, _, t, b1, b2, rfl, ty, k3, k4, _, rfl, ?_⟩
      rw [e]
      exact iteF ⟨_, rfl, _, .ty "str", t, .type "str", false, rfl, .ty _, ty, k2, q _ (Same.refl _)⟩
    | flat hS =>
      refine ⟨_, rfl, _, .ty "tuple", .type "tuple", .type "tuple", true, rfl, .ty _, tyx_sqt hS, kit_ty (by decide +kernel), true, rfl, iteT ?_⟩
      exact ⟨_, rfl, _, _, rfl, rfl, _, rfl, ite_false_of (by decide) (q _ (Same.refl _))⟩
    | @deep a xs bs n hS hl hz each =>
      refine ⟨_, rfl, _, .ty "tuple", .type "tuple", .type "tuple", true, rfl, .ty _, tyx_sqt hS, kit_ty (by decide +kernel), true, rfl, iteT ?_⟩
      refine ⟨_, rfl, _, _, rfl, rfl, _, rfl, ite_true_of (decide_eq_true (by omega)) ?_⟩
      refine ⟨_, rfl, a, rfl, ⟨_, hS⟩, fun D hD => lc_tup (K := K) (a := a) (xs := xs) (fun j G => Same H G ∧ G D = some (.lst ((bs.take j).map V.bl))) ⟨same_new hD, upd_same⟩ (fun j G _ p => sqt_keep p.1 hS) (fun j y G hy p => ?_) fun G p => ?_⟩
      · have hj := (List.getElem?_eq_some_iff.mp hy).1
        obtain ⟨b, hb⟩ : ∃ b, bs[j]? = some b := ⟨_, List.getElem?_eq_getElem (by omega)⟩
        refine ⟨rfl, ?_⟩
        unfold tYes
        simp only [if_true]
        refine ⟨_, rfl, _, rfl, _, _, rfl, rfl, less _ _ _ _ (by omega) ⟨y, n, b, ?_, by omega, (each j y b hy hb).keep p.1, fun G2 s2 => ⟨_, s2 _ _ p.2, ?_, same_upd (p.1.trans s2) hD, ?_⟩⟩⟩
        · show [y, V.int (((n + 1 : Nat) : Int) - 1)] = [y, V.int (n : Nat)]
          rw [show ((n + 1 : Nat) : Int) - 1 = (n : Nat) from by omega]
        · rw [List.length_map, List.length_take]
          exact Nat.lt_of_le_of_lt (Nat.min_le_left _ _) (small1000 (by omega))
        · rw [upd_same, take_snoc hb, List.map_append]
          rfl
      · rw [hl, List.take_length] at p
        exact ⟨D, bs, rfl, SqL.of p.2, q _ p.1⟩
theorem FnNever {f : Addr} {fd : FuncData} {ps : List Str} {k : Nat} : FnOk P w K mg base CX0 k f fd ps fun _ _ _ _ => False := ⟨fun _ _ _ _ h => h.elim, fun _ _ _ _ _ _ _ _ _ _ _ _ _ h => h.elim⟩
theorem ok_valIn {f g : Addr} {fd gd : FuncData} (F : Fun K "_is_value_within" "_is_value_within" sValueIn f fd) (T : TxtN mg) (gF : mg "_is_value_within" = some (.ref f)) (kF : PySem.W.keepIn K (.ref f) = true) (bF : Binds K fd ["thing", "depth"] [])
    (gI : mg "is_int" = some (.ref g)) (kI : PySem.W.keepIn K (.ref g) = true) (bI : Binds K gd ["thing"] []) (GI : FnOk P w K mg base CX0 1 g gd ["thing"] (spIsInt K)) : ∀ m, FnOk P w K mg base CX0 (m + 2) f fd ["thing", "depth"] (spValIn K m)
  | 0 => val_turn (k := 1) F T gF kF bF gI kI bI GI (Nat.le_refl _) FnNever fun _ _ _ _ h => absurd h (Nat.lt_irrefl _)
  | m + 1 => val_turn (k := m + 2) F T gF kF bF gI kI bI GI (by omega) (ok_valIn F T gF kF bF gI kI bI GI m) fun _ _ _ _ _ h => h
/-! ### is_value -/
def spIsVal (K : PySem.W.Frag) : Sp := fun vs H Q _ => ∃ (x : V) (b : Bool), vs = [x] ∧ Vl K H x 4 b ∧ ∀ H', Same H H' → Q (.bl b) H'
theorem scIsVal : FnScope ["thing"] ["thing"] (defScope sIsValue) := ⟨rfl, rfl, rfl, by decide +kernel, rfl, by decide +kernel, by decide +kernel⟩
theorem ok_isVal {f g : Addr} {fd gd : FuncData} (F : Fun K "is_value" "is_value" sIsValue f fd) (hm : ∃ t, mg "DEEPEST_VALUE" = some (.int 4 t)) (gV : mg "_is_value_within" = some (.ref g)) (kV : PySem.W.keepIn K (.ref g) = true) (bV : Binds K gd ["thing", "depth"] [])
    (GV : FnOk P w K mg base CX0 6 g gd ["thing", "depth"] (spValIn K 4)) : FnOk P w K mg base CX0 7 f fd ["thing"] (spIsVal K) := by
  refine F.ok scIsVal (fun vs H Q E h => ?_) (fun cdv A outer s H vs Q E hr h => ?_)
  · obtain ⟨x, b, rfl, _⟩ := h
    rfl
  · obtain ⟨x, b, rfl, v, q⟩ := h
    obtain ⟨tm, hm⟩ := hm
    refine ⟨_, pss_one (ps_ret (pe_call GV hr rfl gV kV bV .nil pass0 (pa_cons (pv 0) (pa_cons (pe_glob (v := .int 4) rfl hm ⟨_, rfl⟩) pa_nil)))), ?_⟩
    exact ⟨_, rfl, x, 4, b, rfl, Nat.le_refl _, v, q⟩
end
end Pr

set_option autoImplicit true
set_option Elab.async false
set_option linter.all false
set_option maxRecDepth 100000
set_option maxHeartbeats 1000000
/-! check_value and _is_pair, of what is right. -/
namespace Pr
open PySem L2 Two ClX SlX
abbrev sIsPair : Stmt := top 32
abbrev sCkPairs : Stmt := top 31
section
variable {P : Program} {w : World} {K : PySem.W.Frag} {mg : Str → Option Value} {base : Heap}
/-- a statement that is not reached -/
theorem ps_never {X : Cx} {st : Stmt} : PS X st fun _ _ _ => False := ⟨fun _ _ _ _ _ _ h => h.elim⟩
/-- of a value (no promise for what is none) -/
def spCkValue (K : PySem.W.Frag) : Sp := fun vs H Q _ => ∃ x : V, vs = [x] ∧ Vl K H x 4 true ∧ ∀ H', Same H H' → Q .non H'
theorem scCkValue : FnScope ["value"] ["value"] (defScope sCkValue) := ⟨rfl, rfl, rfl, by decide +kernel, rfl, by decide +kernel, by decide +kernel⟩
theorem ok_ckValue {f g : Addr} {fd gd : FuncData} (F : Fun K "check_value" "check_value" sCkValue f fd) (gV : mg "is_value" = some (.ref g)) (kV : PySem.W.keepIn K (.ref g) = true) (bV : Binds K gd ["thing"] []) (GV : FnOk P w K mg base CX0 7 g gd ["thing"] (spIsVal K)) :
    FnOk P w K mg base CX0 8 f fd ["value"] (spCkValue K) := by
  refine F.ok scCkValue (fun vs H Q E h => ?_) (fun cdv A outer s H vs Q E hr h => ?_)
  · obtain ⟨x, rfl, _⟩ := h
    rfl
  · obtain ⟨x, rfl, v, q⟩ := h
    refine ⟨_, pss_one (ps_if (pt_not (pt_val (pe_call GV hr rfl gV kV bV .nil pass0 (pa_cons (pv 0) pa_nil)))) (pss_one ps_never) pss_nil), ?_⟩
    exact ⟨_, rfl, x, true, rfl, v, fun H' s' => ⟨_, rfl, iteF (q H' s')⟩⟩
/-! ### _is_pair -/
def spIsPair (K : PySem.W.Frag) : Sp := fun vs H Q _ => ∃ (a : Addr) (xs : List V), vs = [.ref a] ∧ SqT K H a xs ∧ Q (.bl (decide (xs.length = 2))) H
theorem scIsPair : FnScope ["thing"] ["thing"] (defScope sIsPair) := ⟨rfl, rfl, rfl, by decide +kernel, rfl, by decide +kernel, by decide +kernel⟩
theorem ok_isPair {f : Addr} {fd : FuncData} (F : Fun K "_is_pair" "_is_pair" sIsPair f fd) (T : TxtN mg) : FnOk P w K mg base CX0 1 f fd ["thing"] (spIsPair K) := by
  refine F.ok scIsPair (fun vs H Q E h => ?_) (fun cdv A outer s H vs Q E hr h => ?_)
  · obtain ⟨a, xs, rfl, _⟩ := h
    rfl
  · obtain ⟨a, xs, rfl, hS, q⟩ := h
    refine ⟨_, pss_one (ps_ret (pe_and (pe_callB call_isi (by rfl) T.isinstance (by decide +kernel) (pa_cons (pv 0) (pa_cons (pe_bltn (v := .ty "tuple") (by rfl) T.tuple (by decide +kernel) rfl) pa_nil))) (pe_one (pe_cmpR op_eq (pe_callB call_len_seq (by rfl) T.len PySem.boot_len (pa_cons (pv 0) pa_nil)) pe_int (nomark _))))), ?_⟩
    refine ⟨_, rfl, _, .ty "tuple", .type "tuple", .type "tuple", true, rfl, .ty _, tyx_sqt hS, kit_ty (by decide +kernel), true, rfl, iteT ?_⟩
    refine ⟨_, rfl, a, xs, rfl, .inr hS, rfl, ?_⟩
    have e : decide (V.int (xs.length : Nat) = V.int 2) = decide (xs.length = 2) := by
      by_cases h : xs.length = 2
      · rw [h]
        rfl
      · rw [decide_eq_false h, decide_eq_false fun z => h (by have := V.int.inj z; omega)]
    rw [e]
    exact q
end
end Pr

set_option autoImplicit true
set_option Elab.async false
set_option linter.all false
set_option maxRecDepth 100000
set_option maxHeartbeats 1000000
/-! check_pairs, of no pairs (an empty tuple). -/
namespace Pr
open PySem L2 Two ClX SlX
section
variable {P : Program} {w : World} {K : PySem.W.Frag} {mg : Str → Option Value} {base : Heap}
def spCkPairs0 (K : PySem.W.Frag) : Sp := fun vs H Q _ => ∃ (p fl : Addr) (gs : List Str), vs = [.ref p, .ref fl] ∧ SqT K H p [] ∧ H fl = some (.lst (gs.map V.str)) ∧ gs.length ≤ 6 ∧ gs.Nodup ∧ ∀ H', Same H H' → Q .non H'
theorem scCkPairs0 : FnScope ["pairs", "fields", "name", "_", "value", "pair"] ["pairs", "fields"] (defScope sCkPairs) := ⟨rfl, rfl, rfl, by decide +kernel, rfl, by decide +kernel, by decide +kernel⟩
theorem ok_ckPairs0 {f fP fN fV fU CN CD : Addr} {fd dP dN dV dU : FuncData} (F : Fun K "check_pairs" "check_pairs" sCkPairs f fd) (T : TxtN mg) (hm : ∃ t, mg "MOST_VALUES" = some (.int 6 t))
    (gP : mg "_is_pair" = some (.ref fP)) (kP : PySem.W.keepIn K (.ref fP) = true) (bP : Binds K dP ["thing"] []) (GP : FnOk P w K mg base CX0 1 fP dP ["thing"] (spIsPair K))
    (gN : mg "check_name" = some (.ref fN)) (kN : PySem.W.keepIn K (.ref fN) = true) (bN : Binds K dN ["name"] []) (GN : FnOk P w K mg base (L2.CX P w) 4 fN dN ["name"] (spCkName K CN))
    (gV : mg "check_value" = some (.ref fV)) (kW : PySem.W.keepIn K (.ref fV) = true) (bV : Binds K dV ["value"] []) (GV : FnOk P w K mg base CX0 8 fV dV ["value"] (spCkValue K))
    (gU : mg "check_unlike" = some (.ref fU)) (kU : PySem.W.keepIn K (.ref fU) = true) (bU : Binds K dU ["things"] []) (GU : FnOk P w K mg base (L2.CX P w) 4 fU dU ["things"] (spCkUnlike K CD)) :
    FnOk P w K mg base (L2.CX P w) 9 f fd ["pairs", "fields"] (spCkPairs0 K) := by
  refine F.okX scCkPairs0 (fun vs H Q E h => ?_) (fun cdv A outer s H vs Q E hr h => ?_)
  · obtain ⟨p, fl, gs, rfl, _⟩ := h
    rfl
  · obtain ⟨p, fl, gs, rfl, hP, hF, g6, nd, k⟩ := h
    obtain ⟨tm, hm⟩ := hm
    have kit_lt : PySem.W.kitAny K (.type "tuple") [.type "list", .type "tuple"] = some true := by
      have e : PySem.W.kitOne K (.type "tuple") (.type "list") = some false := kit_ty (by decide +kernel)
      have e2 : PySem.W.kitOne K (.type "tuple") (.type "tuple") = some true := kit_ty (by decide +kernel)
      unfold PySem.W.kitAny
      simp only [e]
      unfold PySem.W.kitAny
      simp only [e2]
    have hr1 : Room 1 _ := hr.mono (by decide)
    have hr4 : Room 4 _ := hr.mono (by decide)
    refine ⟨_, pss_cons (ps_if (PW.pt (pw_or (pt_not (pt_val (pe_callB call_isiT (by rfl) T.isinstance (by decide +kernel) (pa_cons (pv 0) (pa_cons (pe_tup (pa_cons (pe_bltn (v := .ty "list") (by rfl) T.list (by decide +kernel) rfl) (pa_cons (pe_bltn (v := .ty "tuple") (by rfl) T.tuple (by decide +kernel) rfl) pa_nil))) pa_nil)))))
        (pw_or1 (pt_not (pt_val (pe_callB (cr_all rfl) (by rfl) T.all (by decide +kernel) (pa_cons
          (pe_lc (own := [("pair", 5)]) (g := gName 5) (tt := tYes) (te := tCall (spIsPair K) [] (fun _ _ _ => False) (tCons (tVar 5) tNil)) rfl scCkPairs0.nd (pi_tup (pv 0)) (blkOk_by (N := ["pairs", "fields", "name", "_", "value", "pair"]) (sc := defScope sCkPairs) (by decide +kernel))
            (fun _ _ _ _ _ => pg_name (i := 5) scCkPairs0.nd rfl (Or.inl rfl)) (fun _ _ _ _ _ => pts_nil) (fun _ _ _ _ _ => pe_call GP hr1 rfl gP kP bP .nil pass0 (pa_cons (pv 5) pa_nil))) pa_nil)))))))
        (pss_one ps_never) pss_nil)
      (pss_cons (ps_for (passes_of rfl) rfl (pi_tup (pv 0)) (pg_tup rfl (pgs_cons (pg_name (i := 2) scCkPairs0.nd rfl (Or.inl rfl)) (pgs_cons (pg_name (i := 3) scCkPairs0.nd rfl (Or.inl rfl)) pgs_nil)))
        (pss_one (ps_expr (pe_call GN hr4 rfl gN kN bN .nil (passE (E := fun _ _ _ => False) fun _ _ _ z => z) (pa_cons (pv 2) pa_nil)))))
      (pss_cons (ps_for (passes_of rfl) rfl (pi_tup (pv 0)) (pg_tup rfl (pgs_cons (pg_name (i := 3) scCkPairs0.nd rfl (Or.inl rfl)) (pgs_cons (pg_name (i := 4) scCkPairs0.nd rfl (Or.inl rfl)) pgs_nil)))
        (pss_one (ps_expr (pe_call GV hr rfl gV kW bV .nil pass0 (pa_cons (pv 4) pa_nil)))))
      (pss_cons (ps_expr (pe_call GU hr4 rfl gU kU bU .nil (passE (E := fun _ _ _ => False) fun _ _ _ z => z) (pa_cons (pe_op op_cat (pv 1)
          (pe_lc (own := [("name", 2), ("_", 3)]) (g := gTup K 2 (gCons (gName 2) (gCons (gName 3) gNil))) (tt := tYes) (te := tVar 2) rfl scCkPairs0.nd (pi_tup (pv 0)) (blkOk_by (N := ["pairs", "fields", "name", "_", "value", "pair"]) (sc := defScope sCkPairs) (by decide +kernel))
            (fun _ _ _ _ _ => pg_tup rfl (pgs_cons (pg_name (i := 2) scCkPairs0.nd rfl (Or.inl rfl)) (pgs_cons (pg_name (i := 3) scCkPairs0.nd rfl (Or.inl rfl)) pgs_nil))) (fun _ _ _ _ _ => pts_nil) (fun _ _ _ _ _ => pv 2))) pa_nil)))
      (pss_one (ps_if (pt_cmpR op_gt (pe_callB call_len_seq (by rfl) T.len PySem.boot_len (pa_cons (pv 0) pa_nil)) (pe_glob (v := .int 6) rfl hm ⟨_, rfl⟩) (nomark _)) (pss_one ps_never) pss_nil))))), ?_⟩
    refine ⟨_, rfl, by show 2 ≤ sizeLine; decide, fun tp ntp => ⟨.ref p, tp, [.ty "list", .ty "tuple"], .type "tuple", [.type "list", .type "tuple"], true, rfl, upd_same, .cons (.ty _) (.cons (.ty _) .nil), tyx_sqt (sqt_keep (same_new ntp) hP), kit_lt, true, rfl, iteF ?_⟩⟩
    have s1 : Same H (upd H tp (.tup [.ty "list", .ty "tuple"])) := same_new ntp
    generalize (upd H tp (.tup [.ty "list", .ty "tuple"])) = H1 at s1 ⊢
    have hP1 := sqt_keep s1 hP
    refine ⟨_, rfl, p, rfl, ⟨_, hP1⟩, fun D hD => lc_tup (K := K) (a := p) (xs := []) (fun j G => Same H1 G ∧ G D = some (.lst [])) ⟨same_new hD, upd_same⟩ (fun j G _ q => sqt_keep q.1 hP1) (fun j y G hy q => by simp at hy) fun H2 q => ?_⟩
    obtain ⟨s2, d2⟩ := q
    have s02 := s1.trans s2
    have hP2 := sqt_keep s02 hP
    refine ⟨D, [], rfl, SqL.of d2, _, rfl, iteF ?_⟩
    refine ⟨_, rfl, p, rfl, ⟨_, hP2⟩, for_tup (K := K) (a := p) (xs := []) (fun j σ G => (∃ v2 v3 v4 v5 : Option V, σ = [some (.ref p), some (.ref fl), v2, v3, v4, v5]) ∧ Same H G) ⟨⟨_, _, _, _, rfl⟩, s02⟩ (fun j σ G _ q => sqt_keep q.2 hP) (fun j x σ G hx _ => by simp at hx) ?_⟩
    rintro σ G ⟨⟨v2, v3, v4, v5, rfl⟩, s3⟩
    refine ⟨_, rfl, p, rfl, ⟨_, sqt_keep s3 hP⟩, for_tup (K := K) (a := p) (xs := []) (fun j σ G => (∃ v2 v3 v4 v5 : Option V, σ = [some (.ref p), some (.ref fl), v2, v3, v4, v5]) ∧ Same H G) ⟨⟨_, _, _, _, rfl⟩, s3⟩ (fun j σ G _ q => sqt_keep q.2 hP) (fun j x σ G hx _ => by simp at hx) ?_⟩
    rintro σ G ⟨⟨v2, v3, v4, v5, rfl⟩, s3⟩
    refine ⟨_, rfl, _, rfl, p, rfl, ⟨_, sqt_keep s3 hP⟩, fun D2 hD2 => lc_tup (K := K) (a := p) (xs := []) (fun j G' => Same G G' ∧ G' D2 = some (.lst [])) ⟨same_new hD2, upd_same⟩ (fun j G' _ q => sqt_keep (s3.trans q.1) hP) (fun j x G' hx _ => by simp at hx) (fun G' pv => ?_)⟩
    obtain ⟨s4, d4⟩ := pv
    have s34 := s3.trans s4
    refine ⟨fl, D2, _, _, rfl, rfl, s34 _ _ hF, d4, ?_, fun q5 n5 => ?_⟩
    · rw [List.length_map, List.length_nil]
      exact Nat.le_trans (show _ ≤ 12 by omega) (by decide)
    have ek : (gs.map V.str ++ []) = (gs.map Sum.inr : List Key).map kV := by
      rw [kV_strs, List.append_nil]
    refine ⟨q5, gs.map Sum.inr, rfl, SqL.of (by rw [upd_same, ek]), ?_, fun _ G5 s5 => ?_, fun key tw => (no_twice (nodup_inr.mpr nd) tw).elim⟩
    · rw [List.length_map]
      omega
    · have s05 := (s34.trans (same_new n5)).trans s5
      refine ⟨_, rfl, p, _, rfl, .inr (sqt_keep s05 hP), _, _, rfl, rfl, _, rfl, ?_⟩
      exact ite_false_of (by decide) (k _ s05)
end
end Pr

set_option autoImplicit true
set_option Elab.async false
set_option linter.all false
set_option maxRecDepth 100000
set_option maxHeartbeats 1000000
/-! World.make_class, without values. -/
namespace Pr
open PySem L2 Two ClX SlX
abbrev mWMake : Stmt := within (top 57) 1
/-- what a call of make_class with right arguments comes to -/
structure MadeEnd (K : PySem.W.Frag) (CL CS CW CC CO CR : Addr) (L : Addr → Prop) (H0 : Hp) (W dx S Tb Lv : Addr) (ps : List (Addr × Cm)) (ns : List Nat) (gs : List Str) (r : Bool) (Q : VK) (E : XK) : Prop where
  col : ∀ i j, colOf (ps.map (·.2)) ns = some (i, j) → ∀ H' x y off nx ny, Same H0 H' → (lineAt (ps.map (·.2)) i)[0]? = some x → (lineAt (ps.map (·.2)) j)[0]? = some y → Meet (ps.map (·.2)) (lineAt (ps.map (·.2)) i) (lineAt (ps.map (·.2)) j) off nx ny → ColErr H' E CC ps.length x y off nx ny
  ring : colOf (ps.map (·.2)) ns = none → ∀ H' q n (us : List (Addr × Int × Nat)), Same H0 H' → Mg.firstFree (Mg.st (ordLs (ps.map (·.2)) ns) n).2 = none → (∃ r ∈ (Mg.st (ordLs (ps.map (·.2)) ns) n).2, r ≠ []) → H' q = some (.lst (tupRefs us)) → TupsAt H' us → Mg.IsRing (ordLs (ps.map (·.2)) ns) (us.map (·.2)) → us.length ≤ 30 →
    Mg.RingDet (Mg.st (ordLs (ps.map (·.2)) ns) n).2 (us.map (·.2)) → Thrown H' E CO (fsNoOrd [.int (ps.length : Nat), .ref q])
  room : colOf (ps.map (·.2)) ns = none → ∀ mg, MergedTo (ordLs (ps.map (·.2)) ns) mg → r = true → ∀ z, ns.find? (roomAt (ps.map (·.2))) = some z → ∀ H', Same H0 H' → Thrown H' E CR (fsRoom [.int (ps.length : Nat), .int (z : Nat)])
  ok : colOf (ps.map (·.2)) ns = none → ∀ mg above, MergedTo (ordLs (ps.map (·.2)) ns) mg → Above (ps.map (·.2)) ns above → (r = true → ∀ z ∈ ns, roomAt (ps.map (·.2)) z = false) → ∀ H' a, (∀ b o, H0 b = some o → b ≠ S → b ≠ Tb → b ≠ Lv → H' b = some o) →
    WorldAt K CL CS CW L H' W dx S Tb Lv (ps ++ [(a, newCm (ps.map (·.2)) ps.length ns gs r above mg)]) → Q (.int (ps.length : Nat)) H'
def spMake0 (K : PySem.W.Frag) (CL CS CW CB CN CD CT CC CO CR : Addr) : Sp := fun vs H Q E => ∃ (W dx S Tb Lv : Addr) (x y : V) (r : Bool) (p : Addr) (L : Addr → Prop) (ps : List (Addr × Cm)), vs = [.ref W, x, y, .bl r, .ref p] ∧ WorldAt K CL CS CW L H W dx S Tb Lv ps ∧ SqT K H p [] ∧
  (spCkBases K CB CN CD CT [x, .int (ps.length : Nat)] H (fun _ _ => False) E ∨
   ∃ (b fl : Addr) (ns : List Nat) (gs : List Str), x = .ref b ∧ y = .ref fl ∧ SqL K H b (natsV ns) ∧ ns ≠ [] ∧ ns.Nodup ∧ ns.length ≤ 5 ∧ (∀ n ∈ ns, n < ps.length) ∧ H fl = some (.lst (gs.map V.str)) ∧ (∀ z ∈ gs, isName z = true) ∧ gs.Nodup ∧ gs.length ≤ 6 ∧ ps.length < 25 ∧ (∀ b, H b = none → L b) ∧ MadeEnd K CL CS CW CC CO CR L H W dx S Tb Lv ps ns gs r Q E)
abbrev nMake : List Str := ["self", "bases", "fields", "roomy", "pairs", "number", "shape", "name", "value"]
theorem scMake : FnScope nMake ["self", "bases", "fields", "roomy", "pairs"] (defScope mWMake) := ⟨rfl, rfl, rfl, by decide +kernel, rfl, by decide +kernel, by decide +kernel⟩
section
variable {P : Program} {w : World} {K : PySem.W.Frag} {mg : Str → Option Value} {base : Heap}
theorem bases_ok {CB CN CD CT b m : Addr} {H : Hp} {ns : List Nat} {Q : VK} {E : XK} (hB : SqL K H b (natsV ns)) (ne : ns ≠ []) (nd : ns.Nodup) (l5 : ns.length ≤ 5) (lt : ∀ n ∈ ns, n < m) (k : ∀ H', Same H H' → Q .non H') : spCkBases K CB CN CD CT [.ref b, .int (m : Nat)] H Q E := by
  have hl : (natsV ns).length = ns.length := List.length_map _
  refine ⟨_, m, rfl, .inr ⟨b, natsV ns, rfl, hB, by omega, fun y hy => ?_, fun e => absurd (List.map_eq_nil_iff.mp e) ne, fun i y hy _ nb => ?_, fun ns' e _ _ => ?_⟩⟩
  · obtain ⟨n, _, rfl⟩ := List.mem_map.mp hy
    exact .inl ⟨_, rfl⟩
  · obtain ⟨n, hn, rfl⟩ := List.mem_map.mp (List.mem_of_getElem? hy)
    have h1 := lt n hn
    have : isCls m (natV n) = true := by
      show (decide ((0 : Int) ≤ (n : Nat)) && decide (((n : Nat) : Int) < (m : Nat))) = true
      rw [decide_eq_true (by omega), decide_eq_true (by omega)]
      rfl
    rw [this] at nb
    cases nb
  · have inj : ns = ns' := by
      have h2 : ∀ {xs ys : List Nat}, natsV xs = natsV ys → xs = ys := by
        intro xs
        induction xs with
        | nil => intro ys h; cases ys with | nil => rfl | cons y ys => cases h
        | cons x xs ih =>
          intro ys h
          cases ys with
          | nil => cases h
          | cons y ys =>
            obtain ⟨h1, h2⟩ := List.cons.inj h
            have := Int.ofNat_inj.mp (V.int.inj h1)
            rw [this, ih h2]
      exact h2 e
    subst inj
    exact ⟨fun _ _ H' s => k H' s, fun key tw => (no_twice (nodup_keysN.mpr nd) tw).elim, fun _ h => absurd h (by omega)⟩
theorem WorldAt.grow {CL CS CW : Addr} {L : Addr → Prop} {H H' : Hp} {W dx S Tb Lv a : Addr} {m : Cm} {ps : List (Addr × Cm)} {tbs lvs : List V} (w : WorldAt K CL CS CW L H W dx S Tb Lv ps) (sh : IsShape K CL CS H a m) (nl : ShL CS (fun b => L b ∧ b ≠ S ∧ b ≠ Tb ∧ b ≠ Lv) H a)
    (k : ∀ b o, H b = some o → b ≠ S → b ≠ Tb → b ≠ Lv → H' b = some o) (hS : H' S = some (.lst ((ps.map fun p => V.ref p.1) ++ [V.ref a]))) (hT : H' Tb = some (.lst tbs)) (lT : tbs.length = ps.length + 1) (hV : H' Lv = some (.lst lvs)) (lV : lvs.length = ps.length + 1)
    (w0 : World0 ((ps ++ [(a, m)]).map (·.2))) : WorldAt K CL CS CW L H' W dx S Tb Lv (ps ++ [(a, m)]) := by
  obtain ⟨tb, h4, h5⟩ := w.t
  obtain ⟨lv, h6, h7⟩ := w.v
  have nl1 : ∀ {b : Addr} {o : HO}, H b = some o → (∀ xs, o ≠ .lst xs) → H' b = some o := fun {b o} e d => k b o e (fun z => d _ (Option.some.inj (e.symm.trans (z ▸ w.s)))) (fun z => d _ (Option.some.inj (e.symm.trans (z ▸ h4)))) (fun z => d _ (Option.some.inj (e.symm.trans (z ▸ h6))))
  have kl : KeepL (fun b => L b ∧ b ≠ S ∧ b ≠ Tb ∧ b ≠ Lv) H H' := fun b o e _ h => h.elim (fun h => k b o e h.2.1 h.2.2.1 h.2.2.2) (nl1 e)
  have all : ∀ p ∈ ps ++ [(a, m)], IsShape K CL CS H p.1 p.2 ∧ ShL CS (fun b => L b ∧ b ≠ S ∧ b ≠ Tb ∧ b ≠ Lv) H p.1 := fun p hp => by
    rcases List.mem_append.mp hp with hp | hp
    · exact ⟨w.sh p hp, w.sl p hp⟩
    · rw [List.mem_singleton.mp hp]; exact ⟨sh, nl⟩
  exact ⟨nl1 w.w (fun _ z => nomatch z), by rw [List.map_append]; exact hS, fun p hp => (kl.shape (all p hp).1 (all p hp).2).1, ⟨tbs, hT, by rw [List.length_append]; exact lT⟩, ⟨lvs, hV, by rw [List.length_append]; exact lV⟩, w0, w.lS, w.lT, w.lV, w.ne, fun p hp => (kl.shape (all p hp).1 (all p hp).2).2⟩
theorem sqt_other {H : Hp} {S p : Addr} {xs ys : List V} {o : HO} (h : SqT K H p xs) (hS : H S = some (.lst ys)) : SqT K (upd H S o) p xs := by
  rcases h with (h | ⟨o2, h⟩) | h
  · exact .inl (.inl (by rw [upd_ne (fun z => by rw [z, hS] at h; cases h)]; exact h))
  · by_cases e : p = S
    · rw [e, hS] at h; cases h
    · exact .inl (.inr ⟨o2, by rw [upd_ne e]; exact h⟩)
  · exact .inr h
/-- what make_class calls -/
structure MkDefs (P : Program) (w : World) (K : PySem.W.Frag) (mg : Str → Option Value) (base : Heap) (CL CS CW CB CN CD CT CC CO CR CM fI fC fB fM fP : Addr) (dI dC dB dM dP : FuncData) : Prop where
  T : TxtN mg
  most : ∃ t, mg "MOST_CLASSES" = some (.int 25 t)
  W : WdC K mg CW
  S : ShMake P w K mg base CL CS CC CO CR fI dI
  mC : Meth K CW "count" fC
  bC : Binds K dC ["self"] []
  GC : FnOk P w K mg base CX0 1 fC dC ["self"] (spWCount K CL CS CW)
  gB : mg "check_bases" = some (.ref fB)
  kB : PySem.W.keepIn K (.ref fB) = true
  bB : Binds K dB ["bases", "many"] []
  GB : FnOk P w K mg base (L2.CX P w) 5 fB dB ["bases", "many"] (spCkBases K CB CN CD CT)
  gM : mg "check_more_fields" = some (.ref fM)
  kM : PySem.W.keepIn K (.ref fM) = true
  bM : Binds K dM ["fields"] []
  GM : FnOk P w K mg base (L2.CX P w) 6 fM dM ["fields"] (spMore K CB CM CD CT)
  gP : mg "check_pairs" = some (.ref fP)
  kP : PySem.W.keepIn K (.ref fP) = true
  bP : Binds K dP ["pairs", "fields"] []
  GP : FnOk P w K mg base (L2.CX P w) 9 fP dP ["pairs", "fields"] (spCkPairs0 K)
theorem ok_make0 {f CL CS CW CB CN CD CT CC CO CR CM fI fC fB fM fP : Addr} {dI dC dB dM dP : FuncData} {oc dV kV doc pm cdv ct : Value} {od an : Option Addr} {osl : Array (Option Value)}
    (lk : K.lookup f = some ⟨oc, od, .func (PySem.W.fnOf "make_class" "World.make_class" (defArgs mWMake) (defBody mWMake) (defScope mWMake) dV kV doc pm an cdv ct), osl⟩) (hcd : PySem.W.codeIn K cdv "World.make_class" = true)
    (D : MkDefs P w K mg base CL CS CW CB CN CD CT CC CO CR CM fI fC fB fM fP dI dC dB dM dP) :
    FnOk P w K mg base (L2.CX P w) 12 f (PySem.W.fnOf "make_class" "World.make_class" (defArgs mWMake) (defBody mWMake) (defScope mWMake) dV kV doc pm an cdv ct) ["self", "bases", "fields", "roomy", "pairs"] (spMake0 K CL CS CW CB CN CD CT CC CO CR) := by
  refine okXD lk hcd scMake (fun vs H Q E h => ?_) (fun A outer s H vs Q E hr h => ?_)
  · obtain ⟨W, dx, S, Tb, Lv, x, y, r, p, L, ps, rfl, _⟩ := h
    rfl
  · obtain ⟨W, dx, S, Tb, Lv, x, y, r, p, L, ps, rfl, hW, hP, h⟩ := h
    have hr1 : Room 1 _ := hr.mono (by decide)
    obtain ⟨tm, hm⟩ := D.most
    refine ⟨_, pss_cons (ps_expr (pe_callS D.GB (hr.mono (by decide)) rfl D.gB D.kB D.bB (fun σ => passAt (takes_of rfl rfl rfl rfl) σ) (pa_cons (pv 1) (pa_cons (pe_meth0 (pv 0) D.W.cl D.mC D.GC hr1 D.bC .nil pass0) pa_nil))))
      (pss_cons (ps_expr (pe_callS D.GM (hr.mono (by decide)) rfl D.gM D.kM D.bM (fun σ => passAt (takes_of rfl rfl rfl rfl) σ) (pa_cons (pv 2) pa_nil)))
      (pss_cons (ps_if (pt_not (pt_val (pe_callB call_isi (by rfl) D.T.isinstance (by decide +kernel) (pa_cons (pv 3) (pa_cons (pe_bltn (v := .ty "bool") (by rfl) D.T.bool (by decide +kernel) rfl) pa_nil))))) (pss_one ps_never) pss_nil)
      (pss_cons (ps_expr (pe_call D.GP (hr.mono (by decide)) rfl D.gP D.kP D.bP .nil (passE (E := fun _ _ _ => False) fun _ _ _ z => z) (pa_cons (pv 4) (pa_cons (pv 2) pa_nil))))
      (pss_cons (ps_set (i := 5) scMake.nd rfl (Or.inl rfl) (pe_meth0 (pv 0) D.W.cl D.mC D.GC hr1 D.bC .nil pass0))
      (pss_cons (ps_if (pt_cmpR op_ge (pv 5) (pe_glob (v := .int 25) rfl hm ⟨_, rfl⟩) (nomark _)) (pss_one ps_never) pss_nil)
      (pss_cons (ps_set (i := 6) scMake.nd rfl (Or.inl rfl) (pe_make (E := E) D.S.M D.S.G hr (by rfl) D.S.C.g D.S.b .nil (fun pins σ => passAt (W := fun cls d _ H => E cls d H) (takes_of rfl rfl rfl rfl) σ pins) (pa_cons (pv 5) (pa_cons (pv 1) (pa_cons (pv 2) (pa_cons (pv 3) (pa_cons (pe_fld (pv 0) rfl) pa_nil)))))))
      (pss_cons (ps_expr (pe_bm PySem.F.plainAttrs_list PySem.F.slot_list_append PySem.F.type_list_append mt_append (pe_fld (pv 0) rfl) (pa_cons (pv 6) pa_nil)))
      (pss_cons (ps_expr (pe_bm PySem.F.plainAttrs_list PySem.F.slot_list_append PySem.F.type_list_append mt_append (pe_fld (pv 0) rfl) (pa_cons
        (pe_dc (own := [("name", 7), ("value", 8)]) (g := gTup K 2 (gCons (gName 7) (gCons (gName 8) gNil))) (tt := tYes) (tk := tVar 7) (tv := tVar 8) rfl scMake.nd (pi_tup (pv 4)) (blkOk_by (N := nMake) (sc := defScope mWMake) (by decide +kernel))
          (fun _ _ _ _ _ => pg_tup rfl (pgs_cons (pg_name (i := 7) scMake.nd rfl (Or.inl rfl)) (pgs_cons (pg_name (i := 8) scMake.nd rfl (Or.inl rfl)) pgs_nil))) (fun _ _ _ _ _ => pts_nil) (fun _ _ _ _ _ => pv 7) (fun _ _ _ _ _ => pv 8)) pa_nil)))
      (pss_cons (ps_expr (pe_bm PySem.F.plainAttrs_list PySem.F.slot_list_append PySem.F.type_list_append mt_append (pe_fld (pv 0) rfl) (pa_cons pe_int pa_nil)))
      (pss_one (ps_ret (pv 5)))))))))))), ?_⟩
    refine ⟨_, rfl, _, rfl, W, dx, _, rfl, hW.w, rfl, W, ps, rfl, hW.is, ?_⟩
    rcases h with h | ⟨b, fl, ns, gs, rfl, rfl, hB, ne, nd, l5, lt, hF, nm, ndg, g6, few, fresh, N⟩
    · obtain ⟨x', m', e, h⟩ := h
      obtain ⟨rfl, e2⟩ := List.cons.inj e
      have e3 : ps.length = m' := by
        have := V.int.inj (List.cons.inj e2).1
        omega
      subst e3
      refine ⟨_, _, rfl, ?_⟩
      rcases h with h | ⟨a, xs, rfl, hS, hl, it, emp, bad, en⟩
      · exact .inl h
      · exact .inr ⟨a, xs, rfl, hS, hl, it, emp, bad, fun ns e ne lt => ⟨fun nd l5 H' s => ((en ns e ne lt).fit nd l5 H' s).elim, (en ns e ne lt).twice, (en ns e ne lt).many⟩⟩
    · refine bases_ok hB ne nd l5 lt fun H1 s1 => ?_
      refine ⟨_, rfl, more_ok (SqL.of (s1 _ _ hF)) nm ndg g6 fun H2 s2 => ?_⟩
      have s12 := s1.trans s2
      refine ⟨_, rfl, _, .ty "bool", .type "bool", .type "bool", true, rfl, .ty _, .base (.bl r), kit_ty (by decide +kernel), true, rfl, iteF ?_⟩
      refine ⟨_, rfl, _, rfl, p, fl, gs, rfl, sqt_keep s12 hP, s12 _ _ hF, g6, ndg, fun H3 s3 => ?_⟩
      have s13 := s12.trans s3
      have hW3 := hW.keep s13
      refine ⟨_, rfl, W, dx, _, rfl, hW3.w, rfl, W, ps, rfl, hW3.is, ?_⟩
      refine ⟨_, rfl, _, _, rfl, rfl, _, rfl, ite_false_of (decide_eq_false (by omega)) ?_⟩
      refine ⟨_, rfl, _, rfl, _, rfl, _, rfl, _, rfl, W, CW, dx, _, _, rfl, hW3.w, D.W.cl, D.W.nS, rfl, ?_⟩
      dsimp only [tNil]
      intro a da na nda nea
      have lm : (ps.map (·.2)).length = ps.length := List.length_map _
      show spShInit K CL CS CC CO CR [.ref a, .int (ps.length : Nat), .ref b, .ref fl, .bl r, .ref S] _ _ _
      refine ⟨a, da, ps.length, b, fl, S, r, ns, gs, ps, H3, rfl, upd_same, na, same_upd (same_new nda) na, s13.seq hB, s13 _ _ hF, ⟨SqL.of hW3.s, hW3.sh⟩, by omega, nd, lt, hW3.w0.wf, ndg, g6, nm,
        ⟨fun i j e H' x y off nx ny s ex ey M => N.col i j e H' x y off nx ny (s13.trans s) ex ey M, fun e H' q n us s => N.ring e H' q n us (s13.trans s), fun e mg MT hr z hz H' s => N.room e mg MT hr z hz H' (s13.trans s), fun e mg above MT ab noR H4 s4 sh nw => ⟨rfl, ?_⟩⟩⟩
      have s04 := s13.trans s4
      have hW4 := hW3.keep s4
      have hP4 := sqt_keep s04 hP
      obtain ⟨tbs, hT4, lT4⟩ := hW4.t
      obtain ⟨lvs, hV4, lV4⟩ := hW4.v
      obtain ⟨eST, eSV, eTV⟩ := hW4.ne
      have nWS : W ≠ S := fun z => by have := hW4.w; rw [z, hW4.s] at this; cases this
      have nWT : W ≠ Tb := fun z => by have := hW4.w; rw [z, hT4] at this; cases this
      have nWV : W ≠ Lv := fun z => by have := hW4.w; rw [z, hV4] at this; cases this
      have nl : ShL CS (fun b => L b ∧ b ≠ S ∧ b ≠ Tb ∧ b ≠ Lv) H4 a := by
        obtain ⟨tb3, hT3, _⟩ := hW3.t
        obtain ⟨lv3, hV3, _⟩ := hW3.v
        exact ShL.imp nw fun b e => ⟨fresh b (none_of_same s13 e), (ne_of_none hW3.s e).symm, (ne_of_none hT3 e).symm, (ne_of_none hV3 e).symm⟩
      refine ⟨_, rfl, W, CW, dx, _, _, rfl, hW4.w, D.W.cl, D.W.nS, rfl, .inl ⟨rfl, _, SqL.of hW4.s⟩, _, rfl, S, _, _, rfl, rfl, hW4.s, small1000 (by rw [List.length_map]; omega), ?_⟩
      have w5 : (upd H4 S (.lst ((ps.map fun p => V.ref p.1) ++ [V.ref a]))) W = some (.ins CW dx [("_shapes", .ref S), ("_tables", .ref Tb), ("_lives", .ref Lv)]) := by rw [upd_ne nWS]; exact hW4.w
      have S5 : (upd H4 S (.lst ((ps.map fun p => V.ref p.1) ++ [V.ref a]))) S = some (.lst ((ps.map fun p => V.ref p.1) ++ [V.ref a])) := upd_same
      have T5 : (upd H4 S (.lst ((ps.map fun p => V.ref p.1) ++ [V.ref a]))) Tb = some (.lst tbs) := by rw [upd_ne eST.symm]; exact hT4
      have V5 : (upd H4 S (.lst ((ps.map fun p => V.ref p.1) ++ [V.ref a]))) Lv = some (.lst lvs) := by rw [upd_ne eSV.symm]; exact hV4
      have P5 : SqT K (upd H4 S (.lst ((ps.map fun p => V.ref p.1) ++ [V.ref a]))) p [] := sqt_other hP4 hW4.s
      have k5 : ∀ b o, H4 b = some o → b ≠ S → (upd H4 S (.lst ((ps.map fun p => V.ref p.1) ++ [V.ref a]))) b = some o := fun b o e n => by rw [upd_ne n]; exact e
      generalize (upd H4 S (.lst ((ps.map fun p => V.ref p.1) ++ [V.ref a]))) = H5 at w5 S5 T5 V5 P5 k5 ⊢
      refine ⟨_, rfl, W, CW, dx, _, _, rfl, w5, D.W.cl, D.W.nT, rfl, .inl ⟨rfl, _, SqL.of T5⟩, _, rfl, p, rfl, ⟨_, P5⟩, fun q nq => dc_tup (K := K) (a := p) (xs := []) (fun j G => G = upd H5 q (.dK [])) rfl (fun j G _ e => by rw [e]; exact sqt_keep (same_new nq) P5) (fun j x G hx _ => by simp at hx) (fun G e => ?_)⟩
      subst e
      have s56 : Same H5 (upd H5 q (.dK [])) := same_new nq
      refine ⟨Tb, tbs, _, rfl, rfl, s56 _ _ T5, small1000 (by omega), ?_⟩
      have w7 : (upd (upd H5 q (.dK [])) Tb (.lst (tbs ++ [.ref q]))) W = some (.ins CW dx [("_shapes", .ref S), ("_tables", .ref Tb), ("_lives", .ref Lv)]) := by rw [upd_ne nWT]; exact s56 _ _ w5
      have V7 : (upd (upd H5 q (.dK [])) Tb (.lst (tbs ++ [.ref q]))) Lv = some (.lst lvs) := by rw [upd_ne eTV.symm]; exact s56 _ _ V5
      have S7 : (upd (upd H5 q (.dK [])) Tb (.lst (tbs ++ [.ref q]))) S = some (.lst ((ps.map fun p => V.ref p.1) ++ [V.ref a])) := by rw [upd_ne eST]; exact s56 _ _ S5
      have T7 : (upd (upd H5 q (.dK [])) Tb (.lst (tbs ++ [.ref q]))) Tb = some (.lst (tbs ++ [.ref q])) := upd_same
      have k7 : ∀ b o, H4 b = some o → b ≠ S → b ≠ Tb → (upd (upd H5 q (.dK [])) Tb (.lst (tbs ++ [.ref q]))) b = some o := fun b o e n1 n2 => by rw [upd_ne n2]; exact s56 _ _ (k5 b o e n1)
      generalize (upd (upd H5 q (.dK [])) Tb (.lst (tbs ++ [.ref q]))) = H7 at w7 V7 S7 T7 k7 ⊢
      refine ⟨_, rfl, W, CW, dx, _, _, rfl, w7, D.W.cl, D.W.nL, rfl, .inl ⟨rfl, _, SqL.of V7⟩, Lv, lvs, _, rfl, rfl, V7, small1000 (by omega), ?_⟩
      have k9 : ∀ b o, H4 b = some o → b ≠ S → b ≠ Tb → b ≠ Lv → (upd H7 Lv (.lst (lvs ++ [.int 0]))) b = some o := fun b o e n1 n2 n3 => by rw [upd_ne n3]; exact k7 b o e n1 n2
      refine ⟨_, rfl, N.ok e mg above MT ab noR _ a (fun b o e n1 n2 n3 => k9 b o (s04 _ _ e) n1 n2 n3) (hW4.grow sh nl k9 (by rw [upd_ne eSV]; exact S7) (by rw [upd_ne eTV]; exact T7) (by rw [List.length_append]; simp [lT4]) upd_same (by rw [List.length_append]; simp [lV4]) ?_)⟩
      have := World0.snoc hW.w0 (by rw [lm]; exact few) (r := r) (fun n hn => by rw [lm]; exact lt n hn) nd g6 (fun e => absurd e ne) ab MT
      rw [lm] at this
      rw [List.map_append]
      exact this
end
end Pr

set_option autoImplicit true
set_option Elab.async false
set_option linter.all false
set_option maxRecDepth 100000
set_option maxHeartbeats 1000000
/-! check_pairs, of what is right. -/
namespace Pr
open PySem L2 Two ClX SlX
/-- the pairs of names and values -/
def PairsAt (K : PySem.W.Frag) (H : Hp) (p : Addr) (prs : List (Addr × Str × V)) : Prop := SqL K H p (prs.map fun q => V.ref q.1) ∧ ∀ q ∈ prs, SqT K H q.1 [.str q.2.1, q.2.2] ∧ isName q.2.1 = true ∧ Vl K H q.2.2 4 true
theorem PairsAt.keep {K : PySem.W.Frag} {H H' : Hp} {p : Addr} {prs : List (Addr × Str × V)} (h : PairsAt K H p prs) (s : Same H H') : PairsAt K H' p prs := ⟨s.seq h.1, fun q hq => ⟨sqt_keep s (h.2 q hq).1, (h.2 q hq).2.1, (h.2 q hq).2.2.keep s⟩⟩
section
variable {P : Program} {w : World} {K : PySem.W.Frag} {mg : Str → Option Value} {base : Heap}
def spCkPairs (K : PySem.W.Frag) : Sp := fun vs H Q _ => ∃ (p fl : Addr) (prs : List (Addr × Str × V)) (gs : List Str), vs = [.ref p, .ref fl] ∧ PairsAt K H p prs ∧ H fl = some (.lst (gs.map V.str)) ∧ gs.length ≤ 6 ∧ prs.length ≤ 6 ∧ (gs ++ prs.map fun q => q.2.1).Nodup ∧ ∀ H', Same H H' → Q .non H'
theorem scCkPairs : FnScope ["pairs", "fields", "name", "_", "value", "pair"] ["pairs", "fields"] (defScope sCkPairs) := ⟨rfl, rfl, rfl, by decide +kernel, rfl, by decide +kernel, by decide +kernel⟩
theorem ok_ckPairs {f fP fN fV fU CN CD : Addr} {fd dP dN dV dU : FuncData} (F : Fun K "check_pairs" "check_pairs" sCkPairs f fd) (T : TxtN mg) (hm : ∃ t, mg "MOST_VALUES" = some (.int 6 t))
    (gP : mg "_is_pair" = some (.ref fP)) (kP : PySem.W.keepIn K (.ref fP) = true) (bP : Binds K dP ["thing"] []) (GP : FnOk P w K mg base CX0 1 fP dP ["thing"] (spIsPair K))
    (gN : mg "check_name" = some (.ref fN)) (kN : PySem.W.keepIn K (.ref fN) = true) (bN : Binds K dN ["name"] []) (GN : FnOk P w K mg base (L2.CX P w) 4 fN dN ["name"] (spCkName K CN))
    (gV : mg "check_value" = some (.ref fV)) (kW : PySem.W.keepIn K (.ref fV) = true) (bV : Binds K dV ["value"] []) (GV : FnOk P w K mg base CX0 8 fV dV ["value"] (spCkValue K))
    (gU : mg "check_unlike" = some (.ref fU)) (kU : PySem.W.keepIn K (.ref fU) = true) (bU : Binds K dU ["things"] []) (GU : FnOk P w K mg base (L2.CX P w) 4 fU dU ["things"] (spCkUnlike K CD)) :
    FnOk P w K mg base (L2.CX P w) 9 f fd ["pairs", "fields"] (spCkPairs K) := by
  refine F.okX scCkPairs (fun vs H Q E h => ?_) (fun cdv A outer s H vs Q E hr h => ?_)
  · obtain ⟨p, fl, prs, gs, rfl, _⟩ := h
    rfl
  · obtain ⟨p, fl, prs, gs, rfl, hP, hF, g6, p6, nd, k⟩ := h
    obtain ⟨tm, hm⟩ := hm
    have kit_lt : PySem.W.kitAny K (.type "list") [.type "list", .type "tuple"] = some true := by
      have e : PySem.W.kitOne K (.type "list") (.type "list") = some true := kit_ty (by decide +kernel)
      unfold PySem.W.kitAny
      simp only [e]
    have hr1 : Room 1 _ := hr.mono (by decide)
    have hr4 : Room 4 _ := hr.mono (by decide)
    refine ⟨_, pss_cons (ps_if (PW.pt (pw_or (pt_not (pt_val (pe_callB call_isiT (by rfl) T.isinstance (by decide +kernel) (pa_cons (pv 0) (pa_cons (pe_tup (pa_cons (pe_bltn (v := .ty "list") (by rfl) T.list (by decide +kernel) rfl) (pa_cons (pe_bltn (v := .ty "tuple") (by rfl) T.tuple (by decide +kernel) rfl) pa_nil))) pa_nil)))))
        (pw_or1 (pt_not (pt_val (pe_callB (cr_all rfl) (by rfl) T.all (by decide +kernel) (pa_cons
          (pe_lc (own := [("pair", 5)]) (g := gName 5) (tt := tYes) (te := tCall (spIsPair K) [] (fun _ _ _ => False) (tCons (tVar 5) tNil)) rfl scCkPairs.nd (pi_list (pv 0)) (blkOk_by (N := ["pairs", "fields", "name", "_", "value", "pair"]) (sc := defScope sCkPairs) (by decide +kernel))
            (fun _ _ _ _ _ => pg_name (i := 5) scCkPairs.nd rfl (Or.inl rfl)) (fun _ _ _ _ _ => pts_nil) (fun _ _ _ _ _ => pe_call GP hr1 rfl gP kP bP .nil pass0 (pa_cons (pv 5) pa_nil))) pa_nil)))))))
        (pss_one ps_never) pss_nil)
      (pss_cons (ps_for (passes_of rfl) rfl (pi_list (pv 0)) (pg_tup rfl (pgs_cons (pg_name (i := 2) scCkPairs.nd rfl (Or.inl rfl)) (pgs_cons (pg_name (i := 3) scCkPairs.nd rfl (Or.inl rfl)) pgs_nil)))
        (pss_one (ps_expr (pe_call GN hr4 rfl gN kN bN .nil (passE (E := fun _ _ _ => False) fun _ _ _ z => z) (pa_cons (pv 2) pa_nil)))))
      (pss_cons (ps_for (passes_of rfl) rfl (pi_list (pv 0)) (pg_tup rfl (pgs_cons (pg_name (i := 3) scCkPairs.nd rfl (Or.inl rfl)) (pgs_cons (pg_name (i := 4) scCkPairs.nd rfl (Or.inl rfl)) pgs_nil)))
        (pss_one (ps_expr (pe_call GV hr rfl gV kW bV .nil pass0 (pa_cons (pv 4) pa_nil)))))
      (pss_cons (ps_expr (pe_call GU hr4 rfl gU kU bU .nil (passE (E := fun _ _ _ => False) fun _ _ _ z => z) (pa_cons (pe_op op_cat (pv 1)
          (pe_lc (own := [("name", 2), ("_", 3)]) (g := gTup K 2 (gCons (gName 2) (gCons (gName 3) gNil))) (tt := tYes) (te := tVar 2) rfl scCkPairs.nd (pi_list (pv 0)) (blkOk_by (N := ["pairs", "fields", "name", "_", "value", "pair"]) (sc := defScope sCkPairs) (by decide +kernel))
            (fun _ _ _ _ _ => pg_tup rfl (pgs_cons (pg_name (i := 2) scCkPairs.nd rfl (Or.inl rfl)) (pgs_cons (pg_name (i := 3) scCkPairs.nd rfl (Or.inl rfl)) pgs_nil))) (fun _ _ _ _ _ => pts_nil) (fun _ _ _ _ _ => pv 2))) pa_nil)))
      (pss_one (ps_if (pt_cmpR op_gt (pe_callB call_len_seq (by rfl) T.len PySem.boot_len (pa_cons (pv 0) pa_nil)) (pe_glob (v := .int 6) rfl hm ⟨_, rfl⟩) (nomark _)) (pss_one ps_never) pss_nil))))), ?_⟩
    refine ⟨_, rfl, by show 2 ≤ sizeLine; decide, fun tp ntp => ⟨.ref p, tp, [.ty "list", .ty "tuple"], .type "list", [.type "list", .type "tuple"], true, rfl, upd_same, .cons (.ty _) (.cons (.ty _) .nil), tyx_list ((same_new ntp).seq hP.1), kit_lt, true, rfl, iteF ?_⟩⟩
    have s1 : Same H (upd H tp (.tup [.ty "list", .ty "tuple"])) := same_new ntp
    generalize (upd H tp (.tup [.ty "list", .ty "tuple"])) = H1 at s1 ⊢
    have hP1 := hP.keep s1
    have lp : (prs.map fun q => V.ref q.1).length = prs.length := List.length_map _
    refine ⟨_, rfl, p, rfl, ⟨_, hP1.1⟩, fun D hD => lc_pure (K := K) (xs := prs.map fun q => V.ref q.1) 5 (fun _ => .bl true) hP1.1 (by rw [lp]; exact Nat.le_of_lt (small1000 (by omega))) hD (fun _ => rfl) (fun j x G Q1 hx s2 q1 => ?_) fun H2 s2 d2 => ?_⟩
    · obtain ⟨q, hq, rfl⟩ := get_map hx
      exact ⟨_, rfl, q.1, _, rfl, ((hP1.keep s2).2 q (List.mem_of_getElem? hq)).1, q1 _ (Same.refl _)⟩
    have s02 := s1.trans s2
    have hP2 := hP.keep s02
    have eb : (prs.map fun q => V.ref q.1).map (fun _ => V.bl true) = (prs.map fun _ => true).map V.bl := by rw [List.map_map, List.map_map]; rfl
    rw [eb] at d2
    have ea : (prs.map fun _ => true).all id = true := by rw [List.all_map]; exact List.all_eq_true.mpr fun _ _ => rfl
    refine ⟨D, prs.map fun _ => true, rfl, SqL.of d2, _, rfl, ?_⟩
    rw [ea]
    refine iteF ?_
    refine ⟨_, rfl, p, rfl, ⟨_, hP2.1⟩, for_list (K := K) (a := p) (xs := prs.map fun q => V.ref q.1) (fun j σ G => (∃ v2 v3 v4 v5 : Option V, σ = [some (.ref p), some (.ref fl), v2, v3, v4, v5]) ∧ Same H G) ⟨⟨_, _, _, _, rfl⟩, s02⟩ (fun j σ G _ p => p.2.seq hP.1) ?_ ?_⟩
    · rintro j x σ G hx ⟨⟨v2, v3, v4, v5, rfl⟩, s3⟩
      obtain ⟨q, hq, rfl⟩ := get_map hx
      have hq3 := (hP.keep s3).2 q (List.mem_of_getElem? hq)
      refine ⟨q.1, _, rfl, hq3.1, rfl, _, _, rfl, _, _, rfl, rfl, ?_⟩
      refine ⟨_, rfl, _, rfl, .inl ⟨q.2.1, rfl, name_len hq3.2.1⟩, fun _ G2 s4 => ⟨⟨_, _, _, _, rfl⟩, s3.trans s4⟩, fun bad => ?_⟩
      rw [show isNm (V.str q.2.1) = true from hq3.2.1] at bad
      cases bad
    rintro σ G ⟨⟨v2, v3, v4, v5, rfl⟩, s3⟩
    refine ⟨_, rfl, p, rfl, ⟨_, s3.seq hP.1⟩, for_list (K := K) (a := p) (xs := prs.map fun q => V.ref q.1) (fun j σ G => (∃ v2 v3 v4 v5 : Option V, σ = [some (.ref p), some (.ref fl), v2, v3, v4, v5]) ∧ Same H G) ⟨⟨_, _, _, _, rfl⟩, s3⟩ (fun j σ G _ p => p.2.seq hP.1) ?_ ?_⟩
    · rintro j x σ G hx ⟨⟨v2, v3, v4, v5, rfl⟩, s3⟩
      obtain ⟨q, hq, rfl⟩ := get_map hx
      have hq3 := (hP.keep s3).2 q (List.mem_of_getElem? hq)
      refine ⟨q.1, _, rfl, hq3.1, rfl, _, _, rfl, _, _, rfl, rfl, ?_⟩
      exact ⟨_, rfl, _, rfl, hq3.2.2, fun G2 s4 => ⟨⟨_, _, _, _, rfl⟩, s3.trans s4⟩⟩
    rintro σ G ⟨⟨v2, v3, v4, v5, rfl⟩, s3⟩
    refine ⟨_, rfl, _, rfl, p, rfl, ⟨_, s3.seq hP.1⟩, fun D2 hD2 => lc_list (K := K) (a := p) (xs := prs.map fun q => V.ref q.1) (fun j G' => Same G G' ∧ G' D2 = some (.lst ((prs.take j).map fun q => V.str q.2.1))) ⟨same_new hD2, upd_same⟩ (fun j G' _ p => (s3.trans p.1).seq hP.1) (fun j x G' hx pv => ?_) (fun G' pv => ?_)⟩
    · obtain ⟨q, hq, rfl⟩ := get_map hx
      have hq3 := (hP.keep (s3.trans pv.1)).2 q (List.mem_of_getElem? hq)
      have hj := (List.getElem?_eq_some_iff.mp hq).1
      refine ⟨q.1, _, rfl, hq3.1, rfl, _, _, rfl, _, _, rfl, rfl, rfl, ?_⟩
      unfold tYes
      simp only [if_true]
      refine ⟨_, rfl, _, pv.2, ?_, same_upd pv.1 hD2, ?_⟩
      · rw [List.length_map, List.length_take]
        exact Nat.lt_of_le_of_lt (Nat.min_le_left _ _) (small1000 (by omega))
      · rw [upd_same, take_snoc hq, List.map_append]
        rfl
    · obtain ⟨s4, d4⟩ := pv
      rw [lp, List.take_of_length_le (Nat.le_refl _)] at d4
      have s34 := s3.trans s4
      refine ⟨fl, D2, _, _, rfl, rfl, s34 _ _ hF, d4, ?_, fun q5 n5 => ?_⟩
      · rw [List.length_map, List.length_map]
        exact Nat.le_trans (show _ ≤ 12 by omega) (by decide)
      have ek : (gs.map V.str ++ prs.map fun q => V.str q.2.1) = ((gs ++ prs.map fun q => q.2.1).map Sum.inr : List Key).map kV := by
        rw [kV_strs, List.map_append, List.map_map]
        rfl
      refine ⟨q5, (gs ++ prs.map fun q => q.2.1).map Sum.inr, rfl, SqL.of (by rw [upd_same, ek]), ?_, fun _ G5 s5 => ?_, fun key tw => (no_twice (nodup_inr.mpr nd) tw).elim⟩
      · rw [List.length_map, List.length_append, List.length_map]
        omega
      · have s05 := (s34.trans (same_new n5)).trans s5
        refine ⟨_, rfl, p, _, rfl, .inl (s05.seq hP.1), _, _, rfl, rfl, _, rfl, ?_⟩
        rw [lp]
        exact ite_false_of (decide_eq_false (by omega)) (k _ s05)
end
end Pr

set_option autoImplicit true
set_option Elab.async false
set_option linter.all false
set_option maxRecDepth 100000
set_option maxHeartbeats 1000000
/-! World.make_class, with right pairs in a list; the tables. -/
namespace Pr
open PySem L2 Two ClX SlX
/-- the table of the pairs -/
def tbOf (prs : List (Addr × Str × V)) : List (Key × V) := prs.map fun q => (Sum.inr q.2.1, q.2.2)
theorem tb_none {z : Str} : ∀ prs : List (Addr × Str × V), z ∉ prs.map (fun q => q.2.1) → valV (tbOf prs) (Sum.inr z) = none
  | [], _ => rfl
  | q :: prs, h => by
    have hx : (Sum.inr q.2.1 : Key) ≠ Sum.inr z := fun e => h (List.mem_cons.mpr (.inl (Sum.inr.inj e).symm))
    have := tb_none prs fun m => h (List.mem_cons_of_mem _ m)
    unfold valV tbOf at this ⊢
    rw [List.map_cons, List.find?_cons_of_neg (by simpa using hx)]
    exact this
/-- what a call of make_class with right arguments and values comes to -/
structure MadeEndV (K : PySem.W.Frag) (CL CS CW CC CO CR : Addr) (L : Addr → Prop) (H0 : Hp) (W dx S Tb Lv : Addr) (ps : List (Addr × Cm)) (ns : List Nat) (gs : List Str) (r : Bool) (prs : List (Addr × Str × V)) (Q : VK) (E : XK) : Prop where
  col : ∀ i j, colOf (ps.map (·.2)) ns = some (i, j) → ∀ H' x y off nx ny, Same H0 H' → (lineAt (ps.map (·.2)) i)[0]? = some x → (lineAt (ps.map (·.2)) j)[0]? = some y → Meet (ps.map (·.2)) (lineAt (ps.map (·.2)) i) (lineAt (ps.map (·.2)) j) off nx ny → ColErr H' E CC ps.length x y off nx ny
  ring : colOf (ps.map (·.2)) ns = none → ∀ H' q n (us : List (Addr × Int × Nat)), Same H0 H' → Mg.firstFree (Mg.st (ordLs (ps.map (·.2)) ns) n).2 = none → (∃ r ∈ (Mg.st (ordLs (ps.map (·.2)) ns) n).2, r ≠ []) → H' q = some (.lst (tupRefs us)) → TupsAt H' us → Mg.IsRing (ordLs (ps.map (·.2)) ns) (us.map (·.2)) → us.length ≤ 30 →
    Mg.RingDet (Mg.st (ordLs (ps.map (·.2)) ns) n).2 (us.map (·.2)) → Thrown H' E CO (fsNoOrd [.int (ps.length : Nat), .ref q])
  room : colOf (ps.map (·.2)) ns = none → ∀ mg, MergedTo (ordLs (ps.map (·.2)) ns) mg → r = true → ∀ z, ns.find? (roomAt (ps.map (·.2))) = some z → ∀ H', Same H0 H' → Thrown H' E CR (fsRoom [.int (ps.length : Nat), .int (z : Nat)])
  ok : colOf (ps.map (·.2)) ns = none → ∀ mg above, MergedTo (ordLs (ps.map (·.2)) ns) mg → Above (ps.map (·.2)) ns above → (r = true → ∀ z ∈ ns, roomAt (ps.map (·.2)) z = false) → ∀ H' a tbs q, (∀ b o, H0 b = some o → b ≠ S → b ≠ Tb → b ≠ Lv → H' b = some o) →
    WorldAt K CL CS CW L H' W dx S Tb Lv (ps ++ [(a, newCm (ps.map (·.2)) ps.length ns gs r above mg)]) → H0 Tb = some (.lst tbs) → H' Tb = some (.lst (tbs ++ [.ref q])) → H0 q = none → H' q = some (.dK (tbOf prs)) → Q (.int (ps.length : Nat)) H'
def spMake1 (K : PySem.W.Frag) (CL CS CW CC CO CR : Addr) : Sp := fun vs H Q E => ∃ (W dx S Tb Lv : Addr) (r : Bool) (p b fl : Addr) (L : Addr → Prop) (ps : List (Addr × Cm)) (ns : List Nat) (gs : List Str) (prs : List (Addr × Str × V)), vs = [.ref W, .ref b, .ref fl, .bl r, .ref p] ∧ WorldAt K CL CS CW L H W dx S Tb Lv ps ∧ PairsAt K H p prs ∧ prs.length ≤ 6 ∧ (gs ++ prs.map fun q => q.2.1).Nodup ∧
   SqL K H b (natsV ns) ∧ ns ≠ [] ∧ ns.Nodup ∧ ns.length ≤ 5 ∧ (∀ n ∈ ns, n < ps.length) ∧ H fl = some (.lst (gs.map V.str)) ∧ (∀ z ∈ gs, isName z = true) ∧ gs.length ≤ 6 ∧ ps.length < 25 ∧ (∀ b, H b = none → L b) ∧ (H p = some (.lst (prs.map fun q => V.ref q.1)) ∧ p ≠ S ∧ p ≠ Tb ∧ p ≠ Lv) ∧ MadeEndV K CL CS CW CC CO CR L H W dx S Tb Lv ps ns gs r prs Q E
section
variable {P : Program} {w : World} {K : PySem.W.Frag} {mg : Str → Option Value} {base : Heap}
/-- what make_class calls -/
structure MkDefsV (P : Program) (w : World) (K : PySem.W.Frag) (mg : Str → Option Value) (base : Heap) (CL CS CW CB CN CD CT CC CO CR CM fI fC fB fM fP : Addr) (dI dC dB dM dP : FuncData) : Prop where
  T : TxtN mg
  most : ∃ t, mg "MOST_CLASSES" = some (.int 25 t)
  W : WdC K mg CW
  S : ShMake P w K mg base CL CS CC CO CR fI dI
  mC : Meth K CW "count" fC
  bC : Binds K dC ["self"] []
  GC : FnOk P w K mg base CX0 1 fC dC ["self"] (spWCount K CL CS CW)
  gB : mg "check_bases" = some (.ref fB)
  kB : PySem.W.keepIn K (.ref fB) = true
  bB : Binds K dB ["bases", "many"] []
  GB : FnOk P w K mg base (L2.CX P w) 5 fB dB ["bases", "many"] (spCkBases K CB CN CD CT)
  gM : mg "check_more_fields" = some (.ref fM)
  kM : PySem.W.keepIn K (.ref fM) = true
  bM : Binds K dM ["fields"] []
  GM : FnOk P w K mg base (L2.CX P w) 6 fM dM ["fields"] (spMore K CB CM CD CT)
  gP : mg "check_pairs" = some (.ref fP)
  kP : PySem.W.keepIn K (.ref fP) = true
  bP : Binds K dP ["pairs", "fields"] []
  GP : FnOk P w K mg base (L2.CX P w) 9 fP dP ["pairs", "fields"] (spCkPairs K)
theorem ok_make1 {f CL CS CW CB CN CD CT CC CO CR CM fI fC fB fM fP : Addr} {dI dC dB dM dP : FuncData} {oc dV kV doc pm cdv ct : Value} {od an : Option Addr} {osl : Array (Option Value)}
    (lk : K.lookup f = some ⟨oc, od, .func (PySem.W.fnOf "make_class" "World.make_class" (defArgs mWMake) (defBody mWMake) (defScope mWMake) dV kV doc pm an cdv ct), osl⟩) (hcd : PySem.W.codeIn K cdv "World.make_class" = true)
    (D : MkDefsV P w K mg base CL CS CW CB CN CD CT CC CO CR CM fI fC fB fM fP dI dC dB dM dP) :
    FnOk P w K mg base (L2.CX P w) 12 f (PySem.W.fnOf "make_class" "World.make_class" (defArgs mWMake) (defBody mWMake) (defScope mWMake) dV kV doc pm an cdv ct) ["self", "bases", "fields", "roomy", "pairs"] (spMake1 K CL CS CW CC CO CR) := by
  refine okXD lk hcd scMake (fun vs H Q E h => ?_) (fun A outer s H vs Q E hr h => ?_)
  · obtain ⟨W, dx, S, Tb, Lv, r, p, b, fl, L, ps, ns, gs, prs, rfl, _⟩ := h
    rfl
  · obtain ⟨W, dx, S, Tb, Lv, r, p, b, fl, L, ps, ns, gs, prs, rfl, hW, hP, p6, ndp, hB, ne, nd, l5, lt, hF, nm, g6, few, fresh, ⟨ep, pS, pT, pV⟩, N⟩ := h
    have ndg : gs.Nodup := (List.nodup_append.mp ndp).1
    have hr1 : Room 1 _ := hr.mono (by decide)
    obtain ⟨tm, hm⟩ := D.most
    refine ⟨_, pss_cons (ps_expr (pe_callS D.GB (hr.mono (by decide)) rfl D.gB D.kB D.bB (fun σ => passAt (takes_of rfl rfl rfl rfl) σ) (pa_cons (pv 1) (pa_cons (pe_meth0 (pv 0) D.W.cl D.mC D.GC hr1 D.bC .nil pass0) pa_nil))))
      (pss_cons (ps_expr (pe_callS D.GM (hr.mono (by decide)) rfl D.gM D.kM D.bM (fun σ => passAt (takes_of rfl rfl rfl rfl) σ) (pa_cons (pv 2) pa_nil)))
      (pss_cons (ps_if (pt_not (pt_val (pe_callB call_isi (by rfl) D.T.isinstance (by decide +kernel) (pa_cons (pv 3) (pa_cons (pe_bltn (v := .ty "bool") (by rfl) D.T.bool (by decide +kernel) rfl) pa_nil))))) (pss_one ps_never) pss_nil)
      (pss_cons (ps_expr (pe_call D.GP (hr.mono (by decide)) rfl D.gP D.kP D.bP .nil (passE (E := fun _ _ _ => False) fun _ _ _ z => z) (pa_cons (pv 4) (pa_cons (pv 2) pa_nil))))
      (pss_cons (ps_set (i := 5) scMake.nd rfl (Or.inl rfl) (pe_meth0 (pv 0) D.W.cl D.mC D.GC hr1 D.bC .nil pass0))
      (pss_cons (ps_if (pt_cmpR op_ge (pv 5) (pe_glob (v := .int 25) rfl hm ⟨_, rfl⟩) (nomark _)) (pss_one ps_never) pss_nil)
      (pss_cons (ps_set (i := 6) scMake.nd rfl (Or.inl rfl) (pe_make (E := E) D.S.M D.S.G hr (by rfl) D.S.C.g D.S.b .nil (fun pins σ => passAt (W := fun cls d _ H => E cls d H) (takes_of rfl rfl rfl rfl) σ pins) (pa_cons (pv 5) (pa_cons (pv 1) (pa_cons (pv 2) (pa_cons (pv 3) (pa_cons (pe_fld (pv 0) rfl) pa_nil)))))))
      (pss_cons (ps_expr (pe_bm PySem.F.plainAttrs_list PySem.F.slot_list_append PySem.F.type_list_append mt_append (pe_fld (pv 0) rfl) (pa_cons (pv 6) pa_nil)))
      (pss_cons (ps_expr (pe_bm PySem.F.plainAttrs_list PySem.F.slot_list_append PySem.F.type_list_append mt_append (pe_fld (pv 0) rfl) (pa_cons
        (pe_dc (own := [("name", 7), ("value", 8)]) (g := gTup K 2 (gCons (gName 7) (gCons (gName 8) gNil))) (tt := tYes) (tk := tVar 7) (tv := tVar 8) rfl scMake.nd (pi_list (pv 4)) (blkOk_by (N := nMake) (sc := defScope mWMake) (by decide +kernel))
          (fun _ _ _ _ _ => pg_tup rfl (pgs_cons (pg_name (i := 7) scMake.nd rfl (Or.inl rfl)) (pgs_cons (pg_name (i := 8) scMake.nd rfl (Or.inl rfl)) pgs_nil))) (fun _ _ _ _ _ => pts_nil) (fun _ _ _ _ _ => pv 7) (fun _ _ _ _ _ => pv 8)) pa_nil)))
      (pss_cons (ps_expr (pe_bm PySem.F.plainAttrs_list PySem.F.slot_list_append PySem.F.type_list_append mt_append (pe_fld (pv 0) rfl) (pa_cons pe_int pa_nil)))
      (pss_one (ps_ret (pv 5)))))))))))), ?_⟩
    refine ⟨_, rfl, _, rfl, W, dx, _, rfl, hW.w, rfl, W, ps, rfl, hW.is, ?_⟩
    have _z : True := trivial
    · refine bases_ok hB ne nd l5 lt fun H1 s1 => ?_
      refine ⟨_, rfl, more_ok (SqL.of (s1 _ _ hF)) nm ndg g6 fun H2 s2 => ?_⟩
      have s12 := s1.trans s2
      refine ⟨_, rfl, _, .ty "bool", .type "bool", .type "bool", true, rfl, .ty _, .base (.bl r), kit_ty (by decide +kernel), true, rfl, iteF ?_⟩
      refine ⟨_, rfl, _, rfl, p, fl, prs, gs, rfl, hP.keep s12, s12 _ _ hF, g6, p6, ndp, fun H3 s3 => ?_⟩
      have s13 := s12.trans s3
      have hW3 := hW.keep s13
      refine ⟨_, rfl, W, dx, _, rfl, hW3.w, rfl, W, ps, rfl, hW3.is, ?_⟩
      refine ⟨_, rfl, _, _, rfl, rfl, _, rfl, ite_false_of (decide_eq_false (by omega)) ?_⟩
      refine ⟨_, rfl, _, rfl, _, rfl, _, rfl, _, rfl, W, CW, dx, _, _, rfl, hW3.w, D.W.cl, D.W.nS, rfl, ?_⟩
      dsimp only [tNil]
      intro a da na nda nea
      have lm : (ps.map (·.2)).length = ps.length := List.length_map _
      show spShInit K CL CS CC CO CR [.ref a, .int (ps.length : Nat), .ref b, .ref fl, .bl r, .ref S] _ _ _
      refine ⟨a, da, ps.length, b, fl, S, r, ns, gs, ps, H3, rfl, upd_same, na, same_upd (same_new nda) na, s13.seq hB, s13 _ _ hF, ⟨SqL.of hW3.s, hW3.sh⟩, by omega, nd, lt, hW3.w0.wf, ndg, g6, nm,
        ⟨fun i j e H' x y off nx ny s ex ey M => N.col i j e H' x y off nx ny (s13.trans s) ex ey M, fun e H' q n us s => N.ring e H' q n us (s13.trans s), fun e mg MT hr z hz H' s => N.room e mg MT hr z hz H' (s13.trans s), fun e mg above MT ab noR H4 s4 sh nw => ⟨rfl, ?_⟩⟩⟩
      have s04 := s13.trans s4
      have hW4 := hW3.keep s4
      have hP4 := hP.keep s04
      have ep4 := s04 _ _ ep
      obtain ⟨tbs, hT0, lT4⟩ := hW.t
      have hT4 := s04 _ _ hT0
      obtain ⟨lvs, hV4, lV4⟩ := hW4.v
      obtain ⟨eST, eSV, eTV⟩ := hW4.ne
      have nWS : W ≠ S := fun z => by have := hW4.w; rw [z, hW4.s] at this; cases this
      have nWT : W ≠ Tb := fun z => by have := hW4.w; rw [z, hT4] at this; cases this
      have nWV : W ≠ Lv := fun z => by have := hW4.w; rw [z, hV4] at this; cases this
      have nl : ShL CS (fun b => L b ∧ b ≠ S ∧ b ≠ Tb ∧ b ≠ Lv) H4 a := by
        obtain ⟨tb3, hT3, _⟩ := hW3.t
        obtain ⟨lv3, hV3, _⟩ := hW3.v
        exact ShL.imp nw fun b e => ⟨fresh b (none_of_same s13 e), (ne_of_none hW3.s e).symm, (ne_of_none hT3 e).symm, (ne_of_none hV3 e).symm⟩
      refine ⟨_, rfl, W, CW, dx, _, _, rfl, hW4.w, D.W.cl, D.W.nS, rfl, .inl ⟨rfl, _, SqL.of hW4.s⟩, _, rfl, S, _, _, rfl, rfl, hW4.s, small1000 (by rw [List.length_map]; omega), ?_⟩
      have w5 : (upd H4 S (.lst ((ps.map fun p => V.ref p.1) ++ [V.ref a]))) W = some (.ins CW dx [("_shapes", .ref S), ("_tables", .ref Tb), ("_lives", .ref Lv)]) := by rw [upd_ne nWS]; exact hW4.w
      have S5 : (upd H4 S (.lst ((ps.map fun p => V.ref p.1) ++ [V.ref a]))) S = some (.lst ((ps.map fun p => V.ref p.1) ++ [V.ref a])) := upd_same
      have T5 : (upd H4 S (.lst ((ps.map fun p => V.ref p.1) ++ [V.ref a]))) Tb = some (.lst tbs) := by rw [upd_ne eST.symm]; exact hT4
      have V5 : (upd H4 S (.lst ((ps.map fun p => V.ref p.1) ++ [V.ref a]))) Lv = some (.lst lvs) := by rw [upd_ne eSV.symm]; exact hV4
      have P5 : (upd H4 S (.lst ((ps.map fun p => V.ref p.1) ++ [V.ref a]))) p = some (.lst (prs.map fun q => V.ref q.1)) := by rw [upd_ne pS]; exact ep4
      have Q5 : ∀ q ∈ prs, SqT K (upd H4 S (.lst ((ps.map fun p => V.ref p.1) ++ [V.ref a]))) q.1 [.str q.2.1, q.2.2] := fun q hq => sqt_other (hP4.2 q hq).1 hW4.s
      have k5 : ∀ b o, H4 b = some o → b ≠ S → (upd H4 S (.lst ((ps.map fun p => V.ref p.1) ++ [V.ref a]))) b = some o := fun b o e n => by rw [upd_ne n]; exact e
      generalize (upd H4 S (.lst ((ps.map fun p => V.ref p.1) ++ [V.ref a]))) = H5 at w5 S5 T5 V5 P5 Q5 k5 ⊢
      refine ⟨_, rfl, W, CW, dx, _, _, rfl, w5, D.W.cl, D.W.nT, rfl, .inl ⟨rfl, _, SqL.of T5⟩, _, rfl, p, rfl, ⟨_, SqL.of P5⟩, fun q nq => dc_it (walk_list (K := K) (a := p) (xs := prs.map fun q => V.ref q.1)) (fun j G => Same H5 G ∧ G q = some (.dK (tbOf (prs.take j)))) ⟨same_new nq, upd_same⟩ (fun j G _ p => SqL.of (p.1 _ _ P5)) (fun j x G G2 hj pv hy => ?_) (fun G pv => ?_)⟩
      · obtain ⟨s6, e6⟩ := pv
        obtain ⟨rfl, hx⟩ := hy
        obtain ⟨z, hz, rfl⟩ := get_map hx
        have mz := List.mem_of_getElem? hz
        have jl : j < prs.length := (List.getElem?_eq_some_iff.mp hz).1
        refine ⟨z.1, _, rfl, sqt_keep s6 (Q5 z mz), rfl, _, _, rfl, _, _, rfl, rfl, rfl, ?_⟩
        dsimp only [tYes]
        rw [if_pos rfl]
        refine ⟨_, rfl, _, rfl, tbOf (prs.take j), Sum.inr z.2.1, rfl, e6, ?_, same_upd s6 nq, ?_⟩
        · unfold tbOf
          rw [List.length_map, List.length_take]
          exact small1000 (by omega)
        · have zn : z.2.1 ∉ (prs.take j).map (fun q => q.2.1) := fun m => by
            have nd2 := (List.nodup_append.mp ndp).2.1
            rw [← List.take_append_drop j prs, List.map_append] at nd2
            have dz : prs.drop j = z :: prs.drop (j + 1) := by
              obtain ⟨h1, h2⟩ := List.getElem?_eq_some_iff.mp hz
              rw [← h2]
              exact List.drop_eq_getElem_cons h1
            rw [dz] at nd2
            exact (List.nodup_append.mp nd2).2.2 _ m _ List.mem_cons_self rfl
          rw [upd_same, putK_new _ (tb_none _ zn), take_snoc hz]
          unfold tbOf
          rw [List.map_append]
          rfl
      obtain ⟨s56, eq6⟩ := pv
      rw [show (prs.map fun q => V.ref q.1).length = prs.length from List.length_map _, List.take_length] at eq6
      refine ⟨Tb, tbs, _, rfl, rfl, s56 _ _ T5, small1000 (by omega), ?_⟩
      have qT : q ≠ Tb := (ne_of_none T5 nq).symm
      have w7 : (upd G Tb (.lst (tbs ++ [.ref q]))) W = some (.ins CW dx [("_shapes", .ref S), ("_tables", .ref Tb), ("_lives", .ref Lv)]) := by rw [upd_ne nWT]; exact s56 _ _ w5
      have V7 : (upd G Tb (.lst (tbs ++ [.ref q]))) Lv = some (.lst lvs) := by rw [upd_ne eTV.symm]; exact s56 _ _ V5
      have S7 : (upd G Tb (.lst (tbs ++ [.ref q]))) S = some (.lst ((ps.map fun p => V.ref p.1) ++ [V.ref a])) := by rw [upd_ne eST]; exact s56 _ _ S5
      have T7 : (upd G Tb (.lst (tbs ++ [.ref q]))) Tb = some (.lst (tbs ++ [.ref q])) := upd_same
      have k7 : ∀ b o, H4 b = some o → b ≠ S → b ≠ Tb → (upd G Tb (.lst (tbs ++ [.ref q]))) b = some o := fun b o e n1 n2 => by rw [upd_ne n2]; exact s56 _ _ (k5 b o e n1)
      have q7 : (upd G Tb (.lst (tbs ++ [.ref q]))) q = some (.dK (tbOf prs)) := by rw [upd_ne qT]; exact eq6
      generalize (upd G Tb (.lst (tbs ++ [.ref q]))) = H7 at w7 V7 S7 T7 k7 q7 ⊢
      refine ⟨_, rfl, W, CW, dx, _, _, rfl, w7, D.W.cl, D.W.nL, rfl, .inl ⟨rfl, _, SqL.of V7⟩, Lv, lvs, _, rfl, rfl, V7, small1000 (by omega), ?_⟩
      have k9 : ∀ b o, H4 b = some o → b ≠ S → b ≠ Tb → b ≠ Lv → (upd H7 Lv (.lst (lvs ++ [.int 0]))) b = some o := fun b o e n1 n2 n3 => by rw [upd_ne n3]; exact k7 b o e n1 n2
      have nq0 : H q = none := by
        refine none_of_same s04 ?_
        cases e4 : H4 q with
        | none => rfl
        | some o =>
          by_cases z : q = S
          · rw [z, S5] at nq; cases nq
          · rw [k5 _ _ e4 z] at nq; cases nq
      have qV : q ≠ Lv := (ne_of_none V5 nq).symm
      refine ⟨_, rfl, N.ok e mg above MT ab noR _ a tbs q (fun b o e n1 n2 n3 => k9 b o (s04 _ _ e) n1 n2 n3) (hW4.grow sh nl k9 (by rw [upd_ne eSV]; exact S7) (by rw [upd_ne eTV]; exact T7) (by rw [List.length_append]; simp [lT4]) upd_same (by rw [List.length_append]; simp [lV4]) ?_) hT0 (by rw [upd_ne eTV]; exact T7) nq0 (by rw [upd_ne qV]; exact q7)⟩
      have := World0.snoc hW.w0 (by rw [lm]; exact few) (r := r) (fun n hn => by rw [lm]; exact lt n hn) nd g6 (fun e => absurd e ne) ab MT
      rw [lm] at this
      rw [List.map_append]
      exact this
end
end Pr

set_option autoImplicit true
set_option Elab.async false
set_option linter.all false
set_option maxRecDepth 100000
set_option maxHeartbeats 1000000
/-! What all worlds keep that calls of make_class have made: orders, lines, layouts, rooms. -/
namespace Pr
open PySem L2 Two ClX SlX
inductive Grown : List Cm → Prop
  | first {mg : List Nat} : MergedTo (ordLs [] []) mg → Grown [newCm [] 0 [] [] false [] mg]
  | more {ms : List Cm} {ns above mg : List Nat} {gs : List Str} {r : Bool} : Grown ms → ms.length < 25 → ns ≠ [] → ns.Nodup → ns.length ≤ 5 → (∀ n ∈ ns, n < ms.length) → gs.Nodup → gs.length ≤ 6 → (∀ z ∈ gs, isName z = true) →
      colOf ms ns = none → MergedTo (ordLs ms ns) mg → Above ms ns above → (r = true → ∀ z ∈ ns, roomAt ms z = false) → Grown (ms ++ [newCm ms ms.length ns gs r above mg])
def fieldsAt (ms : List Cm) (i : Nat) : List Str := match ms[i]? with
  | some m => m.fields
  | none => []
def roomyAt (ms : List Cm) (i : Nat) : Bool := match ms[i]? with
  | some m => m.roomy
  | none => false
structure CmOk (ms : List Cm) (c : Nat) (m : Cm) : Prop where
  ord : ∃ t, m.order = c :: t ∧ (∀ x ∈ t, x < c) ∧ ∀ x, x ∈ t ↔ ∃ b ∈ m.bases, x ∈ orderAt ms b
  nd : m.order.Nodup
  blt : ∀ b ∈ m.bases, b < c
  bnd : m.bases.Nodup
  b0 : c ≠ 0 → m.bases ≠ []
  inb : ∀ b ∈ m.bases, m.order.filter (fun x => decide (x ∈ orderAt ms b)) = orderAt ms b
  bas : m.order.filter (fun x => decide (x ∈ m.bases)) = m.bases
  line : ∀ x, x ∈ m.line ↔ x ∈ m.order ∧ (fieldsAt ms x ≠ [] ∨ x = 0)
  lsub : m.line.Sublist m.order
  lay : m.lay = (m.line.reverse.map (fieldsAt ms)).flatten
  room : m.room = true ↔ ∃ x ∈ m.order, roomyAt ms x = true
  one : m.roomy = true → ∀ x ∈ m.order, x ≠ c → roomyAt ms x = false
  fnd : m.fields.Nodup
  f6 : m.fields.length ≤ 6
  fnm : ∀ z ∈ m.fields, isName z = true
theorem at_old {ms : List Cm} {m' : Cm} {x : Nat} (h : x < ms.length) : orderAt (ms ++ [m']) x = orderAt ms x ∧ fieldsAt (ms ++ [m']) x = fieldsAt ms x ∧ roomyAt (ms ++ [m']) x = roomyAt ms x ∧ lineAt (ms ++ [m']) x = lineAt ms x ∧ layAt (ms ++ [m']) x = layAt ms x ∧ roomAt (ms ++ [m']) x = roomAt ms x := by
  unfold orderAt fieldsAt roomyAt lineAt layAt roomAt
  rw [List.getElem?_append_left h]
  exact ⟨rfl, rfl, rfl, rfl, rfl, rfl⟩
theorem at_new {ms : List Cm} {m' : Cm} : orderAt (ms ++ [m']) ms.length = m'.order ∧ fieldsAt (ms ++ [m']) ms.length = m'.fields ∧ roomyAt (ms ++ [m']) ms.length = m'.roomy := by
  unfold orderAt fieldsAt roomyAt
  rw [List.getElem?_append_right (Nat.le_refl _), Nat.sub_self]
  exact ⟨rfl, rfl, rfl⟩
theorem CmOk.le {ms : List Cm} {c : Nat} {m : Cm} (k : CmOk ms c m) : ∀ x ∈ m.order, x ≤ c := fun x hx => by
  obtain ⟨t, e, lt, _⟩ := k.ord
  rw [e] at hx
  rcases List.mem_cons.mp hx with rfl | hx
  · exact Nat.le_refl _
  · exact Nat.le_of_lt (lt x hx)
theorem map_flat_congr {α β : Type} {f g : α → List β} : ∀ {l : List α}, (∀ x ∈ l, f x = g x) → (l.map f).flatten = (l.map g).flatten
  | [], _ => rfl
  | a :: l, h => by
    rw [List.map_cons, List.map_cons, List.flatten_cons, List.flatten_cons, h a List.mem_cons_self, map_flat_congr fun x hx => h x (List.mem_cons_of_mem _ hx)]
theorem CmOk.up {ms : List Cm} {c : Nat} {m m' : Cm} (k : CmOk ms c m) (hc : c < ms.length) : CmOk (ms ++ [m']) c m := by
  have le := k.le
  have bl : ∀ b ∈ m.bases, b < ms.length := fun b hb => Nat.lt_trans (k.blt b hb) hc
  obtain ⟨t, e, lt, it⟩ := k.ord
  refine ⟨⟨t, e, lt, fun x => ?_⟩, k.nd, k.blt, k.bnd, k.b0, fun b hb => ?_, k.bas, fun x => ?_, k.lsub, ?_, ?_, fun h x hx ne => ?_, k.fnd, k.f6, k.fnm⟩
  · rw [it x]
    refine ⟨fun ⟨b, hb, hx⟩ => ⟨b, hb, ?_⟩, fun ⟨b, hb, hx⟩ => ⟨b, hb, ?_⟩⟩
    · rw [(at_old (bl b hb)).1]; exact hx
    · rw [(at_old (bl b hb)).1] at hx; exact hx
  · rw [(at_old (bl b hb)).1]; exact k.inb b hb
  · rw [k.line x]
    refine ⟨fun ⟨h, q⟩ => ⟨h, ?_⟩, fun ⟨h, q⟩ => ⟨h, ?_⟩⟩
    · rw [(at_old (Nat.lt_of_le_of_lt (le x h) hc)).2.1]; exact q
    · rw [(at_old (Nat.lt_of_le_of_lt (le x h) hc)).2.1] at q; exact q
  · rw [k.lay]
    exact map_flat_congr fun x hx => ((at_old (Nat.lt_of_le_of_lt (le x (k.lsub.subset (List.mem_reverse.mp hx))) hc)).2.1).symm
  · rw [k.room]
    refine ⟨fun ⟨x, h, q⟩ => ⟨x, h, ?_⟩, fun ⟨x, h, q⟩ => ⟨x, h, ?_⟩⟩
    · rw [(at_old (Nat.lt_of_le_of_lt (le x h) hc)).2.2.1]; exact q
    · rw [(at_old (Nat.lt_of_le_of_lt (le x h) hc)).2.2.1] at q; exact q
  · rw [(at_old (Nat.lt_of_le_of_lt (le x hx) hc)).2.2.1]; exact k.one h x hx ne
theorem mem_intsN {n : Nat} {ns : List Nat} (h : n ∈ ns) : (n : Int) ∈ intsN ns := List.mem_map.mpr ⟨n, h, rfl⟩
theorem filter_intsN {p : Int → Bool} {q : Nat → Bool} : ∀ {l : List Nat}, (∀ x ∈ l, p (x : Int) = q x) → (intsN l).filter p = intsN (l.filter q)
  | [], _ => rfl
  | a :: l, h => by
    have ih := filter_intsN (p := p) (q := q) (l := l) fun x hx => h x (List.mem_cons_of_mem _ hx)
    have e : intsN (a :: l) = (a : Int) :: intsN l := rfl
    have ha := h a List.mem_cons_self
    rw [e]
    cases hq : q a with
    | true =>
      rw [List.filter_cons_of_pos (by rw [ha]; exact hq), List.filter_cons_of_pos hq, ih]
      rfl
    | false =>
      rw [List.filter_cons_of_neg (by rw [ha, hq]; decide), List.filter_cons_of_neg (by rw [hq]; decide), ih]
theorem intsN_inj : ∀ {a b : List Nat}, intsN a = intsN b → a = b
  | [], [], _ => rfl
  | [], _ :: _, h => nomatch h
  | _ :: _, [], h => nomatch h
  | x :: a, y :: b, h => by
    obtain ⟨h1, h2⟩ := List.cons.inj h
    rw [Int.ofNat_inj.mp h1, intsN_inj h2]
/-- what is merged: each list within it -/
theorem merged_facts {ms : List Cm} {ns mg : List Nat} (nds : ∀ l ∈ ordLs ms ns, l.Nodup) (h : MergedTo (ordLs ms ns) mg) : mg.Nodup ∧ (∀ l : List Nat, intsN l ∈ ordLs ms ns → mg.filter (fun x => decide (x ∈ l)) = l) ∧ ∀ x ∈ mg, (∃ b ∈ ns, x ∈ orderAt ms b) ∨ x ∈ ns := by
  obtain ⟨n, h1, h2⟩ := h
  have ok := Mg.ok_st nds n
  refine ⟨?_, fun l hl => ?_, fun x hx => ?_⟩
  · refine nodup_of_ints ?_
    rw [← h2]
    exact ok.nd
  · have e := Mg.end_inside ok h1 hl
    rw [h2] at e
    rw [filter_intsN (q := fun x => decide (x ∈ l)) fun x hx => ?_] at e
    · exact intsN_inj e
    · rw [Bool.eq_iff_iff, List.contains_iff_mem, decide_eq_true_iff]
      exact ⟨fun q => mem_ints q, fun q => mem_intsN q⟩
  · have hx2 : (x : Int) ∈ (Mg.st (ordLs ms ns) n).1 := by rw [h2]; exact mem_intsN hx
    obtain ⟨l, hl, hy⟩ := (Mg.st_items _ n).1 _ hx2
    rcases mem_ordLs hl with ⟨z, hz, rfl⟩ | rfl
    · exact .inl ⟨z, hz, mem_ints hy⟩
    · exact .inr (mem_ints hy)
theorem col_none {ms : List Cm} : ∀ {ns : List Nat}, colOf ms ns = none → ∀ {i j x y : Nat}, ns[i]? = some x → ns[j]? = some y → i < j → apart (lineAt ms x) (lineAt ms y) = false
  | [], _, i, j, x, y, hx, _, _ => by simp at hx
  | z :: ns, h, i, j, x, y, hx, hy, ij => by
    have h2 := h
    unfold colOf at h2
    cases hf : ns.find? (fun y => apart (lineAt ms z) (lineAt ms y)) with
    | some w => rw [hf] at h2; cases h2
    | none =>
      rw [hf] at h2
      cases j with
      | zero => exact absurd ij (Nat.not_lt_zero _)
      | succ j =>
        cases i with
        | zero =>
          cases hx
          have := List.find?_eq_none.mp hf y (List.mem_of_getElem? hy)
          simpa using this
        | succ i => exact col_none h2 hx hy (Nat.lt_of_succ_lt_succ ij)
theorem apart_symm {a b : List Nat} : apart a b = apart b a := by
  unfold apart
  cases a[0]? with
  | none => cases b[0]? <;> rfl
  | some x =>
    cases b[0]? with
    | none => rfl
    | some y => exact Bool.and_comm _ _
/-- a line ends with the lines of the classes on it -/
theorem line_suffix {ms : List Cm} (W : World0 ms) : ∀ (i : Nat), i < ms.length → ∀ y ∈ lineAt ms i, lineAt ms y <:+ lineAt ms i := by
  intro i
  induction i using Nat.strongRecOn with
  | ind i ih =>
    intro hi y hy
    obtain ⟨m, em⟩ : ∃ m, ms[i]? = some m := ⟨_, List.getElem?_eq_getElem hi⟩
    obtain ⟨x, t, e1, e2, e3, e4⟩ := W.line i m em
    rw [(World0.at_ em).1] at hy ⊢
    rw [e1] at hy
    rcases List.mem_cons.mp hy with rfl | hy2
    · rw [e3]; exact List.suffix_refl _
    · rcases e4 with ⟨_, e5⟩ | ⟨y1, t', rfl, yx, ey, _⟩
      · rw [e5] at hy2
        exact absurd hy2 List.not_mem_nil
      · have := ih y1 (by omega) (by omega) y (by rw [ey]; exact hy2)
        rw [ey] at this
        rw [e1]
        exact this.trans (List.suffix_cons _ _)
/-- where no two collide, the longest line has all others -/
theorem line_all {ms : List Cm} (W : World0 ms) {ns above : List Nat} (lt : ∀ n ∈ ns, n < ms.length) (h : colOf ms ns = none) {i z : Nat} (hz : ns[i]? = some z) (ea : above = lineAt ms z) (long : ∀ j y : Nat, ns[j]? = some y → (lineAt ms y).length ≤ above.length) : ∀ b ∈ ns, ∀ x ∈ lineAt ms b, x ∈ above := by
  intro b hb x hx
  obtain ⟨j, hj⟩ := List.getElem?_of_mem hb
  by_cases e : b = z
  · rw [ea, ← e]; exact hx
  · have ne : i ≠ j := fun q => by
      rw [← q, hz] at hj
      exact e (Option.some.inj hj).symm
    have zl := lt z (List.mem_of_getElem? hz)
    have bl := lt b hb
    have ap : apart (lineAt ms z) (lineAt ms b) = false := by
      rcases Nat.lt_or_gt_of_ne ne with q | q
      · exact col_none h hz hj q
      · rw [apart_symm]; exact col_none h hj hz q
    obtain ⟨mz, emz⟩ : ∃ m, ms[z]? = some m := ⟨_, List.getElem?_eq_getElem zl⟩
    obtain ⟨mb, emb⟩ : ∃ m, ms[b]? = some m := ⟨_, List.getElem?_eq_getElem bl⟩
    obtain ⟨x0, a1, a2, a3, _⟩ := W.own emz
    obtain ⟨y0, b1, b2, b3, _⟩ := W.own emb
    rw [(World0.at_ emz).1, (World0.at_ emb).1] at ap
    unfold apart at ap
    rw [a1, b1] at ap
    replace ap : (decide (x0 ∉ mb.line) && decide (y0 ∉ mz.line)) = false := ap
    have ap2 : decide (x0 ∉ mb.line) = false ∨ decide (y0 ∉ mz.line) = false := by
      cases h1 : decide (x0 ∉ mb.line) with
      | false => exact .inl rfl
      | true =>
        rw [h1] at ap
        exact .inr (by simpa using ap)
    rw [ea]
    rcases ap2 with q | q
    · have q1 : x0 ∈ mb.line := by simpa using q
      have sf := line_suffix W b bl x0 (by rw [(World0.at_ emb).1]; exact q1)
      rw [a3, (World0.at_ emb).1] at sf
      have l1 := long j b hj
      rw [ea, (World0.at_ emz).1, (World0.at_ emb).1] at l1
      have e2 : mz.line = mb.line := sf.eq_of_length_le l1
      rw [(World0.at_ emz).1, e2, ← (World0.at_ emb).1]
      exact hx
    · have q1 : y0 ∈ mz.line := by simpa using q
      have sf := line_suffix W z zl y0 (by rw [(World0.at_ emz).1]; exact q1)
      rw [b3] at sf
      rw [(World0.at_ emb).1] at hx
      exact sf.subset hx
theorem Grown.world0 {ms : List Cm} (g : Grown ms) : World0 ms := by
  induction g with
  | first MT => exact World0.nil.snoc (by decide) (fun _ h => nomatch h) List.nodup_nil (Nat.zero_le _) (fun _ => ⟨rfl, rfl⟩) (.inl ⟨rfl, rfl⟩) MT
  | more g h24 ne nd n5 lt gnd g6 gnm hcol MT ab hr ih => exact ih.snoc h24 lt nd g6 (fun e => absurd e ne) ab MT
theorem Grown.ok {ms : List Cm} (g : Grown ms) : ∀ (c : Nat) (m : Cm), ms[c]? = some m → CmOk ms c m := by
  induction g with
  | @first mg MT =>
    intro c m h
    have hm : mg = [] := by
      obtain ⟨_, _, f⟩ := merged_facts (ms := []) (ns := []) (fun l hl => by
        rcases mem_ordLs hl with ⟨z, hz, _⟩ | rfl
        · cases hz
        · exact List.nodup_nil) MT
      cases mg with
      | nil => rfl
      | cons a mg =>
        rcases f a List.mem_cons_self with ⟨b, hb, _⟩ | hb <;> cases hb
    subst hm
    cases c with
    | succ c => simp at h
    | zero =>
      cases h
      refine ⟨⟨[], rfl, (fun _ h => nomatch h), fun x => ⟨fun h => (nomatch h), fun ⟨b, hb, _⟩ => nomatch hb⟩⟩, List.nodup_cons.mpr ⟨List.not_mem_nil, List.nodup_nil⟩, (fun _ h => nomatch h), List.nodup_nil, (fun h => absurd rfl h), (fun _ h => nomatch h), rfl, fun x => ?_, List.Sublist.refl _, rfl, ?_, (fun h => nomatch h), List.nodup_nil, Nat.zero_le _, fun _ h => nomatch h⟩
      · show x ∈ [0] ↔ x ∈ [0] ∧ _
        exact ⟨fun h => ⟨h, .inr (List.mem_singleton.mp h)⟩, fun h => h.1⟩
      · refine ⟨fun h => (nomatch h), fun ⟨x, hx, q⟩ => ?_⟩
        have : x = 0 := List.mem_singleton.mp hx
        subst this
        cases q
  | @more ms ns above mg gs r g h24 ne nd n5 lt gnd g6 gnm hcol MT ab hr ih =>
    have W := g.world0
    intro c m h
    by_cases hc : c < ms.length
    · rw [List.getElem?_append_left hc] at h
      exact (ih c m h).up hc
    · have hc2 : c = ms.length := by
        have := (List.getElem?_eq_some_iff.mp h).1
        rw [List.length_append] at this
        simp at this
        omega
      subst hc2
      rw [List.getElem?_append_right (Nat.le_refl _), Nat.sub_self] at h
      obtain rfl := (Option.some.inj h).symm
      have nds : ∀ l ∈ ordLs ms ns, l.Nodup := fun l hl => by
        rcases mem_ordLs hl with ⟨z, hz, rfl⟩ | rfl
        · obtain ⟨mz, ez⟩ : ∃ m, ms[z]? = some m := ⟨_, List.getElem?_eq_getElem (lt z hz)⟩
          rw [(World0.at_ ez).2.2.2]
          exact nodup_ints (W.ond mz (List.mem_of_getElem? ez))
        · exact nodup_ints nd
      obtain ⟨mnd, fl, items⟩ := merged_facts nds MT
      have inO : ∀ b ∈ ns, intsN (orderAt ms b) ∈ ordLs ms ns := fun b hb => List.mem_append.mpr (.inl (List.mem_map.mpr ⟨b, hb, rfl⟩))
      have inB : intsN ns ∈ ordLs ms ns := List.mem_append.mpr (.inr (List.mem_singleton.mpr rfl))
      have getM : ∀ b ∈ ns, ∃ mb, ms[b]? = some mb ∧ CmOk ms b mb ∧ orderAt ms b = mb.order ∧ lineAt ms b = mb.line := fun b hb => by
        obtain ⟨mb, eb⟩ : ∃ m, ms[b]? = some m := ⟨_, List.getElem?_eq_getElem (lt b hb)⟩
        exact ⟨mb, eb, ih b mb eb, (World0.at_ eb).2.2.2, (World0.at_ eb).1⟩
      have subm : ∀ b ∈ ns, ∀ x ∈ orderAt ms b, x ∈ mg := fun b hb x hx => by
        rw [← fl _ (inO b hb)] at hx
        exact (List.mem_filter.mp hx).1
      have it : ∀ x, x ∈ mg ↔ ∃ b ∈ ns, x ∈ orderAt ms b := fun x => by
        refine ⟨fun hx => ?_, fun ⟨b, hb, hx⟩ => subm b hb x hx⟩
        rcases items x hx with q | q
        · exact q
        · obtain ⟨mb, eb, k, eo, _⟩ := getM x q
          obtain ⟨t, et, _⟩ := k.ord
          exact ⟨x, q, by rw [eo, et]; exact List.mem_cons_self⟩
      have ltm : ∀ x ∈ mg, x < ms.length := fun x hx => by
        obtain ⟨b, hb, hx⟩ := (it x).mp hx
        obtain ⟨mb, eb, k, eo, _⟩ := getM b hb
        rw [eo] at hx
        exact Nat.lt_of_le_of_lt (k.le x hx) (lt b hb)
      have cm : ms.length ∉ mg := fun q => Nat.lt_irrefl _ (ltm _ q)
      obtain ⟨i, z, hz, ea, long⟩ : ∃ i z : Nat, ns[i]? = some z ∧ above = lineAt ms z ∧ ∀ j y : Nat, ns[j]? = some y → (lineAt ms y).length ≤ above.length := by
        rcases ab with ⟨e, _⟩ | ⟨i, z, hz, ea, long⟩
        · exact absurd e ne
        · exact ⟨i, z, hz, ea, fun j y hy => (long j y hy).1⟩
      have zn := List.mem_of_getElem? hz
      have all := line_all W lt hcol hz ea long
      obtain ⟨mz, ez, kz, eoz, elz⟩ := getM z zn
      have c0 : ms.length ≠ 0 := fun q => by have := lt z zn; omega
      have oldF : ∀ {m' : Cm} {x : Nat}, x ∈ mg → fieldsAt (ms ++ [m']) x = fieldsAt ms x ∧ roomyAt (ms ++ [m']) x = roomyAt ms x := fun hx => ⟨(at_old (ltm _ hx)).2.1, (at_old (ltm _ hx)).2.2.1⟩
      have abm : ∀ x ∈ above, x ∈ mg := fun x hx => by
        rw [ea, elz] at hx
        exact subm z zn x (by rw [eoz]; exact kz.lsub.subset hx)
      obtain ⟨an1, an2, an3⟩ := at_new (ms := ms) (m' := newCm ms ms.length ns gs r above mg)
      have line' : ∀ x, x ∈ (newCm ms ms.length ns gs r above mg).line ↔ x ∈ above ∨ (x = ms.length ∧ gs ≠ []) := fun x => by
        show x ∈ (if gs = [] ∧ ns ≠ [] then above else ms.length :: above) ↔ _
        by_cases e : gs = []
        · rw [if_pos ⟨e, ne⟩]
          exact ⟨.inl, fun h => h.elim id fun h => absurd e h.2⟩
        · rw [if_neg fun h => e h.1]
          refine ⟨fun h => ?_, fun h => ?_⟩
          · rcases List.mem_cons.mp h with rfl | h
            · exact .inr ⟨rfl, e⟩
            · exact .inl h
          · rcases h with h | ⟨rfl, _⟩
            · exact List.mem_cons_of_mem _ h
            · exact List.mem_cons_self
      have asub : above.Sublist mg := by
        rw [ea, elz]
        refine kz.lsub.trans ?_
        rw [← eoz, ← fl _ (inO z zn)]
        exact List.filter_sublist
      refine ⟨⟨mg, rfl, ltm, fun x => ?_⟩, List.nodup_cons.mpr ⟨cm, mnd⟩, lt, nd, fun _ => ne, fun b hb => ?_, ?_, fun x => ?_, ?_, ?_, ?_, fun hroom x hx nx => ?_, gnd, g6, gnm⟩
      · rw [it x]
        refine ⟨fun ⟨b, hb, hx⟩ => ⟨b, hb, ?_⟩, fun ⟨b, hb, hx⟩ => ⟨b, hb, ?_⟩⟩
        · rw [(at_old (lt b hb)).1]; exact hx
        · rw [(at_old (lt b hb)).1] at hx; exact hx
      · rw [(at_old (lt b hb)).1]
        show (ms.length :: mg).filter _ = _
        rw [List.filter_cons_of_neg (by simpa using fun q => cm (subm b hb _ q))]
        exact fl _ (inO b hb)
      · show (ms.length :: mg).filter (fun x => decide (x ∈ ns)) = ns
        rw [List.filter_cons_of_neg (by simpa using fun q => Nat.lt_irrefl _ (lt _ q))]
        exact fl _ inB
      · rw [line' x]
        show _ ↔ x ∈ ms.length :: mg ∧ _
        refine ⟨fun h => ?_, fun ⟨h, q⟩ => ?_⟩
        · rcases h with h | ⟨rfl, h⟩
          · refine ⟨List.mem_cons_of_mem _ (abm x h), ?_⟩
            rw [(oldF (abm x h)).1]
            rw [ea, elz] at h
            exact ((kz.line x).mp h).2
          · exact ⟨List.mem_cons_self, .inl (by rw [an2]; exact h)⟩
        · rcases List.mem_cons.mp h with rfl | h
          · rcases q with q | q
            · rw [an2] at q
              exact .inr ⟨rfl, q⟩
            · exact absurd q c0
          · rw [(oldF h).1] at q
            obtain ⟨b, hb, hx⟩ := (it x).mp h
            obtain ⟨mb, eb, kb, eo, el⟩ := getM b hb
            rw [eo] at hx
            exact .inl (all b hb x (by rw [el]; exact (kb.line x).mpr ⟨hx, q⟩))
      · show (if gs = [] ∧ ns ≠ [] then above else ms.length :: above).Sublist (ms.length :: mg)
        split
        · exact asub.cons _
        · exact asub.cons_cons _
      · obtain ⟨x0, o1, o2, o3, _⟩ := W.own ez
        have e0 : above[0]? = some x0 := by rw [ea, elz]; exact o1
        have x0l : x0 < ms.length := Nat.lt_of_le_of_lt o2 (lt z zn)
        obtain ⟨m0, em0⟩ : ∃ m, ms[x0]? = some m := ⟨_, List.getElem?_eq_getElem x0l⟩
        have k0 := ih x0 m0 em0
        have el0 : m0.line = above := by rw [← (World0.at_ em0).1, o3, ea, elz]
        have lay0 : layAt ms x0 = (above.reverse.map (fieldsAt (ms ++ [newCm ms ms.length ns gs r above mg]))).flatten := by
          rw [(World0.at_ em0).2.1, k0.lay, el0]
          exact map_flat_congr fun y hy => (oldF (abm y (List.mem_reverse.mp hy))).1.symm
        show ((above[0]?).map (layAt ms)).getD [] ++ gs = _
        rw [e0]
        show layAt ms x0 ++ gs = _
        rw [lay0]
        show _ = ((if gs = [] ∧ ns ≠ [] then above else ms.length :: above).reverse.map _).flatten
        by_cases e : gs = []
        · rw [if_pos ⟨e, ne⟩, e, List.append_nil]
        · rw [if_neg fun h => e h.1, List.reverse_cons, List.map_append, List.flatten_append]
          congr 1
          show gs = [fieldsAt _ ms.length].flatten
          rw [an2]
          simp [newCm]
      · show (r || ns.any (roomAt ms)) = true ↔ ∃ x ∈ ms.length :: mg, _
        rw [Bool.or_eq_true, List.any_eq_true]
        refine ⟨fun h => ?_, fun ⟨x, hx, q⟩ => ?_⟩
        · rcases h with h | ⟨b, hb, h⟩
          · exact ⟨_, List.mem_cons_self, by rw [an3]; exact h⟩
          · obtain ⟨mb, eb, kb, eo, el⟩ := getM b hb
            rw [(World0.at_ eb).2.2.1] at h
            obtain ⟨x, hx, q⟩ := kb.room.mp h
            have xm := subm b hb x (by rw [eo]; exact hx)
            exact ⟨x, List.mem_cons_of_mem _ xm, by rw [(oldF xm).2]; exact q⟩
        · rcases List.mem_cons.mp hx with rfl | hx
          · rw [an3] at q
            exact .inl q
          · rw [(oldF hx).2] at q
            obtain ⟨b, hb, hxb⟩ := (it x).mp hx
            obtain ⟨mb, eb, kb, eo, el⟩ := getM b hb
            rw [eo] at hxb
            exact .inr ⟨b, hb, by rw [(World0.at_ eb).2.2.1]; exact kb.room.mpr ⟨x, hxb, q⟩⟩
      · replace hroom : r = true := hroom
        rcases List.mem_cons.mp hx with e | hx
        · exact absurd e nx
        · rw [(oldF hx).2]
          obtain ⟨b, hb, hxb⟩ := (it x).mp hx
          obtain ⟨mb, eb, kb, eo, el⟩ := getM b hb
          rw [eo] at hxb
          cases q : roomyAt ms x with
          | false => rfl
          | true =>
            have q2 := kb.room.mpr ⟨x, hxb, q⟩
            have q3 := hr hroom b hb
            rw [(World0.at_ eb).2.2.1, q2] at q3
            cases q3
end Pr

set_option autoImplicit true
set_option Elab.async false
set_option linter.all false
set_option maxRecDepth 100000
set_option maxHeartbeats 8000000
/-! set(xs) of a list of ints. -/
namespace Two
open PySem PySem.Spec PyProof.Rows L2
section
variable {P : Program} {w : World} {A : Around} {E : Value → Shared → Prop} {s : Shared}
/-- the object of an empty set -/
abbrev setOb (w : World) : Obj := { cls := .type "set", dict := none, data := .set #[] 0 (.fresh 0 0 (!w.params.followText "set-order")) }
theorem call_set_lstI {l : Addr} {its : Array Value} (ns : List Int) {Q : Value → Shared → Prop} (hh : A.handled = none) (hl : s.heap.IsList l its) (hi : IntsAre its.toList ns) (hb : ns.length + 1 < scanBound)
    (h : ∀ (h' : Heap) (tk c : Nat), SetR w h' s.heap.objs.size (fun j => decide (j ∈ ns)) c → (∀ b o, s.heap.get? b = some o → h'.get? b = some o) → Q (.ref s.heap.objs.size) { s with heap := h', toks := tk }) :
    wpAny (model P w) A (call (.type "set") [.ref l]) Q E s := by
  have size : its.size = ns.length := by have q := hi.length; rwa [Array.length_toList] at q
  obtain ⟨c, tl, hmro⟩ := F.called_set.mro
  have hmade := F.called_set.made
  have hsub := F.called_set.sub
  refine wpAny_call (codeAny_of_tree ?_)
  show wpAny _ _ (callAny (.type "set") _) _ _ _
  refine wpAny_pure ⟨Code.quiet_builtin _ (by decide +kernel), codeAny_builtin F.entry_type_call ?_⟩
  rw [Around.under_plain (weight_type_call_type "set" [.ref l] []) rfl]
  have h1 := F.called_set.notType
  have h2 := F.called_set.canCreate
  have h3 := F.typeCall_set_1 (.ref l)
  repeat (any_goals (first | assumption | wp_step))
  refine codeAny_mono (code_set_led1 (.ref l) (E := E) (Q₁ := fun ob z => ob = .ref s.heap.objs.size ∧ z = { s with heap := s.heap.push (setOb w) }) ⟨rfl, rfl⟩) fun r z hr => ?_
  match r, hr with
  | .error e, hr => exact hr
  | .ok .next, hr => exact hr.elim
  | .ok .brk, hr => exact hr.elim
  | .ok .cont, hr => exact hr.elim
  | .ok (.ret ob), hr =>
    obtain ⟨rfl, rfl⟩ := hr
    have new : (s.heap.push (setOb w)).get? s.heap.objs.size = some (setOb w) := Heap.get?_push_size _ rfl
    have hT : Shared.TypeIs { s with heap := s.heap.push (setOb w) } (.ref s.heap.objs.size) "set" := ⟨_, new, rfl⟩
    have i1 := F.called_set.init.lookup
    have i2 := F.called_set.init.bind (.ref s.heap.objs.size)
    repeat (any_goals (first | assumption | wp_step))
    refine codeAny_mono (codeAny_call_builtin (R := wants (fun r y => r = .none ∧ ∃ h' tk c, y = { s with heap := h', toks := tk } ∧ SetR w h' s.heap.objs.size (fun j => decide (j ∈ ns)) c ∧ (∀ b o, s.heap.get? b = some o → h'.get? b = some o)) E)
      F.called_set.init.plain F.entry_set_init (check_set_init_1 hT ?_)) fun r y hr => ?_
    · obtain ⟨⟨ocls, odict, odata, oslots⟩, hol, hcl, nl, hdl⟩ := hl
      have hcl : ocls = .type "list" := hcl
      have hdl : odata = .seq its nl := hdl
      subst hcl hdl
      have kept : (s.heap.push (setOb w)).get? l = some { cls := .type "list", dict := odict, data := .seq its nl, slots := oslots } := Heap.get?_push_of_some _ hol
      have t1 := F.sub_list_set
      have t2 := F.sub_list_frozenset
      have t3 : (Value.type "list" == Value.type "dict") = false := by decide
      have isL : (s.heap.push (setOb w)).IsList l its := ⟨_, kept, rfl, nl, rfl⟩
      unfold Builtin.«set.__init__» noKeywords Builtin.Frozenset.updateFrom
      generalize hPI : pyIter = PI
      wp_walk
      subst hPI
      refine wpAny_pyIter_list isL ?_
      refine wpAny_bind (wpAny_runValue ?_)
      have lS : l < s.heap.objs.size := Heap.lt_size hol
      have hh3 : A.in1.in1.in1.handled = none := by simp [hh]
      have ne1 : l ≠ (s.heap.push (setOb w)).objs.size := by rw [Heap.size_push]; exact Nat.ne_of_lt (Nat.lt_succ_of_lt lS)
      have out : s.heap.objs.size ∉ [(s.heap.push (setOb w)).objs.size, l] := by
        rw [Heap.size_push]
        simp only [List.mem_cons, List.not_mem_nil, or_false, not_or]
        exact ⟨Nat.ne_of_lt (Nat.lt_succ_self _), Nat.ne_of_gt lS⟩
      have val : ∀ (i : Nat) (v : Value), its[i]? = some v → ∃ k t, ns[i]? = some k ∧ v = .int k t := fun i v hv => by
        have lt : i < ns.length := by rw [← size]; exact (Array.getElem?_eq_some_iff.mp hv).1
        obtain ⟨t, e⟩ := hi.int_at i v (by rw [Array.getElem?_toList]; exact hv)
        exact ⟨ns[i], t, List.getElem?_eq_getElem lt, by rw [e, List.getD_eq_getElem?_getD, List.getElem?_eq_getElem lt] <;> rfl⟩
      refine set_update_ints ((Walks.list hh3 _ l ne1 its).toS) s.heap.objs.size out ns size hb val (its.size - 0) 0 _ (by omega) (Nat.zero_le _) ⟨⟨_, Heap.get?_push_size _ rfl, rfl, rfl⟩, isL.push _⟩
        ⟨0, Nat.le_refl 0, setR_new_at (Heap.get?_push_of_some _ new)⟩ ?_
      intro y c' hm hc' hS
      obtain ⟨h', g2, d', tk', os'⟩ := y
      obtain rfl : g2 = s.gens := hm.gens
      obtain rfl : d' = s.drawn := hm.drawn
      obtain rfl : os' = s.os := hm.os
      show wpAny _ _ _ _ _ _
      refine wpAny_pure ?_
      show wpAny _ _ (ret Value.none) _ _ _
      refine wpAny_pure ⟨rfl, h', tk', c', rfl, hS, fun b o e => ?_⟩
      have lt0 : b < s.heap.objs.size := Heap.lt_size e
      refine hm.heap b o ?_ (Heap.get?_push_of_some _ (Heap.get?_push_of_some _ e))
      simp only [List.mem_cons, List.not_mem_nil, or_false, not_or]
      exact ⟨Nat.ne_of_lt lt0, by rw [Heap.size_push]; exact Nat.ne_of_lt (Nat.lt_succ_of_lt lt0)⟩
    · match r, hr with
      | .error e, hr => exact hr
      | .ok .next, hr => exact hr.elim
      | .ok .brk, hr => exact hr.elim
      | .ok .cont, hr => exact hr.elim
      | .ok (.ret r), hr =>
        obtain ⟨rfl, h', tk, c', rfl, hS, hk⟩ := hr
        repeat (any_goals (first | assumption | wp_step))
        exact h _ _ _ hS hk
end
theorem nodup_le_len : ∀ {l m : List Int}, l.Nodup → (∀ x ∈ l, x ∈ m) → l.length ≤ m.length
  | [], _, _, _ => Nat.zero_le _
  | a :: l, m, nd, h => by
    have nd := List.nodup_cons.mp nd
    have ha := h a List.mem_cons_self
    have q := nodup_le_len (l := l) (m := m.erase a) nd.2 fun x hx => (List.mem_erase_of_ne (fun e : x = a => nd.1 (by rw [← e]; exact hx))).mpr (h x (List.mem_cons_of_mem _ hx))
    have e := List.length_erase_of_mem ha
    have := List.length_pos_of_mem ha
    simp only [List.length_cons]
    omega
section
variable {X : Cx}
/-- set(xs), xs a list of ints that are all of U -/
def rSetL (K : PySem.W.Frag) (w : World) : List V → Hp → VK → Prop := fun vs H Q => ∃ (a : Addr) (ns U : List Int), vs = [V.ref a] ∧ SqL K H a (ns.map V.int) ∧ ns.length ≤ 1000 ∧ (∀ z ∈ ns, z ∈ U) ∧
  ∀ (p : Addr) (c : Nat), H p = none → c ≤ U.length → Q (.ref p) (upd H p (SetO w p (fun j => decide (j ∈ ns)) c))
theorem cr_setL (hc : X.calm = true) : CallR X (.type "set") (rSetL X.K X.w) := by
  intro pins s σ H vs us Q I r h
  obtain ⟨a, ns, U, rfl, hs, hz, hU, q⟩ := h
  rw [Vals.ref1 r]
  obtain ⟨its, rv, pl, _⟩ := I.list hs
  refine call_set_lstI ns (I.ok.hd hc) pl.isList (by simpa using RZ.intsAre_vals rv) (by unfold scanBound; omega) fun h' tk c R k => ?_
  have few : c ≤ U.length := by
    obtain ⟨o, es, ep, t, _, _, _, _, nd, mem, _, _, hn, _⟩ := R
    have e : (es.toList.map keyOf).length = c := by rw [List.length_map, Array.length_toList, hn]
    rw [← e]
    exact nodup_le_len nd fun x hx => hU x (of_decide_eq_true ((mem x).mpr hx))
  exact ⟨.ref _, _, I.laid (t' := tk) k (Nat.le_refl _) (setO_new R), rfl, q _ c (I.hok.fresh (Nat.le_refl _)) few⟩
end
end Two

set_option autoImplicit true
set_option Elab.async false
set_option linter.all false
set_option maxRecDepth 100000
set_option maxHeartbeats 1000000
/-! repr of any data, dicts too. -/
namespace Two
open PySem PySem.Spec PyProof.Rows L2
def keyD : Key → PyData
  | .inl i => .int i
  | .inr x => .str x
mutual
inductive Dq (K : PySem.W.Frag) (H : Hp) : V → PyData → Prop
  | non : Dq K H .non .none
  | bl (b : Bool) : Dq K H (.bl b) (.bool b)
  | int (i : Int) : Dq K H (.int i) (.int i)
  | str (x : Str) : Dq K H (.str x) (.str x)
  | lst {a : Addr} {xs : List V} {ds : List PyData} : SqL K H a xs → a ≠ 1 → DqAll K H xs ds → Dq K H (.ref a) (.list ds)
  | tup {a : Addr} {xs : List V} {ds : List PyData} : SqT K H a xs → DqAll K H xs ds → Dq K H (.ref a) (.tuple ds)
  | dic {a : Addr} {kvs : List (Key × Int)} : H a = some (.dK (kvs.map fun p => (p.1, V.int p.2))) → Dq K H (.ref a) (.dict (kvs.map fun p => (keyD p.1, PyData.int p.2)))
inductive DqAll (K : PySem.W.Frag) (H : Hp) : List V → List PyData → Prop
  | nil : DqAll K H [] []
  | cons {v : V} {vs : List V} {d : PyData} {ds : List PyData} : Dq K H v d → DqAll K H vs ds → DqAll K H (v :: vs) (d :: ds)
end
theorem DqAll.len {K : PySem.W.Frag} {H : Hp} : ∀ {vs : List V} {ds : List PyData}, DqAll K H vs ds → vs.length = ds.length
  | [], _, h => by cases h; rfl
  | _ :: _, _, h => by
    cases h with
    | cons h1 h2 => exact congrArg (· + 1) h2.len
section
variable {X : Cx} {pins : List (Addr × Obj)} {σ : L2.St} {H : Hp} {s : Shared}
theorem keys_read {h : Heap} : ∀ {es : List DictEntry} {vs : List (Key × Value)} {kvs : List (Key × Int)}, Pairs (mixKind X.prog X.w) es vs → KV (kvs.map fun p => (p.1, V.int p.2)) vs →
    ReadsAll h (es.map (·.key)) (kvs.map fun p => keyD p.1) [] ∧ ReadsAll h (es.map (·.val)) (kvs.map fun p => PyData.int p.2) []
  | [], _, [], p, k => ⟨.nil, .nil⟩
  | [], _, _ :: _, p, k => by
    cases p
    cases k
  | e :: es, _, [], p, k => by
    cases k
    cases p
  | e :: es, _, (a, i) :: kvs, p, k => by
    cases p with
    | cons h1 h2 h3 =>
      cases k with
      | cons k1 k2 =>
        obtain ⟨r1, r2⟩ := keys_read h3 k2
        have h1 : keyIs _ e.key = true := h1
        rw [← k1.1] at h1
        have one : Reads h e.key (keyD a) [] := by
          rcases keyIs_shape h1 with ⟨i, t, e1, e2⟩ | ⟨x, t, e1, e2⟩
          · have e1 : a = .inl i := e1
            rw [e1, e2]; exact Reads.int i t
          · have e1 : a = .inr x := e1
            rw [e1, e2]; exact Reads.str x t
        have two : Reads h e.val (.int i) [] := by
          obtain ⟨t, et⟩ := k1.2
          rw [h2, et]
          exact Reads.int i t
        exact ⟨ReadsAll.cons (as := []) (bs := []) one r1, ReadsAll.cons (as := []) (bs := []) two r2⟩
mutual
theorem Dq.reads (I : Inv X pins σ H s) : ∀ (d : PyData) (v : V) (u : Value), Dq X.K H v d → RelV v u → ∃ as, Reads s.heap u d as ∧ sysModules ∉ as
  | .none, _, _, h, r => by
    cases h
    cases r
    exact ⟨_, Reads.none, (fun m => nomatch m)⟩
  | .bool b, _, _, h, r => by
    cases h
    cases r
    exact ⟨_, Reads.bool b, (fun m => nomatch m)⟩
  | .int i, _, _, h, r => by
    cases h
    obtain ⟨t, rfl⟩ := r
    exact ⟨_, Reads.int i t, (fun m => nomatch m)⟩
  | .str x, _, _, h, r => by
    cases h
    obtain ⟨t, rfl⟩ := r
    exact ⟨_, Reads.str x t, (fun m => nomatch m)⟩
  | .list ds, _, _, h, r => by
    cases h with
    | lst hs ne ha =>
      cases r
      obtain ⟨its, rv, ⟨o, n, ho, hc, _, hd⟩, _⟩ := I.list hs
      obtain ⟨as, hr, hn⟩ := Dq.readsAll I ds _ its ha rv
      refine ⟨_, Reads.list ho hc hd hr, fun m => ?_⟩
      rcases List.mem_cons.mp m with m | m
      · exact ne m.symm
      · exact hn m
  | .tuple ds, _, _, h, r => by
    cases h with
    | tup hs ha =>
      cases r
      obtain ⟨its, rv, ⟨o, ho, hc, n, hd⟩, _⟩ := I.tuple hs
      obtain ⟨as, hr, hn⟩ := Dq.readsAll I ds _ its ha rv
      exact ⟨_, Reads.tuple ho hc hd hr, hn⟩
  | .dict ps, _, _, h, r => by
    generalize e0 : PyData.dict ps = d0 at h
    cases h with
    | @dic a kvs hs =>
      cases r
      obtain ⟨_, hm, vs, rel, o, es, ep, ho, hx, hd, _, pr, _⟩ := dk_of I.hok hs
      obtain ⟨r1, r2⟩ := keys_read (X := X) (h := s.heap) pr rel
      refine ⟨_, Reads.dict (as := []) (bs := []) ho hx.1 hd (by rw [List.map_map]; exact r1) (by rw [List.map_map]; exact r2), fun m => ?_⟩
      rcases List.mem_cons.mp m with m | m
      · rw [← m] at hm; cases hm
      · cases m
    | _ => cases e0
theorem Dq.readsAll (I : Inv X pins σ H s) : ∀ (ds : List PyData) (vs : List V) (us : List Value), DqAll X.K H vs ds → Vals vs us → ∃ as, ReadsAll s.heap us ds as ∧ sysModules ∉ as
  | [], _, _, h, r => by
    cases h
    cases r
    exact ⟨_, ReadsAll.nil, (fun m => nomatch m)⟩
  | d :: ds, _, _, h, r => by
    cases h with
    | cons h1 h2 =>
      cases r with
      | cons r1 r2 =>
        obtain ⟨as, q1, n1⟩ := Dq.reads I d _ _ h1 r1
        obtain ⟨bs, q2, n2⟩ := Dq.readsAll I ds _ _ h2 r2
        exact ⟨_, ReadsAll.cons q1 q2, fun m => (List.mem_append.mp m).elim n1 n2⟩
end
end
section
variable {X : Cx}
def rReprQ (K : PySem.W.Frag) : List V → Hp → VK → Prop := fun vs H Q => ∃ (x : V) (d : PyData), vs = [x] ∧ Dq K H x d ∧ d.showable = true ∧ d.depth ≤ 32 ∧ d.shown.length ≤ sizeLine ∧ Q (.str d.shown) H
theorem cr_reprQ (hg : X.A.guards = some []) (hu : X.A.units + 64 < cLine) : CallR X (.builtin "repr") (rReprQ X.K) := by
  intro pins s σ H vs us Q I r h
  obtain ⟨x, d, rfl, hd, hs, hp, hz, q⟩ := h
  obtain ⟨u, rfl, ru⟩ := r.one
  have refs : ∀ a : Addr, x = .ref a → wpAny (model X.prog X.w) X.A (call (.builtin "repr") [u]) (EP X pins σ Q) X.xe s := fun a e => by
    subst e
    obtain ⟨as, rr, hn⟩ := Dq.reads I d _ u hd ru
    cases (show u = Value.ref a from ru)
    exact repr_of_reads' rr hs (fun _ => hn) hg (by omega) (fun _ _ e => e) (fun h' u tk hk => ⟨.str d.shown, H, I.kept hk, ⟨u, rfl⟩, q⟩) hz
  cases hd with
  | non =>
    cases (show u = Value.none from ru)
    exact PySem.P.repr_of_none ⟨.str _, H, I.tok _, ⟨_, rfl⟩, q⟩
  | bl b =>
    cases (show u = Value.bool b from ru)
    exact PySem.P.repr_of_bool ⟨.str _, H, I.tok _, ⟨_, rfl⟩, q⟩
  | int i =>
    obtain ⟨t, rfl⟩ := ru
    exact PySem.P.repr_of_int (of_decide_eq_true hs) ⟨.str _, H, I.tok _, ⟨_, rfl⟩, q⟩
  | str y =>
    obtain ⟨t, rfl⟩ := ru
    exact PySem.P.repr_of_str ⟨.str _, H, I.tok _, ⟨_, rfl⟩, q⟩ hz
  | lst _ _ _ => exact refs _ rfl
  | tup _ _ => exact refs _ rfl
  | dic _ => exact refs _ rfl
end
end Two

set_option autoImplicit true
set_option Elab.async false
set_option linter.all false
set_option maxRecDepth 100000
set_option maxHeartbeats 1000000
/-! A method called with keywords; a def whose only defaults are keyword-only, called so. -/
namespace Two
open PySem PySem.Spec PyProof.Rows L2
theorem kbinds0 {K : PySem.W.Frag} {x qual : Str} {params : Arguments} {body : List Stmt} {scope : Scope} {kws : List (Str × V)} {f : Addr} {fd : FuncData} {ps : List Str} (F : FunD K x qual params body scope [] kws f fd) (n : Nat) (ks : List Str) (ms : List (Str × V)) (g : {α : Type} → List α → List α → List α → List α) (hk : kws ≠ []) (hms : ∀ q ∈ ms, q ∈ kws)
    (hrel : ∀ {vs mz zs : List V} {us mv ws : List Value}, Vals vs us → Vals mz mv → Vals zs ws → Vals (g vs mz zs) (g us mv ws))
    (h : ∀ (D : Addr) (doc pm : Value) (an : Option Addr) (cdv ct : Value) (us mv ws : List Value), us.length = n → mv.length = ms.length → ws.length = ks.length →
      KwChain D ((ms.map (·.1)).zip mv) (bindArgs (PySem.W.fnOf x qual params body scope .none (.ref D) doc pm an cdv ct) ⟨us, ks.zip ws⟩) (ps.zip (g us mv ws))) :
    ∃ mv : List Value, KBn K fd ps n ks (fun us ws => g us mv ws) (fun vs zs => g vs (ms.map (·.2)) zs) := by
  obtain ⟨oc, od, dV, kV, doc, pm, an, cdv, ct, osl, rfl, lk, hcd, hD, hK⟩ := F.ex
  rcases hD with ⟨_, rfl⟩ | ⟨e, _⟩
  · rcases hK with e | ⟨D, rfl, hq⟩
    · exact absurd e hk
    · obtain ⟨mv, hl, rk, hks⟩ := kwd_vals (ms := ms) fun q hm => hq q (hms q hm)
      refine ⟨mv, ⟨fun s us ws X l1 l2 => ?_, fun r1 r2 => hrel r1 rk r2⟩⟩
      exact BindsTo.of_looks fun M => KwChain.looks X hks (h D doc pm an cdv ct us mv ws l1 hl l2)
  · exact absurd rfl e
/-- o.m(e, .., k = v, ..) -/
def tMethN (C : Addr) (m : Str) (n j : Nat) (sp : Sp) (gV : List V → List V → List V) (E : XK) (ta : TE) (t tk : TA) : TE := fun σ H Q => ta σ H fun x H1 => ∃ a dx fs, x = .ref a ∧ H1 a = some (.ins C dx fs) ∧ fs.lookup m = none ∧
  t σ H1 fun vs H2 => tk σ H2 fun zs H3 => vs.length + 1 = n ∧ zs.length = j ∧ sp (gV (x :: vs) zs) H3 Q E
theorem pe_methN {X : Cx} {CX : CXT} {k n : Nat} {f C : Addr} {fd : FuncData} {ps ks : List Str} {sp : Sp} {E : XK} {m : Str} {pos apos : Pos} {o e : Expr} {es : List Expr} {kws : List Keyword} {ta : TE} {t tk : TA} {g : List Value → List Value → List Value} {gV : List V → List V → List V} {pl : Sem Bool}
    (he : PE X o ta) (c : Cls X.K C) (hm : Meth X.K C m f) (F : FnOk X.prog X.w X.K X.mg X.base CX k f fd ps sp) (hr : Room k X.A) (hb : KBn X.K fd ps n ks g gV) (hx : Passes CX X E) (ha : PA X (e :: es) t) (hkw : PK X kws tk)
    (hall : (backToKw pos (keywordEach kws X.env)).all (·.1.isSome) = true := by rfl) (hks : (backToKw pos (keywordEach kws X.env)).filterMap (·.1) = ks := by rfl)
    (hst : starEach (e :: es) X.env = (false, eval e X.env) :: starEach es X.env := by rfl)
    (hpl : ((backTo pos (starEach (e :: es) X.env)).any (·.1) || (backToKw pos (keywordEach kws X.env)).any (·.1.isNone)) = false := by rfl)
    (ht : eval (.Call (.Attribute o m apos) (e :: es) kws pos) X.env = (do
      let ov ← eval o X.env
      standAt apos.atName
      let (f, first) ← holding [ov] (getMethod ov m pl)
      callWith pos f first (backTo pos (starEach (e :: es) X.env)) (backToKw pos (keywordEach kws X.env))) := by rfl) :
    PE X (.Call (.Attribute o m apos) (e :: es) kws pos) (tMethN C m n ks.length sp gV E ta t tk) := by
  refine ⟨fun pins s σ H Q I h => ?_⟩
  refine PySem.W.methodCall_KW (pl := pl) (thn (he.run pins s σ H _ I h) fun u s1 ⟨x, H1, I1, rx, a, dx, fs, ex, ea, l, q⟩ => ?_) ht
  subst ex
  obtain rfl : u = Value.ref a := rx
  refine getmeth_ok I1 ea c hm l ?_
  refine PySem.W.callWith_KW (first := [.ref a]) (h₀ := X.base) I.ok.mod.kin hm.kp hall (thn (ha.run pos pins s1 σ H1 _ I1 q) fun us s2 ⟨vs, H2, I2, r, q2⟩ => ?_) hpl hst
  refine thn (hkw.run pos pins s2 σ H2 _ I2 q2) fun ws s3 ⟨zs, H3, I3, rz, l1, l2, q3⟩ => ⟨I3.kIn, ?_⟩
  rw [hks]
  exact run_fnN (us := .ref a :: us) (vs := .ref a :: vs) F hr hb hx I3 (.cons rfl r) rz l1 l2 q3
/-- .. where what it raises is passed on by a wish for the slots -/
theorem run_fnNS {X : Cx} {CX : CXT} {k n : Nat} {f : Addr} {fd : FuncData} {ps ks : List Str} {sp : Sp} {E : L2.St → XK} {g : List Value → List Value → List Value} {gV : List V → List V → List V} {pins : List (Addr × Obj)} {σ : L2.St} {H : Hp} {s : Shared} {Q : VK} {us ws : List Value} {vs zs : List V} (F : FnOk X.prog X.w X.K X.mg X.base CX k f fd ps sp) (hr : Room k X.A) (hb : KBn X.K fd ps n ks g gV) (hx : PassesAt CX X σ (E σ))
    (I : Inv X pins σ H s) (r : Vals vs us) (rz : Vals zs ws) (l1 : vs.length = n) (l2 : zs.length = ks.length) (h : sp (gV vs zs) H Q (E σ)) : wpAny (model X.prog X.w) X.A (call (.ref f) us (ks.zip ws)) (EP X pins σ Q) X.xe s := by
  have r2 := hb.rel r rz
  refine wpAny_call (codeAny_mono (F.run X.A X.stack s H ⟨us, ks.zip ws⟩ (g us ws) (gV vs zs) Q (E σ) hr I.env0 (hb.to s us ws I.kIn (r.length.symm.trans l1) (rz.length.symm.trans l2)) r2 h) fun r s' hq => ?_)
  cases r with
  | error e => exact hx pins H s e s' I hq
  | ok fl =>
    cases fl with
    | ret u => exact I.after hq
    | next => exact False.elim hq
    | brk => exact False.elim hq
    | cont => exact False.elim hq
def tMethNS (C : Addr) (m : Str) (n j : Nat) (sp : Sp) (gV : List V → List V → List V) (E : L2.St → XK) (ta : TE) (t tk : TA) : TE := fun σ H Q => ta σ H fun x H1 => ∃ a dx fs, x = .ref a ∧ H1 a = some (.ins C dx fs) ∧ fs.lookup m = none ∧
  t σ H1 fun vs H2 => tk σ H2 fun zs H3 => vs.length + 1 = n ∧ zs.length = j ∧ sp (gV (x :: vs) zs) H3 Q (E σ)
theorem pe_methNS {X : Cx} {CX : CXT} {k n : Nat} {f C : Addr} {fd : FuncData} {ps ks : List Str} {sp : Sp} {E : L2.St → XK} {m : Str} {pos apos : Pos} {o e : Expr} {es : List Expr} {kws : List Keyword} {ta : TE} {t tk : TA} {g : List Value → List Value → List Value} {gV : List V → List V → List V} {pl : Sem Bool}
    (he : PE X o ta) (c : Cls X.K C) (hm : Meth X.K C m f) (F : FnOk X.prog X.w X.K X.mg X.base CX k f fd ps sp) (hr : Room k X.A) (hb : KBn X.K fd ps n ks g gV) (hx : ∀ σ, PassesAt CX X σ (E σ)) (ha : PA X (e :: es) t) (hkw : PK X kws tk)
    (hall : (backToKw pos (keywordEach kws X.env)).all (·.1.isSome) = true := by rfl) (hks : (backToKw pos (keywordEach kws X.env)).filterMap (·.1) = ks := by rfl)
    (hst : starEach (e :: es) X.env = (false, eval e X.env) :: starEach es X.env := by rfl)
    (hpl : ((backTo pos (starEach (e :: es) X.env)).any (·.1) || (backToKw pos (keywordEach kws X.env)).any (·.1.isNone)) = false := by rfl)
    (ht : eval (.Call (.Attribute o m apos) (e :: es) kws pos) X.env = (do
      let ov ← eval o X.env
      standAt apos.atName
      let (f, first) ← holding [ov] (getMethod ov m pl)
      callWith pos f first (backTo pos (starEach (e :: es) X.env)) (backToKw pos (keywordEach kws X.env))) := by rfl) :
    PE X (.Call (.Attribute o m apos) (e :: es) kws pos) (tMethNS C m n ks.length sp gV E ta t tk) := by
  refine ⟨fun pins s σ H Q I h => ?_⟩
  refine PySem.W.methodCall_KW (pl := pl) (thn (he.run pins s σ H _ I h) fun u s1 ⟨x, H1, I1, rx, a, dx, fs, ex, ea, l, q⟩ => ?_) ht
  subst ex
  obtain rfl : u = Value.ref a := rx
  refine getmeth_ok I1 ea c hm l ?_
  refine PySem.W.callWith_KW (first := [.ref a]) (h₀ := X.base) I.ok.mod.kin hm.kp hall (thn (ha.run pos pins s1 σ H1 _ I1 q) fun us s2 ⟨vs, H2, I2, r, q2⟩ => ?_) hpl hst
  refine thn (hkw.run pos pins s2 σ H2 _ I2 q2) fun ws s3 ⟨zs, H3, I3, rz, l1, l2, q3⟩ => ⟨I3.kIn, ?_⟩
  rw [hks]
  exact run_fnNS (E := E) (us := .ref a :: us) (vs := .ref a :: vs) F hr hb (hx σ) I3 (.cons rfl r) rz l1 l2 q3
end Two

set_option autoImplicit true
set_option Elab.async false
set_option linter.all false
set_option maxRecDepth 100000
set_option maxHeartbeats 1000000
/-! What the laws with wells share: cells, wells, draws. -/
namespace Lw
open PySem L2 Two Pr ClX SlX
abbrev sCell : Stmt := top 59
abbrev sWell : Stmt := top 60
abbrev sDraw : Stmt := top 61
abbrev sOne : Stmt := top 62
def But (S : Addr → Prop) (H H' : Hp) : Prop := ∀ b o, ¬ S b → H b = some o → H' b = some o
structure TxtW (mg : Str → Option Value) : Prop where
  int : mg "int" = none
  len : mg "len" = none
/-- a well of draws -/
def Src (H : Hp) (l : Addr) (n : Nat) : Prop := ∃ x y c : Int, H l = some (.lst [.int x, .int y, .int c]) ∧ 0 ≤ x ∧ 0 ≤ c ∧ c ≤ (n : Int)
theorem Src.more {H : Hp} {l : Addr} {n m : Nat} (s : Src H l n) (h : n ≤ m) : Src H l m := by
  obtain ⟨x, y, c, e, a1, a4, a5⟩ := s
  exact ⟨x, y, c, e, a1, a4, by omega⟩
theorem Src.keep {H H' : Hp} {l : Addr} {n : Nat} (s : Src H l n) (k : Same H H') : Src H' l n := by
  obtain ⟨x, y, c, e, r⟩ := s
  exact ⟨x, y, c, k _ _ e, r⟩
theorem but_upd {H : Hp} {l : Addr} {o : HO} : But (· = l) H (upd H l o) := fun b u h e => by rw [upd_ne h]; exact e
theorem but_seq {K : PySem.W.Frag} {H H' : Hp} {l b : Addr} {xs : List V} (k : But (· = l) H H') (ne : b ≠ l) (h : SqL K H b xs) : SqL K H' b xs := by
  rcases h with (h | ⟨o, h⟩) | h
  · exact .inl (.inl (k _ _ ne h))
  · exact .inl (.inr ⟨o, k _ _ ne h⟩)
  · exact .inr h
theorem but_trans {l : Addr} {H H1 H2 : Hp} (a : But (· = l) H H1) (b : But (· = l) H1 H2) : But (· = l) H H2 := fun p o n e => b p o n (a p o n e)
theorem but_same {l : Addr} {H H1 : Hp} (a : Same H H1) : But (· = l) H H1 := fun p o _ e => a p o e
theorem but_new {l p : Addr} {H H1 : Hp} {o : HO} (a : But (· = l) H H1) (n : H p = none) : But (· = l) H (upd H1 p o) := fun b u nb e => by
  rw [upd_ne (ne_of_none e n)]
  exact a b u nb e
theorem but_none {l p : Addr} {H H1 : Hp} (a : But (· = l) H H1) (n : H1 p = none) (ne : p ≠ l) : H p = none := by
  cases h : H p with
  | none => rfl
  | some o => rw [a p o ne h] at n; cases n
theorem src_none {H : Hp} {l p : Addr} {n : Nat} (s : Src H l n) (h : H p = none) : p ≠ l := fun e => by
  obtain ⟨x, y, c, e2, _⟩ := s
  rw [e, e2] at h
  cases h
theorem Src.upd {H : Hp} {l p : Addr} {n : Nat} {o : HO} (s : Src H l n) (h : p ≠ l) : Src (upd H p o) l n := by
  obtain ⟨x, y, c, e2, r⟩ := s
  exact ⟨x, y, c, by rw [upd_ne h.symm]; exact e2, r⟩
section
variable {P : Program} {w : World} {K : PySem.W.Frag} {mg : Str → Option Value} {base : Heap}
/-! ### _law_cell_at -/
def spCell (K : PySem.W.Frag) : Sp := fun vs H Q _ => ∃ (a : Addr) (ns : List Int) (k : Nat), vs = [.ref a, .int k] ∧ SqL K H a (ns.map V.int) ∧ ns.length ≤ 1000 ∧ ∀ z : Int, Q (.int z) H
theorem scCell : FnScope ["_law_script", "_law_k"] ["_law_script", "_law_k"] (defScope sCell) := ⟨rfl, rfl, rfl, by decide +kernel, rfl, by decide +kernel, by decide +kernel⟩
theorem ok_cell {f : Addr} {fd : FuncData} (F : Fun K "_law_cell_at" "_law_cell_at" sCell f fd) (T : TxtW mg) : FnOk P w K mg base CX0 1 f fd ["_law_script", "_law_k"] (spCell K) := by
  refine F.ok scCell (fun vs H Q E h => ?_) (fun cdv A outer s H vs Q E hr h => ?_)
  · obtain ⟨a, ns, k, rfl, _⟩ := h
    rfl
  · obtain ⟨a, ns, j, rfl, hS, hl, k⟩ := h
    refine ⟨_, pss_cons (ps_if (pt_cmpR op_lt (pv 1) (pe_callB call_len_seq (by rfl) T.len PySem.boot_len (pa_cons (pv 0) pa_nil)) (nomark _)) (pss_one (ps_ret (pe_ix ix_list (pv 0) (pv 1) (fun _ _ => rfl)))) pss_nil) (pss_one (ps_ret pe_int)), ?_⟩
    refine ⟨_, rfl, _, rfl, a, _, rfl, .inl hS, _, _, rfl, rfl, _, rfl, ?_⟩
    by_cases h : j < ns.length
    · rw [decide_eq_true (by rw [List.length_map]; omega)]
      refine iteT ⟨_, rfl, _, rfl, a, _, (j : Nat), .int ns[j], rfl, rfl, hS, atI_nat (by rw [List.getElem?_map, List.getElem?_eq_getElem h]; rfl), k _⟩
    · rw [decide_eq_false (by rw [List.length_map]; omega)]
      exact iteF (k 0)
/-! ### _law_well -/
def spWell : Sp := fun vs H Q _ => ∃ z : Int, vs = [.int z] ∧ ∀ (H' : Hp) (l : Addr), Same H H' → H l = none → Src H' l 0 → Q (.ref l) H'
theorem scWell : FnScope ["_law_cell"] ["_law_cell"] (defScope sWell) := ⟨rfl, rfl, rfl, by decide +kernel, rfl, by decide +kernel, by decide +kernel⟩
theorem ok_well {f : Addr} {fd : FuncData} (F : Fun K "_law_well" "_law_well" sWell f fd) (T : TxtW mg) : FnOk P w K mg base CX0 1 f fd ["_law_cell"] spWell := by
  refine F.ok scWell (fun vs H Q E h => ?_) (fun cdv A outer s H vs Q E hr h => ?_)
  · obtain ⟨z, rfl, _⟩ := h
    rfl
  · obtain ⟨z, rfl, k⟩ := h
    refine ⟨_, pss_one (ps_ret (pe_lst (pa_cons (pe_ix ix_list (pe_lst (pa_cons pe_int (pa_cons (pv 0) pa_nil))) (pe_callTy call_int1 (by rfl) T.int (by decide +kernel) (pa_cons (pe_cmpR op_ge (pv 0) (pe_op op_pow pe_int pe_int) (nomark _)) pa_nil)) (fun _ _ => rfl))
      (pa_cons (pv 0) (pa_cons pe_int pa_nil))))), ?_⟩
    refine ⟨_, rfl, by show 2 ≤ sizeLine; decide, fun p hp => ?_⟩
    refine ⟨_, rfl, _, _, rfl, rfl, by unfold CPow; decide, _, _, rfl, rfl, .inr ⟨_, rfl, ?_⟩⟩
    have sq : SqL K (upd H p (.lst [.int 0, .int z])) p [.int 0, .int z] := SqL.of upd_same
    have fin : ∀ x : Int, 0 ≤ x → (upd H p (.lst [.int 0, .int z])) = (upd H p (.lst [.int 0, .int z])) → ∀ l, (upd H p (.lst [.int 0, .int z])) l = none → Q (.ref l) (upd (upd H p (.lst [.int 0, .int z])) l (.lst [.int x, .int z, .int 0])) := fun x hx _ l hl => by
      have s1 : Same H (upd H p (.lst [.int 0, .int z])) := same_new hp
      exact k _ l (ad s1 hl) (none_of_same s1 hl) ⟨x, z, 0, upd_same, hx, by omega, by omega⟩
    by_cases hz : (10 : Int) ^ (18 : Int).toNat ≤ z
    · rw [decide_eq_true hz, if_pos rfl]
      have pos : 0 ≤ z := by
        have : (0 : Int) ≤ 10 ^ (18 : Int).toNat := by decide
        omega
      exact ⟨p, _, 1, .int z, rfl, rfl, sq, rfl, _, rfl, by show 3 ≤ sizeLine; decide, fun l hl => fin z pos rfl l hl⟩
    · rw [decide_eq_false hz, if_neg Bool.false_ne_true]
      exact ⟨p, _, 0, .int 0, rfl, rfl, sq, rfl, _, rfl, by show 3 ≤ sizeLine; decide, fun l hl => fin 0 (by omega) rfl l hl⟩
/-! ### _law_draw -/
def spDraw : Sp := fun vs H Q _ => ∃ (l : Addr) (m : Int) (n : Nat), vs = [.ref l, .int m] ∧ 0 < m ∧ m < 1000000 ∧ Src H l n ∧ n ≤ 1000000 ∧
  ∀ (H' : Hp) (d : Int), But (· = l) H H' → Src H' l (n + 1) → 0 ≤ d → d < m → Q (.int d) H'
theorem scDraw : FnScope ["_law_well_here", "_law_many", "_law_found", "_law_salt", "_law_number"] ["_law_well_here", "_law_many"] (defScope sDraw) := ⟨rfl, rfl, rfl, by decide +kernel, rfl, by decide +kernel, by decide +kernel⟩
theorem wdiv {i : Int} {j : Int} (h : 0 < j) (h2 : j < 2147483648) : CDivW i j := by
  refine wide_div (b := 31) h ?_ (by decide) (by decide)
  have : (2 : Nat) ^ 31 = 2147483648 := by decide
  omega
theorem ok_draw {f : Addr} {fd : FuncData} (F : Fun K "_law_draw" "_law_draw" sDraw f fd) : FnOk P w K mg base CX0 1 f fd ["_law_well_here", "_law_many"] spDraw := by
  refine F.ok scDraw (fun vs H Q E h => ?_) (fun cdv A outer s H vs Q E hr h => ?_)
  · obtain ⟨l, m, n, rfl, _⟩ := h
    rfl
  · obtain ⟨l, m, n, rfl, hm0, hm1, ⟨x, y, c, hl, hx, hc0, hc1⟩, hn, k⟩ := h
    have at0 : atI [V.int x, .int y, .int c] 0 = some (.int x) := rfl
    refine ⟨_, pss_cons (ps_if (pt_cmpR op_gt (pe_ix ix_list (pv 0) pe_int (fun _ _ => rfl)) pe_int (nomark _))
        (pss_cons (ps_set (i := 2) scDraw.nd rfl (Or.inl rfl) (pe_op op_mod (pe_ix ix_list (pv 0) pe_int (fun _ _ => rfl)) (pv 1)))
        (pss_cons (ps_asg (pe_op op_fdiv (pe_ix ix_list (pv 0) pe_int (fun _ _ => rfl)) (pv 1)) (pg_sub (pv 0) pe_int set_list))
        (pss_one (ps_ret (pv 2))))) pss_nil)
      (pss_cons (ps_asg (pe_op op_add (pe_ix ix_list (pv 0) pe_int (fun _ _ => rfl)) pe_int) (pg_sub (pv 0) pe_int set_list))
      (pss_cons (ps_set (i := 3) scDraw.nd rfl (Or.inl rfl) (pe_op op_mod (pe_op op_fdivW (pe_ix ix_list (pv 0) pe_int (fun _ _ => rfl)) pe_int) pe_int))
      (pss_cons (ps_set (i := 4) scDraw.nd rfl (Or.inl rfl) (pe_op op_mod (pe_op op_pow (pe_op op_add (pe_op op_add (pe_op op_add (pe_op op_mod (pe_ix ix_list (pv 0) pe_int (fun _ _ => rfl)) pe_int) (pe_op op_mul pe_int (pe_ix ix_list (pv 0) pe_int (fun _ _ => rfl)))) (pv 3)) pe_int) pe_int) pe_int))
      (pss_cons (ps_set (i := 4) scDraw.nd rfl (Or.inl rfl) (pe_op op_mod (pe_op op_mul (pv 4) (pe_op op_add (pe_op op_add (pe_op op_fdiv (pv 4) pe_int) pe_int) (pe_ix ix_list (pv 0) pe_int (fun _ _ => rfl)))) pe_int))
      (pss_one (ps_ret (pe_op op_mod (pe_op op_mod (pe_op op_mul (pv 4) (pe_op op_add (pe_op op_fdiv (pv 4) pe_int) pe_int)) pe_int) (pv 1)))))))), ?_⟩
    refine ⟨_, rfl, l, _, 0, .int x, rfl, rfl, SqL.of hl, at0, _, _, rfl, rfl, _, rfl, ?_⟩
    by_cases hx1 : 0 < x
    · rw [decide_eq_true hx1]
      refine iteT ?_
      refine ⟨_, rfl, l, _, 0, .int x, rfl, rfl, SqL.of hl, at0, _, rfl, _, _, rfl, rfl, hm0, ?_⟩
      refine ⟨_, rfl, l, _, 0, .int x, rfl, rfl, SqL.of hl, at0, _, rfl, _, _, rfl, rfl, ⟨hm0, by omega⟩, ?_⟩
      refine ⟨_, rfl, l, _, 0, 0, rfl, rfl, hl, rfl, ?_⟩
      refine ⟨_, rfl, ?_⟩
      refine k _ _ but_upd ⟨_, _, _, upd_same, Int.ediv_nonneg hx (by omega), hc0, by omega⟩ (Int.emod_nonneg _ (by omega)) (Int.emod_lt_of_pos _ hm0)
    · rw [decide_eq_false hx1]
      refine iteF ?_
      refine ⟨_, rfl, l, _, 2, .int c, rfl, rfl, SqL.of hl, rfl, _, _, rfl, rfl, ?_⟩
      refine ⟨_, rfl, l, _, 2, 2, rfl, rfl, hl, rfl, ?_⟩
      have hl2 : upd H l (.lst ([V.int x, .int y, .int c].set 2 (.int (c + 1)))) l = some (.lst [.int x, .int y, .int (c + 1)]) := upd_same
      have b2 : But (· = l) H (upd H l (.lst ([V.int x, .int y, .int c].set 2 (.int (c + 1))))) := but_upd
      generalize upd H l (.lst ([V.int x, .int y, .int c].set 2 (.int (c + 1)))) = H2 at hl2 b2
      have sq := SqL.of (K := K) hl2
      refine ⟨_, rfl, l, _, 1, .int y, rfl, rfl, sq, rfl, _, _, rfl, rfl, wdiv (by decide) (by decide), _, _, rfl, rfl, (by show (0 : Int) < 65521; decide), ?_⟩
      obtain ⟨sa, esa⟩ : ∃ z, z = y / 2147483629 % 65521 := ⟨_, rfl⟩
      have ps : 0 ≤ sa := by rw [esa]; exact Int.emod_nonneg _ (by decide)
      have qs : sa < 65521 := by rw [esa]; exact Int.emod_lt_of_pos _ (by decide)
      show tSeq _ _ _ ([some (.ref l), some (.int m), none, none, none].set 3 (some (.int (y / 2147483629 % 65521)))) H2
      rw [← esa]
      obtain ⟨ym, eym⟩ : ∃ z, z = y % 2147483629 := ⟨_, rfl⟩
      have py : 0 ≤ ym := by rw [eym]; exact Int.emod_nonneg _ (by decide)
      have qy : ym < 2147483629 := by rw [eym]; exact Int.emod_lt_of_pos _ (by decide)
      refine ⟨_, rfl, l, _, 1, .int y, rfl, rfl, sq, rfl, _, _, rfl, rfl, (by show (0 : Int) < 2147483629; decide), _, rfl, l, _, 2, .int (c + 1), rfl, rfl, sq, rfl, _, _, rfl, rfl, .inl (by decide), _, _, rfl, rfl, _, rfl, _, _, rfl, rfl, _, _, rfl, rfl, _, _, rfl, rfl, ?_, _, _, rfl, rfl, (by show (0 : Int) < 2147483647; decide), ?_⟩
      · show (0 : Int) ≤ 5 ∧ (5 : Int) ≤ 1000000 ∧ (y % 2147483629 + 7919 * (c + 1) + sa + 1).natAbs < 2 ^ 64
        rw [← eym]
        refine ⟨by decide, by decide, ?_⟩
        omega
      obtain ⟨n1, e1⟩ : ∃ z, z = (y % 2147483629 + 7919 * (c + 1) + sa + 1) ^ (5 : Int).toNat % 2147483647 := ⟨_, rfl⟩
      have p1 : 0 ≤ n1 := by rw [e1]; exact Int.emod_nonneg _ (by decide)
      have q1 : n1 < 2147483647 := by rw [e1]; exact Int.emod_lt_of_pos _ (by decide)
      show tSeq _ _ _ ([some (.ref l), some (.int m), none, some (.int sa), none].set 4 (some (.int ((y % 2147483629 + 7919 * (c + 1) + sa + 1) ^ (5 : Int).toNat % 2147483647)))) H2
      rw [← e1]
      refine ⟨_, rfl, _, rfl, _, _, rfl, rfl, ⟨by decide, by decide⟩, _, _, rfl, rfl, _, rfl, l, _, 2, .int (c + 1), rfl, rfl, sq, rfl, _, _, rfl, rfl, _, _, rfl, rfl, .inl (by omega), _, _, rfl, rfl, (by show (0 : Int) < 2147483629; decide), ?_⟩
      obtain ⟨n2, e2⟩ : ∃ z, z = n1 * (n1 / 1009 + 69621 + (c + 1)) % 2147483629 := ⟨_, rfl⟩
      have p2 : 0 ≤ n2 := by rw [e2]; exact Int.emod_nonneg _ (by decide)
      have q2 : n2 < 2147483629 := by rw [e2]; exact Int.emod_lt_of_pos _ (by decide)
      show gName 4 (V.int (n1 * (n1 / 1009 + 69621 + (c + 1)) % 2147483629)) _ _ _
      rw [← e2]
      refine ⟨_, rfl, _, rfl, _, _, rfl, rfl, ⟨by decide, by decide⟩, _, _, rfl, rfl, _, _, rfl, rfl, .inl (by omega), _, _, rfl, rfl, (by show (0 : Int) < 2147483399; decide), _, rfl, _, _, rfl, rfl, hm0, ?_⟩
      exact k H2 _ b2 ⟨_, _, _, hl2, hx, by omega, by omega⟩ (Int.emod_nonneg _ (by omega)) (Int.emod_lt_of_pos _ hm0)
/-! ### _law_one -/
def spOne (K : PySem.W.Frag) : Sp := fun vs H Q _ => ∃ (l b : Addr) (n : Nat) (xs : List V), vs = [.ref l, .ref b] ∧ Src H l n ∧ n ≤ 1000000 ∧ SqL K H b xs ∧ b ≠ l ∧ xs ≠ [] ∧ xs.length ≤ 1000 ∧
  ∀ (H' : Hp) (x : V), But (· = l) H H' → Src H' l (n + 1) → x ∈ xs → Q x H'
theorem scOne : FnScope ["_law_well_here", "_law_some"] ["_law_well_here", "_law_some"] (defScope sOne) := ⟨rfl, rfl, rfl, by decide +kernel, rfl, by decide +kernel, by decide +kernel⟩
theorem ok_one {f fD : Addr} {fd fdD : FuncData} (F : Fun K "_law_one" "_law_one" sOne f fd) (T : TxtW mg) (gD : mg "_law_draw" = some (.ref fD)) (kD : PySem.W.keepIn K (.ref fD) = true) (bD : Binds K fdD ["_law_well_here", "_law_many"] [])
    (GD : FnOk P w K mg base CX0 1 fD fdD ["_law_well_here", "_law_many"] spDraw) : FnOk P w K mg base CX0 2 f fd ["_law_well_here", "_law_some"] (spOne K) := by
  refine F.ok scOne (fun vs H Q E h => ?_) (fun cdv A outer s H vs Q E hr h => ?_)
  · obtain ⟨l, b, n, xs, rfl, _⟩ := h
    rfl
  · obtain ⟨l, b, n, xs, rfl, src, hn, hS, ne, hx, hz, k⟩ := h
    have pos : 0 < xs.length := List.length_pos_iff.mpr hx
    refine ⟨_, pss_one (ps_ret (pe_ix ix_list (pv 1) (pe_call GD hr rfl gD kD bD .nil pass0 (pa_cons (pv 0) (pa_cons (pe_callB call_len_seq (by rfl) T.len PySem.boot_len (pa_cons (pv 1) pa_nil)) pa_nil))) (fun _ _ => rfl))), ?_⟩
    refine ⟨_, rfl, _, rfl, _, rfl, b, _, rfl, .inl hS, l, _, n, rfl, by omega, by omega, src, hn, fun H' d but src' h0 h1 => ?_⟩
    obtain ⟨d', rfl⟩ := Int.eq_ofNat_of_zero_le h0
    have hd : d' < xs.length := by omega
    exact ⟨b, xs, (d' : Nat), xs[d'], rfl, rfl, but_seq but ne hS, atI_nat (by simp [hd]), k H' _ but src' (List.getElem_mem hd)⟩
end
end Lw

set_option autoImplicit true
set_option Elab.async false
set_option linter.all false
set_option maxRecDepth 100000
set_option maxHeartbeats 1000000
/-! k13: names and fields that are drawn. -/
namespace Lw
open PySem L2 Two Pr ClX SlX
abbrev sFields : Stmt := top 64
def NM : List Str := ["a", "b", "c", "d", "ab", "eightlet"]
theorem nm_name : ∀ z ∈ NM, isName z = true := by decide +kernel
theorem nm_nodup : NM.Nodup := by decide +kernel
structure TxtR (mg : Str → Option Value) : Prop extends TxtW mg where
  range : mg "range" = none
theorem seq_nat' {n k : Nat} (h : k < n) : seqIndex? (k : Int) n = some k := by
  unfold seqIndex?
  have a : ¬ (k : Int) < 0 := by omega
  simp only [a, if_false]
  have b : (0 ≤ (k : Int)) := by omega
  have c : ((k : Int) < n) := by omega
  rw [decide_eq_true b, decide_eq_true c]
  rfl
theorem map_erase' {α β : Type} (f : α → β) : ∀ (l : List α) (k : Nat), (l.map f).eraseIdx k = (l.eraseIdx k).map f
  | [], _ => rfl
  | _ :: _, 0 => rfl
  | a :: l, k + 1 => congrArg (f a :: ·) (map_erase' f l k)
theorem erase_perm' {α : Type} : ∀ {l : List α} {k : Nat} {y : α}, l[k]? = some y → (y :: l.eraseIdx k).Perm l
  | [], k, y, h => by simp at h
  | a :: l, 0, y, h => by
    have e : a = y := Option.some.inj h
    rw [e]
    exact List.Perm.refl _
  | a :: l, k + 1, y, h => (List.Perm.swap a y _).trans ((erase_perm' (l := l) (k := k) (y := y) h).cons a)
section
variable {P : Program} {w : World} {K : PySem.W.Frag} {mg : Str → Option Value} {base : Heap}
/-! ### _law_fields -/
def rLenS (K : PySem.W.Frag) : List V → Hp → VK → Prop := fun xs H Q => ∃ p ys, xs = [.ref p] ∧ (SqL K H p ys ∨ SqT K H p ys) ∧ Q (.int ys.length) H
def spFieldsL : Sp := fun vs H Q _ => ∃ (l : Addr) (m n : Nat), vs = [.ref l, .int m] ∧ m ≤ 6 ∧ Src H l n ∧ n ≤ 800000 ∧
  ∀ (H' : Hp) (r : Addr) (zs : List Str), But (· = l) H H' → Src H' l (n + 7) → H r = none → H' r = some (.lst (zs.map V.str)) → zs.length ≤ m → zs.Nodup → (∀ z ∈ zs, z ∈ NM) → Q (.ref r) H'
abbrev nFieldsL : List Str := ["_law_well_here", "_law_most", "_law_left", "_law_k"]
theorem scFieldsL : FnScope nFieldsL ["_law_well_here", "_law_most"] (defScope sFields) := ⟨rfl, rfl, rfl, by decide +kernel, rfl, by decide +kernel, by decide +kernel⟩
theorem ok_fieldsL {f fD : Addr} {fd dD : FuncData} (F : Fun K "_law_fields" "_law_fields" sFields f fd) (T : TxtR mg) (gD : mg "_law_draw" = some (.ref fD)) (kD : PySem.W.keepIn K (.ref fD) = true) (bD : Binds K dD ["_law_well_here", "_law_many"] [])
    (GD : FnOk P w K mg base CX0 1 fD dD ["_law_well_here", "_law_many"] spDraw) : FnOk P w K mg base CX0 2 f fd ["_law_well_here", "_law_most"] spFieldsL := by
  refine F.ok scFieldsL (fun vs H Q E h => ?_) (fun cdv A outer s H vs Q E hr h => ?_)
  · obtain ⟨l, m, n, rfl, _⟩ := h
    rfl
  · obtain ⟨l, m, n, rfl, hm, src, hn, k⟩ := h
    refine ⟨_, pss_cons (ps_set (i := 2) scFieldsL.nd rfl (Or.inr rfl) (pe_lst (pa_cons pe_str (pa_cons pe_str (pa_cons pe_str (pa_cons pe_str (pa_cons pe_str (pa_cons pe_str pa_nil))))))))
      (pss_one (ps_ret (pe_lc (own := [("_law_k", 3)]) (g := gName 3) (tt := tYes) (te := tBM K "list" rPopAt (tVar 2) (tCons (tCall spDraw [] E0 (tCons (tVar 0) (tCons (tCB (rLenS K) (tCons (tVar 2) tNil)) tNil))) tNil)) rfl scFieldsL.nd (pi_range1 rfl T.range (pa_cons (pe_call GD hr rfl gD kD bD .nil pass0 (pa_cons (pv 0) (pa_cons (pe_op op_add (pv 1) pe_int) pa_nil))) pa_nil)) (blkOk_by (N := nFieldsL) (sc := defScope sFields) (by decide +kernel))
          (fun _ _ _ _ _ => pg_name (i := 3) scFieldsL.nd rfl (Or.inl rfl)) (fun _ _ _ _ _ => pts_nil) (fun _ _ _ _ _ => pe_bm PySem.F.plainAttrs_list PySem.F.slot_list_pop PySem.F.type_list_pop mt_popAt (pv 2)
          (pa_cons (pe_call GD hr rfl gD kD bD .nil pass0 (pa_cons (pv 0) (pa_cons (pe_callB call_len_seq (by rfl) T.len PySem.boot_len (pa_cons (pv 2) pa_nil)) pa_nil))) pa_nil))))), ?_⟩
    refine ⟨by show 6 ≤ sizeLine; decide, fun L hL => ?_⟩
    have Ll : L ≠ l := src_none src hL
    have s0 := src.upd (o := .lst (NM.map V.str)) Ll
    have hL0 : (upd H L (.lst (NM.map V.str))) L = some (.lst (NM.map V.str)) := upd_same
    have b0 : But (· = l) H (upd H L (.lst (NM.map V.str))) := but_same (same_new hL)
    refine ⟨_, rfl, _, rfl, _, _, rfl, rfl, l, _, n, rfl, by omega, by omega, s0, by omega, fun H1 d b1 s1 d0 d1 => ?_⟩
    obtain ⟨t, rfl⟩ := Int.eq_ofNat_of_zero_le d0
    have hL1 := b1 _ _ Ll hL0
    refine ⟨_, rfl, by omega, by omega, fun D hD => ?_⟩
    have tn : ((t : Nat) : Int).toNat = t := rfl
    rw [tn]
    have Dl : D ≠ l := src_none s1 hD
    have LD : L ≠ D := ne_of_none hL1 hD
    have nD : H D = none := but_none (but_trans b0 b1) hD Dl
    refine lc_range (lo := 0) (n := t) (fun j G => ∃ zs ls : List Str, But (· = l) H G ∧ Src G l (n + 1 + j) ∧ G D = some (.lst (zs.map V.str)) ∧ G L = some (.lst (ls.map V.str)) ∧ zs.length = j ∧ (zs ++ ls).Perm NM)
      ⟨[], NM, but_new (but_trans b0 b1) nD, s1.upd Dl, upd_same, by rw [upd_ne LD]; exact hL1, rfl, List.Perm.refl _⟩ (fun j G hj p => ?_) (fun G p => ?_)
    · obtain ⟨zs, ls, b2, s2, hG, hGL, lz, pm⟩ := p
      refine ⟨rfl, ?_⟩
      unfold tYes
      simp only [if_true]
      have lp := pm.length_eq
      rw [List.length_append, show NM.length = 6 from rfl] at lp
      refine ⟨_, rfl, .inl ⟨rfl, _, SqL.of hGL⟩, _, rfl, _, rfl, L, _, rfl, .inl (SqL.of hGL), l, _, n + 1 + j, rfl, ?_, ?_, s2, by omega, fun G2 e b3 s3 e0 e1 => ?_⟩
      · rw [List.length_map]; omega
      · rw [List.length_map]; omega
      obtain ⟨i, rfl⟩ := Int.eq_ofNat_of_zero_le e0
      rw [List.length_map] at e1
      have hi : i < ls.length := by omega
      have hG2 := b3 _ _ Dl hG
      have hL2 := b3 _ _ Ll hGL
      refine ⟨L, _, (i : Nat), i, .str ls[i], rfl, rfl, hL2, by omega, by omega, by rw [List.length_map]; exact seq_nat' hi, by rw [List.getElem?_map, List.getElem?_eq_getElem hi]; rfl, ?_⟩
      refine ⟨_, by rw [upd_ne LD.symm]; exact hG2, small1000 (by rw [List.length_map]; omega), zs ++ [ls[i]], ls.eraseIdx i, but_new (but_new (but_trans b2 b3) hL) nD, ((s3.upd Ll).upd Dl).more (by omega), by rw [upd_same, List.map_append]; rfl, by rw [upd_ne LD, upd_same, map_erase'], by rw [List.length_append, lz]; rfl, ?_⟩
      rw [List.append_assoc]
      exact ((erase_perm' (List.getElem?_eq_getElem hi)).append_left zs).trans pm
    · obtain ⟨zs, ls, b2, s2, hG, hGL, lz, pm⟩ := p
      have nd := (pm.nodup_iff.mpr nm_nodup)
      exact k G D zs b2 (s2.more (by omega)) nD hG (by omega) (List.nodup_append.mp nd).1 fun z hz => pm.mem_iff.mp (List.mem_append.mpr (.inl hz))
end
end Lw

set_option autoImplicit true
set_option Elab.async false
set_option linter.all false
set_option maxRecDepth 100000
set_option maxHeartbeats 1000000
/-! k13: _law_bases. -/
namespace Lw
open PySem L2 Two Pr ClX SlX
abbrev sBases : Stmt := top 67
def spBases : Sp := fun vs H Q _ => ∃ (l : Addr) (m n : Nat), vs = [.ref l, .int (m : Nat)] ∧ 0 < m ∧ m ≤ 1000 ∧ Src H l n ∧ n ≤ 800000 ∧
  ∀ (H' : Hp) (r : Addr) (ns : List Nat), But (· = l) H H' → Src H' l (n + 8) → H r = none → H' r = some (.lst (natsV ns)) → ns ≠ [] → ns.Nodup → ns.length ≤ 3 → (∀ z ∈ ns, z < m) → Q (.ref r) H'
abbrev nBases : List Str := ["_law_well_here", "_law_count", "_law_found", "_law_k", "_law_base"]
theorem scBases : FnScope nBases ["_law_well_here", "_law_count"] (defScope sBases) := ⟨rfl, rfl, rfl, by decide +kernel, rfl, by decide +kernel, by decide +kernel⟩
/-- the loop's state -/
structure BI (l F : Addr) (H0 : Hp) (m n : Nat) (ns : List Nat) (G : Hp) : Prop where
  but : But (· = l) H0 G
  src : Src G l n
  eF : G F = some (.lst (natsV ns))
  nF : H0 F = none
  Fl : F ≠ l
  nd : ns.Nodup
  lt : ∀ z ∈ ns, z < m
section
variable {l F : Addr} {H0 G G' : Hp} {m n : Nat} {ns : List Nat}
theorem BI.draw {n2 : Nat} (d : BI l F H0 m n ns G) (b : But (· = l) G G') (s : Src G' l n2) : BI l F H0 m n2 ns G' := ⟨but_trans d.but b, s, b _ _ d.Fl d.eF, d.nF, d.Fl, d.nd, d.lt⟩
theorem BI.same (d : BI l F H0 m n ns G) (s : Same G G') : BI l F H0 m n ns G' := d.draw (but_same s) (d.src.keep s)
theorem BI.more {n2 : Nat} (d : BI l F H0 m n ns G) (h : n ≤ n2) : BI l F H0 m n2 ns G := ⟨d.but, d.src.more h, d.eF, d.nF, d.Fl, d.nd, d.lt⟩
theorem BI.put {z : Nat} (d : BI l F H0 m n ns G) (hz : z ∉ ns) (zm : z < m) : BI l F H0 m n (ns ++ [z]) (upd G F (.lst (natsV ns ++ [natV z]))) :=
  ⟨but_new d.but d.nF, d.src.upd d.Fl, by rw [upd_same]; unfold natsV; rw [List.map_append]; rfl, d.nF, d.Fl, List.nodup_append.mpr ⟨d.nd, List.nodup_cons.mpr ⟨List.not_mem_nil, List.nodup_nil⟩, fun a ha b hb => by rw [List.mem_singleton.mp hb]; exact fun e => hz (e ▸ ha)⟩, fun y hy => by
    rcases List.mem_append.mp hy with hy | hy
    · exact d.lt y hy
    · rw [List.mem_singleton.mp hy]; exact zm⟩
end
theorem nat_of {x : V} {c : List Nat} (h : x ∈ c.map natV) : ∃ n : Nat, x = .int (n : Nat) ∧ n ∈ c := by
  obtain ⟨n, hn, rfl⟩ := List.mem_map.mp h
  exact ⟨n, rfl, hn⟩
section
variable {P : Program} {w : World} {K : PySem.W.Frag} {mg : Str → Option Value} {base : Heap}
theorem ok_bases {f fD : Addr} {fd dD : FuncData} (F : Fun K "_law_bases" "_law_bases" sBases f fd) (T : TxtR mg) (hmax : mg "max" = none) (gD : mg "_law_draw" = some (.ref fD)) (kD : PySem.W.keepIn K (.ref fD) = true) (bD : Binds K dD ["_law_well_here", "_law_many"] [])
    (GD : FnOk P w K mg base CX0 1 fD dD ["_law_well_here", "_law_many"] spDraw) : FnOk P w K mg base CX0 2 f fd ["_law_well_here", "_law_count"] spBases := by
  refine F.ok scBases (fun vs H Q E h => ?_) (fun cdv A outer s H vs Q E hr h => ?_)
  · obtain ⟨l, m, n, rfl, _⟩ := h
    rfl
  · obtain ⟨l, m, n, rfl, m0, m1, src, hn, k⟩ := h
    refine ⟨_, pss_cons (ps_set (i := 2) scBases.nd rfl (Or.inl rfl) (pe_lst pa_nil))
      (pss_cons (ps_for PassesOwn.never rfl (pi_range1 rfl T.range (pa_cons (pe_op op_add (pe_op op_add pe_int (pe_op op_fdiv (pe_call GD hr rfl gD kD bD .nil pass0 (pa_cons (pv 0) (pa_cons pe_int pa_nil))) pe_int)) (pe_op op_fdiv (pe_call GD hr rfl gD kD bD .nil pass0 (pa_cons (pv 0) (pa_cons pe_int pa_nil))) pe_int)) pa_nil)) (pg_name (i := 3) scBases.nd rfl (Or.inl rfl))
        (pss_cons (ps_set (i := 4) scBases.nd rfl (Or.inl rfl) (pe_callB (call_max2 rfl) (by rfl) hmax (by decide +kernel) (pa_cons (pe_call GD hr rfl gD kD bD .nil pass0 (pa_cons (pv 0) (pa_cons (pv 1) pa_nil))) (pa_cons (pe_call GD hr rfl gD kD bD .nil pass0 (pa_cons (pv 0) (pa_cons (pv 1) pa_nil))) pa_nil))))
        (pss_one (ps_if (pt_cmpR op_notIn_seq (pv 4) (pv 2) (by rfl)) (pss_one (ps_expr (pe_bm PySem.F.plainAttrs_list PySem.F.slot_list_append PySem.F.type_list_append mt_append (pv 2) (pa_cons (pv 4) pa_nil)))) pss_nil))))
      (pss_one (ps_ret (pv 2)))), ?_⟩
    refine ⟨Nat.zero_le _, fun F nF => ?_⟩
    have Fl : F ≠ l := src_none src nF
    have I0 : BI l F H m n [] (upd H F (.lst [])) := ⟨but_same (same_new nF), src.upd Fl, upd_same, nF, Fl, List.nodup_nil, fun _ h => nomatch h⟩
    generalize upd H F (.lst []) = G0 at I0 ⊢
    refine ⟨_, rfl, l, 6, n, rfl, by decide, by decide, I0.src, by omega, fun G1 d1 b1 s1 h10 h11 => ⟨_, _, rfl, rfl, ⟨by decide, by decide⟩, _, _, rfl, rfl, ?_⟩⟩
    have I1 := I0.draw b1 s1
    refine ⟨_, rfl, l, 8, _, rfl, by decide, by decide, I1.src, by omega, fun G2 d2 b2 s2 h20 h21 => ⟨_, _, rfl, rfl, ⟨by decide, by decide⟩, _, _, rfl, rfl, ?_⟩⟩
    have I2 := I1.draw b2 s2
    obtain ⟨c, ec, c1, c3⟩ : ∃ c : Nat, 1 + d1 / 3 + d2 / 7 = (c : Int) ∧ 1 ≤ c ∧ c ≤ 3 := ⟨(1 + d1 / 3 + d2 / 7).toNat, by omega, by omega, by omega⟩
    refine ⟨((c : Nat) : Int), congrArg (fun z : Int => [V.int z]) ec, by omega, by omega, for_range (lo := 0) (n := c) (fun j σ G => ∃ (v3 v4 : Option V) (ns : List Nat), σ = [some (.ref l), some (.int (m : Nat)), some (.ref F), v3, v4] ∧ BI l F H m (n + 2 + 2 * j) ns G ∧ ns.length ≤ j ∧ (0 < j → ns ≠ [])) ⟨_, _, [], rfl, I2, Nat.le_refl _, fun h => absurd h (Nat.lt_irrefl 0)⟩ ?_ ?_⟩
    · rintro j σ G hj ⟨v3, v4, ns, rfl, I, nj, nz⟩
      refine ⟨_, rfl, _, rfl, l, _, _, rfl, by omega, by omega, I.src, by omega, fun G6 d6 b6 s6 h60 h61 => ?_⟩
      have I6 := I.draw b6 s6
      refine ⟨_, rfl, _, rfl, l, _, _, rfl, by omega, by omega, I6.src, by omega, fun G7 d7 b7 s7 h70 h71 => ⟨_, _, rfl, ?_⟩⟩
      have I7 := I6.draw b7 s7
      obtain ⟨z, ez, hz⟩ : ∃ z : Nat, (if d7 > d6 then d7 else d6) = (z : Int) ∧ z < m := by
        refine ⟨(if d7 > d6 then d7 else d6).toNat, ?_, ?_⟩ <;> split <;> omega
      rw [ez]
      refine ⟨_, rfl, _, rfl, F, _, rfl, .inl (SqL.of I7.eF), rfl, flat_nats _, _, rfl, ?_⟩
      rw [inV_nats]
      by_cases mz : z ∈ ns
      · refine ite_false_of (by simp [mz]) ?_
        exact ⟨_, _, ns, rfl, I7.more (by omega), by omega, fun _ e => by rw [e] at mz; cases mz⟩
      · refine ite_true_of (by simp [mz]) ?_
        refine ⟨_, rfl, .inl ⟨rfl, _, SqL.of I7.eF⟩, _, rfl, F, _, _, rfl, rfl, I7.eF, small1000 (by unfold natsV; rw [List.length_map]; omega), ?_⟩
        exact ⟨_, _, ns ++ [z], rfl, (I7.put mz hz).more (by omega), by rw [List.length_append]; show ns.length + 1 ≤ _; omega, fun _ e => by simp at e⟩
    · rintro σ G ⟨v3, v4, ns, rfl, I, nj, nz⟩
      exact ⟨_, rfl, k _ F ns I.but (I.src.more (by omega)) I.nF I.eF (nz (by omega)) I.nd (by omega) I.lt⟩
end
end Lw

set_option autoImplicit true
set_option Elab.async false
set_option linter.all false
set_option maxRecDepth 100000
set_option maxHeartbeats 1000000
/-! k13: _law_filled. -/
namespace Lw
open PySem L2 Two Pr ClX SlX
/-- what making worlds takes -/
structure MkW (P : Program) (w : World) (K : PySem.W.Frag) (mg : Str → Option Value) (base : Heap) (CL CS CW CB CN CD CT CC CO CR CLE fI fU fM t0 : Addr) (dI dU dM : FuncData) (mv : List Value) : Prop where
  WC : WdC K mg CW
  MI : Mk K CW fI
  bI : Binds K dI ["self"] []
  GI : FnOk P w K mg base (L2.CX P w) 12 fI dI ["self"] (spWInit K CL CS CW)
  mU : Meth K CW "count" fU
  bU : Binds K dU ["self"] []
  GU : FnOk P w K mg base CX0 1 fU dU ["self"] (spWCount K CL CS CW)
  mM : Meth K CW "make_class" fM
  bM : KBn K dM ["self", "bases", "fields", "roomy", "pairs"] 3 ["roomy"] (fun us ws => us ++ ws ++ mv) (fun vs zs => vs ++ zs ++ [.ref t0])
  h0 : ∀ H, SqT K H t0 []
  GM : FnOk P w K mg base (L2.CX P w) 12 fM dM ["self", "bases", "fields", "roomy", "pairs"] (spMake0 K CL CS CW CB CN CD CT CC CO CR)
  gE : mg "LineError" = some (.ref CLE)
  xC : PySem.W.exmOne K (.ref CC) (.ref CLE) = some true
  xO : PySem.W.exmOne K (.ref CO) (.ref CLE) = some true
  xR : PySem.W.exmOne K (.ref CR) (.ref CLE) = some true
/-- a world that calls of make_class have made -/
structure WI (K : PySem.W.Frag) (CL CS CW : Addr) (l W : Addr) (H : Hp) (n : Nat) (ps : List (Addr × Cm)) (G : Hp) : Prop where
  but : But (· = l) H G
  src : Src G l n
  nW : H W = none
  at_ : ∃ dx S Tb Lv, WorldAt K CL CS CW (fun b => H b = none) G W dx S Tb Lv ps
  grown : Grown (ps.map (·.2))
section
variable {K : PySem.W.Frag} {CL CS CW l W : Addr} {H G G' : Hp} {n : Nat} {ps : List (Addr × Cm)}
theorem src_lst {m : Nat} (s : Src G l m) : ∃ xs, G l = some (.lst xs) := let ⟨_, _, _, e, _⟩ := s; ⟨_, e⟩
theorem WI.is (b : WI K CL CS CW l W H n ps G) : IsWorld K CL CS CW G W ps := let ⟨_, _, _, _, w⟩ := b.at_; w.is
theorem WI.draw {m : Nat} (d : WI K CL CS CW l W H n ps G) (hl : H l ≠ none) (b : But (· = l) G G') (s : Src G' l m) : WI K CL CS CW l W H m ps G' := by
  obtain ⟨xs, el⟩ := src_lst d.src
  obtain ⟨dx, S, Tb, Lv, w⟩ := d.at_
  exact ⟨but_trans d.but b, s, d.nW, ⟨dx, S, Tb, Lv, w.keepL fun c o e _ h => b c o (fun z => by
    rcases h with h | h
    · exact hl (z ▸ h)
    · rw [z, el] at e
      exact h xs (Option.some.inj e).symm) e⟩, d.grown⟩
theorem WI.same (d : WI K CL CS CW l W H n ps G) (s : Same G G') : WI K CL CS CW l W H n ps G' := by
  obtain ⟨dx, S, Tb, Lv, w⟩ := d.at_
  exact ⟨but_trans d.but (but_same s), d.src.keep s, d.nW, ⟨dx, S, Tb, Lv, w.keep s⟩, d.grown⟩
theorem WI.more {m : Nat} (d : WI K CL CS CW l W H n ps G) (h : n ≤ m) : WI K CL CS CW l W H m ps G := ⟨d.but, d.src.more h, d.nW, d.at_, d.grown⟩
end
theorem Grown.pos {ms : List Cm} (g : Grown ms) : 0 < ms.length := by
  induction g with
  | first _ => exact Nat.zero_lt_one
  | more _ _ _ _ _ _ _ _ _ _ _ _ _ ih => rw [List.length_append]; omega
/-- a class more -/
theorem WI.made {dx S Tb Lv a : Addr} {ns above mg : List Nat} {gs : List Str} {r : Bool} (d : WI K CL CS CW l W H n ps G) (hl : H l ≠ none) (w : WorldAt K CL CS CW (fun b => H b = none) G W dx S Tb Lv ps) (few : ps.length < 25) (ne : ns ≠ []) (nd : ns.Nodup) (l5 : ns.length ≤ 5) (lt : ∀ z ∈ ns, z < ps.length) (gnd : gs.Nodup) (g6 : gs.length ≤ 6) (gnm : ∀ z ∈ gs, isName z = true)
    (hcol : colOf (ps.map (·.2)) ns = none) (MT : MergedTo (ordLs (ps.map (·.2)) ns) mg) (ab : Above (ps.map (·.2)) ns above) (hr : r = true → ∀ z ∈ ns, roomAt (ps.map (·.2)) z = false) (kk : ∀ b o, G b = some o → b ≠ S → b ≠ Tb → b ≠ Lv → G' b = some o)
    (hw : WorldAt K CL CS CW (fun b => H b = none) G' W dx S Tb Lv (ps ++ [(a, newCm (ps.map (·.2)) ps.length ns gs r above mg)])) : WI K CL CS CW l W H n (ps ++ [(a, newCm (ps.map (·.2)) ps.length ns gs r above mg)]) G' := by
  have lm : (ps.map (·.2)).length = ps.length := List.length_map _
  refine ⟨fun b o nb e => kk _ _ (d.but b o nb e) (fun z => ?_) (fun z => ?_) (fun z => ?_), ?_, d.nW, ⟨dx, S, Tb, Lv, hw⟩, ?_⟩
  · rw [z, w.lS] at e; cases e
  · rw [z, w.lT] at e; cases e
  · rw [z, w.lV] at e; cases e
  · obtain ⟨x, y, c1, e, q⟩ := d.src
    exact ⟨x, y, c1, kk _ _ e (fun z => hl (z ▸ w.lS)) (fun z => hl (z ▸ w.lT)) (fun z => hl (z ▸ w.lV)), q⟩
  · rw [List.map_append]
    have g := Grown.more d.grown (by rw [lm]; exact few) ne nd l5 (fun z hz => by rw [lm]; exact lt z hz) gnd g6 gnm hcol MT ab hr
    rw [lm] at g
    exact g
section
variable {P : Program} {w : World} {K : PySem.W.Frag} {mg : Str → Option Value} {base : Heap} {CL CS CW CB CN CD CT CC CO CR CLE fI fU fM t0 : Addr} {dI dU dM : FuncData} {mv : List Value}
end
end Lw

set_option autoImplicit true
set_option Elab.async false
set_option linter.all false
set_option maxRecDepth 100000
set_option maxHeartbeats 1000000
/-! Readers of World and Shape that were wanting. -/
namespace Pr
open PySem L2 Two ClX SlX
abbrev mShRoomy : Stmt := within cShape 4
abbrev mWBases : Stmt := within cWorld 3
abbrev mWRoomy : Stmt := within cWorld 6
abbrev mWOwner : Stmt := within cWorld 8
abbrev mWLay : Stmt := within cWorld 10
abbrev mWBelow : Stmt := within cWorld 11
section
variable {P : Program} {w : World} {K : PySem.W.Frag} {mg : Str → Option Value} {base : Heap}
theorem scShRoomy : FnScope ["self"] ["self"] (defScope mShRoomy) := ⟨rfl, rfl, rfl, by decide +kernel, rfl, by decide +kernel, by decide +kernel⟩
def spShRoomy (K : PySem.W.Frag) (CL CS : Addr) : Sp := fun vs H Q _ => ∃ a m, vs = [.ref a] ∧ IsShape K CL CS H a m ∧ Q (.bl m.roomy) H
theorem ok_shRoomy {f CL CS : Addr} {fd : FuncData} (F : Fun K "declares_room" "Shape.declares_room" mShRoomy f fd) (S : ShC K mg CS) : FnOk P w K mg base CX0 1 f fd ["self"] (spShRoomy K CL CS) := by
  refine F.ok scShRoomy (fun vs H Q E h => ?_) (fun cdv A outer s H vs Q E hr h => ?_)
  · obtain ⟨a, m, rfl, _⟩ := h
    rfl
  · obtain ⟨a, m, rfl, ⟨dx, po, pl, pn, pb, pf, pd, h1, h2, h3, h4, h5, h6, h7⟩, k⟩ := h
    refine ⟨_, pss_one (ps_ret (pe_fld (pv 0) rfl)), ?_⟩
    exact ⟨_, rfl, a, CS, dx, _, _, rfl, h1, S.cl, S.nR, rfl, k⟩
theorem isShape_rm {CL CS : Addr} {H : Hp} {a : Addr} {m : Cm} (h : IsShape K CL CS H a m) : ∃ dx us, H a = some (.ins CS dx us) ∧ us.lookup ("declares_room" : Str) = none := by
  obtain ⟨dx, po, pl, pn, pb, pf, pd, h, _⟩ := h
  exact ⟨dx, _, h, rfl⟩
theorem sc_wBases : FnScope ["self", "number"] ["self", "number"] (defScope mWBases) := ⟨rfl, rfl, rfl, by decide +kernel, rfl, by decide +kernel, by decide +kernel⟩
theorem ok_wBases {f fS fN CL CS CW CN : Addr} {fd dS dN : FuncData} (F : Fun K "bases" "World.bases" mWBases f fd) (C : WdC K mg CW) (mS : Meth K CW "_shape" fS) (bS : Binds K dS ["self", "number"] []) (GS : FnOk P w K mg base (L2.CX P w) 5 fS dS ["self", "number"] (spWShape K CL CS CW CN))
    (SC : ShC K mg CS) (mN : Meth K CS "bases" fN) (bN : Binds K dN ["self"] []) (GN : FnOk P w K mg base CX0 1 fN dN ["self"] (spShList K CL CS fun m => natsV m.bases)) : FnOk P w K mg base (L2.CX P w) 6 f fd ["self", "number"] (spWList K CL CS CW CN fun m => natsV m.bases) := by
  refine F.okX sc_wBases (fun vs H Q E h => ?_) (fun cdv A outer s H vs Q E hr h => ?_)
  · obtain ⟨W, x, ps, rfl, _⟩ := h
    rfl
  · obtain ⟨W, x, ps, rfl, hW, h⟩ := h
    have hr1 : Room 1 _ := hr.mono (by decide)
    refine ⟨_, pss_one (ps_ret (pe_meth0 (pe_meth (E := E) (pv 0) C.cl mS GS hr bS .nil (fun pins σ => passAt (W := fun cls d _ H => E cls d H) (takes_of rfl rfl rfl rfl) σ pins) (pa_cons (pv 1) pa_nil)) SC.cl mN GN hr1 bN .nil pass0)), ?_⟩
    have hW2 := hW
    obtain ⟨dx, S, Tb, Lv, h1, h2, h3, _⟩ := hW2
    refine ⟨_, rfl, W, dx, _, rfl, h1, rfl, _, rfl, W, x, ps, rfl, hW, ?_⟩
    rcases h with ⟨ni, th⟩ | ⟨i, rfl, ok, out⟩
    · exact .inl ⟨ni, th⟩
    · refine .inr ⟨i, rfl, fun n e hn a m hm sh => ?_, out⟩
      obtain ⟨da, us, ha, uL, uF, uO, uY, uB⟩ := isShape_ins sh
      exact ⟨a, da, _, rfl, ha, uB, a, m, rfl, sh, ok n e hn m (by rw [List.getElem?_map, hm]; rfl)⟩
/-- a class's layout -/
def spWLay (K : PySem.W.Frag) (CL CS CW CN : Addr) : Sp := fun vs H Q E => ∃ W x ps, vs = [.ref W, x] ∧ IsWorld K CL CS CW H W ps ∧ ClsNum K H E CN x ps.length fun n => ∀ m, (ps.map (·.2))[n]? = some m → ∀ b, IsLay K CL H b m.lay m.room → Q (.ref b) H
theorem sc_wLay : FnScope ["self", "number"] ["self", "number"] (defScope mWLay) := ⟨rfl, rfl, rfl, by decide +kernel, rfl, by decide +kernel, by decide +kernel⟩
/-- whether a class itself declares the room -/
def spWRoomy (K : PySem.W.Frag) (CL CS CW CN : Addr) : Sp := fun vs H Q E => ∃ W x ps, vs = [.ref W, x] ∧ IsWorld K CL CS CW H W ps ∧ ClsNum K H E CN x ps.length fun n => ∀ m, (ps.map (·.2))[n]? = some m → Q (.bl m.roomy) H
theorem sc_wRoomy : FnScope ["self", "number"] ["self", "number"] (defScope mWRoomy) := ⟨rfl, rfl, rfl, by decide +kernel, rfl, by decide +kernel, by decide +kernel⟩
theorem ok_wRoomy {f fS fN CL CS CW CN : Addr} {fd dS dN : FuncData} (F : Fun K "declares_room" "World.declares_room" mWRoomy f fd) (C : WdC K mg CW) (mS : Meth K CW "_shape" fS) (bS : Binds K dS ["self", "number"] []) (GS : FnOk P w K mg base (L2.CX P w) 5 fS dS ["self", "number"] (spWShape K CL CS CW CN))
    (SC : ShC K mg CS) (mN : Meth K CS "declares_room" fN) (bN : Binds K dN ["self"] []) (GN : FnOk P w K mg base CX0 1 fN dN ["self"] (spShRoomy K CL CS)) : FnOk P w K mg base (L2.CX P w) 6 f fd ["self", "number"] (spWRoomy K CL CS CW CN) := by
  refine F.okX sc_wRoomy (fun vs H Q E h => ?_) (fun cdv A outer s H vs Q E hr h => ?_)
  · obtain ⟨W, x, ps, rfl, _⟩ := h
    rfl
  · obtain ⟨W, x, ps, rfl, hW, h⟩ := h
    have hr1 : Room 1 _ := hr.mono (by decide)
    refine ⟨_, pss_one (ps_ret (pe_meth0 (pe_meth (E := E) (pv 0) C.cl mS GS hr bS .nil (fun pins σ => passAt (W := fun cls d _ H => E cls d H) (takes_of rfl rfl rfl rfl) σ pins) (pa_cons (pv 1) pa_nil)) SC.cl mN GN hr1 bN .nil pass0)), ?_⟩
    have hW2 := hW
    obtain ⟨dx, S, Tb, Lv, h1, h2, h3, _⟩ := hW2
    refine ⟨_, rfl, W, dx, _, rfl, h1, rfl, _, rfl, W, x, ps, rfl, hW, ?_⟩
    rcases h with ⟨ni, th⟩ | ⟨i, rfl, ok, out⟩
    · exact .inl ⟨ni, th⟩
    · refine .inr ⟨i, rfl, fun n e hn a m hm sh => ?_, out⟩
      obtain ⟨da, us, ha, uR⟩ := isShape_rm sh
      exact ⟨a, da, _, rfl, ha, uR, a, m, rfl, sh, ok n e hn m (by rw [List.getElem?_map, hm]; rfl)⟩
def spOwner (K : PySem.W.Frag) (CL CS CW CN : Addr) : Sp := fun vs H Q E => ∃ W x ps, vs = [.ref W, x] ∧ IsWorld K CL CS CW H W ps ∧ ClsNum K H E CN x ps.length fun n => ∀ m o, (ps.map (·.2))[n]? = some m → m.line[0]? = some o → ∀ H', Same H H' → Q (.int (o : Nat)) H'
theorem scOwner : FnScope ["self", "number"] ["self", "number"] (defScope mWOwner) := ⟨rfl, rfl, rfl, by decide +kernel, rfl, by decide +kernel, by decide +kernel⟩
/-- the classes below -/
def belowN (ms : List Cm) (n : Nat) : List Nat := ((List.range ms.length).filter fun p => decide (p ≠ n)).filter fun p => decide (n ∈ orderAt ms p)
end
end Pr

set_option autoImplicit true
set_option Elab.async false
set_option linter.all false
set_option maxRecDepth 100000
set_option maxHeartbeats 1000000
/-! k13: the classes above a class, as sets. -/
namespace Pr
open PySem L2 Two ClX SlX
def basesAt (ms : List Cm) (i : Nat) : List Nat := match ms[i]? with
  | some m => m.bases
  | none => []
def aboveN (ms : List Cm) (n : Nat) : List Nat := (orderAt ms n).tail
section
variable {ms : List Cm}
theorem Grown.at_ (g : Grown ms) {n : Nat} (h : n < ms.length) : ∃ m, ms[n]? = some m ∧ CmOk ms n m ∧ orderAt ms n = m.order ∧ basesAt ms n = m.bases := by
  have e := List.getElem?_eq_getElem h
  refine ⟨ms[n], e, g.ok n _ e, ?_, ?_⟩
  · unfold orderAt; rw [e]
  · unfold basesAt; rw [e]
theorem Grown.tail (g : Grown ms) {n : Nat} (h : n < ms.length) : orderAt ms n = n :: aboveN ms n ∧ (∀ x ∈ aboveN ms n, x < n) ∧ (∀ x, x ∈ aboveN ms n ↔ ∃ b ∈ basesAt ms n, x ∈ orderAt ms b) ∧ (∀ b ∈ basesAt ms n, b < n) ∧ (basesAt ms n).Nodup ∧ (aboveN ms n).Nodup := by
  obtain ⟨m, e, k, eo, eb⟩ := g.at_ h
  obtain ⟨t, et, lt, mem⟩ := k.ord
  have ea : aboveN ms n = t := by unfold aboveN; rw [eo, et]; rfl
  rw [ea, eo, eb]
  refine ⟨et, lt, mem, k.blt, k.bnd, ?_⟩
  have nd := k.nd
  rw [et] at nd
  exact (List.nodup_cons.mp nd).2
theorem Grown.self (g : Grown ms) {n : Nat} (h : n < ms.length) : n ∈ orderAt ms n := by rw [(g.tail h).1]; exact List.mem_cons_self
theorem Grown.trans (g : Grown ms) : ∀ (n : Nat), n < ms.length → ∀ x ∈ orderAt ms n, ∀ z ∈ orderAt ms x, z ∈ orderAt ms n := by
  intro n
  induction n using Nat.strongRecOn with
  | ind n ih =>
    intro h x hx z hz
    obtain ⟨e, lt, mem, blt, _⟩ := g.tail h
    rw [e] at hx
    rcases List.mem_cons.mp hx with rfl | hx
    · exact hz
    · obtain ⟨b, hb, hxb⟩ := (mem x).mp hx
      rw [e]
      exact List.mem_cons_of_mem _ ((mem z).mpr ⟨b, hb, ih b (blt b hb) (Nat.lt_trans (blt b hb) h) x hxb z hz⟩)
theorem Grown.up_in (g : Grown ms) {n : Nat} (h : n < ms.length) {y : Nat} (hy : y ∈ aboveN ms n) : ∀ b ∈ basesAt ms y, b ∈ aboveN ms n := by
  intro b hb
  obtain ⟨e, lt, mem, blt, _⟩ := g.tail h
  obtain ⟨c, hc, hyc⟩ := (mem y).mp hy
  have hy' : y < ms.length := Nat.lt_trans (lt y hy) h
  have hc' : c < ms.length := Nat.lt_trans (blt c hc) h
  obtain ⟨ey, lty, memy, blty, _⟩ := g.tail hy'
  refine (mem b).mpr ⟨c, hc, g.trans c hc' y hyc b ?_⟩
  rw [ey]
  exact List.mem_cons_of_mem _ ((memy b).mpr ⟨b, hb, g.self (Nat.lt_trans (blty b hb) hy')⟩)
theorem Grown.base_in (g : Grown ms) {n : Nat} (h : n < ms.length) : ∀ b ∈ basesAt ms n, b ∈ aboveN ms n := by
  intro b hb
  obtain ⟨e, lt, mem, blt, _⟩ := g.tail h
  exact (mem b).mpr ⟨b, hb, g.self (Nat.lt_trans (blt b hb) h)⟩
theorem nat_nodup_len : ∀ {l m : List Nat}, l.Nodup → (∀ x ∈ l, x ∈ m) → l.length ≤ m.length := by
  intro l m nd h
  have := nodup_le_len (l := intsN l) (m := intsN m) ?_ ?_
  · unfold intsN at this
    rw [List.length_map, List.length_map] at this
    exact this
  · unfold intsN
    exact List.Pairwise.map _ (fun a b (ne : a ≠ b) (e : (a : Int) = b) => ne (Int.ofNat_inj.mp e)) nd
  · intro x hx
    unfold intsN at hx ⊢
    obtain ⟨y, hy, rfl⟩ := List.mem_map.mp hx
    exact List.mem_map.mpr ⟨y, h y hy, rfl⟩
theorem few_below {l : List Nat} {n : Nat} (nd : l.Nodup) (h : ∀ x ∈ l, x < n) : l.length ≤ n := by
  have := nat_nodup_len (m := List.range n) nd fun x hx => List.mem_range.mpr (h x hx)
  rwa [List.length_range] at this
/-- a walk upwards: what is found, what is left -/
structure Up (ms : List Cm) (n : Nat) (fs ls : List Nat) : Prop where
  nd : fs.Nodup
  fin : ∀ x ∈ fs, x ∈ aboveN ms n
  lin : ∀ x ∈ ls, x ∈ aboveN ms n
  c0 : ∀ b ∈ basesAt ms n, b ∈ fs ∨ b ∈ ls
  cl : ∀ x ∈ fs, ∀ b ∈ basesAt ms x, b ∈ fs ∨ b ∈ ls
  len : ls.length ≤ 25 * (fs.length + 1)
theorem Up.first (g : Grown ms) {n : Nat} (h : n < ms.length) (h25 : ms.length ≤ 25) : Up ms n [] (basesAt ms n) := by
  obtain ⟨e, lt, mem, blt, bnd, _⟩ := g.tail h
  refine ⟨List.nodup_nil, (fun _ h => nomatch h), g.base_in h, fun b hb => .inr hb, (fun _ h => nomatch h), ?_⟩
  have := few_below bnd blt
  simp only [List.length_nil]
  omega
theorem mem_last {ls : List Nat} {y b : Nat} (e : ls[ls.length - 1]? = some y) (h : b ∈ ls) : b = y ∨ b ∈ ls.dropLast := by
  rcases List.eq_nil_or_concat ls with rfl | ⟨l, a, rfl⟩
  · cases h
  · rw [List.concat_eq_append] at *
    rw [List.dropLast_concat]
    have ea : a = y := by
      rw [List.length_append, List.length_singleton, Nat.add_sub_cancel, List.getElem?_append_right (Nat.le_refl _), Nat.sub_self] at e
      exact Option.some.inj e
    rcases List.mem_append.mp h with h | h
    · exact .inr h
    · exact .inl ((List.mem_singleton.mp h).trans ea)
theorem Up.skip {n : Nat} {fs ls : List Nat} {y : Nat} (u : Up ms n fs ls) (e : ls[ls.length - 1]? = some y) (hy : y ∈ fs) : Up ms n fs ls.dropLast := by
  have z : ∀ b, b ∈ fs ∨ b ∈ ls → b ∈ fs ∨ b ∈ ls.dropLast := fun b hb => by
    rcases hb with hb | hb
    · exact .inl hb
    · rcases mem_last e hb with rfl | hb
      · exact .inl hy
      · exact .inr hb
  refine ⟨u.nd, u.fin, fun x hx => u.lin x (List.dropLast_subset _ hx), fun b hb => z b (u.c0 b hb), fun x hx b hb => z b (u.cl x hx b hb), ?_⟩
  have := u.len
  rw [List.length_dropLast]
  omega
theorem Up.more (g : Grown ms) {n : Nat} (h : n < ms.length) (h25 : ms.length ≤ 25) {fs ls : List Nat} {y : Nat} (u : Up ms n fs ls) (e : ls[ls.length - 1]? = some y) (hy : y ∉ fs) : Up ms n (fs ++ [y]) (ls.dropLast ++ basesAt ms y) ∧ y < n := by
  have yA : y ∈ aboveN ms n := u.lin y (List.mem_of_getElem? e)
  obtain ⟨e0, lt, mem, blt, bnd, _⟩ := g.tail h
  have hyn := lt y yA
  obtain ⟨ey, lty, memy, blty, bndy, _⟩ := g.tail (Nat.lt_trans hyn h)
  have z : ∀ b, b ∈ fs ∨ b ∈ ls → b ∈ fs ++ [y] ∨ b ∈ ls.dropLast ++ basesAt ms y := fun b hb => by
    rcases hb with hb | hb
    · exact .inl (List.mem_append_left _ hb)
    · rcases mem_last e hb with rfl | hb
      · exact .inl (List.mem_append_right _ (List.mem_singleton.mpr rfl))
      · exact .inr (List.mem_append_left _ hb)
  refine ⟨⟨List.nodup_append.mpr ⟨u.nd, List.nodup_cons.mpr ⟨List.not_mem_nil, List.nodup_nil⟩, fun a ha b hb => by rw [List.mem_singleton.mp hb]; exact fun e => hy (e ▸ ha)⟩, fun x hx => ?_, fun x hx => ?_, fun b hb => z b (u.c0 b hb), fun x hx b hb => ?_, ?_⟩, hyn⟩
  · rcases List.mem_append.mp hx with hx | hx
    · exact u.fin x hx
    · rw [List.mem_singleton.mp hx]; exact yA
  · rcases List.mem_append.mp hx with hx | hx
    · exact u.lin x (List.dropLast_subset _ hx)
    · exact g.up_in h yA x hx
  · rcases List.mem_append.mp hx with hx | hx
    · exact z b (u.cl x hx b hb)
    · rw [List.mem_singleton.mp hx] at hb
      exact .inr (List.mem_append_right _ hb)
  · have := u.len
    have := few_below bndy blty
    rw [List.length_append, List.length_append, List.length_dropLast, List.length_singleton]
    omega
theorem Up.end_ (g : Grown ms) {n : Nat} (h : n < ms.length) {fs : List Nat} (u : Up ms n fs []) : fs.Perm (aboveN ms n) := by
  have up : ∀ c, c < ms.length → (∀ b ∈ basesAt ms c, b ∈ fs) → ∀ x ∈ aboveN ms c, x ∈ fs := by
    intro c
    induction c using Nat.strongRecOn with
    | ind c ih =>
      intro hc hb x hx
      obtain ⟨e, lt, mem, blt, _⟩ := g.tail hc
      obtain ⟨b, hbm, hxb⟩ := (mem x).mp hx
      have hb' : b < ms.length := Nat.lt_trans (blt b hbm) hc
      obtain ⟨e2, _⟩ := g.tail hb'
      rw [e2] at hxb
      rcases List.mem_cons.mp hxb with rfl | hxb
      · exact hb _ hbm
      · refine ih b (blt b hbm) hb' (fun b2 hb2 => ?_) x hxb
        rcases u.cl b (hb b hbm) b2 hb2 with q | q
        · exact q
        · cases q
  obtain ⟨e, lt, mem, blt, bnd, nd⟩ := g.tail h
  refine (List.perm_ext_iff_of_nodup u.nd nd).mpr fun x => ⟨u.fin x, fun hx => up n h (fun b hb => ?_) x hx⟩
  rcases u.c0 b hb with q | q
  · exact q
  · cases q
end
end Pr

set_option autoImplicit true
set_option Elab.async false
set_option linter.all false
set_option maxRecDepth 100000
set_option maxHeartbeats 1000000
/-! k13: _law_above. -/
namespace Lw
open PySem L2 Two Pr ClX SlX
def natsD (l : List Nat) : PyData := .list (l.map fun i => PyData.int (i : Nat))
theorem dp_nats {K : PySem.W.Frag} {H : Hp} : ∀ l : List Nat, DpAll K H (natsV l) (l.map fun i => PyData.int (i : Nat))
  | [] => .nil
  | _ :: l => .cons (.int _) (dp_nats l)
theorem dp_natsL {K : PySem.W.Frag} {H : Hp} {p : Addr} {l : List Nat} (h : H p = some (.lst (natsV l))) : Dp K H (.ref p) (natsD l) := .lst (SqL.of h) (dp_nats l)
theorem canLay_nats : ∀ l : List Nat, PyData.canLayAll0 (l.map fun i => PyData.int (i : Nat)) = true
  | [] => rfl
  | x :: l => by
    show (true && PyData.canLayAll0 (l.map fun i => PyData.int (i : Nat))) = true
    rw [canLay_nats l]
    rfl
theorem depth_nats : ∀ l : List Nat, PyData.depthAll (l.map fun i => PyData.int (i : Nat)) = 0
  | [] => rfl
  | x :: l => by
    show max 0 (PyData.depthAll (l.map fun i => PyData.int (i : Nat))) = 0
    rw [depth_nats l]
    rfl
theorem shaped_nats (l : List Nat) : SeqAt.shaped (natsD l) = true := by
  unfold SeqAt.shaped
  have a : (natsD l).canLay0 = true := canLay_nats l
  have b : (natsD l).depth ≤ 64 := by
    show PyData.depthAll (l.map fun i => PyData.int (i : Nat)) + 1 ≤ 64
    rw [depth_nats]
    decide
  rw [a, decide_eq_true b]
  rfl
theorem eqv_natsAll : ∀ a b : List Nat, PyData.eqvAll (a.map fun i => PyData.int (i : Nat)) (b.map fun i => PyData.int (i : Nat)) = decide (a = b)
  | [], [] => rfl
  | [], _ :: _ => rfl
  | _ :: _, [] => rfl
  | x :: a, y :: b => by
    show (PyData.eqv (.int (x : Nat)) (.int (y : Nat)) && PyData.eqvAll (a.map fun i => PyData.int (i : Nat)) (b.map fun i => PyData.int (i : Nat))) = _
    rw [eqv_natsAll a b]
    show (decide ((x : Int) = (y : Int)) && decide (a = b)) = _
    by_cases h : x = y
    · subst h
      simp
    · have h2 : ¬ (x : Int) = (y : Int) := fun e => h (Int.ofNat_inj.mp e)
      simp [h, h2]
theorem eqv_nats (a b : List Nat) : PyData.eqv (natsD a) (natsD b) = decide (a = b) := eqv_natsAll a b
/-- sorted lists -/
structure TxtA (mg : Str → Option Value) : Prop extends TxtR mg where
  sorted : mg "sorted" = none
section
variable {P : Program} {w : World} {K : PySem.W.Frag} {mg : Str → Option Value} {base : Heap} {CL CS CW CN : Addr}
end
end Lw

set_option autoImplicit true
set_option Elab.async false
set_option linter.all false
set_option maxRecDepth 100000
set_option maxHeartbeats 1000000
/-! k13: readers of a world, called by names; _law_order_right. -/
namespace Lw
open PySem L2 Two Pr ClX SlX
abbrev OffW (m : Str) : Prop := ∀ a b c : V, List.lookup m [(("_shapes" : Str), a), (("_tables" : Str), b), (("_lives" : Str), c)] = none
section
variable {K : PySem.W.Frag} {CL CS CW CN W : Addr} {H : Hp} {ps : List (Addr × Cm)} {σ : L2.St} {i j n : Nat} {m : Str} {f : Cm → List V} {Q : VK}
theorem wl_read (hW : IsWorld K CL CS CW H W ps) (off : OffW m) (hi : σ[i]? = some (some (.ref W))) (hj : σ[j]? = some (some (.int (n : Nat)))) (hn : n < ps.length)
    (k : ∀ c, (ps.map (·.2))[n]? = some c → ∀ p, H p = none → Q (.ref p) (upd H p (.lst (f c)))) : tMeth CW m (spWList K CL CS CW CN f) [] (fun _ _ _ => False) (tVar i) (tCons (tVar j) tNil) σ H Q := by
  have hW2 := hW
  obtain ⟨dx, S, Tb, Lv, h1, _⟩ := hW2
  refine ⟨_, hi, W, dx, _, rfl, h1, off _ _ _, _, hj, W, _, ps, rfl, hW, .inr ⟨_, rfl, fun n2 e2 hn2 c hc p np => ?_, fun out => absurd ⟨by omega, by omega⟩ out⟩⟩
  have e : n2 = n := by omega
  subst e
  exact k c hc p np
theorem wl_get (hW : IsWorld K CL CS CW H W ps) (off : OffW m) (hi : σ[i]? = some (some (.ref W))) (hj : σ[j]? = some (some (.int (n : Nat)))) (hn : n < ps.length)
    (k : ∀ c, (ps.map (·.2))[n]? = some c → ∀ p G, H p = none → Same H G → G p = some (.lst (f c)) → Q (.ref p) G) : tMeth CW m (spWList K CL CS CW CN f) [] (fun _ _ _ => False) (tVar i) (tCons (tVar j) tNil) σ H Q :=
  wl_read hW off hi hj hn fun c hc p np => k c hc p _ np (same_new np) upd_same
end
theorem _root_.Pr.Grown.cm {ms : List Cm} (g : Grown ms) {n : Nat} {c : Cm} (e : ms[n]? = some c) : c.order = orderAt ms n ∧ c.bases = basesAt ms n ∧ CmOk ms n c := by
  refine ⟨?_, ?_, g.ok n c e⟩
  · unfold orderAt; rw [e]
  · unfold basesAt; rw [e]
theorem nodup_ints {l : List Nat} (nd : l.Nodup) : (intsN l).Nodup := by
  unfold intsN
  exact List.Pairwise.map _ (fun a b (ne : a ≠ b) (e : (a : Int) = b) => ne (Int.ofNat_inj.mp e)) nd
theorem len_ints (l : List Nat) : (intsN l).length = l.length := List.length_map _
/-- a list of ints that is another's, ordered -/
theorem sorted_nats {l : List Nat} {ns : List Int} (pm : ns.Perm (intsN l)) (pw : ns.Pairwise (· ≤ ·)) : ∃ t : List Nat, ns = intsN t ∧ t.Perm l ∧ t.Pairwise (· ≤ ·) := by
  obtain ⟨t, rfl⟩ : ∃ t : List Nat, ns = intsN t := ⟨ns.map Int.toNat, by
    unfold intsN
    rw [List.map_map]
    conv => lhs; rw [← List.map_id ns]
    refine List.map_congr_left fun x hx => ?_
    obtain ⟨y, _, rfl⟩ := List.mem_map.mp (pm.subset hx)
    rfl⟩
  refine ⟨t, rfl, ?_, ?_⟩
  · have := pm.map Int.toNat
    unfold intsN at this
    rw [List.map_map, List.map_map] at this
    have e : (Int.toNat ∘ fun n : Nat => (n : Int)) = id := rfl
    rw [e, List.map_id, List.map_id] at this
    exact this
  · unfold intsN at pw
    rw [List.pairwise_map] at pw
    exact pw.imp fun h => Int.ofNat_le.mp h
theorem sorted_same : ∀ {a b : List Nat}, a.Perm b → a.Pairwise (· ≤ ·) → b.Pairwise (· ≤ ·) → a = b
  | [], b, h, _, _ => (List.nil_perm.mp h).symm
  | x :: a, [], h, _, _ => absurd h.length_eq (by simp)
  | x :: a, y :: b, h, pa, pb => by
    have pa := List.pairwise_cons.mp pa
    have pb := List.pairwise_cons.mp pb
    have e : x = y := by
      have h1 : x ∈ y :: b := h.subset List.mem_cons_self
      have h2 : y ∈ x :: a := h.symm.subset List.mem_cons_self
      rcases List.mem_cons.mp h1 with e | h1
      · exact e
      · rcases List.mem_cons.mp h2 with e | h2
        · exact e.symm
        · have := pa.1 y h2
          have := pb.1 x h1
          omega
    subst e
    rw [sorted_same (List.Perm.cons_inv h) pa.2 pb.2]
theorem world_few {K : PySem.W.Frag} {CL CS CW W : Addr} {H : Hp} {ps : List (Addr × Cm)} (hW : IsWorld K CL CS CW H W ps) : ps.length ≤ 25 := by
  obtain ⟨dx, S, Tb, Lv, h1, h2, h3, _, _, w0⟩ := hW
  have := w0.few
  rw [List.length_map] at this
  exact this
abbrev tWL (K : PySem.W.Frag) (CL CS CW CN : Addr) (m : Str) (f : Cm → List V) (i j : Nat) : TE := tMeth CW m (spWList K CL CS CW CN f) [] (fun _ _ _ => False) (tVar i) (tCons (tVar j) tNil)
section
variable {K : PySem.W.Frag} {CL CS CW CN W : Addr} {H : Hp} {ps : List (Addr × Cm)} {σ : L2.St} {i j n e z : Nat} {m : Str} {f : Cm → List V}
theorem in_read {l : List Nat} {Q : Bool → Hp → Prop} (hW : IsWorld K CL CS CW H W ps) (off : OffW m) (he : σ[e]? = some (some (natV z))) (hi : σ[i]? = some (some (.ref W))) (hj : σ[j]? = some (some (.int (n : Nat)))) (hn : n < ps.length)
    (hf : ∀ c, (ps.map (·.2))[n]? = some c → f c = natsV l) (k : ∀ G', Same H G' → Q (decide (z ∈ l)) G') : tTest (tOp (rIn K false) (tVar e) (tWL K CL CS CW CN m f i j)) σ H Q := by
  refine ⟨_, he, wl_read hW off hi hj hn fun c hc p np => ?_⟩
  rw [hf c hc]
  refine ⟨p, _, rfl, .inl (SqL.of upd_same), rfl, flat_nats _, _, rfl, ?_⟩
  have e := inV_nats (z := z) l
  show Q (if false = true then !inV (natV z) (natsV l) else inV (natV z) (natsV l)) _
  rw [if_neg Bool.false_ne_true, show inV (natV z) (natsV l) = decide (z ∈ l) from e]
  exact k _ (same_new np)
end
section
variable {P : Program} {w : World} {K : PySem.W.Frag} {mg : Str → Option Value} {base : Heap} {CL CS CW CN : Addr}
end
end Lw

set_option autoImplicit true
/-! Coming round by the lists. -/
set_option autoImplicit false
namespace Mg
def Edge (ls : List (List Int)) (x y : Int) : Prop := ∃ l ∈ ls, Ahead l x y
inductive Reach (ls : List (List Int)) : Int → Int → Prop
  | one {x y : Int} : Edge ls x y → Reach ls x y
  | step {x y z : Int} : Reach ls x y → Edge ls y z → Reach ls x z
def Round (ls : List (List Int)) : Prop := ∃ x, Reach ls x x
theorem idx_lt {x y : Int} : ∀ {L : List Int}, L.Nodup → [x, y].Sublist L → L.idxOf x < L.idxOf y
  | [], _, h => nomatch h
  | a :: L, nd, h => by
    have nd := List.nodup_cons.mp nd
    cases h with
    | cons _ h =>
      have hx : x ∈ L := h.subset List.mem_cons_self
      have hy : y ∈ L := h.subset (List.mem_cons_of_mem _ List.mem_cons_self)
      have ex : ¬ a = x := fun e => nd.1 (by rw [e]; exact hx)
      have ey : ¬ a = y := fun e => nd.1 (by rw [e]; exact hy)
      have ih := idx_lt nd.2 h
      rw [List.idxOf_cons, List.idxOf_cons, beq_eq_false_iff_ne.mpr ex, beq_eq_false_iff_ne.mpr ey]
      simp only [cond_false]
      omega
    | cons_cons _ h =>
      have hy : y ∈ L := h.subset List.mem_cons_self
      have ey : ¬ x = y := fun e => nd.1 (by rw [e]; exact hy)
      rw [List.idxOf_cons, List.idxOf_cons, beq_self_eq_true, beq_eq_false_iff_ne.mpr ey]
      simp only [cond_true, cond_false]
      omega
theorem Ahead.sub {l : List Int} {a b : Int} (h : Ahead l a b) : [a, b].Sublist l := by
  obtain ⟨u, v, rfl, hb⟩ := h
  exact ((List.singleton_sublist.mpr hb).cons_cons a).trans (List.sublist_append_right _ _)
theorem no_round {ls : List (List Int)} {s : List Int × List (List Int)} (o : Ok ls s) (e : ∀ r ∈ s.2, r = []) : ¬ Round ls := by
  rintro ⟨x, hx⟩
  have lt : ∀ {a b : Int}, Edge ls a b → s.1.idxOf a < s.1.idxOf b := fun {a b} ⟨l, hl, h⟩ => by
    refine idx_lt o.nd (h.sub.trans ?_)
    have q := end_inside o e hl
    have := List.filter_sublist (l := s.1) (p := fun y => l.contains y)
    rw [q] at this
    exact this
  have all : ∀ {a b : Int}, Reach ls a b → s.1.idxOf a < s.1.idxOf b := fun {a b} h => by
    induction h with
    | one h => exact lt h
    | step _ h ih => exact Nat.lt_trans ih (lt h)
  exact Nat.lt_irrefl _ (all hx)
theorem ring_round {ls : List (List Int)} {ring : List (Int × Nat)} (r : IsRing ls ring) : Round ls := by
  have two := r.two
  obtain ⟨a0, i0, b0, j0, l0, e1, e2, e3, e4⟩ := r.link 0 (by omega)
  refine ⟨a0, ?_⟩
  have all : ∀ k, k + 1 < ring.length → ∃ a i, ring[k + 1]? = some (a, i) ∧ Reach ls a0 a := fun k => by
    induction k with
    | zero =>
      intro hk
      rw [Nat.mod_eq_of_lt hk] at e2
      exact ⟨b0, j0, e2, .one ⟨l0, List.mem_of_getElem? e3, e4⟩⟩
    | succ k ih =>
      intro hk
      obtain ⟨a, i, h, ra⟩ := ih (by omega)
      obtain ⟨a1, i1, b1, j1, l1, f1, f2, f3, f4⟩ := r.link (k + 1) (by omega)
      rw [h] at f1
      have f1 := Option.some.inj f1
      rw [Nat.mod_eq_of_lt hk] at f2
      refine ⟨b1, j1, f2, .step ra ⟨l1, List.mem_of_getElem? f3, ?_⟩⟩
      have : a = a1 := congrArg Prod.fst f1
      rw [this]
      exact f4
  obtain ⟨k, ek⟩ : ∃ k, ring.length = k + 2 := ⟨ring.length - 2, by omega⟩
  obtain ⟨a, i, h, ra⟩ := all k (by omega)
  obtain ⟨a1, i1, b1, j1, l1, f1, f2, f3, f4⟩ := r.link (k + 1) (by omega)
  rw [h] at f1
  have f1 := Option.some.inj f1
  have md : (k + 1 + 1) % ring.length = 0 := by rw [ek]; exact Nat.mod_self _
  rw [md, e1] at f2
  have f2 := Option.some.inj f2
  have ea : a = a1 := congrArg Prod.fst f1
  have eb : a0 = b1 := congrArg Prod.fst f2
  refine .step ra ⟨l1, List.mem_of_getElem? f3, ?_⟩
  rw [ea, eb]
  exact f4
/-- the items behind y -/
def beh (y : Int) : List Int → List Int
  | [] => []
  | x :: l => if x = y then l else beh y l
theorem beh_none {y : Int} : ∀ {l : List Int}, y ∉ l → beh y l = []
  | [], _ => rfl
  | x :: l, h => by
    unfold beh
    rw [if_neg (fun e => h (by rw [e]; exact List.mem_cons_self))]
    exact beh_none fun k => h (List.mem_cons_of_mem _ k)
theorem beh_at {y : Int} : ∀ {l : List Int} {k : Nat}, l.Nodup → l[k]? = some y → beh y l = l.drop (k + 1)
  | [], k, _, h => by simp at h
  | x :: l, 0, _, h => by
    have e : x = y := Option.some.inj h
    unfold beh
    rw [if_pos e]
    rfl
  | x :: l, k + 1, nd, h => by
    have nd := List.nodup_cons.mp nd
    have h : l[k]? = some y := h
    unfold beh
    rw [if_neg (fun e => nd.1 (by rw [e]; exact List.mem_of_getElem? h))]
    exact beh_at nd.2 h
theorem beh_sub {y : Int} : ∀ (l : List Int), (beh y l).Sublist l
  | [] => List.Sublist.refl _
  | x :: l => by
    unfold beh
    split
    · exact List.sublist_cons_self _ _
    · exact (beh_sub l).cons x
theorem mem_beh {y z : Int} : ∀ {l : List Int}, l.Nodup → (z ∈ beh y l ↔ Ahead l y z)
  | [], _ => ⟨(fun h => nomatch h), fun ⟨u, v, h, _⟩ => by simp at h⟩
  | x :: l, nd => by
    have nd' := List.nodup_cons.mp nd
    unfold beh
    split
    · next e =>
      subst e
      refine ⟨fun h => ⟨[], l, rfl, h⟩, fun ⟨u, v, h, hz⟩ => ?_⟩
      cases u with
      | nil => injection h with _ h; rw [h]; exact hz
      | cons a u =>
        injection h with h1 h2
        exact absurd (by rw [h2]; simp) nd'.1
    · next e =>
      rw [mem_beh nd'.2]
      refine ⟨fun ⟨u, v, h, hz⟩ => ⟨x :: u, v, by rw [h]; rfl, hz⟩, fun ⟨u, v, h, hz⟩ => ?_⟩
      cases u with
      | nil => injection h with h _; exact absurd h e
      | cons a u =>
        injection h with h1 h2
        exact ⟨u, v, h2, hz⟩
def behs (ls : List (List Int)) (y : Int) : List Int := (ls.map (beh y)).flatten
theorem mem_behs {ls : List (List Int)} (nd : ∀ l ∈ ls, l.Nodup) {y z : Int} : z ∈ behs ls y ↔ Edge ls y z := by
  unfold behs Edge
  rw [List.mem_flatten]
  refine ⟨fun ⟨b, hb, hz⟩ => ?_, fun ⟨l, hl, h⟩ => ⟨beh y l, List.mem_map.mpr ⟨l, hl, rfl⟩, (mem_beh (nd l hl)).mpr h⟩⟩
  obtain ⟨l, hl, rfl⟩ := List.mem_map.mp hb
  exact ⟨l, hl, (mem_beh (nd l hl)).mp hz⟩
theorem behs_len {B : Nat} (y : Int) : ∀ {ls : List (List Int)}, (∀ l ∈ ls, l.length ≤ B) → (behs ls y).length ≤ B * ls.length
  | [], _ => Nat.zero_le _
  | l :: ls, h => by
    have a := (beh_sub (y := y) l).length_le
    have b := h l List.mem_cons_self
    have c := behs_len y fun x hx => h x (List.mem_cons_of_mem l hx)
    have e : behs (l :: ls) y = beh y l ++ behs ls y := rfl
    rw [e, List.length_append, List.length_cons, Nat.mul_succ]
    omega
theorem behs_append (a b : List (List Int)) (y : Int) : behs (a ++ b) y = behs a y ++ behs b y := by
  unfold behs
  rw [List.map_append, List.flatten_append]
theorem mem_behs_in {ls : List (List Int)} {y z : Int} (h : z ∈ behs ls y) : ∃ l ∈ ls, z ∈ l := by
  obtain ⟨b, hb, hz⟩ := List.mem_flatten.mp h
  obtain ⟨l, hl, rfl⟩ := List.mem_map.mp hb
  exact ⟨l, hl, (beh_sub l).subset hz⟩
theorem closed_reach {ls : List (List Int)} (nd : ∀ l ∈ ls, l.Nodup) {x : Int} {fs : List Int} (h0 : ∀ z ∈ behs ls x, z ∈ fs) (hc : ∀ y ∈ fs, ∀ z ∈ behs ls y, z ∈ fs) {z : Int} (h : Reach ls x z) : z ∈ fs := by
  induction h with
  | one h => exact h0 _ ((mem_behs nd).mpr h)
  | step _ h ih => exact hc _ ih _ ((mem_behs nd).mpr h)
theorem reach_in {ls : List (List Int)} {x y : Int} (h : Reach ls x y) : ∃ l ∈ ls, x ∈ l := by
  induction h with
  | one h => obtain ⟨l, hl, u, v, rfl, _⟩ := h; exact ⟨_, hl, by simp⟩
  | step _ _ ih => exact ih
end Mg

set_option autoImplicit true
set_option Elab.async false
set_option linter.all false
set_option maxRecDepth 100000
set_option maxHeartbeats 1000000
/-! k91: what makes a class impossible, by sets. -/
namespace Pr
open PySem L2 Two ClX SlX
theorem acc_irr {α : Type} {r : α → α → Prop} {x : α} (h : Acc r x) : ¬ r x x := by
  induction h with
  | intro x _ ih => exact fun hx => ih x hx hx
theorem MergedTo.unique {ls : List (List Int)} {a b : List Nat} (h : MergedTo ls a) (h' : MergedTo ls b) : a = b := by
  obtain ⟨n, e, f⟩ := h
  obtain ⟨m, e', f'⟩ := h'
  have := Mg.final_unique (Mg.firstFree_of_empty e) (Mg.firstFree_of_empty e')
  rw [this, f'] at f
  exact (intsN_inj f).symm
theorem Above.unique {ms : List Cm} {ns a b : List Nat} (h : Above ms ns a) (h' : Above ms ns b) : a = b := by
  rcases h with ⟨e, f⟩ | ⟨i, z, hz, ea, la⟩
  · rcases h' with ⟨e', f'⟩ | ⟨j, y, hy, _⟩
    · rw [f, f']
    · rw [e] at hy; simp at hy
  · rcases h' with ⟨e', f'⟩ | ⟨j, y, hy, eb, lb⟩
    · rw [e'] at hz; simp at hz
    · rcases Nat.lt_trichotomy i j with q | q | q
      · have h1 := (lb i z hz).2 q
        have h2 := (la j y hy).1
        rw [← ea] at h1
        rw [← eb] at h2
        omega
      · rw [q, hy] at hz
        cases hz
        rw [ea, eb]
      · have h1 := (la j y hy).2 q
        have h2 := (lb i z hz).1
        rw [← eb] at h1
        rw [← ea] at h2
        omega
/-- a row: bases, fields, the room -/
abbrev RowN := List Nat × List Str × Bool
/-- the classes that these rows make -/
inductive By : List RowN → List Cm → Prop
  | first {mg : List Nat} : MergedTo (ordLs [] []) mg → By [] [newCm [] 0 [] [] false [] mg]
  | more {rows : List RowN} {ms : List Cm} {ns above mg : List Nat} {gs : List Str} {r : Bool} : By rows ms → ms.length < 25 → ns ≠ [] → ns.Nodup → ns.length ≤ 5 → (∀ n ∈ ns, n < ms.length) → gs.Nodup → gs.length ≤ 6 → (∀ z ∈ gs, isName z = true) →
      colOf ms ns = none → MergedTo (ordLs ms ns) mg → Above ms ns above → (r = true → ∀ z ∈ ns, roomAt ms z = false) → By (rows ++ [(ns, gs, r)]) (ms ++ [newCm ms ms.length ns gs r above mg])
theorem By.grown {rows : List RowN} {ms : List Cm} (b : By rows ms) : Grown ms := by
  induction b with
  | first h => exact .first h
  | more _ h1 h2 h3 h4 h5 h6 h7 h8 h9 h10 h11 h12 ih => exact .more ih h1 h2 h3 h4 h5 h6 h7 h8 h9 h10 h11 h12
theorem By.len {rows : List RowN} {ms : List Cm} (b : By rows ms) : ms.length = rows.length + 1 := by
  induction b with
  | first h => rfl
  | more _ _ _ _ _ _ _ _ _ _ _ _ _ ih => rw [List.length_append, List.length_append, ih]; rfl
theorem By.unique {rows : List RowN} {a b : List Cm} (h : By rows a) : By rows b → a = b := by
  induction h generalizing b with
  | first m =>
    intro h'
    generalize er : ([] : List RowN) = rs at h'
    cases h' with
    | first m' => rw [m.unique m']
    | more => simp at er
  | @more rows ms ns above mg gs r h0 _ _ _ _ _ _ _ _ _ m ab _ ih =>
    intro h'
    generalize er : rows ++ [(ns, gs, r)] = rs at h'
    cases h' with
    | first m' => simp at er
    | @more rows2 ms2 ns2 above2 mg2 gs2 r2 h0' _ _ _ _ _ _ _ _ _ m' ab' _ =>
      obtain ⟨e1, e2⟩ := List.append_inj' er rfl
      cases e2
      subst e1
      have e3 := ih h0'
      subst e3
      rw [m.unique m', ab.unique ab']
/-- the row that stands at a place, and what it met -/
theorem By.at_ {rows : List RowN} {ms : List Cm} (b : By rows ms) : ∀ {j : Nat} {ns : List Nat} {gs : List Str} {r : Bool}, rows[j]? = some (ns, gs, r) → ∃ msj, By (rows.take j) msj ∧ msj.length < 25 ∧ ns ≠ [] ∧ ns.Nodup ∧ ns.length ≤ 5 ∧ (∀ n ∈ ns, n < msj.length) ∧ gs.Nodup ∧ gs.length ≤ 6 ∧ (∀ z ∈ gs, isName z = true) ∧
    colOf msj ns = none ∧ (∃ mg, MergedTo (ordLs msj ns) mg) ∧ (r = true → ∀ z ∈ ns, roomAt msj z = false) := by
  induction b with
  | first h => intro j ns gs r e; simp at e
  | @more rows ms ns above mg gs r h0 h1 h2 h3 h4 h5 h6 h7 h8 h9 h10 h11 h12 ih =>
    intro j ns' gs' r' e
    by_cases hj : j < rows.length
    · rw [List.getElem?_append_left hj] at e
      obtain ⟨msj, hb, q⟩ := ih e
      exact ⟨msj, by rw [List.take_append_of_le_length (Nat.le_of_lt hj)]; exact hb, q⟩
    · have hl := (List.getElem?_eq_some_iff.mp e).1
      rw [List.length_append, List.length_singleton] at hl
      obtain rfl : j = rows.length := by omega
      rw [List.getElem?_append_right (Nat.le_refl _), Nat.sub_self] at e
      cases e
      exact ⟨ms, by rw [List.take_left]; exact h0, h1, h2, h3, h4, h5, h6, h7, h8, h9, ⟨mg, h10⟩, h12⟩
/-! ### lines that do not meet -/
theorem colOf_some {ms : List Cm} : ∀ {ns : List Nat} {i j : Nat}, colOf ms ns = some (i, j) → i ∈ ns ∧ j ∈ ns ∧ apart (lineAt ms i) (lineAt ms j) = true
  | [], _, _, h => nomatch h
  | z :: ns, i, j, h => by
    unfold colOf at h
    cases hf : ns.find? (fun y => apart (lineAt ms z) (lineAt ms y)) with
    | some w =>
      rw [hf] at h
      cases h
      have h1 : apart (lineAt ms z) (lineAt ms j) = true := List.find?_some (p := fun y => apart (lineAt ms z) (lineAt ms y)) hf
      exact ⟨List.mem_cons_self, List.mem_cons_of_mem _ (List.mem_of_find?_eq_some hf), h1⟩
    | none =>
      rw [hf] at h
      obtain ⟨a, b, c⟩ := colOf_some (ns := ns) h
      exact ⟨List.mem_cons_of_mem _ a, List.mem_cons_of_mem _ b, c⟩
/-- two classes of which neither is above the other -/
def Odd2 (ms : List Cm) (x y : Nat) : Prop := x ∉ orderAt ms y ∧ y ∉ orderAt ms x
section
variable {ms : List Cm}
theorem odd_none (g : Grown ms) {ns : List Nat} (ne : ns ≠ []) (lt : ∀ n ∈ ns, n < ms.length) (hcol : colOf ms ns = none) {x y b c : Nat} (hb : b ∈ ns) (hx : x ∈ orderAt ms b) (fx : fieldsAt ms x ≠ []) (hc : c ∈ ns) (hy : y ∈ orderAt ms c) (fy : fieldsAt ms y ≠ []) : ¬ Odd2 ms x y := by
  have W := g.world0
  have big : ∃ i z : Nat, ns[i]? = some z ∧ ∀ j y : Nat, ns[j]? = some y → (lineAt ms y).length ≤ (lineAt ms z).length := by
    clear hcol hb hc hx hy
    induction ns with
    | nil => exact absurd rfl ne
    | cons a ns ih =>
      by_cases e : ns = []
      · subst e
        refine ⟨0, a, rfl, fun j y hy => ?_⟩
        cases j with
        | zero => cases hy; exact Nat.le_refl _
        | succ j => simp at hy
      · obtain ⟨i, z, hz, long⟩ := ih e fun n hn => lt n (List.mem_cons_of_mem _ hn)
        by_cases q : (lineAt ms a).length ≤ (lineAt ms z).length
        · refine ⟨i + 1, z, hz, fun j y hy => ?_⟩
          cases j with
          | zero => cases hy; exact q
          | succ j => exact long j y hy
        · refine ⟨0, a, rfl, fun j y hy => ?_⟩
          cases j with
          | zero => cases hy; exact Nat.le_refl _
          | succ j => have := long j y hy; omega
  obtain ⟨i, z, hz, long⟩ := big
  have all := line_all W lt hcol hz rfl long
  have at_ : ∀ {x b : Nat}, b ∈ ns → x ∈ orderAt ms b → fieldsAt ms x ≠ [] → x ∈ lineAt ms z ∧ x ∈ lineAt ms x := fun {x b} hb hx fx => by
    obtain ⟨m, e, k, eo, _⟩ := g.at_ (lt b hb)
    refine ⟨all b hb x ?_, ?_⟩
    · rw [(World0.at_ e).1]
      exact (k.line x).mpr ⟨by rw [← eo]; exact hx, .inl fx⟩
    · rw [eo] at hx
      have xl : x < ms.length := Nat.lt_of_le_of_lt (k.le x hx) (lt b hb)
      obtain ⟨mx, ex, kx, eox, _⟩ := g.at_ xl
      rw [(World0.at_ ex).1]
      exact (kx.line x).mpr ⟨by rw [← eox]; exact g.self xl, .inl fx⟩
  have sub : ∀ {x : Nat}, x < ms.length → ∀ y ∈ lineAt ms x, y ∈ orderAt ms x := fun {x} hx y hy => by
    obtain ⟨m, e, k, eo, _⟩ := g.at_ hx
    rw [(World0.at_ e).1] at hy
    rw [eo]
    exact ((k.line y).mp hy).1
  obtain ⟨x1, x2⟩ := at_ hb hx fx
  obtain ⟨y1, y2⟩ := at_ hc hy fy
  have zl := lt z (List.mem_of_getElem? hz)
  have le : ∀ {x : Nat}, x ∈ lineAt ms z → x < ms.length := fun {x} h => by
    obtain ⟨m, e, k, eo, _⟩ := g.at_ zl
    have := sub zl x h
    rw [eo] at this
    exact Nat.lt_of_le_of_lt (k.le x this) zl
  have sx := line_suffix W z zl x x1
  have sy := line_suffix W z zl y y1
  rintro ⟨o1, o2⟩
  rcases List.suffix_or_suffix_of_suffix sx sy with h | h
  · exact o1 (sub (le y1) x (h.subset x2))
  · exact o2 (sub (le x1) y (h.subset y2))
theorem odd_some (g : Grown ms) {ns : List Nat} (lt : ∀ n ∈ ns, n < ms.length) {i j : Nat} (h : colOf ms ns = some (i, j)) : ∃ x y, x ∈ orderAt ms i ∧ y ∈ orderAt ms j ∧ i ∈ ns ∧ j ∈ ns ∧ fieldsAt ms x ≠ [] ∧ fieldsAt ms y ≠ [] ∧ Odd2 ms x y := by
  have W := g.world0
  obtain ⟨hi, hj, ap⟩ := colOf_some h
  obtain ⟨mi, ei, ki, eoi, _⟩ := g.at_ (lt i hi)
  obtain ⟨mj, ej, kj, eoj, _⟩ := g.at_ (lt j hj)
  obtain ⟨x, x1, x2, x3, x4⟩ := W.own ei
  obtain ⟨y, y1, y2, y3, y4⟩ := W.own ej
  rw [(World0.at_ ei).1, (World0.at_ ej).1] at ap
  unfold apart at ap
  rw [x1, y1] at ap
  rw [Bool.and_eq_true, decide_eq_true_iff, decide_eq_true_iff] at ap
  have xi : x ∈ mi.line := List.mem_of_getElem? x1
  have yj : y ∈ mj.line := List.mem_of_getElem? y1
  have xl : x < ms.length := Nat.lt_of_le_of_lt x2 (lt i hi)
  have yl : y < ms.length := Nat.lt_of_le_of_lt y2 (lt j hj)
  have zero : ∀ {i : Nat} {m : Cm}, ms[i]? = some m → 0 ∈ m.line := fun {i m} e => by
    obtain ⟨z, h1, h2, h3, h4⟩ := W.own e
    have il := (List.getElem?_eq_some_iff.mp e).1
    have := (W.down z (by omega) h4).1
    rw [h3] at this
    exact this
  have fx : fieldsAt ms x ≠ [] := by
    rcases ((ki.line x).mp xi).2 with q | q
    · exact q
    · exact absurd (q ▸ zero ej) ap.1
  have fy : fieldsAt ms y ≠ [] := by
    rcases ((kj.line y).mp yj).2 with q | q
    · exact q
    · exact absurd (q ▸ zero ei) ap.2
  refine ⟨x, y, by rw [eoi]; exact ki.lsub.subset xi, by rw [eoj]; exact kj.lsub.subset yj, hi, hj, fx, fy, fun q => ?_, fun q => ?_⟩
  · obtain ⟨my, ey, ky, eoy, _⟩ := g.at_ yl
    rw [eoy] at q
    have := (ky.line x).mpr ⟨q, .inl fx⟩
    rw [← (World0.at_ ey).1, y3] at this
    exact ap.1 this
  · obtain ⟨mx, ex, kx, eox, _⟩ := g.at_ xl
    rw [eox] at q
    have := (kx.line y).mpr ⟨q, .inl fy⟩
    rw [← (World0.at_ ex).1, x3] at this
    exact ap.2 this
end
/-! ### what stands next behind -/
/-- each item of a list with what stands next behind it -/
def evs : List Nat → List (Nat × List Nat)
  | [] => []
  | x :: l => (x, l.take 1) :: evs l
def nextOf (E : List (Nat × List Nat)) (x : Nat) : List Nat := ((E.filter fun p => decide (p.1 = x)).map (·.2)).flatten
theorem evs_len : ∀ l : List Nat, (evs l).length = l.length
  | [] => rfl
  | _ :: l => congrArg (· + 1) (evs_len l)
theorem evs_take : ∀ {l : List Nat} {k x : Nat}, l[k]? = some x → (evs l).take (k + 1) = (evs l).take k ++ [(x, (l.drop (k + 1)).take 1)]
  | [], _, _, h => by simp at h
  | a :: l, 0, x, h => by cases h; rfl
  | a :: l, k + 1, x, h => by
    show _ :: (evs l).take (k + 1) = _ :: ((evs l).take k ++ _)
    rw [evs_take (l := l) h]
    rfl
theorem evs_map : ∀ l : List Nat, (evs l).map (·.1) = l
  | [] => rfl
  | _ :: l => congrArg (_ :: ·) (evs_map l)
theorem nextOf_app {E F : List (Nat × List Nat)} {x : Nat} : nextOf (E ++ F) x = nextOf E x ++ nextOf F x := by
  unfold nextOf
  rw [List.filter_append, List.map_append, List.flatten_append]
theorem nextOf_one {x y : Nat} {t : List Nat} : nextOf [(y, t)] x = if y = x then t else [] := by
  unfold nextOf
  by_cases h : y = x
  · simp [h]
  · simp [h]
theorem nextOf_none {E : List (Nat × List Nat)} {x : Nat} (h : x ∉ E.map (·.1)) : nextOf E x = [] := by
  unfold nextOf
  rw [List.filter_eq_nil_iff.mpr fun p hp => by
    have : p.1 ≠ x := fun e => h (e ▸ List.mem_map.mpr ⟨p, hp, rfl⟩)
    simp [this]]
  rfl
theorem nextOf_le {E : List (Nat × List Nat)} (h : ∀ p ∈ E, p.2.length ≤ 1) (x : Nat) : (nextOf E x).length ≤ E.length := by
  induction E with
  | nil => exact Nat.le_refl _
  | cons p E ih =>
    have := ih fun q hq => h q (List.mem_cons_of_mem _ hq)
    have e : nextOf (p :: E) x = nextOf [p] x ++ nextOf E x := nextOf_app (E := [p])
    rw [e, List.length_append, List.length_cons]
    have : (nextOf [p] x).length ≤ 1 := by
      obtain ⟨y, t⟩ := p
      rw [nextOf_one]
      split
      · exact h _ List.mem_cons_self
      · exact Nat.zero_le _
    omega
theorem evs_short : ∀ (l : List Nat), ∀ p ∈ evs l, p.2.length ≤ 1
  | [], _, h => nomatch h
  | a :: l, p, h => by
    rcases List.mem_cons.mp h with rfl | h
    · exact List.length_take_le _ _
    · exact evs_short l p h
/-- all lists -/
def evsAll (ls : List (List Nat)) : List (Nat × List Nat) := (ls.map evs).flatten
theorem mem_nextOf {E : List (Nat × List Nat)} {x y : Nat} : y ∈ nextOf E x ↔ ∃ t, (x, t) ∈ E ∧ y ∈ t := by
  unfold nextOf
  rw [List.mem_flatten]
  refine ⟨fun ⟨t, ht, hy⟩ => ?_, fun ⟨t, ht, hy⟩ => ⟨t, List.mem_map.mpr ⟨(x, t), List.mem_filter.mpr ⟨ht, by simp⟩, rfl⟩, hy⟩⟩
  obtain ⟨p, hp, rfl⟩ := List.mem_map.mp ht
  obtain ⟨h1, h2⟩ := List.mem_filter.mp hp
  have : p.1 = x := by simpa using h2
  subst this
  exact ⟨p.2, h1, hy⟩
theorem evs_ahead : ∀ {l : List Nat} {x : Nat} {t : List Nat}, (x, t) ∈ evs l → ∀ y ∈ t, Mg.Ahead (intsN l) (x : Int) (y : Int)
  | [], _, _, h, _, _ => nomatch h
  | a :: l, x, t, h, y, hy => by
    rcases List.mem_cons.mp h with e | h
    · cases e
      exact ⟨[], intsN l, rfl, mem_intsN (List.take_subset _ _ hy)⟩
    · obtain ⟨u, v, e, hv⟩ := evs_ahead h y hy
      exact ⟨(a : Int) :: u, v, by show (a : Int) :: intsN l = _; rw [e]; rfl, hv⟩
theorem evs_mid : ∀ (u : List Nat) {x y : Nat} {v : List Nat}, (x, [y]) ∈ evs (u ++ x :: y :: v)
  | [], x, y, v => List.mem_cons_self
  | a :: u, x, y, v => List.mem_cons_of_mem _ (evs_mid u)
def NextR (E : List (Nat × List Nat)) (y x : Nat) : Prop := y ∈ nextOf E x
theorem evs_chain {E : List (Nat × List Nat)} {l : List Nat} (hE : ∀ p ∈ evs l, p ∈ E) {y : Nat} : ∀ (v u : List Nat) (x : Nat), l = u ++ x :: v → y ∈ v → Relation.TransGen (NextR E) y x
  | [], _, _, _, h => nomatch h
  | a :: v, u, x, e, h => by
    have ha : NextR E a x := mem_nextOf.mpr ⟨[a], hE _ (e ▸ evs_mid u), List.mem_singleton.mpr rfl⟩
    rcases List.mem_cons.mp h with rfl | h
    · exact .single ha
    · exact (evs_chain hE v (u ++ [x]) a (by rw [e]; simp) h).tail ha
theorem split_ints : ∀ {l : List Nat} {u v : List Int} {x : Int}, intsN l = u ++ x :: v → ∃ (u' v' : List Nat) (x' : Nat), l = u' ++ x' :: v' ∧ x = (x' : Int) ∧ v = intsN v'
  | [], u, v, x, h => by cases u <;> cases h
  | a :: l, [], v, x, h => by
    obtain ⟨h1, h2⟩ := List.cons.inj (show (a : Int) :: intsN l = x :: v from h)
    exact ⟨[], l, a, rfl, h1.symm, h2.symm⟩
  | a :: l, b :: u, v, x, h => by
    obtain ⟨h1, h2⟩ := List.cons.inj (show (a : Int) :: intsN l = b :: (u ++ x :: v) from h)
    obtain ⟨u', v', x', e1, e2, e3⟩ := split_ints (l := l) h2
    exact ⟨a :: u', v', x', by rw [e1]; rfl, e2, e3⟩
section
variable {ls : List (List Nat)}
theorem edge_next {x y : Nat} (h : y ∈ nextOf (evsAll ls) x) : Mg.Edge (ls.map intsN) (x : Int) (y : Int) := by
  obtain ⟨t, ht, hy⟩ := mem_nextOf.mp h
  obtain ⟨e, he, ht⟩ := List.mem_flatten.mp ht
  obtain ⟨l, hl, rfl⟩ := List.mem_map.mp he
  exact ⟨intsN l, List.mem_map.mpr ⟨l, hl, rfl⟩, evs_ahead ht y hy⟩
theorem edge_chain {a b : Int} (h : Mg.Edge (ls.map intsN) a b) : ∃ x y : Nat, a = (x : Int) ∧ b = (y : Int) ∧ Relation.TransGen (NextR (evsAll ls)) y x := by
  obtain ⟨l', hl', u, v, e, hb⟩ := h
  obtain ⟨l, hl, rfl⟩ := List.mem_map.mp hl'
  obtain ⟨u', v', x, e1, e2, e3⟩ := split_ints e
  rw [e3] at hb
  obtain ⟨y, hy, rfl⟩ := List.mem_map.mp hb
  exact ⟨x, y, e2, rfl, evs_chain (fun p hp => List.mem_flatten.mpr ⟨_, List.mem_map.mpr ⟨l, hl, rfl⟩, hp⟩) v' u' x e1 hy⟩
theorem reach_chain {a b : Int} (h : Mg.Reach (ls.map intsN) a b) : ∃ x y : Nat, a = (x : Int) ∧ b = (y : Int) ∧ Relation.TransGen (NextR (evsAll ls)) y x := by
  induction h with
  | one h => exact edge_chain h
  | step _ h ih =>
    obtain ⟨x, y, ea, eb, t⟩ := ih
    obtain ⟨y', z, eb', ec, t'⟩ := edge_chain h
    have : y = y' := Int.ofNat_inj.mp (eb.symm.trans eb')
    subst this
    exact ⟨x, z, ea, ec, t'.trans t⟩
/-- what has nothing left behind it -/
def freeN (E : List (Nat × List Nat)) (left : List Nat) : List Nat := left.filter fun c => decide (((nextOf E c).filter fun d => decide (d ∈ left)) = [])
/-- the walk: what was taken away stands in no ring -/
structure Left (E : List (Nat × List Nat)) (left : List Nat) : Prop where
  sub : ∀ c ∈ left, c ∈ E.map (·.1)
  acc : ∀ c ∈ E.map (·.1), c ∉ left → Acc (NextR E) c
theorem Left.step {E : List (Nat × List Nat)} {left : List Nat} (h : Left E left) (cl : ∀ p ∈ E, ∀ y ∈ p.2, y ∈ E.map (·.1)) : Left E (left.filter fun c => decide (c ∉ freeN E left)) := by
  refine ⟨fun c hc => h.sub c (List.mem_filter.mp hc).1, fun c hc hn => ?_⟩
  by_cases q : c ∈ left
  · have hf : c ∈ freeN E left := by
      refine Classical.byContradiction fun n => hn (List.mem_filter.mpr ⟨q, by simpa using n⟩)
    have hf2 : ((nextOf E c).filter fun d => decide (d ∈ left)) = [] := by simpa using (List.mem_filter.mp hf).2
    refine ⟨c, fun y hy => ?_⟩
    have hy2 : y ∈ nextOf E c := hy
    obtain ⟨t, ht, hyt⟩ := mem_nextOf.mp hy2
    refine h.acc y (cl _ ht y hyt) fun hl => ?_
    have : y ∈ (nextOf E c).filter fun d => decide (d ∈ left) := List.mem_filter.mpr ⟨hy2, by simpa using hl⟩
    rw [hf2] at this
    cases this
  · exact h.acc c hc q
theorem evs_items {ls : List (List Nat)} {x : Nat} : x ∈ (evsAll ls).map (·.1) ↔ ∃ l ∈ ls, x ∈ l := by
  unfold evsAll
  rw [List.map_flatten, List.map_map]
  have e : (ls.map ((List.map fun x => x.1) ∘ evs)) = ls := by
    conv => rhs; rw [← List.map_id ls]
    exact List.map_congr_left fun l _ => evs_map l
  rw [e, List.mem_flatten]
theorem evs_in : ∀ {l : List Nat} {p : Nat × List Nat}, p ∈ evs l → ∀ y ∈ p.2, y ∈ l
  | [], _, h, _, _ => nomatch h
  | a :: l, p, h, y, hy => by
    rcases List.mem_cons.mp h with rfl | h
    · exact List.mem_cons_of_mem _ (List.take_subset _ _ hy)
    · exact List.mem_cons_of_mem _ (evs_in h y hy)
theorem evs_closed : ∀ p ∈ evsAll ls, ∀ y ∈ p.2, y ∈ (evsAll ls).map (·.1) := fun p hp y hy => by
  obtain ⟨e, he, hp⟩ := List.mem_flatten.mp hp
  obtain ⟨l, hl, rfl⟩ := List.mem_map.mp he
  exact evs_items.mpr ⟨l, hl, evs_in hp y hy⟩
theorem Left.round {left : List Nat} (h : Left (evsAll ls) left) (r : Mg.Round (ls.map intsN)) : left ≠ [] := by
  obtain ⟨a, ha⟩ := r
  obtain ⟨x, y, e1, e2, t⟩ := reach_chain ha
  have : x = y := Int.ofNat_inj.mp (e1.symm.trans e2)
  subst this
  intro e
  subst e
  have hx : x ∈ (evsAll ls).map (·.1) := by
    obtain ⟨l', hl', hx⟩ := Mg.reach_in ha
    obtain ⟨l, hl, rfl⟩ := List.mem_map.mp hl'
    rw [e1] at hx
    exact evs_items.mpr ⟨l, hl, mem_ints hx⟩
  exact acc_irr (h.acc x hx List.not_mem_nil).transGen t
theorem edge_lt {ks : List (List Int)} {s : List Int × List (List Int)} (o : Mg.Ok ks s) (e : ∀ r ∈ s.2, r = []) {a b : Int} (h : Mg.Edge ks a b) : s.1.idxOf a < s.1.idxOf b := by
  obtain ⟨l, hl, h⟩ := h
  refine Mg.idx_lt o.nd (h.sub.trans ?_)
  have q := Mg.end_inside o e hl
  have := List.filter_sublist (l := s.1) (p := fun y => l.contains y)
  rw [q] at this
  exact this
theorem left_merged {left mg : List Nat} (nd : ∀ l ∈ ls.map intsN, l.Nodup) (m : MergedTo (ls.map intsN) mg) (hf : freeN (evsAll ls) left = []) : left = [] := by
  obtain ⟨n, e, _⟩ := m
  have o := Mg.ok_st nd n
  have all : ∀ k c, (Mg.st (ls.map intsN) n).1.length + 1 - (Mg.st (ls.map intsN) n).1.idxOf ((c : Nat) : Int) ≤ k → c ∉ left := by
    intro k
    induction k with
    | zero =>
      intro c hk
      have := List.idxOf_le_length (a := (c : Int)) (l := (Mg.st (ls.map intsN) n).1)
      omega
    | succ k ih =>
      intro c hk hc
      have h1 : c ∉ freeN (evsAll ls) left := by rw [hf]; exact List.not_mem_nil
      have h2 : ((nextOf (evsAll ls) c).filter fun d => decide (d ∈ left)) ≠ [] := fun q => h1 (List.mem_filter.mpr ⟨hc, by simpa using q⟩)
      obtain ⟨d, hd⟩ := List.exists_mem_of_ne_nil _ h2
      obtain ⟨hd1, hd2⟩ := List.mem_filter.mp hd
      have := edge_lt o e (edge_next hd1)
      have := List.idxOf_le_length (a := (d : Int)) (l := (Mg.st (ls.map intsN) n).1)
      exact ih d (by omega) (by simpa using hd2)
  refine List.eq_nil_iff_forall_not_mem.mpr fun c => all _ c (Nat.le_refl _)
end
end Pr

set_option autoImplicit true
set_option Elab.async false
set_option linter.all false
set_option maxRecDepth 100000
set_option maxHeartbeats 1000000
/-! k91: _law_rows. -/
namespace Lw
open PySem L2 Two Pr ClX SlX
abbrev sRows : Stmt := top 68
abbrev nRows : List Str := ["_law_well_here", "_law_world", "_law_rows_here", "_law_turn", "_law_row"]
theorem scRows : FnScope nRows ["_law_well_here"] (defScope sRows) := ⟨rfl, rfl, rfl, by decide +kernel, rfl, by decide +kernel, by decide +kernel⟩
/-- the tuple of a row, its lists among S -/
def RowAt (S : Addr → Prop) (l R : Addr) (H : Hp) (t : Addr) (row : RowN) : Prop := ∃ b f, H t = some (.tup [.ref b, .ref f, .bl row.2.2]) ∧ t ≠ l ∧ t ≠ R ∧ b ≠ l ∧ f ≠ l ∧ b ≠ R ∧ f ≠ R ∧ S b ∧ S f ∧ H b = some (.lst (natsV row.1)) ∧ H f = some (.lst (row.2.1.map V.str))
structure RowsAt (S : Addr → Prop) (l : Addr) (H : Hp) (R : Addr) (ts : List Addr) (rows : List RowN) : Prop where
  Rl : R ≠ l
  e : H R = some (.lst (ts.map V.ref))
  len : ts.length = rows.length
  at_ : ∀ (j : Nat) (t : Addr) (row : RowN), ts[j]? = some t → rows[j]? = some row → RowAt S l R H t row
section
variable {S S' : Addr → Prop} {l R : Addr} {H H' : Hp} {ts : List Addr} {rows : List RowN}
theorem RowAt.imp {t : Addr} {row : RowN} (h : RowAt S l R H t row) (i : ∀ b, S b → S' b) : RowAt S' l R H t row :=
  let ⟨x, y, e, n1, n2, n3, n4, n5, n6, s1, s2, eb, ef⟩ := h; ⟨x, y, e, n1, n2, n3, n4, n5, n6, i _ s1, i _ s2, eb, ef⟩
theorem RowAt.but {t : Addr} {row : RowN} (h : RowAt S l R H t row) (b : But (· = l) H H') : RowAt S l R H' t row :=
  let ⟨x, y, e, n1, n2, n3, n4, n5, n6, s1, s2, eb, ef⟩ := h; ⟨x, y, b _ _ n1 e, n1, n2, n3, n4, n5, n6, s1, s2, b _ _ n3 eb, b _ _ n4 ef⟩
/-- what changes are lists that the row's are not among -/
theorem RowAt.kk {t : Addr} {row : RowN} (h : RowAt S l R H t row) (k : ∀ b o, H b = some o → (S b ∨ ∀ xs, o ≠ .lst xs) → H' b = some o) : RowAt S l R H' t row :=
  let ⟨x, y, e, n1, n2, n3, n4, n5, n6, s1, s2, eb, ef⟩ := h; ⟨x, y, k _ _ e (.inr fun _ z => nomatch z), n1, n2, n3, n4, n5, n6, s1, s2, k _ _ eb (.inl s1), k _ _ ef (.inl s2)⟩
theorem RowsAt.imp (h : RowsAt S l H R ts rows) (i : ∀ b, S b → S' b) : RowsAt S' l H R ts rows := ⟨h.Rl, h.e, h.len, fun j t row a c => (h.at_ j t row a c).imp i⟩
theorem RowsAt.but (h : RowsAt S l H R ts rows) (b : But (· = l) H H') : RowsAt S l H' R ts rows := ⟨h.Rl, b _ _ h.Rl h.e, h.len, fun j t row a c => (h.at_ j t row a c).but b⟩
theorem RowsAt.kk (h : RowsAt S l H R ts rows) (hR : S R) (k : ∀ b o, H b = some o → (S b ∨ ∀ xs, o ≠ .lst xs) → H' b = some o) : RowsAt S l H' R ts rows := ⟨h.Rl, k _ _ h.e (.inl hR), h.len, fun j t row a c => (h.at_ j t row a c).kk k⟩
theorem RowsAt.put {t : Addr} {row : RowN} (h : RowsAt S l H R ts rows) (r : RowAt S l R H t row) : RowsAt S l (upd H R (.lst (ts.map V.ref ++ [.ref t]))) R (ts ++ [t]) (rows ++ [row]) := by
  have keep2 : ∀ {u : Addr} {row : RowN}, RowAt S l R H u row → RowAt S l R (upd H R (.lst (ts.map V.ref ++ [.ref t]))) u row := fun ⟨x, y, e, n1, n2, n3, n4, n5, n6, s1, s2, eb, ef⟩ =>
    ⟨x, y, by rw [upd_ne n2]; exact e, n1, n2, n3, n4, n5, n6, s1, s2, by rw [upd_ne n5]; exact eb, by rw [upd_ne n6]; exact ef⟩
  refine ⟨h.Rl, by rw [upd_same, List.map_append]; rfl, by rw [List.length_append, List.length_append, h.len]; rfl, fun j u row2 a c => keep2 ?_⟩
  by_cases q : j < ts.length
  · rw [List.getElem?_append_left q] at a
    rw [List.getElem?_append_left (h.len ▸ q)] at c
    exact h.at_ j u row2 a c
  · have := (List.getElem?_eq_some_iff.mp a).1
    rw [List.length_append, List.length_singleton] at this
    obtain rfl : j = ts.length := by omega
    rw [List.getElem?_append_right (Nat.le_refl _), Nat.sub_self] at a
    rw [h.len, List.getElem?_append_right (Nat.le_refl _), Nat.sub_self] at c
    cases a
    cases c
    exact r
end
theorem _root_.Pr.WorldAt.apart {K : PySem.W.Frag} {CL CS CW q : Addr} {L : Addr → Prop} {H : Hp} {W dx S Tb Lv : Addr} {ps : List (Addr × Cm)} (w : WorldAt K CL CS CW L H W dx S Tb Lv ps) (n : H q = none) : WorldAt K CL CS CW (fun b => L b ∧ b ≠ q) H W dx S Tb Lv ps := by
  obtain ⟨tbs, h4, h5⟩ := w.t
  obtain ⟨lvs, h6, h7⟩ := w.v
  exact ⟨w.w, w.s, w.sh, ⟨tbs, h4, h5⟩, ⟨lvs, h6, h7⟩, w.w0, ⟨w.lS, fun z => by have := w.s; rw [z, n] at this; cases this⟩, ⟨w.lT, fun z => by rw [z, n] at h4; cases h4⟩, ⟨w.lV, fun z => by rw [z, n] at h6; cases h6⟩, w.ne, fun p hp => (ShL.apart (w.sh p hp) (w.sl p hp) n).imp fun b h => ⟨⟨h.1.1, h.2⟩, h.1.2⟩⟩
/-- a world and the rows that made it; the lists X are not the world's -/
structure RI (K : PySem.W.Frag) (CL CS CW : Addr) (l W R : Addr) (H : Hp) (n : Nat) (X ts : List Addr) (rows : List RowN) (ps : List (Addr × Cm)) (G : Hp) : Prop where
  but : But (· = l) H G
  src : Src G l n
  nR : H R = none
  RX : R ∈ X
  liv : ∀ x ∈ X, G x ≠ none
  at_ : ∃ dx S Tb Lv, WorldAt K CL CS CW (fun b => H b = none ∧ b ∉ X) G W dx S Tb Lv ps
  by_ : By rows (ps.map (·.2))
  rs : RowsAt (· ∈ X) l G R ts rows
section
variable {K : PySem.W.Frag} {CL CS CW l W R : Addr} {H G G' : Hp} {n : Nat} {X ts : List Addr} {rows : List RowN} {ps : List (Addr × Cm)}
theorem RI.draw {m : Nat} (d : RI K CL CS CW l W R H n X ts rows ps G) (hl : H l ≠ none) (b : But (· = l) G G') (s : Src G' l m) : RI K CL CS CW l W R H m X ts rows ps G' := by
  obtain ⟨xs, el⟩ := src_lst d.src
  obtain ⟨dx, S, Tb, Lv, w⟩ := d.at_
  refine ⟨but_trans d.but b, s, d.nR, d.RX, fun x hx => ?_, ⟨dx, S, Tb, Lv, w.keepL fun c o e _ h => b c o (fun z => by
    rcases h with h | h
    · exact hl (z ▸ h.1)
    · rw [z, el] at e
      exact h xs (Option.some.inj e).symm) e⟩, d.by_, d.rs.but b⟩
  by_cases e : x = l
  · obtain ⟨ys, e2⟩ := src_lst s
    rw [e, e2]
    exact fun z => nomatch z
  · cases h : G x with
    | none => exact absurd h (d.liv x hx)
    | some o => rw [b _ _ e h]; exact fun z => nomatch z
theorem RI.new {q : Addr} {o : HO} {m : Nat} (d : RI K CL CS CW l W R H n X ts rows ps G) (hl : H l ≠ none) (b : But (· = l) G G') (s : Src G' l m) (nq : G q = none) (eq : G' q = some o) : RI K CL CS CW l W R H m (q :: X) ts rows ps G' := by
  obtain ⟨dx, S, Tb, Lv, w⟩ := d.at_
  have d' := d.draw hl b s
  obtain ⟨xs, el⟩ := src_lst d.src
  refine ⟨d'.but, s, d.nR, List.mem_cons_of_mem _ d.RX, fun x hx => ?_, ⟨dx, S, Tb, Lv, ((w.apart nq).keepL (H' := G') fun c o e _ h => b c o (fun z => by
    rcases h with h | h
    · exact hl (z ▸ h.1.1)
    · rw [z, el] at e
      exact h xs (Option.some.inj e).symm) e).imp fun c h => ⟨h.1.1, fun z => (List.mem_cons.mp z).elim h.2 h.1.2⟩⟩, d.by_, d'.rs.imp fun c h => List.mem_cons_of_mem _ h⟩
  rcases List.mem_cons.mp hx with rfl | hx
  · rw [eq]; exact fun z => nomatch z
  · exact d'.liv x hx
theorem RI.same (d : RI K CL CS CW l W R H n X ts rows ps G) (hl : H l ≠ none) (s : Same G G') : RI K CL CS CW l W R H n X ts rows ps G' := d.draw hl (but_same s) (d.src.keep s)
theorem RI.more {m : Nat} (d : RI K CL CS CW l W R H n X ts rows ps G) (h : n ≤ m) : RI K CL CS CW l W R H m X ts rows ps G := ⟨d.but, d.src.more h, d.nR, d.RX, d.liv, d.at_, d.by_, d.rs⟩
/-- a class more and its row -/
theorem RI.made {dx S Tb Lv a t : Addr} {ns above mg : List Nat} {gs : List Str} {r : Bool} (d : RI K CL CS CW l W R H n X ts rows ps G) (hl : H l ≠ none) (w : WorldAt K CL CS CW (fun b => H b = none ∧ b ∉ X) G W dx S Tb Lv ps) (few : ps.length < 25) (ne : ns ≠ []) (nd : ns.Nodup) (l5 : ns.length ≤ 5) (lt : ∀ z ∈ ns, z < ps.length) (gnd : gs.Nodup) (g6 : gs.length ≤ 6) (gnm : ∀ z ∈ gs, isName z = true)
    (hcol : colOf (ps.map (·.2)) ns = none) (MT : MergedTo (ordLs (ps.map (·.2)) ns) mg) (ab : Above (ps.map (·.2)) ns above) (hr : r = true → ∀ z ∈ ns, roomAt (ps.map (·.2)) z = false) (kk : ∀ b o, G b = some o → b ≠ S → b ≠ Tb → b ≠ Lv → G' b = some o)
    (hw : WorldAt K CL CS CW (fun b => H b = none ∧ b ∉ X) G' W dx S Tb Lv (ps ++ [(a, newCm (ps.map (·.2)) ps.length ns gs r above mg)])) (ht : RowAt (· ∈ X) l R G t (ns, gs, r)) :
    G' R = some (.lst (ts.map V.ref)) ∧ RI K CL CS CW l W R H n X (ts ++ [t]) (rows ++ [(ns, gs, r)]) (ps ++ [(a, newCm (ps.map (·.2)) ps.length ns gs r above mg)]) (upd G' R (.lst (ts.map V.ref ++ [.ref t]))) := by
  have lm : (ps.map (·.2)).length = ps.length := List.length_map _
  obtain ⟨tbs, eT, _⟩ := w.t
  obtain ⟨lvs, eL, _⟩ := w.v
  have k2 : ∀ b o, G b = some o → (b ∈ X ∨ ∀ xs, o ≠ .lst xs) → G' b = some o := fun b o e h => by
    rcases h with h | h
    · exact kk b o e (fun z => w.lS.2 (z ▸ h)) (fun z => w.lT.2 (z ▸ h)) (fun z => w.lV.2 (z ▸ h))
    · exact kk b o e (fun z => by rw [z, w.s] at e; exact h _ (Option.some.inj e).symm) (fun z => by rw [z, eT] at e; exact h _ (Option.some.inj e).symm) (fun z => by rw [z, eL] at e; exact h _ (Option.some.inj e).symm)
  have b1 : But (· = l) H G' := fun b o nb e => kk _ _ (d.but b o nb e) (fun z => by rw [z, w.lS.1] at e; cases e) (fun z => by rw [z, w.lT.1] at e; cases e) (fun z => by rw [z, w.lV.1] at e; cases e)
  have rs := d.rs.kk d.RX k2
  refine ⟨rs.e, but_new b1 d.nR, ?_, d.nR, d.RX, fun x hx => ?_, ⟨dx, S, Tb, Lv, hw.keepL fun b o e _ h => ?_⟩, ?_, rs.put (ht.kk k2)⟩
  · obtain ⟨x, y, c1, e, q⟩ := d.src
    exact ⟨x, y, c1, by rw [upd_ne rs.Rl.symm]; exact kk _ _ e (fun z => hl (z ▸ w.lS.1)) (fun z => hl (z ▸ w.lT.1)) (fun z => hl (z ▸ w.lV.1)), q⟩
  · by_cases e : x = R
    · rw [e, upd_same]; exact fun z => nomatch z
    · rw [upd_ne e]
      cases h : G x with
      | none => exact absurd h (d.liv x hx)
      | some o => rw [k2 x o h (.inl hx)]; exact fun z => nomatch z
  · rw [upd_ne (fun z => ?_)]
    · exact e
    · rcases h with h | h
      · exact h.2 (z ▸ d.RX)
      · rw [z, rs.e] at e
        exact h _ (Option.some.inj e).symm
  · rw [List.map_append]
    have g := By.more d.by_ (by rw [lm]; exact few) ne nd l5 (fun z hz => by rw [lm]; exact lt z hz) gnd g6 gnm hcol MT ab hr
    rw [lm] at g
    exact g
end
def spRows : Sp := fun vs H Q _ => ∃ (l : Addr) (n : Nat), vs = [.ref l] ∧ Src H l n ∧ n ≤ 100000 ∧
  ∀ (H' : Hp) (R : Addr) (ts : List Addr) (rows : List RowN) (ms : List Cm), But (· = l) H H' → Src H' l (n + 1000) → RowsAt (fun _ => True) l H' R ts rows → By rows ms → ms.length ≤ 13 → Q (.ref R) H'
section
variable {P : Program} {w : World} {K : PySem.W.Frag} {mg : Str → Option Value} {base : Heap} {CL CS CW CB CN CD CT CC CO CR CLE fI fU fM t0 : Addr} {dI dU dM : FuncData} {mv : List Value}
abbrev tRowMake (K : PySem.W.Frag) (CL CS CW CB CN CD CT CC CO CR t0 : Addr) (w r : Nat) (E : L2.St → XK) : TE := tMethNS CW "make_class" 3 1 (spMake0 K CL CS CW CB CN CD CT CC CO CR) (fun vs zs => vs ++ zs ++ [.ref t0]) E (tVar w) (tCons (tOp (rIxT K) (tVar r) (tC (.int 0))) (tCons (tOp (rIxT K) (tVar r) (tC (.int 1))) tNil)) (tCons (tOp (rIxT K) (tVar r) (tC (.int 2))) tNil)
theorem ok_rows {f fD fB fF : Addr} {fd dD dB dF : FuncData} (F : Fun K "_law_rows" "_law_rows" sRows f fd) (T : TxtR mg) (D : MkW P w K mg base CL CS CW CB CN CD CT CC CO CR CLE fI fU fM t0 dI dU dM mv)
    (gD : mg "_law_draw" = some (.ref fD)) (kD : PySem.W.keepIn K (.ref fD) = true) (bD : Binds K dD ["_law_well_here", "_law_many"] []) (GD : FnOk P w K mg base CX0 1 fD dD ["_law_well_here", "_law_many"] spDraw)
    (gB : mg "_law_bases" = some (.ref fB)) (kB : PySem.W.keepIn K (.ref fB) = true) (bB : Binds K dB ["_law_well_here", "_law_count"] []) (GB : FnOk P w K mg base CX0 2 fB dB ["_law_well_here", "_law_count"] spBases)
    (gF : mg "_law_fields" = some (.ref fF)) (kF : PySem.W.keepIn K (.ref fF) = true) (bF : Binds K dF ["_law_well_here", "_law_most"] []) (GF : FnOk P w K mg base CX0 2 fF dF ["_law_well_here", "_law_most"] spFieldsL) :
    FnOk P w K mg base CX0 14 f fd ["_law_well_here"] spRows := by
  refine F.ok scRows (fun vs H Q E h => ?_) (fun cdv A outer s H vs Q E hr h => ?_)
  · obtain ⟨l, n, rfl, _⟩ := h
    rfl
  · obtain ⟨l, n, rfl, src, hn, k⟩ := h
    have hr1 : Room 1 _ := hr.mono (by decide)
    have hr2 : Room 2 _ := hr.mono (by decide)
    refine ⟨_, PSs.nox (pss_cons (ps_par (i := 1) (j := 2) rfl scRows.nd rfl rfl (by decide) rfl rfl (pa_cons (pe_make0 D.MI D.GI hr (by rfl) D.WC.g D.bI .nil (passE (E := fun _ _ _ => False) fun _ _ _ z => z)) (pa_cons (pe_lst pa_nil) pa_nil)) rfl)
      (pss_cons (ps_for PassesOwn.never rfl (pi_range1 rfl T.range (pa_cons (pe_call GD hr1 rfl gD kD bD .nil pass0 (pa_cons (pv 0) (pa_cons pe_int pa_nil))) pa_nil)) (pg_name (i := 3) scRows.nd rfl (Or.inl rfl))
        (pss_one (ps_if (pt_cmpR op_lt (pe_meth0 (pv 1) D.WC.cl D.mU D.GU hr1 D.bU .nil pass0) pe_int (nomark _))
          (pss_cons (ps_set (i := 4) scRows.nd rfl (Or.inl rfl) (pe_tup (pa_cons (pe_call GB hr2 rfl gB kB bB .nil pass0 (pa_cons (pv 0) (pa_cons (pe_meth0 (pv 1) D.WC.cl D.mU D.GU hr1 D.bU .nil pass0) pa_nil)))
            (pa_cons (pe_op op_rep (pe_call GF hr2 rfl gF kF bF .nil pass0 (pa_cons (pv 0) (pa_cons pe_int pa_nil))) (pe_callTy call_int1 (by rfl) T.int (by decide +kernel) (pa_cons (pe_cmpR op_eq (pe_call GD hr1 rfl gD kD bD .nil pass0 (pa_cons (pv 0) (pa_cons pe_int pa_nil))) pe_int (nomark _)) pa_nil))) pa_nil))))
          (pss_cons (ps_set (i := 4) scRows.nd rfl (Or.inl rfl) (pe_op op_catT (pv 4) (pe_tup (pa_cons (pe_cmpR op_eq (pe_call GD hr1 rfl gD kD bD .nil pass0 (pa_cons (pv 0) (pa_cons pe_int pa_nil))) pe_int (nomark _)) pa_nil))))
          (pss_one (L2.ps_try_many (X := (cxOf CX0 P w K mg base nRows "_law_rows" (defScope sRows) f cdv A outer s H E).nox) (tb := fun W => tSeq (tDrop (tRowMake K CL CS CW CB CN CD CT CC CO CR t0 1 4 (WE W))) (tDrop (tBM K "list" rAppend (tVar 2) (tCons (tVar 4) tNil))))
              rfl rfl takes0 (fun W pn xe tk _ => ?tryb) (HdsOk.cons (c := .ref CLE) (ts := fun _ _ _ => tAsg (tTup tNil) (gName 4)) ⟨rfl, by decide, .inl D.gE⟩ (fun a oe cls d pn hz hf => ?suite) .nil)))))
          pss_nil)))
      (pss_one (ps_ret (pv 2))))), ?_⟩
    case tryb =>
      exact pss_cons (ps_expr (pe_methNS (pv 1) D.WC.cl D.mM D.GM (hr.mono (by decide)) D.bM (fun σ => passAt tk σ) (pa_cons (pe_ix ix_tup (pv 4) pe_int (fun _ _ => rfl)) (pa_cons (pe_ix ix_tup (pv 4) pe_int (fun _ _ => rfl)) pa_nil)) (pk_cons (pe_ix ix_tup (pv 4) pe_int (fun _ _ => rfl)) pk_nil)))
        (pss_one (ps_expr (pe_bm PySem.F.plainAttrs_list PySem.F.slot_list_append PySem.F.type_list_append mt_append (pv 2) (pa_cons (pv 4) pa_nil))))
    case suite =>
      exact pss_one (ps_set (i := 4) scRows.nd rfl (Or.inl rfl) (pe_tup pa_nil))
    obtain ⟨xl, el⟩ := src_lst src
    have hl : H l ≠ none := by rw [el]; exact fun z => nomatch z
    refine fun W dx nW nd neW => ?_
    refine ⟨W, dx, H, rfl, upd_same, nW, same_upd (same_new nd) nW, fun G1 p mg1 sG MT Sh Tb Lv hW => ⟨rfl, Nat.zero_le _, fun R nR => ⟨_, _, rfl, ?_⟩⟩⟩
    have Rl : R ≠ l := fun z => by rw [z, sG _ _ el] at nR; cases nR
    have I1 : RI K CL CS CW l W R H n [R] [] [] [(p, newCm [] 0 [] [] false [] mg1)] (upd G1 R (.lst [])) :=
      ⟨but_same (sG.trans (same_new nR)), (src.keep sG).upd Rl, none_of_same sG nR, List.mem_singleton.mpr rfl, (fun x hx => by rw [List.mem_singleton.mp hx, upd_same]; exact fun z => nomatch z),
        ⟨dx, Sh, Tb, Lv, ((hW.apart nR).imp fun c h => ⟨h.1, fun z => h.2 (List.mem_singleton.mp z)⟩).keep (same_new nR)⟩, By.first MT, ⟨Rl, upd_same, rfl, fun j t row a _ => by simp at a⟩⟩
    generalize upd G1 R (.lst []) = G2 at I1
    refine ⟨_, rfl, l, 16, n, rfl, by decide, by decide, I1.src, by omega, fun G3 d3 b3 s3 h30 h31 => ?_⟩
    obtain ⟨c, rfl⟩ := Int.eq_ofNat_of_zero_le h30
    have I3 := I1.draw hl b3 s3
    refine ⟨_, rfl, by omega, by omega, for_range (lo := 0) (n := c) (fun j σ G => ∃ (v3 v4 : Option V) (X ts : List Addr) (rows : List RowN) (ps : List (Addr × Cm)), σ = [some (.ref l), some (.ref W), some (.ref R), v3, v4] ∧ RI K CL CS CW l W R H (n + 1 + 30 * j) X ts rows ps G ∧ ps.length ≤ 13) ⟨_, _, _, _, _, _, rfl, I3, by show 1 ≤ 13; decide⟩ ?_ ?_⟩
    · rintro j σ G hj ⟨v3, v4, X, ts, rows, ps, rfl, I, l13⟩
      obtain ⟨dx1, S1, T1, V1, w1⟩ := I.at_
      refine ⟨_, rfl, W, dx1, _, rfl, w1.w, rfl, W, ps, rfl, w1.is, _, _, rfl, rfl, _, rfl, ?_⟩
      by_cases few : ps.length < 13
      · refine ite_true_of (decide_eq_true (by exact_mod_cast few)) ?_
        have p1 : 0 < ps.length := by
          have g := Grown.pos I.by_.grown
          rw [List.length_map] at g
          exact g
        refine ⟨_, rfl, _, rfl, W, dx1, _, rfl, w1.w, rfl, W, ps, rfl, w1.is, l, ps.length, _, rfl, p1, by omega, I.src, by omega, fun G4 q3 ns b4 s4 n3 e3 ne nd3 l3 lt => ?_⟩
        have I4 := I.new hl b4 s4 n3 e3
        obtain ⟨xl0, el0⟩ := src_lst I.src
        have q3l : q3 ≠ l := fun z => by rw [z, el0] at n3; cases n3
        have q3R : q3 ≠ R := fun z => I.liv R I.RX (z ▸ n3)
        refine ⟨_, rfl, l, 1, _, rfl, by decide, I4.src, by omega, fun G5 q4 zs b5 s5 n4 e4 lz ndz nmz => ?_⟩
        have I5 := I4.draw hl b5 s5
        obtain ⟨xl4, el4⟩ := src_lst I4.src
        have q4l : q4 ≠ l := fun z => by rw [z, el4] at n4; cases n4
        have e3' := b5 _ _ q3l e3
        refine ⟨_, rfl, l, 3, _, rfl, by decide, by decide, I5.src, by omega, fun G6 d6 b6 s6 h60 h61 => ⟨rfl, .inr ⟨_, rfl, ?_⟩⟩⟩
        have I6 := I5.draw hl b6 s6
        have e3'' := b6 _ _ q3l e3'
        have e4' := b6 _ _ q4l e4
        obtain ⟨gs, egs, hgs⟩ : ∃ gs : List Str, (List.replicate (if decide (V.int d6 = V.int 0) = true then (1 : Int) else 0).toNat (zs.map V.str)).flatten = gs.map V.str ∧ (gs = zs ∨ gs = []) := by
          by_cases h : decide (V.int d6 = V.int 0) = true
          · refine ⟨zs, ?_, .inl rfl⟩
            rw [if_pos h]
            simp
          · refine ⟨[], ?_, .inr rfl⟩
            rw [if_neg h]
            rfl
        have gnm : ∀ z ∈ gs, isName z = true := fun z hz => by
          rcases hgs with e | e
          · rw [e] at hz; exact nm_name z (nmz z hz)
          · rw [e] at hz; cases hz
        have gnd : gs.Nodup := by
          rcases hgs with e | e
          · rw [e]; exact ndz
          · rw [e]; exact List.nodup_nil
        have g6 : gs.length ≤ 6 := by
          rcases hgs with e | e
          · rw [e]; omega
          · rw [e]; exact Nat.zero_le _
        refine ⟨q4, _, zs.map V.str, rfl, rfl, e4', ?_, ?_, ?_, fun q6 n6 => ?_⟩
        · split <;> decide
        · split <;> decide
        · rw [List.length_map]
          refine Nat.le_trans (Nat.mul_le_mul (show zs.length ≤ 1 by omega) (show _ ≤ 1 from ?_)) (by decide)
          split <;> decide
        rw [egs]
        have sm6 : Same G6 (upd G6 q6 (.lst (gs.map V.str))) := same_new n6
        have I7 := I6.new hl (but_same sm6) (I6.src.keep sm6) n6 (upd_same (o := .lst (gs.map V.str)))
        have e6 : (upd G6 q6 (.lst (gs.map V.str))) q6 = some (.lst (gs.map V.str)) := upd_same
        have e37 := sm6 _ _ e3''
        obtain ⟨xl6, el6⟩ := src_lst I6.src
        have q6l : q6 ≠ l := fun z => by rw [z, el6] at n6; cases n6
        have q6R : q6 ≠ R := fun z => I6.liv R I6.RX (z ▸ n6)
        generalize upd G6 q6 (.lst (gs.map V.str)) = G7 at I7 e6 e37 ⊢
        refine ⟨by show 2 ≤ sizeLine; decide, fun t1 nt1 => ?_⟩
        have smA : Same G7 (upd G7 t1 (.tup [.ref q3, .ref q6])) := same_new nt1
        have I8 := I7.same hl smA
        have et1 : (upd G7 t1 (.tup [.ref q3, .ref q6])) t1 = some (.tup [.ref q3, .ref q6]) := upd_same
        have e38 := smA _ _ e37
        have e68 := smA _ _ e6
        generalize upd G7 t1 (.tup [.ref q3, .ref q6]) = G8 at I8 et1 e38 e68 ⊢
        obtain ⟨xl8, el8⟩ := src_lst I8.src
        have t1l : t1 ≠ l := fun z => by rw [z, el8] at et1; cases et1
        refine ⟨_, rfl, _, rfl, l, 9, _, rfl, by decide, by decide, I8.src, by omega, fun G9 d9 b9 s9 h90 h91 => ⟨rfl, by show 1 ≤ sizeLine; decide, fun t2 nt2 => ?_⟩⟩
        have I9 := I8.draw hl b9 s9
        have et1' := b9 _ _ t1l et1
        have e39 := b9 _ _ q3l e38
        have e69 := b9 _ _ q6l e68
        obtain ⟨r, er⟩ : ∃ r : Bool, r = decide (V.int d9 = V.int 0) := ⟨_, rfl⟩
        rw [← er]
        have smB : Same G9 (upd G9 t2 (.tup [.bl r])) := same_new nt2
        have I10 := I9.same hl smB
        refine ⟨t1, t2, _, _, rfl, rfl, SqT.of (smB _ _ et1'), SqT.of upd_same, (fun z => nomatch z), by show 2 + 1 ≤ sizeLine; decide, (fun z => nomatch z), fun _ t3 nt3 => ?_⟩
        have smC : Same G9 (upd (upd G9 t2 (.tup [.bl r])) t3 (.tup ([.ref q3, .ref q6] ++ [.bl r]))) := smB.trans (same_new nt3)
        have I11 := I9.same hl smC
        have et3 : (upd (upd G9 t2 (.tup [.bl r])) t3 (.tup ([.ref q3, .ref q6] ++ [.bl r]))) t3 = some (.tup [.ref q3, .ref q6, .bl r]) := upd_same
        have e3A := smC _ _ e39
        have e6A := smC _ _ e69
        generalize upd (upd G9 t2 (.tup [.bl r])) t3 (.tup ([.ref q3, .ref q6] ++ [.bl r])) = GA at I11 et3 e3A e6A ⊢
        obtain ⟨dxA, SA, TA', VA, wA⟩ := I11.at_
        obtain ⟨xlA, elA⟩ := src_lst I11.src
        have t3l : t3 ≠ l := fun z => by rw [z, elA] at et3; cases et3
        have t3R : t3 ≠ R := fun z => by rw [z, I11.rs.e] at et3; cases et3
        have hrow : RowAt (· ∈ q6 :: q3 :: X) l R GA t3 (ns, gs, r) := ⟨q3, q6, et3, t3l, t3R, q3l, q6l, q3R, q6R, by simp, by simp, e3A, e6A⟩
        refine ⟨_, rfl, W, dxA, _, rfl, wA.w, rfl, _, rfl, t3, _, 0, .ref q3, rfl, rfl, SqT.of et3, rfl, _, rfl, t3, _, 1, .ref q6, rfl, rfl, SqT.of et3, rfl, _, rfl, t3, _, 2, .bl r, rfl, rfl, SqT.of et3, rfl, rfl, rfl, ?_⟩
        refine ⟨W, dxA, SA, TA', VA, .ref q3, .ref q6, r, t0, _, ps, rfl, wA, D.h0 _, .inr ⟨q3, q6, ns, gs, rfl, rfl, SqL.of e3A, ne, nd3, by omega, lt, e6A, gnm, gnd, g6, by omega, fun b hb => ⟨but_none I11.but hb (fun z => by rw [z, elA] at hb; cases hb), fun z => I11.liv b z hb⟩,
          ⟨fun i j e H' x y off nx ny s ex ey M o nn ho hn d H2 s2 nd2 hd => ?_, fun e H' q n us s f1 f2 f3 f4 f5 f6 f7 d H2 s2 nd2 hd => ?_, fun e mg MT hr z hz H' s d H2 s2 nd2 hd => ?_, fun hcol mg above MT ab noR H' a kk hw => ?_⟩⟩⟩
        · refine ⟨true, D.xC, fun _ a ha => ⟨Nat.zero_le _, fun q nq => ?_⟩, fun z => nomatch z⟩
          exact ⟨_, _, _, _, _, ps, rfl, ((I11.same hl (s.trans s2)).same hl (same_new nq)).more (by omega), l13⟩
        · refine ⟨true, D.xO, fun _ a ha => ⟨Nat.zero_le _, fun q nq => ?_⟩, fun z => nomatch z⟩
          exact ⟨_, _, _, _, _, ps, rfl, ((I11.same hl (s.trans s2)).same hl (same_new nq)).more (by omega), l13⟩
        · refine ⟨true, D.xR, fun _ a ha => ⟨Nat.zero_le _, fun q nq => ?_⟩, fun z => nomatch z⟩
          exact ⟨_, _, _, _, _, ps, rfl, ((I11.same hl (s.trans s2)).same hl (same_new nq)).more (by omega), l13⟩
        · obtain ⟨eR, IM⟩ := I11.made hl wA (by omega) ne nd3 (by omega) lt gnd g6 gnm hcol MT ab noR kk hw hrow
          have tl : ts.length ≤ 13 := by
            have := I11.by_.len
            rw [List.length_map] at this
            have := I11.rs.len
            omega
          refine ⟨_, rfl, .inl ⟨rfl, _, SqL.of eR⟩, _, rfl, R, _, _, rfl, rfl, eR, small1000 (by rw [List.length_map]; omega), ?_⟩
          exact ⟨_, _, _, _, _, _, rfl, IM.more (by omega), by rw [List.length_append]; show ps.length + 1 ≤ 13; omega⟩
      · refine ite_false_of (decide_eq_false (by omega)) ?_
        exact ⟨_, _, _, _, _, ps, rfl, I.more (by omega), l13⟩
    · rintro σ G ⟨v3, v4, X, ts, rows, ps, rfl, I, l13⟩
      exact ⟨_, rfl, k _ R ts rows _ I.but (I.src.more (by omega)) (I.rs.imp fun _ _ => trivial) I.by_ (by rw [List.length_map]; exact l13)⟩
end
end Lw

set_option autoImplicit true
set_option Elab.async false
set_option linter.all false
set_option maxRecDepth 100000
set_option maxHeartbeats 1000000
/-! k91: _law_again. -/
namespace Lw
open PySem L2 Two Pr ClX SlX
abbrev sAgain : Stmt := top 69
abbrev nAgain : List Str := ["_law_rows_here", "_law_world", "_law_bases_here", "_law_fields_here", "_law_wide"]
theorem scAgain : FnScope nAgain ["_law_rows_here"] (defScope sAgain) := ⟨rfl, rfl, rfl, by decide +kernel, rfl, by decide +kernel, by decide +kernel⟩
def spAgain (K : PySem.W.Frag) (CL CS CW : Addr) : Sp := fun vs H Q _ => ∃ (l R : Addr) (ts : List Addr) (rows : List RowN) (ms : List Cm), vs = [.ref R] ∧ RowsAt (fun _ => True) l H R ts rows ∧ By rows ms ∧ ms.length ≤ 13 ∧
  ∀ (H' : Hp) (W dx S Tb Lv : Addr) (ps : List (Addr × Cm)), Same H H' → WorldAt K CL CS CW (fun b => H b = none) H' W dx S Tb Lv ps → ps.map (·.2) = ms → Q (.ref W) H'
/-- a right row meets no fault -/
theorem no_ring {ls : List (List Int)} {mg : List Nat} {n : Nat} (m : MergedTo ls mg) (f : Mg.firstFree (Mg.st ls n).2 = none) : ¬ ∃ r ∈ (Mg.st ls n).2, r ≠ [] := by
  rintro ⟨r, hr, ne⟩
  obtain ⟨n', em, _⟩ := m
  have := Mg.final_unique f (Mg.firstFree_of_empty em)
  rw [this] at hr
  exact ne (em r hr)
theorem same_kk {K : PySem.W.Frag} {CL CS CW : Addr} {H G G' : Hp} {W dx S Tb Lv : Addr} {ps : List (Addr × Cm)} (s : Same H G) (w : WorldAt K CL CS CW (fun b => H b = none) G W dx S Tb Lv ps) (kk : ∀ b o, G b = some o → b ≠ S → b ≠ Tb → b ≠ Lv → G' b = some o) : Same H G' := fun b o e =>
  kk b o (s b o e) (fun z => by have := w.lS; rw [z, this] at e; cases e) (fun z => by have := w.lT; rw [z, this] at e; cases e) (fun z => by have := w.lV; rw [z, this] at e; cases e)
section
variable {P : Program} {w : World} {K : PySem.W.Frag} {mg : Str → Option Value} {base : Heap} {CL CS CW CB CN CD CT CC CO CR CLE fI fU fM t0 : Addr} {dI dU dM : FuncData} {mv : List Value}
theorem ok_again {f : Addr} {fd : FuncData} (F : Fun K "_law_again" "_law_again" sAgain f fd) (D : MkW P w K mg base CL CS CW CB CN CD CT CC CO CR CLE fI fU fM t0 dI dU dM mv) :
    FnOk P w K mg base CX0 14 f fd ["_law_rows_here"] (spAgain K CL CS CW) := by
  refine F.ok scAgain (fun vs H Q E h => ?_) (fun cdv A outer s H vs Q E hr h => ?_)
  · obtain ⟨l, R, ts, rows, ms, rfl, _⟩ := h
    rfl
  · obtain ⟨l, R, ts, rows, ms, rfl, hR, by_, l13, k⟩ := h
    refine ⟨_, pss_cons (ps_set (i := 1) scAgain.nd rfl (Or.inl rfl) (pe_make0 D.MI D.GI hr (by rfl) D.WC.g D.bI .nil (passE (E := fun _ _ _ => False) fun _ _ _ z => z)))
      (pss_cons (ps_for PassesOwn.never rfl (pi_list (pv 0)) (pg_tup rfl (pgs_cons (pg_name (i := 2) scAgain.nd rfl (Or.inl rfl)) (pgs_cons (pg_name (i := 3) scAgain.nd rfl (Or.inl rfl)) (pgs_cons (pg_name (i := 4) scAgain.nd rfl (Or.inl rfl)) pgs_nil))))
        (pss_one (ps_expr (pe_methNS (E := fun _ _ _ _ => False) (pv 1) D.WC.cl D.mM D.GM (hr.mono (by decide)) D.bM (fun σ pins => passE (E := fun _ _ _ => False) (fun _ _ _ z => z) pins σ) (pa_cons (pv 2) (pa_cons (pv 3) pa_nil)) (pk_cons (pv 4) pk_nil)))))
      (pss_one (ps_ret (pv 1)))), ?_⟩
    refine fun W dx nW nd neW => ?_
    refine ⟨W, dx, H, rfl, upd_same, nW, same_upd (same_new nd) nW, fun G1 p mg1 sG MT Sh Tb Lv hW => ⟨rfl, ?_⟩⟩
    refine ⟨_, rfl, R, rfl, ⟨_, SqL.of (sG _ _ hR.e)⟩, for_list (K := K) (a := R) (xs := ts.map V.ref) (fun i σ G => ∃ (v2 v3 v4 : Option V) (ps : List (Addr × Cm)), σ = [some (.ref R), some (.ref W), v2, v3, v4] ∧ Same H G ∧ WorldAt K CL CS CW (fun b => H b = none) G W dx Sh Tb Lv ps ∧ By (rows.take i) (ps.map (·.2)))
      ⟨_, _, _, _, rfl, sG, hW, by rw [List.take_zero]; exact By.first MT⟩ ?_ ?_ ?_⟩
    · rintro i σ G _ ⟨_, _, _, _, _, s, _⟩
      exact SqL.of (s _ _ hR.e)
    · rintro i x σ G hx ⟨v2, v3, v4, ps, rfl, s, wG, byi⟩
      obtain ⟨t, ht, rfl⟩ := get_map hx
      have il : i < rows.length := by
        rw [← hR.len]
        exact (List.getElem?_eq_some_iff.mp ht).1
      obtain ⟨⟨ns, gs, r⟩, hrow⟩ : ∃ row, rows[i]? = some row := ⟨_, List.getElem?_eq_getElem il⟩
      obtain ⟨b, f2, et, _, _, _, _, _, _, _, _, eb, ef⟩ := hR.at_ i t _ ht hrow
      obtain ⟨msj, byj, few, ne, nd, l5, lt, gnd, g6, gnm, hcol, ⟨mg, hmg⟩, hr2⟩ := by_.at_ hrow
      have e := byi.unique byj
      subst e
      have lm : (ps.map (·.2)).length = ps.length := List.length_map _
      rw [lm] at few lt
      refine ⟨t, _, rfl, SqT.of (s _ _ et), rfl, _, _, rfl, _, _, rfl, _, _, rfl, rfl, ?_⟩
      refine ⟨_, rfl, W, dx, _, rfl, wG.w, rfl, _, rfl, _, rfl, _, rfl, rfl, rfl, ?_⟩
      refine ⟨W, dx, Sh, Tb, Lv, .ref b, .ref f2, r, t0, _, ps, rfl, wG, D.h0 _, .inr ⟨b, f2, ns, gs, rfl, rfl, SqL.of (s _ _ eb), ne, nd, l5, lt, s _ _ ef, gnm, gnd, g6, few, fun c hc => none_of_same s hc,
        ⟨fun i j e => ?_, fun e H' q n us s f1 f2 => ?_, fun e mg MT hr z hz => ?_, fun hcol mg above MT ab noR H' a kk hw => ?_⟩⟩⟩
      · rw [hcol] at e; cases e
      · exact absurd f2 (no_ring hmg f1)
      · have h1 := hr2 hr z (List.mem_of_find?_eq_some hz)
        have h2 := List.find?_some hz
        rw [h1] at h2
        cases h2
      · refine ⟨_, _, _, _, rfl, same_kk s wG kk, hw, ?_⟩
        have et : rows.take (i + 1) = rows.take i ++ [(ns, gs, r)] := by
          rw [List.take_succ, hrow]
          rfl
        rw [et, List.map_append]
        have g := By.more byi (by rw [lm]; exact few) ne nd l5 (fun z hz => by rw [lm]; exact lt z hz) gnd g6 gnm hcol MT ab noR
        rw [lm] at g
        exact g
    · rintro σ G ⟨v2, v3, v4, ps, rfl, s, wG, byi⟩
      refine ⟨_, rfl, k G W dx Sh Tb Lv ps s wG ?_⟩
      rw [List.length_map, hR.len, List.take_length] at byi
      exact byi.unique by_
end
end Lw

set_option autoImplicit true
set_option Elab.async false
set_option linter.all false
set_option maxRecDepth 100000
set_option maxHeartbeats 1000000
/-! d.update(e), both with mixed keys. -/
namespace L2
open PySem PySem.Spec PyProof.Rows
section
variable {X : Cx} {pins : List (Addr × Obj)} {σ : St} {H : Hp} {s : Shared} {a b : Addr} {kvs more : List (Key × V)} {A : Around} {E : Value → Shared → Prop}
theorem d_update {Q : Value → Shared → Prop} (I : Inv X pins σ H s) (ne : a ≠ b) (e : H a = some (.dK kvs)) (e2 : H b = some (.dK more)) (z : kvs.length + more.length ≤ sizeLine) (h : ∀ s', Inv X pins σ (upd H a (.dK (mergeK kvs more))) s' → Q .none s') :
    wpAny (model X.prog X.w) A (call (.builtin "dict.update") [.ref a, .ref b]) Q E s := by
  obtain ⟨z1, hd, vs, rel, dd⟩ := dk_of I.hok e
  obtain ⟨z2, hd2, ws, rel2, dd2⟩ := dk_of I.hok e2
  refine call_meetsIn PySem.F.slot_dict_update dd.typeIs PySem.F.entry_dict_update (PySem.F.args_dict_update_2 _ _) (meets_dict_update (mixKind X.prog X.w) a b ne hd2) ⟨vs, ws, dd, dd2, by rw [← rel.length, ← rel2.length]; exact z, fun h' dd' _ hs => h _ ?_⟩
  have he : ∃ q, h'.get? a = some q := let ⟨q, _, _, hq, _⟩ := dd'; ⟨q, hq⟩
  exact d_write (t' := s.toks) I (by rw [e]; exact True.intro) hs he (dk_new (Nat.le_trans (length_mergeK _ _) z) hd (KV.merge rel2 rel) dd')
end
def tDUpd (td ty : TE) : TE := fun σ H Q => td σ H fun x H1 => ∃ a, x = .ref a ∧ IsD H1 a ∧ ty σ H1 fun y H2 => ∃ b kvs more, y = .ref b ∧ a ≠ b ∧ H2 a = some (.dK kvs) ∧ H2 b = some (.dK more) ∧ kvs.length + more.length ≤ sizeLine ∧ Q .non (upd H2 a (.dK (mergeK kvs more)))
theorem pe_dupd {X : Cx} {o e : Expr} {apos cpos : Pos} {td ty : TE} (ho : PE X o td) (he : PE X e ty) (m : M1 X o "update" apos e cpos) : PE X (.Call (.Attribute o "update" apos) [e] [] cpos) (tDUpd td ty) := by
  refine ⟨fun pins s σ H Q I h => ?_⟩
  refine wpAny_Call_method m.base m.few m.line PySem.F.plainAttrs_dict PySem.F.slot_dict_update PySem.F.type_dict_update (thn (ho.run pins s σ H _ I h) fun u s1 ⟨x, H1, I1, rx, a, ex, d, q1⟩ => ?_)
  subst ex
  obtain rfl : u = Value.ref a := rx
  obtain ⟨t1, t2, _⟩ := isD_at I1 d
  refine ⟨t1, t2, ?_⟩
  rw [m.trees]
  refine Calls.callWith_builtin rfl (Calls.evalArgs_plain (Calls.spliced_cons (thn (he.run pins s1 σ H1 _ I1 q1) fun iv s2 ⟨y, H2, I2, ry, b, kvs, more, ey, ne, ea, eb, z, q2⟩ => Calls.spliced_nil ?_)))
  subst ey
  obtain rfl : iv = Value.ref b := ry
  exact d_update I2 ne ea eb z fun s3 I3 => ⟨.non, _, I3, rfl, q2⟩
end L2

set_option autoImplicit true
set_option Elab.async false
set_option linter.all false
set_option maxRecDepth 100000
set_option maxHeartbeats 1000000
/-! k91: _law_has_ring. -/
namespace Lw
open PySem L2 Two Pr ClX SlX
abbrev sRing : Stmt := top 70
abbrev nRing : List Str := ["_law_world", "_law_bases_here", "_law_lists_here", "_law_behind", "_law_some", "_law_k", "_law_left", "_law_free", "_law_base", "_law_c", "_law_d"]
theorem scRing : FnScope nRing ["_law_world", "_law_bases_here"] (defScope sRing) := ⟨rfl, rfl, rfl, by decide +kernel, rfl, by decide +kernel, by decide +kernel⟩
/-- a list of lists -/
def ListsAt (H : Hp) (D : Addr) (ls : List (List Nat)) : Prop := ∃ qs : List Addr, H D = some (.lst (qs.map V.ref)) ∧ qs.length = ls.length ∧ ∀ (i : Nat) (q : Addr) (l : List Nat), qs[i]? = some q → ls[i]? = some l → H q = some (.lst (natsV l))
theorem ListsAt.keep {H H' : Hp} {D : Addr} {ls : List (List Nat)} (h : ListsAt H D ls) (s : Same H H') : ListsAt H' D ls := let ⟨qs, a, b, c⟩ := h; ⟨qs, s _ _ a, b, fun i q l x y => s _ _ (c i q l x y)⟩
def ordN (ms : List Cm) (ns : List Nat) : List (List Nat) := ns.map (orderAt ms) ++ [ns]
theorem ordN_ls (ms : List Cm) (ns : List Nat) : (ordN ms ns).map intsN = ordLs ms ns := by
  unfold ordN ordLs
  rw [List.map_append, List.map_map]
  rfl
/-- what stands next behind, as the dict has it -/
structure Beh (E : List (Nat × List Nat)) (kvs : List (Key × V)) (ks : List Nat) (G : Hp) : Prop where
  keys : kvs.map (·.1) = ks.map fun x => Sum.inl ((x : Nat) : Int)
  nd : ks.Nodup
  mem : ∀ x, x ∈ ks ↔ x ∈ E.map (·.1)
  val : ∀ x ∈ ks, ∃ p, valV kvs (Sum.inl ((x : Nat) : Int)) = some (.ref p) ∧ G p = some (.lst (natsV (nextOf E x)))
theorem Beh.keep {E : List (Nat × List Nat)} {kvs : List (Key × V)} {ks : List Nat} {G G' : Hp} (h : Beh E kvs ks G) (s : Same G G') : Beh E kvs ks G' := ⟨h.keys, h.nd, h.mem, fun x hx => let ⟨p, a, b⟩ := h.val x hx; ⟨p, a, s _ _ b⟩⟩
theorem inlN {x y : Nat} : (Sum.inl ((x : Nat) : Int) : Key) = Sum.inl ((y : Nat) : Int) ↔ x = y := ⟨fun h => Int.ofNat_inj.mp (Sum.inl.inj h), fun h => by rw [h]⟩
theorem Beh.any {E : List (Nat × List Nat)} {kvs : List (Key × V)} {ks : List Nat} {G : Hp} (h : Beh E kvs ks G) (x : Nat) : (kvs.any fun kv => decide (kv.1 = Sum.inl ((x : Nat) : Int))) = decide (x ∈ ks) := by
  have e : (kvs.any fun kv => decide (kv.1 = Sum.inl ((x : Nat) : Int))) = (kvs.map (·.1)).any fun k => decide (k = Sum.inl ((x : Nat) : Int)) := by rw [List.any_map]; rfl
  rw [e, h.keys, List.any_map, Bool.eq_iff_iff, List.any_eq_true, decide_eq_true_iff]
  refine ⟨fun ⟨y, hy, q⟩ => ?_, fun hx => ⟨x, hx, by simp⟩⟩
  have q2 : (Sum.inl ((y : Nat) : Int) : Key) = Sum.inl ((x : Nat) : Int) := by simpa using q
  rw [← inlN.mp q2]
  exact hy
theorem Beh.none {E : List (Nat × List Nat)} {kvs : List (Key × V)} {ks : List Nat} {G : Hp} (h : Beh E kvs ks G) {x : Nat} (hx : x ∉ ks) : valV kvs (Sum.inl ((x : Nat) : Int)) = none := by
  have a := h.any x
  rw [valV_any, decide_eq_false hx] at a
  cases e : valV kvs (Sum.inl ((x : Nat) : Int)) with
  | none => rfl
  | some v => rw [e] at a; cases a
theorem Beh.put {E : List (Nat × List Nat)} {kvs : List (Key × V)} {ks : List Nat} {G : Hp} (h : Beh E kvs ks G) {x : Nat} {t : List Nat} {p : Addr} (hp : G p = some (.lst (natsV (nextOf E x ++ t)))) :
    ∃ ks', Beh (E ++ [(x, t)]) (putK kvs (Sum.inl ((x : Nat) : Int)) (.ref p)) ks' G := by
  have hv : ∀ y, y ≠ x → nextOf (E ++ [(x, t)]) y = nextOf E y := fun y ne => by
    rw [nextOf_app, nextOf_one, if_neg (fun e => ne e.symm), List.append_nil]
  have hx : nextOf (E ++ [(x, t)]) x = nextOf E x ++ t := by rw [nextOf_app, nextOf_one, if_pos rfl]
  have vals : ∀ ks' : List Nat, (∀ y ∈ ks', y = x ∨ y ∈ ks) → ∀ y ∈ ks', ∃ q, valV (putK kvs (Sum.inl ((x : Nat) : Int)) (.ref p)) (Sum.inl ((y : Nat) : Int)) = some (.ref q) ∧ G q = some (.lst (natsV (nextOf (E ++ [(x, t)]) y))) := fun ks' sub y hy => by
    rw [valV_put]
    by_cases e : y = x
    · subst e
      rw [if_pos rfl]
      exact ⟨p, rfl, by rw [hx]; exact hp⟩
    · rw [if_neg (fun z => e (inlN.mp z)), hv y e]
      exact h.val y ((sub y hy).resolve_left e)
  have mem' : ∀ y, y ∈ (E ++ [(x, t)]).map (·.1) ↔ y ∈ ks ∨ y = x := fun y => by
    rw [List.map_append, List.mem_append, ← h.mem y]
    simp
  by_cases hk : x ∈ ks
  · refine ⟨ks, ?_, h.nd, fun y => ?_, vals ks fun y hy => .inr hy⟩
    · unfold putK
      rw [h.any x, decide_eq_true hk, if_pos rfl, List.map_map, ← h.keys]
      refine List.map_congr_left fun kv _ => ?_
      show (if kv.1 = _ then (kv.1, V.ref p) else kv).1 = kv.1
      split <;> rfl
    · rw [mem' y]
      exact ⟨.inl, fun q => q.elim id fun e => e ▸ hk⟩
  · refine ⟨ks ++ [x], ?_, List.nodup_append.mpr ⟨h.nd, List.nodup_cons.mpr ⟨List.not_mem_nil, List.nodup_nil⟩, fun a ha b hb e => hk (by rw [← List.mem_singleton.mp hb, ← e]; exact ha)⟩, fun y => ?_, vals _ fun y hy => ?_⟩
    · unfold putK
      rw [h.any x, decide_eq_false hk, if_neg Bool.false_ne_true, List.map_append, List.map_append, h.keys]
      rfl
    · rw [mem' y, List.mem_append, List.mem_singleton]
    · rcases List.mem_append.mp hy with q | q
      · exact .inr q
      · exact .inl (List.mem_singleton.mp q)
theorem cut_next (l : List Nat) {k : Nat} (h : k < l.length) : cutV (natsV l) (some ((k : Int) + 1)) (some ((k : Int) + 2)) = natsV ((l.drop (k + 1)).take 1) := by
  have e1 : HT.sIx (natsV l).length 0 (some ((k : Int) + 1)) = min (k + 1) (natsV l).length := HT.sIx_nat (natsV l).length 0 (k + 1)
  have e2 : HT.sIx (natsV l).length (natsV l).length (some ((k : Int) + 2)) = min (k + 2) (natsV l).length := HT.sIx_nat (natsV l).length (natsV l).length (k + 2)
  have ln : (natsV l).length = l.length := List.length_map _
  unfold cutV
  rw [e1, e2, ln]
  unfold natsV
  rw [← List.map_drop, ← List.map_take, Nat.min_eq_left (show k + 1 ≤ l.length by omega)]
  congr 1
  by_cases q : k + 2 ≤ l.length
  · rw [Nat.min_eq_left q, show k + 2 - (k + 1) = 1 by omega]
  · rw [Nat.min_eq_right (by omega), List.drop_eq_nil_of_le (show l.length ≤ k + 1 by omega)]
    simp
theorem Beh.updD {E : List (Nat × List Nat)} {kvs kvs0 : List (Key × V)} {ks : List Nat} {G : Hp} {D : Addr} {o : HO} (h : Beh E kvs ks G) (e : G D = some (.dK kvs0)) : Beh E kvs ks (upd G D o) := ⟨h.keys, h.nd, h.mem, fun x hx => by
  obtain ⟨p, a, b⟩ := h.val x hx
  exact ⟨p, a, by rw [upd_ne (fun z => by rw [z, e] at b; cases b)]; exact b⟩⟩
theorem Beh.start {G : Hp} : Beh [] [] [] G := ⟨rfl, List.nodup_nil, fun x => ⟨(fun h => nomatch h), (fun h => nomatch h)⟩, fun _ h => nomatch h⟩
theorem evsAll_next {ls : List (List Nat)} {i : Nat} {l : List Nat} (h : ls[i]? = some l) : evsAll (ls.take (i + 1)) = evsAll (ls.take i) ++ evs l := by
  unfold evsAll
  rw [take_snoc h, List.map_append, List.flatten_append]
  simp
theorem evs_all (l : List Nat) : (evs l).take l.length = evs l := by
  rw [List.take_of_length_le (Nat.le_of_eq (evs_len l))]
theorem evsAll_len : ∀ {m : List (List Nat)}, (∀ l ∈ m, l.length ≤ 25) → (evsAll m).length ≤ 25 * m.length
  | [], _ => Nat.zero_le _
  | a :: m, h => by
    have := evsAll_len fun l hl => h l (List.mem_cons_of_mem _ hl)
    have ha := h a List.mem_cons_self
    have e : evsAll (a :: m) = evs a ++ evsAll m := rfl
    rw [e, List.length_append, evs_len, List.length_cons]
    omega
def spRing (K : PySem.W.Frag) (CL CS CW : Addr) : Sp := fun vs H Q _ => ∃ (W b : Addr) (ns : List Nat) (ps : List (Addr × Cm)), vs = [.ref W, .ref b] ∧ IsWorld K CL CS CW H W ps ∧ Grown (ps.map (·.2)) ∧ SqL K H b (natsV ns) ∧ ns.length ≤ 5 ∧ ns.Nodup ∧ (∀ n ∈ ns, n < ps.length) ∧
  ∀ (H' : Hp) (v : Bool), Same H H' → (Mg.Round (ordLs (ps.map (·.2)) ns) → v = true) → ((∃ mg, MergedTo (ordLs (ps.map (·.2)) ns) mg) → v = false) → Q (.bl v) H'
section
variable {P : Program} {w : World} {K : PySem.W.Frag} {mg : Str → Option Value} {base : Heap} {CL CS CW CN : Addr}
/-- [d for d in behind[c] if d in left] == [] -/
def tNoneLeft (K : PySem.W.Frag) : TT := tTest (tOp (rEqD K) (tLc (iList K (tDGet (tVar 3) (tVar 9))) (gName 10) (tTest (tOp (rIn K false) (tVar 10) (tVar 6))) (tVar 10) [10]) (tLst tNil))
/-- behind[c] == [] -/
def tNone (K : PySem.W.Frag) : TT := tTest (tOp (rEqD K) (tDGet (tVar 3) (tVar 9)) (tLst tNil))
theorem ok_ring {f fO : Addr} {fd dO : FuncData} (F : Fun K "_law_has_ring" "_law_has_ring" sRing f fd) (T : TxtA mg) (hlist : mg "list" = none) (WC : WdC K mg CW)
    (mO : Meth K CW "order" fO) (bO : Binds K dO ["self", "number"] []) (GO : FnOk P w K mg base (L2.CX P w) 6 fO dO ["self", "number"] (spWList K CL CS CW CN fun m => natsV m.order)) :
    FnOk P w K mg base CX0 7 f fd ["_law_world", "_law_bases_here"] (spRing K CL CS CW) := by
  refine F.ok scRing (fun vs H Q E h => ?_) (fun cdv A outer s H vs Q E hr h => ?_)
  · obtain ⟨W, b, ns, ps, rfl, _⟩ := h
    rfl
  · obtain ⟨W, b, ns, ps, rfl, hW, g, hB, l5, nd, lt, k⟩ := h
    have hr6 : Room 6 _ := hr.mono (by decide)
    have hu := hu_of hr
    refine ⟨_, pss_cons (ps_set (i := 2) scRing.nd rfl (Or.inl rfl) (pe_op op_cat
          (pe_lc (own := [("_law_base", 8)]) (g := gName 8) (tt := tYes) (te := tMeth CW "order" (spWList K CL CS CW CN fun m => natsV m.order) [] (fun _ _ _ => False) (tVar 0) (tCons (tVar 8) tNil)) rfl scRing.nd (pi_list (pv 1)) (blkOk_by (N := nRing) (sc := defScope sRing) (by decide +kernel))
            (fun _ _ _ _ _ => pg_name (i := 8) scRing.nd rfl (Or.inl rfl)) (fun _ _ _ _ _ => pts_nil) (fun _ _ _ _ _ => pe_meth (pv 0) WC.cl mO GO hr6 bO .nil (passE (E := fun _ _ _ => False) fun _ _ _ z => z) (pa_cons (pv 8) pa_nil)))
          (pe_lst (pa_cons (pe_callTy call_list_of (by rfl) hlist (by decide +kernel) (pa_cons (pv 1) pa_nil)) pa_nil))))
      (pss_cons (ps_set (i := 3) scRing.nd rfl (Or.inr rfl) pe_dnewK)
      (pss_cons (ps_for PassesOwn.never rfl (pi_list (pv 2)) (pg_name (i := 4) scRing.nd rfl (Or.inl rfl))
        (pss_one (ps_for PassesOwn.never rfl (pi_range1 rfl T.range (pa_cons (pe_callB call_len_seq (by rfl) T.len PySem.boot_len (pa_cons (pv 4) pa_nil)) pa_nil)) (pg_name (i := 5) scRing.nd rfl (Or.inl rfl))
          (pss_one (ps_expr (pe_dupd (pv 3) (pe_disp (pps_cons (pe_ix ix_list (pv 4) (pv 5) (fun _ _ => rfl)) (pe_op op_cat (pe_dget2 hu (pv 3) (pe_ix ix_list (pv 4) (pv 5) (fun _ _ => rfl)) (pe_lst pa_nil) ⟨rfl, rfl, rfl, rfl⟩)
            (pe_slice sl_list (pv 4) (po_some (pe_op op_add (pv 5) pe_int)) (po_some (pe_op op_add (pv 5) pe_int)))) pps_nil) (by rfl) (by rfl) (fun z => by cases z) (by decide)) ⟨rfl, rfl, rfl, rfl⟩))))))
      (pss_cons (ps_set (i := 6) scRing.nd rfl (Or.inr rfl) (pe_callB (call_sortedDI rfl) (by rfl) T.sorted (by decide +kernel) (pa_cons (pv 3) pa_nil)))
      (pss_cons (ps_set (i := 7) scRing.nd rfl (Or.inr rfl) (pe_lc (own := [("_law_c", 9)]) (g := gName 9) (tt := tNone K) (te := tVar 9) rfl scRing.nd (pi_list (pv 6)) (blkOk_by (N := nRing) (sc := defScope sRing) (by decide +kernel))
          (fun _ _ _ _ _ => pg_name (i := 9) scRing.nd rfl (Or.inl rfl)) (fun _ _ _ _ _ => pts_one (pt_cmpR (op_eqD hr.units) (pe_dget hu (pv 3) (pv 9) (fun _ _ => rfl)) (pe_lst pa_nil) (nomark _))) (fun _ _ _ _ _ => pv 9)))
      (pss_cons (ps_while PassesOwn.never (pt_cmpR (op_neD hr.units) (pv 7) (pe_lst pa_nil) (nomark _))
        (pss_cons (ps_set (i := 6) scRing.nd rfl (Or.inr rfl) (pe_lc (own := [("_law_c", 9)]) (g := gName 9) (tt := tTest (tOp (rIn K true) (tVar 9) (tVar 7))) (te := tVar 9) rfl scRing.nd (pi_list (pv 6)) (blkOk_by (N := nRing) (sc := defScope sRing) (by decide +kernel))
          (fun _ _ _ _ _ => pg_name (i := 9) scRing.nd rfl (Or.inl rfl)) (fun _ _ _ _ _ => pts_one (pt_cmpR op_notIn_seq (pv 9) (pv 7) (by rfl))) (fun _ _ _ _ _ => pv 9)))
        (pss_one (ps_set (i := 7) scRing.nd rfl (Or.inr rfl) (pe_lc (own := [("_law_c", 9)]) (g := gName 9) (tt := tNoneLeft K) (te := tVar 9) rfl scRing.nd (pi_list (pv 6)) (blkOk_by (N := nRing) (sc := defScope sRing) (by decide +kernel))
          (fun _ _ _ _ _ => pg_name (i := 9) scRing.nd rfl (Or.inl rfl)) (fun _ _ _ _ _ => pts_one (pt_cmpR (op_eqD hr.units) (pe_lc (own := [("_law_d", 10)]) (g := gName 10) (tt := tTest (tOp (rIn K false) (tVar 10) (tVar 6))) (te := tVar 10) rfl scRing.nd (pi_list (pe_dget hu (pv 3) (pv 9) (fun _ _ => rfl))) (show BlkOk nRing (relS _ (defScope sRing)) _ _ from blkOk_by (by decide +kernel))
              (fun _ _ _ _ _ => pg_name (i := 10) scRing.nd rfl (Or.inl rfl)) (fun _ _ _ _ _ => pts_one (pt_cmpR op_in_seq (pv 10) (pv 6) (by rfl))) (fun _ _ _ _ _ => pv 10)) (pe_lst pa_nil) (nomark _))) (fun _ _ _ _ _ => pv 9))))))
      (pss_one (ps_ret (pe_cmpR (op_neD hr.units) (pv 6) (pe_lst pa_nil) (nomark _))))))))), ?_⟩
    have few := world_few hW
    have lm : (ps.map (·.2)).length = ps.length := List.length_map _
    refine ⟨_, rfl, b, rfl, ⟨_, hB⟩, fun D nD => lc_list (K := K) (a := b) (xs := natsV ns) (fun j G => ∃ qs : List Addr, Same H G ∧ G D = some (.lst (qs.map V.ref)) ∧ qs.length = j ∧ ∀ (i : Nat) (q : Addr) (l : List Nat), qs[i]? = some q → (ns.map (orderAt (ps.map (·.2))))[i]? = some l → q ≠ D ∧ G q = some (.lst (natsV l)))
        ⟨[], same_new nD, upd_same, rfl, fun i q l h => by simp at h⟩ (fun j G _ ⟨_, p, _⟩ => p.seq hB) (fun j x G hx p => ?_) (fun G p => ?_)⟩
    · obtain ⟨z, hz, rfl⟩ := get_map hx
      obtain ⟨qs, s2, gD, lq, each⟩ := p
      have zl := lt z (List.mem_of_getElem? hz)
      have jl : j < ns.length := (List.getElem?_eq_some_iff.mp hz).1
      refine ⟨rfl, ?_⟩
      unfold tYes
      simp only [if_true]
      refine wl_read (hW.keep s2) (fun _ _ _ => rfl) rfl rfl zl fun c hc p np => ?_
      refine ⟨_, by rw [upd_ne (ne_of_none gD np)]; exact gD, small1000 (by rw [List.length_map]; omega), qs ++ [p], same_upd (same_upd s2 (none_of_same s2 np)) nD, by rw [upd_same, List.map_append]; rfl, by rw [List.length_append, lq]; rfl, fun i q l hq hl => ?_⟩
      have pD : p ≠ D := (ne_of_none gD np).symm
      by_cases e : i < qs.length
      · rw [List.getElem?_append_left e] at hq
        obtain ⟨a, b⟩ := each i q l hq hl
        exact ⟨a, by rw [upd_ne a, upd_ne (ne_of_none b np)]; exact b⟩
      · have := (List.getElem?_eq_some_iff.mp hq).1
        rw [List.length_append, List.length_singleton] at this
        obtain rfl : i = qs.length := by omega
        rw [List.getElem?_append_right (Nat.le_refl _), Nat.sub_self] at hq
        cases hq
        rw [lq, List.getElem?_map, hz] at hl
        cases hl
        exact ⟨pD, by rw [upd_ne pD, upd_same, (g.cm hc).1]⟩
    obtain ⟨qs, s2, gD, lq, each⟩ := p
    have ln : (natsV ns).length = ns.length := List.length_map _
    rw [ln] at lq
    refine ⟨_, rfl, b, _, rfl, .inl (s2.seq hB), fun q1 nq1 => ⟨by show 1 ≤ sizeLine; decide, fun q2 nq2 => ⟨D, q2, _, _, rfl, rfl, app (app gD nq1) nq2, upd_same, ?_, fun q3 nq3 => ?_⟩⟩⟩
    · show (qs.map V.ref).length + 1 ≤ sizeLine
      rw [List.length_map, lq]
      exact Nat.le_trans (show ns.length + 1 ≤ 6 by omega) (by decide)
    have h3 : ListsAt (upd (upd (upd G q1 (.lst (natsV ns))) q2 (.lst [.ref q1])) q3 (.lst (qs.map V.ref ++ [.ref q1]))) q3 (ordN (ps.map (·.2)) ns) := by
      refine ⟨qs ++ [q1], by rw [upd_same, List.map_append]; rfl, by unfold ordN; rw [List.length_append, List.length_append, List.length_map, lq]; rfl, fun i q l hq hl => ?_⟩
      unfold ordN at hl
      by_cases e : i < qs.length
      · rw [List.getElem?_append_left e] at hq
        rw [List.getElem?_append_left (by rw [List.length_map, ← lq]; exact e)] at hl
        exact app (app (app (each i q l hq hl).2 nq1) nq2) nq3
      · have := (List.getElem?_eq_some_iff.mp hq).1
        rw [List.length_append, List.length_singleton] at this
        obtain rfl : i = qs.length := by omega
        rw [List.getElem?_append_right (Nat.le_refl _), Nat.sub_self] at hq
        cases hq
        rw [lq, List.getElem?_append_right (by rw [List.length_map]; exact Nat.le_refl _), List.length_map, Nat.sub_self] at hl
        cases hl
        exact app (app upd_same nq2) nq3
    have s3 : Same H (upd (upd (upd G q1 (.lst (natsV ns))) q2 (.lst [.ref q1])) q3 (.lst (qs.map V.ref ++ [.ref q1]))) := s2.trans (ad (ad (same_new nq1) nq2) nq3)
    generalize (upd (upd (upd G q1 (.lst (natsV ns))) q2 (.lst [.ref q1])) q3 (.lst (qs.map V.ref ++ [.ref q1]))) = G3 at h3 s3 ⊢
    clear each gD s2
    obtain ⟨els, eels⟩ : ∃ els, els = ordN (ps.map (·.2)) ns := ⟨_, rfl⟩
    rw [← eels] at h3
    have lels : els.length ≤ 6 := by
      rw [eels]
      unfold ordN
      rw [List.length_append, List.length_map]
      show ns.length + 1 ≤ 6
      omega
    have items : ∀ l ∈ els, l.Nodup ∧ ∀ x ∈ l, x < ps.length := fun l hl => by
      rw [eels] at hl
      rcases List.mem_append.mp hl with hl | hl
      · obtain ⟨z, hz, rfl⟩ := List.mem_map.mp hl
        obtain ⟨m, em, k, eo, _⟩ := g.at_ (by rw [lm]; exact lt z hz)
        rw [eo]
        exact ⟨k.nd, fun x hx => Nat.lt_of_le_of_lt (k.le x hx) (lt z hz)⟩
      · rw [List.mem_singleton.mp hl]
        exact ⟨nd, lt⟩
    have shortl : ∀ l ∈ els, l.length ≤ 25 := fun l hl => Nat.le_trans (few_below (items l hl).1 (items l hl).2) few
    refine fun Dd nDd => ?_
    obtain ⟨qs3, eq3, lq3, at3⟩ := h3
    have qDd : q3 ≠ Dd := ne_of_none eq3 nDd
    refine ⟨_, rfl, q3, rfl, ⟨_, SqL.of (app eq3 nDd)⟩, for_list (K := K) (a := q3) (xs := qs3.map V.ref) (fun i σ G => ∃ (v4 v5 : Option V) (kvs : List (Key × V)) (ks : List Nat), σ = [some (.ref W), some (.ref b), some (.ref q3), some (.ref Dd), v4, v5, none, none, none, none, none] ∧ Same G3 G ∧ G Dd = some (.dK kvs) ∧ Beh (evsAll (els.take i)) kvs ks G)
      ⟨_, _, [], [], rfl, same_new nDd, upd_same, Beh.start⟩ (fun i σ G _ ⟨_, _, _, _, _, s, _⟩ => SqL.of (s _ _ eq3)) ?_ ?_⟩
    · rintro i x σ G4 hx ⟨v4, v5, kvs, ks, rfl, s4, eD, B⟩
      obtain ⟨q, hq, rfl⟩ := get_map hx
      have il : i < els.length := by rw [← lq3]; exact (List.getElem?_eq_some_iff.mp hq).1
      obtain ⟨l, hl⟩ : ∃ l, els[i]? = some l := ⟨_, List.getElem?_eq_getElem il⟩
      have eq := at3 i q l hq hl
      have l25 := shortl l (List.mem_of_getElem? hl)
      have il6 : i ≤ 5 := by omega
      have lnl : (natsV l).length = l.length := List.length_map _
      have few_ev : ∀ k, (evsAll (els.take i) ++ (evs l).take k).length ≤ 175 := fun k => by
        have h1 : ∀ (m : List (List Nat)), (∀ l ∈ m, l.length ≤ 25) → (evsAll m).length ≤ 25 * m.length := by
          intro m
          induction m with
          | nil => intro _; exact Nat.zero_le _
          | cons a m ih =>
            intro h
            have := ih fun l hl => h l (List.mem_cons_of_mem _ hl)
            have ha := h a List.mem_cons_self
            have e : evsAll (a :: m) = evs a ++ evsAll m := rfl
            rw [e, List.length_append, evs_len, List.length_cons]
            omega
        have h2 := h1 (els.take i) fun l hl => shortl l (List.take_subset _ _ hl)
        have h3 : ((evs l).take k).length ≤ 25 := by
          have := List.length_take_le k (evs l)
          have := evs_len l
          have := List.length_take_le' k (evs l)
          omega
        have h4 : (els.take i).length ≤ 6 := by
          have := List.length_take_le' i els
          omega
        rw [List.length_append]
        omega
      refine ⟨_, rfl, q, natsV l, rfl, .inl (SqL.of (s4 _ _ eq)), ((l.length : Nat) : Int), congrArg (fun z : Nat => [V.int (z : Int)]) lnl, by omega, by omega, for_range (lo := 0) (n := l.length) (fun k σ G => ∃ (v5 : Option V) (kvs : List (Key × V)) (ks : List Nat), σ = [some (.ref W), some (.ref b), some (.ref q3), some (.ref Dd), some (.ref q), v5, none, none, none, none, none] ∧ Same G3 G ∧ G Dd = some (.dK kvs) ∧ Beh (evsAll (els.take i) ++ (evs l).take k) kvs ks G)
        ⟨_, kvs, ks, rfl, s4, eD, by rw [List.take_zero, List.append_nil]; exact B⟩ ?_ ?_⟩
      · rintro k σ G5 hk ⟨v5, kvs, ks, rfl, s5, eD, B⟩
        obtain ⟨x, hxl⟩ : ∃ x, l[k]? = some x := ⟨_, List.getElem?_eq_getElem hk⟩
        have eqk : ∀ {G' : Hp}, Same G3 G' → SqL K G' q (natsV l) := fun s => SqL.of (s _ _ eq)
        have xat : atI (natsV l) ((k : Nat) : Int) = some (natV x) := atI_nat (by unfold natsV; rw [List.getElem?_map, hxl]; rfl)
        have zk : (0 : Int) + (k : Nat) = ((k : Nat) : Int) := by omega
        rw [zk]
        refine ⟨_, rfl, Dd, rfl, .inl ⟨_, .inl eD⟩, fun dp ndp => ?_⟩
        have s6 := s5.trans (same_new (o := .dK []) ndp)
        have eD6 := app (o := .dK []) eD ndp
        have edp : (upd G5 dp (.dK [])) dp = some (.dK []) := upd_same
        have B6 := B.keep (same_new (o := .dK []) ndp)
        generalize upd G5 dp (.dK []) = G6 at s6 eD6 edp B6 ⊢
        refine ⟨_, rfl, _, rfl, q, _, (k : Nat), natV x, rfl, rfl, eqk s6, xat, ?_⟩
        refine ⟨_, rfl, Dd, rfl, .inl ⟨_, .inl eD6⟩, _, rfl, _, rfl, q, _, (k : Nat), natV x, rfl, rfl, eqk s6, xat, Nat.zero_le _, fun ep nep => ⟨_, DGet.k (k := Sum.inl ((x : Nat) : Int)) (app eD6 nep), ?_⟩⟩
        have s7 := s6.trans (same_new (o := .lst []) nep)
        have eD7 := app (o := .lst []) eD6 nep
        have edp7 := app (o := .lst []) edp nep
        have B7 := B6.keep (same_new (o := .lst []) nep)
        have eep : (upd G6 ep (.lst [])) ep = some (.lst []) := upd_same
        generalize upd G6 ep (.lst []) = G7 at s7 eD7 edp7 B7 eep ⊢
        obtain ⟨pa, epa, hpa⟩ : ∃ pa, (valV kvs (Sum.inl ((x : Nat) : Int))).getD (.ref ep) = .ref pa ∧ G7 pa = some (.lst (natsV (nextOf (evsAll (els.take i) ++ (evs l).take k) x))) := by
          by_cases hxk : x ∈ ks
          · obtain ⟨p, a, c⟩ := B7.val x hxk
            exact ⟨p, by rw [a]; rfl, c⟩
          · exact ⟨ep, by rw [B7.none hxk]; rfl, by rw [nextOf_none (fun z => hxk ((B7.mem x).mpr z))]; exact eep⟩
        rw [epa]
        refine ⟨_, rfl, _, rfl, _, _, rfl, rfl, _, rfl, _, rfl, _, _, rfl, rfl, _, rfl, q, _, rfl, eqk s7, fun sp nsp => ?_⟩
        rw [cut_next l hk]
        have s8 := s7.trans (same_new (o := .lst (natsV ((l.drop (k + 1)).take 1))) nsp)
        have eD8 := app (o := .lst (natsV ((l.drop (k + 1)).take 1))) eD7 nsp
        have edp8 := app (o := .lst (natsV ((l.drop (k + 1)).take 1))) edp7 nsp
        have B8 := B7.keep (same_new (o := .lst (natsV ((l.drop (k + 1)).take 1))) nsp)
        have hpa8 := app (o := .lst (natsV ((l.drop (k + 1)).take 1))) hpa nsp
        have esp : (upd G7 sp (.lst (natsV ((l.drop (k + 1)).take 1)))) sp = some (.lst (natsV ((l.drop (k + 1)).take 1))) := upd_same
        generalize upd G7 sp (.lst (natsV ((l.drop (k + 1)).take 1))) = G8 at s8 eD8 edp8 B8 hpa8 esp ⊢
        have lnx : (nextOf (evsAll (els.take i) ++ (evs l).take k) x).length ≤ 175 := Nat.le_trans (nextOf_le (fun p hp => by
          rcases List.mem_append.mp hp with hp | hp
          · obtain ⟨e, he, hp⟩ := List.mem_flatten.mp hp
            obtain ⟨l', _, rfl⟩ := List.mem_map.mp he
            exact evs_short l' p hp
          · exact evs_short l p (List.take_subset _ _ hp)) x) (few_ev k)
        refine ⟨pa, sp, _, _, rfl, rfl, hpa8, esp, ?_, fun np nnp => ?_⟩
        · unfold natsV
          rw [List.length_map, List.length_map]
          have := List.length_take_le 1 (l.drop (k + 1))
          exact Nat.le_trans (show _ ≤ 176 by omega) (by decide)
        have enp : (upd G8 np (.lst (natsV (nextOf (evsAll (els.take i) ++ (evs l).take k) x) ++ natsV ((l.drop (k + 1)).take 1)))) np = some (.lst (natsV (nextOf (evsAll (els.take i) ++ (evs l).take k) x ++ (l.drop (k + 1)).take 1))) := by
          rw [upd_same]
          unfold natsV
          rw [List.map_append]
        have sN : Same G8 (upd G8 np (.lst (natsV (nextOf (evsAll (els.take i) ++ (evs l).take k) x) ++ natsV ((l.drop (k + 1)).take 1)))) := same_new nnp
        generalize upd G8 np (.lst (natsV (nextOf (evsAll (els.take i) ++ (evs l).take k) x) ++ natsV ((l.drop (k + 1)).take 1))) = G9 at enp sN ⊢
        have s9 := s8.trans sN
        have eD9 := sN _ _ eD8
        have edp9 := sN _ _ edp8
        have B9 := B8.keep sN
        have dDd : dp ≠ Dd := fun z => by rw [z, eD] at ndp; cases ndp
        have dp3 : G3 dp = none := none_of_same s5 ndp
        refine ⟨edp9, [(Sum.inl ((x : Nat) : Int), .ref np)], rfl, by show 1 ≤ 15; decide, ?_⟩
        have eDA : (upd G9 dp (.dK (mergeK [] [(Sum.inl ((x : Nat) : Int), V.ref np)]))) Dd = some (.dK kvs) := by rw [upd_ne dDd.symm]; exact eD9
        have edA : (upd G9 dp (.dK (mergeK [] [(Sum.inl ((x : Nat) : Int), V.ref np)]))) dp = some (.dK [(Sum.inl ((x : Nat) : Int), .ref np)]) := upd_same
        have sA : Same G3 (upd G9 dp (.dK (mergeK [] [(Sum.inl ((x : Nat) : Int), V.ref np)]))) := same_upd s9 dp3
        have BA : Beh (evsAll (els.take i) ++ (evs l).take k) kvs ks (upd G9 dp (.dK (mergeK [] [(Sum.inl ((x : Nat) : Int), V.ref np)]))) := B9.updD edp9
        have enA : (upd G9 dp (.dK (mergeK [] [(Sum.inl ((x : Nat) : Int), V.ref np)]))) np = some (.lst (natsV (nextOf (evsAll (els.take i) ++ (evs l).take k) x ++ (l.drop (k + 1)).take 1))) := by
          rw [upd_ne (fun z => by rw [z, edp9] at enp; cases enp)]
          exact enp
        generalize upd G9 dp (.dK (mergeK [] [(Sum.inl ((x : Nat) : Int), V.ref np)])) = GA at eDA edA sA BA enA ⊢
        have lk : kvs.length ≤ 25 := by
          have e := congrArg List.length BA.keys
          rw [List.length_map, List.length_map] at e
          rw [e]
          refine Nat.le_trans (few_below (n := ps.length) BA.nd fun y hy => ?_) few
          have hy := (BA.mem y).mp hy
          rw [List.map_append, List.mem_append] at hy
          rcases hy with hy | hy
          · obtain ⟨l', hl', hy⟩ := evs_items.mp hy
            exact (items l' (List.take_subset _ _ hl')).2 y hy
          · obtain ⟨p, hp, rfl⟩ := List.mem_map.mp hy
            refine (items l (List.mem_of_getElem? hl)).2 _ ?_
            rw [← evs_map l]
            exact List.mem_map.mpr ⟨p, List.take_subset _ _ hp, rfl⟩
        refine ⟨dp, kvs, _, rfl, dDd.symm, eDA, edA, Nat.le_trans (show kvs.length + 1 ≤ 26 by omega) (by decide), ?_⟩
        obtain ⟨ks', BP⟩ := BA.put enA
        rw [show mergeK kvs [(Sum.inl ((x : Nat) : Int), V.ref np)] = putK kvs (Sum.inl ((x : Nat) : Int)) (.ref np) from rfl]
        refine ⟨_, _, ks', rfl, same_upd sA nDd, upd_same, ?_⟩
        rw [evs_take hxl, ← List.append_assoc]
        exact BP.updD eDA
      · rintro σ G5 ⟨v5, kvs, ks, rfl, s5, eD, B⟩
        refine ⟨_, _, kvs, ks, rfl, s5, eD, ?_⟩
        rw [evsAll_next hl, ← evs_all l]
        exact B
    · rintro σ G4 ⟨v4, v5, kvs, ks, rfl, s4, eD, B⟩
      rw [List.length_map, lq3, List.take_length] at B
      have kslt : ∀ y ∈ ks, y < ps.length := fun y hy => by
        obtain ⟨l', hl', hy⟩ := evs_items.mp ((B.mem y).mp hy)
        exact (items l' hl').2 y hy
      have k25 : ks.length ≤ 25 := Nat.le_trans (few_below B.nd kslt) few
      refine ⟨_, rfl, Dd, kvs, intsN ks, rfl, .inl eD, by rw [B.keys]; unfold intsN; rw [List.map_map]; rfl, by unfold intsN; rw [List.length_map]; omega, fun ys Lf pm pw nL => ?_⟩
      obtain ⟨t, rfl, pt, _⟩ := sorted_nats pm pw
      rw [← natsV_ints]
      have sL : Same G4 (upd G4 Lf (.lst (natsV t))) := same_new nL
      have eL : (upd G4 Lf (.lst (natsV t))) Lf = some (.lst (natsV t)) := upd_same
      have s5 := s4.trans sL
      have eD5 := sL _ _ eD
      have B5 := B.keep sL
      generalize upd G4 Lf (.lst (natsV t)) = G5 at eL s5 eD5 B5 ⊢
      clear sL
      have val : ∀ {G' : Hp} {c : Nat}, Same G5 G' → c ∈ ks → ∃ p, valV kvs (Sum.inl ((c : Nat) : Int)) = some (.ref p) ∧ G' p = some (.lst (natsV (nextOf (evsAll els) c))) := fun s hc => (B5.keep s).val _ hc
      have eqNil : ∀ l : List Nat, PyData.eqv (natsD l) (natsD []) = decide (l = []) := fun l => eqv_nats l []
      have inN : ∀ {c : Nat} {l : List Nat}, c ∈ l → l.length ≤ 200 → True := fun _ _ => trivial
      have free0 : freeN (evsAll els) t = t.filter fun c => decide (nextOf (evsAll els) c = []) := by
        unfold freeN
        refine List.filter_congr fun c hc => ?_
        congr 1
        rw [List.filter_eq_self.mpr fun y hy => ?_]
        obtain ⟨u, hu, hyu⟩ := mem_nextOf.mp hy
        have := evs_closed _ hu y hyu
        rw [← B.mem y] at this
        simpa using pt.mem_iff.mpr this
      have L0 : Left (evsAll els) t := ⟨fun c hc => (B.mem c).mp (pt.mem_iff.mp hc), fun c hc hn => absurd (pt.mem_iff.mpr ((B.mem c).mpr hc)) hn⟩
      have tnd : t.Nodup := pt.nodup_iff.mpr B.nd
      have tks : ∀ c ∈ t, c ∈ ks := fun c hc => pt.mem_iff.mp hc
      refine ⟨_, rfl, Lf, rfl, ⟨_, SqL.of eL⟩, fun D2 nD2 => lc_selX (K := K) (ps := t) (gv := natV) 9 natV (fun c => decide (nextOf (evsAll els) c = [])) (SqL.of eL) (small1000 (by rw [pt.length_eq]; omega)) nD2 (fun _ => rfl) (fun j c G' Q1 hc s' q1 => ?_) (fun j c G' Q1 hc _ s' q1 => ⟨_, rfl, q1 _ (Same.refl _)⟩) fun G6 s6 d2 => ?_⟩
      · obtain ⟨p, ep, hp⟩ := val s' (tks c (List.mem_of_getElem? hc))
        refine ⟨_, rfl, _, rfl, Dd, _, rfl, ep ▸ DGet.k (k := Sum.inl ((c : Nat) : Int)) (s' _ _ eD5), Nat.zero_le _, fun q nq => ⟨natsD (nextOf (evsAll els) c), natsD [], dp_natsL (app hp nq), dp_natsL upd_same, shaped_nats _, shaped_nats _, _, rfl, ?_⟩⟩
        rw [eqNil]
        exact q1 _ (same_new nq)
      rw [← free0] at d2
      have subl : ∀ {left : List Nat}, Left (evsAll els) left → left.Nodup → left.length ≤ 25 := fun {left} h n => Nat.le_trans (few_below n fun c hc => kslt c ((B.mem c).mpr (h.sub c hc))) few
      refine while_m (fun m σ G => ∃ (Lf Fr : Addr) (left : List Nat), m = left.length ∧ σ = [some (.ref W), some (.ref b), some (.ref q3), some (.ref Dd), v4, v5, some (.ref Lf), some (.ref Fr), none, none, none] ∧ Same G5 G ∧ G Lf = some (.lst (natsV left)) ∧ G Fr = some (.lst (natsV (freeN (evsAll els) left))) ∧ Left (evsAll els) left ∧ left.Nodup)
        ⟨_, Lf, D2, t, rfl, rfl, s6, s6 _ _ eL, d2, L0, tnd⟩ ?_ ?_
      · rintro m σ G7 ⟨Lf, Fr, left, rfl, rfl, s7, eLf, eFr, hL, hnd⟩
        have l25 := subl hL hnd
        refine ⟨_, rfl, Nat.zero_le _, fun p1 np1 => ⟨natsD (freeN (evsAll els) left), natsD [], dp_natsL (app eFr np1), dp_natsL upd_same, shaped_nats _, shaped_nats _, _, rfl, ?_⟩⟩
        rw [eqNil]
        have sA : Same G7 (upd G7 p1 (.lst [])) := same_new np1
        generalize upd G7 p1 (.lst []) = G8 at sA
        have s8 := s7.trans sA
        have eLf8 := sA _ _ eLf
        have eFr8 := sA _ _ eFr
        by_cases hf : freeN (evsAll els) left = []
        · refine ite_false_of (by simp [hf]) ?_
          refine ⟨_, rfl, Nat.zero_le _, fun q nq => ⟨natsD left, natsD [], dp_natsL (app eLf8 nq), dp_natsL upd_same, shaped_nats _, shaped_nats _, ?_⟩⟩
          rw [eqNil]
          refine k _ _ (s3.trans ((s5.trans s8).trans (same_new nq))) (fun r => ?_) (fun ⟨mg, m⟩ => ?_)
          · have r2 : Mg.Round (els.map intsN) := by rw [eels, ordN_ls]; exact r
            have := hL.round r2
            simpa using this
          · have ndl : ∀ l ∈ els.map intsN, l.Nodup := fun l hl => by
              obtain ⟨l', hl', rfl⟩ := List.mem_map.mp hl
              exact Pr.nodup_ints (items l' hl').1
            have := left_merged ndl (by rw [eels, ordN_ls]; exact m) hf
            simpa using this
        · refine ite_true_of (by simp [hf]) ?_
          refine ⟨_, rfl, Lf, rfl, ⟨_, SqL.of eLf8⟩, fun D3 nD3 => lc_selX (K := K) (ps := left) (gv := natV) 9 natV (fun c => !decide (c ∈ freeN (evsAll els) left)) (SqL.of eLf8) (small1000 (by omega)) nD3 (fun _ => rfl) (fun j c G' Q1 hc s' q1 => ?_) (fun j c G' Q1 hc _ s' q1 => ⟨_, rfl, q1 _ (Same.refl _)⟩) fun G9 s9 d3 => ?_⟩
          · refine ⟨_, rfl, _, rfl, Fr, _, rfl, .inl (SqL.of (s' _ _ eFr8)), rfl, flat_nats _, _, rfl, ?_⟩
            have e := inV_nats (z := c) (freeN (evsAll els) left)
            show Q1 (if true = true then !inV (natV c) (natsV (freeN (evsAll els) left)) else inV (natV c) (natsV (freeN (evsAll els) left))) _
            rw [if_pos rfl, show inV (natV c) (natsV (freeN (evsAll els) left)) = decide (c ∈ freeN (evsAll els) left) from e]
            exact q1 _ (Same.refl _)
          obtain ⟨left2, el2⟩ : ∃ left2, left2 = left.filter fun c => decide (c ∉ freeN (evsAll els) left) := ⟨_, rfl⟩
          have el3 : (left.filter fun c => !decide (c ∈ freeN (evsAll els) left)) = left2 := by
            rw [el2]
            exact List.filter_congr fun c _ => by simp
          have hL2 : Left (evsAll els) left2 := by rw [el2]; exact hL.step evs_closed
          have hnd2 : left2.Nodup := by rw [el2]; exact hnd.filter _
          have lt2 : left2.length < left.length := by
            rw [el2, List.length_filter_lt_length_iff_exists]
            obtain ⟨c, hc⟩ := List.exists_mem_of_ne_nil _ hf
            exact ⟨c, (List.mem_filter.mp hc).1, by simpa using hc⟩
          rw [el3] at d3
          have l225 := subl hL2 hnd2
          have s59 := s8.trans s9
          refine ⟨_, rfl, D3, rfl, ⟨_, SqL.of d3⟩, fun D4 nD4 => lc_selX (K := K) (ps := left2) (gv := natV) 9 natV (fun c => decide (((nextOf (evsAll els) c).filter fun d => decide (d ∈ left2)) = [])) (SqL.of d3) (small1000 (by omega)) nD4 (fun _ => rfl) (fun j c G' Q1 hc s' q1 => ?_) (fun j c G' Q1 hc _ s' q1 => ⟨_, rfl, q1 _ (Same.refl _)⟩) fun GA sA2 d4 => ?_⟩
          · obtain ⟨p, ep, hp⟩ := val (s59.trans s') ((B.mem c).mpr (hL2.sub c (List.mem_of_getElem? hc)))
            have lnx : (nextOf (evsAll els) c).length ≤ 175 := by
              refine Nat.le_trans (nextOf_le (fun p hp => ?_) c) (Nat.le_trans (evsAll_len shortl) (by omega))
              obtain ⟨e, he, hp⟩ := List.mem_flatten.mp hp
              obtain ⟨l', _, rfl⟩ := List.mem_map.mp he
              exact evs_short l' p hp
            refine ⟨_, rfl, _, rfl, Dd, _, rfl, ep ▸ DGet.k (k := Sum.inl ((c : Nat) : Int)) (s' _ _ (s59 _ _ eD5)), p, rfl, ⟨_, SqL.of hp⟩, fun D5 nD5 => lc_selX (K := K) (ps := nextOf (evsAll els) c) (gv := natV) 10 natV (fun d => decide (d ∈ left2)) (SqL.of hp) (small1000 (by omega)) nD5 (fun _ => rfl) (fun j2 d G2 Q2 hd s2 q2 => ?_) (fun j2 d G2 Q2 hd _ s2 q2 => ⟨_, rfl, q2 _ (Same.refl _)⟩) fun GB sB d5 => ?_⟩
            · refine ⟨_, rfl, _, rfl, D3, _, rfl, .inl (SqL.of (s2 _ _ (s' _ _ d3))), rfl, flat_nats _, _, rfl, ?_⟩
              have e := inV_nats (z := d) left2
              show Q2 (if false = true then !inV (natV d) (natsV left2) else inV (natV d) (natsV left2)) _
              rw [if_neg Bool.false_ne_true, show inV (natV d) (natsV left2) = decide (d ∈ left2) from e]
              exact q2 _ (Same.refl _)
            · refine ⟨Nat.zero_le _, fun q nq => ⟨natsD ((nextOf (evsAll els) c).filter fun d => decide (d ∈ left2)), natsD [], dp_natsL (app d5 nq), dp_natsL upd_same, shaped_nats _, shaped_nats _, _, rfl, ?_⟩⟩
              rw [eqNil]
              exact q1 _ (sB.trans (same_new nq))
          · exact ⟨_, lt2, D3, D4, left2, rfl, rfl, s59.trans sA2, sA2 _ _ d3, d4, hL2, hnd2⟩
      · rintro σ G Q1 Q2 imp ⟨x, hx, le, h⟩
        refine ⟨x, hx, le, fun p hp => ?_⟩
        obtain ⟨d, e, h1, h2, h3, h4, c, h5, h6⟩ := h p hp
        exact ⟨d, e, h1, h2, h3, h4, c, h5, imp _ _ h6⟩
end
end Lw

set_option autoImplicit true
set_option Elab.async false
set_option linter.all false
set_option maxRecDepth 100000
set_option maxHeartbeats 1000000
/-! k13: what a line says of a layout. -/
namespace Pr
open PySem L2 Two ClX SlX
theorem sub_filter : ∀ {a b : List Nat}, a.Sublist b → b.Nodup → b.filter (fun x => decide (x ∈ a)) = a := by
  intro a b h
  induction h with
  | slnil => intro _; rfl
  | @cons a b x h ih =>
    intro nd
    have nd := List.nodup_cons.mp nd
    rw [List.filter_cons_of_neg (by simpa using fun m => nd.1 (h.subset m))]
    exact ih nd.2
  | @cons_cons a b x h ih =>
    intro nd
    have nd := List.nodup_cons.mp nd
    rw [List.filter_cons_of_pos (by simp)]
    congr 1
    rw [← ih nd.2]
    refine List.filter_congr fun y hy => ?_
    have ne : y ≠ x := fun e => nd.1 (e ▸ hy)
    rw [ih nd.2]
    simp [ne]
theorem line_drop {ms : List Cm} (W : World0 ms) : ∀ (i : Nat), i < ms.length → ∀ (k y : Nat), (lineAt ms i)[k]? = some y → lineAt ms y = (lineAt ms i).drop k := by
  intro i
  induction i using Nat.strongRecOn with
  | ind i ih =>
    intro hi k y hy
    obtain ⟨m, em⟩ : ∃ m, ms[i]? = some m := ⟨_, List.getElem?_eq_getElem hi⟩
    obtain ⟨x, t, e1, e2, e3, e4⟩ := W.line i m em
    rw [(World0.at_ em).1] at hy ⊢
    cases k with
    | zero =>
      rw [e1] at hy
      cases hy
      rw [e3]
      rfl
    | succ k =>
      rw [e1] at hy ⊢
      have hy : t[k]? = some y := hy
      show _ = t.drop k
      rcases e4 with ⟨_, e5⟩ | ⟨y1, t', e5, yx, ey, _⟩
      · rw [e5] at hy
        cases hy
      · have := ih y1 (by omega) (by omega) k y (by rw [ey]; exact hy)
        rw [ey] at this
        exact this
def cellsN (ms : List Cm) (n j : Nat) : List Str := (((lineAt ms n).reverse.take j).map (fieldsAt ms)).flatten
section
variable {ms : List Cm}
theorem cells_next {n j x : Nat} (h : (lineAt ms n).reverse[j]? = some x) : cellsN ms n (j + 1) = cellsN ms n j ++ fieldsAt ms x := by
  unfold cellsN
  rw [take_snoc h, List.map_append, List.flatten_append]
  simp
theorem cells_pre {n j : Nat} : cellsN ms n j = (cellsN ms n (lineAt ms n).length).take (cellsN ms n j).length := by
  have e : cellsN ms n (lineAt ms n).length = cellsN ms n j ++ (((lineAt ms n).reverse.drop j).map (fieldsAt ms)).flatten := by
    unfold cellsN
    rw [← List.flatten_append, ← List.map_append, List.take_append_drop, List.take_of_length_le (by rw [List.length_reverse]; exact Nat.le_refl _)]
  rw [e, List.take_left']
  rfl
theorem Grown.lay_at (g : Grown ms) {n : Nat} (h : n < ms.length) : layAt ms n = cellsN ms n (lineAt ms n).length := by
  obtain ⟨m, e, k, _, _⟩ := g.at_ h
  unfold cellsN
  rw [List.take_of_length_le (by rw [List.length_reverse]; exact Nat.le_refl _), (World0.at_ e).2.1, (World0.at_ e).1]
  exact k.lay
theorem Grown.line_mem (g : Grown ms) {n : Nat} (h : n < ms.length) : (∀ x, x ∈ lineAt ms n ↔ x ∈ orderAt ms n ∧ (fieldsAt ms x ≠ [] ∨ x = 0)) ∧ (lineAt ms n).Sublist (orderAt ms n) ∧ (orderAt ms n).Nodup ∧ (∀ x ∈ orderAt ms n, x ≤ n) := by
  obtain ⟨m, e, k, eo, _⟩ := g.at_ h
  rw [(World0.at_ e).1, eo]
  exact ⟨k.line, k.lsub, k.nd, k.le⟩
theorem Grown.cell (g : Grown ms) {n j x : Nat} (h : n < ms.length) (hx : (lineAt ms n).reverse[j]? = some x) : x ≤ n ∧ layAt ms x = cellsN ms n (j + 1) := by
  have hj : j < (lineAt ms n).length := by
    have := (List.getElem?_eq_some_iff.mp hx).1
    rwa [List.length_reverse] at this
  obtain ⟨lm, ls, nd, le⟩ := g.line_mem h
  have xm : x ∈ lineAt ms n := List.mem_reverse.mp (List.mem_of_getElem? hx)
  have xn := le x ((lm x).mp xm).1
  have hx2 := hx
  rw [List.getElem?_reverse hj] at hx2
  have ed := line_drop g.world0 n h _ x hx2
  refine ⟨xn, ?_⟩
  rw [g.lay_at (by omega)]
  unfold cellsN
  rw [ed, List.take_of_length_le (by rw [List.length_reverse]; exact Nat.le_refl _), List.reverse_drop]
  have e : (lineAt ms n).length - ((lineAt ms n).length - 1 - j) = j + 1 := by omega
  rw [e]
theorem Grown.owners (g : Grown ms) {n : Nat} (h : n < ms.length) : (lineAt ms n).Perm ((orderAt ms n).filter fun c => (!decide (fieldsAt ms c = [])) || decide (c = 0)) := by
  obtain ⟨lm, ls, nd, le⟩ := g.line_mem h
  refine (List.perm_ext_iff_of_nodup (ls.nodup nd) (nd.filter _)).mpr fun x => ?_
  rw [lm x, List.mem_filter]
  simp
theorem Grown.line_filter (g : Grown ms) {n : Nat} (h : n < ms.length) : (orderAt ms n).filter (fun x => decide (x ∈ lineAt ms n)) = lineAt ms n := by
  obtain ⟨lm, ls, nd, le⟩ := g.line_mem h
  exact sub_filter ls nd
theorem Grown.head (g : Grown ms) {n : Nat} (h : n < ms.length) : ∃ o, (lineAt ms n)[0]? = some o ∧ o ≤ n ∧ layAt ms o = layAt ms n := by
  obtain ⟨m, e, k, eo, _⟩ := g.at_ h
  obtain ⟨o, h1, h2, h3, h4⟩ := g.world0.own e
  have hl := (World0.at_ e).1
  refine ⟨o, by rw [hl]; exact h1, h2, ?_⟩
  rw [g.lay_at (by omega), g.lay_at h]
  unfold cellsN
  rw [h3, hl]
theorem Grown.rooms (g : Grown ms) {n : Nat} (h : n < ms.length) : roomAt ms n = !decide ((orderAt ms n).filter (roomyAt ms) = []) := by
  obtain ⟨m, e, k, eo, _⟩ := g.at_ h
  rw [(World0.at_ e).2.2.1, eo]
  have z := k.room
  cases hr : m.room with
  | true =>
    obtain ⟨x, hx, hy⟩ := z.mp hr
    have : x ∈ m.order.filter (roomyAt ms) := List.mem_filter.mpr ⟨hx, hy⟩
    cases q : m.order.filter (roomyAt ms) with
    | nil => rw [q] at this; cases this
    | cons a l => rfl
  | false =>
    cases q : m.order.filter (roomyAt ms) with
    | nil => rfl
    | cons a l =>
      have : a ∈ m.order.filter (roomyAt ms) := by rw [q]; exact List.mem_cons_self
      have := z.mpr ⟨a, (List.mem_filter.mp this).1, (List.mem_filter.mp this).2⟩
      rw [hr] at this
      cases this
theorem Grown.names (g : Grown ms) {n : Nat} (h : n < ms.length) : (∀ z ∈ fieldsAt ms n, isName z = true) ∧ (fieldsAt ms n).length ≤ 6 ∧ (layAt ms n).length ≤ 150 := by
  obtain ⟨m, e, k, eo, _⟩ := g.at_ h
  have ef : fieldsAt ms n = m.fields := by unfold fieldsAt; rw [e]
  have := g.world0.lay n m e
  have := g.world0.few
  rw [ef, (World0.at_ e).2.1]
  exact ⟨k.fnm, k.f6, by omega⟩
end
def strsL (fs : List Str) : PyData := .list (fs.map PyData.str)
theorem dp_strsL {K : PySem.W.Frag} {H : Hp} {p : Addr} {fs : List Str} (h : H p = some (.lst (fs.map V.str))) : Dp K H (.ref p) (strsL fs) := .lst (SqL.of h) (dpAll_strs _)
theorem shaped_strsL {fs : List Str} (h : ∀ z ∈ fs, isName z = true) : SeqAt.shaped (strsL fs) = true := by
  unfold SeqAt.shaped
  have a : (strsL fs).canLay0 = true := lay_strs fs h
  have b : (strsL fs).depth ≤ 64 := by
    show PyData.depthAll (fs.map PyData.str) + 1 ≤ 64
    have := depth_strs fs
    omega
  rw [a, decide_eq_true b]
  rfl
theorem eqv_strsL (xs ys : List Str) : PyData.eqv (strsL xs) (strsL ys) = decide (xs = ys) := eqv_strs xs ys
end Pr

set_option autoImplicit true
set_option Elab.async false
set_option linter.all false
set_option maxRecDepth 100000
set_option maxHeartbeats 1000000
/-! k91: _law_due. -/
namespace Lw
open PySem L2 Two Pr ClX SlX
abbrev sDue : Stmt := top 71
abbrev nDue : List Str := ["_law_world", "_law_bases_here", "_law_wide", "_law_above", "_law_base", "_law_owners", "_law_one_here", "_law_other", "_law_c"]
theorem scDue : FnScope nDue ["_law_world", "_law_bases_here", "_law_wide"] (defScope sDue) := ⟨rfl, rfl, rfl, by decide +kernel, rfl, by decide +kernel, by decide +kernel⟩
/-- what making a class comes to -/
inductive Told (ms : List Cm) (ns : List Nat) (r : Bool) : Str → Prop
  | line {p : Nat × Nat} : colOf ms ns = some p → Told ms ns r "line"
  | order : colOf ms ns = none → Mg.Round (ordLs ms ns) → Told ms ns r "order"
  | room {mg : List Nat} {b : Nat} : colOf ms ns = none → MergedTo (ordLs ms ns) mg → r = true → b ∈ ns → roomAt ms b = true → Told ms ns r "room"
  | made {mg : List Nat} : colOf ms ns = none → MergedTo (ordLs ms ns) mg → (r = true → ∀ b ∈ ns, roomAt ms b = false) → Told ms ns r "made"
def spDue (K : PySem.W.Frag) (CL CS CW : Addr) : Sp := fun vs H Q _ => ∃ (W b : Addr) (r : Bool) (ns : List Nat) (ps : List (Addr × Cm)), vs = [.ref W, .ref b, .bl r] ∧ IsWorld K CL CS CW H W ps ∧ Grown (ps.map (·.2)) ∧ SqL K H b (natsV ns) ∧ ns ≠ [] ∧ ns.length ≤ 5 ∧ ns.Nodup ∧ (∀ n ∈ ns, n < ps.length) ∧
  ∀ (H' : Hp) (z : Str), Same H H' → (∀ y, Told (ps.map (·.2)) ns r y → z = y) → Q (.str z) H'
section
variable {K : PySem.W.Frag} {CL CS CW CN W : Addr} {H : Hp} {ps : List (Addr × Cm)} {σ : L2.St} {i j e n z : Nat} {m : Str} {f : Cm → List V}
theorem notin_read {l : List Nat} {Q : Bool → Hp → Prop} (hW : IsWorld K CL CS CW H W ps) (off : OffW m) (he : σ[e]? = some (some (natV z))) (hi : σ[i]? = some (some (.ref W))) (hj : σ[j]? = some (some (.int (n : Nat)))) (hn : n < ps.length)
    (hf : ∀ c, (ps.map (·.2))[n]? = some c → f c = natsV l) (k : ∀ G', Same H G' → Q (!decide (z ∈ l)) G') : tTest (tOp (rIn K true) (tVar e) (tWL K CL CS CW CN m f i j)) σ H Q := by
  refine ⟨_, he, wl_read hW off hi hj hn fun c hc p np => ?_⟩
  rw [hf c hc]
  refine ⟨p, _, rfl, .inl (SqL.of upd_same), rfl, flat_nats _, _, rfl, ?_⟩
  have e := inV_nats (z := z) l
  show Q (if true = true then !inV (natV z) (natsV l) else inV (natV z) (natsV l)) _
  rw [if_pos rfl, show inV (natV z) (natsV l) = decide (z ∈ l) from e]
  exact k _ (same_new np)
theorem roomy_val {Q : Bool → Hp → Prop} (hW : IsWorld K CL CS CW H W ps) (hi : σ[i]? = some (some (.ref W))) (hj : σ[j]? = some (some (.int (n : Nat)))) (hn : n < ps.length) (k : Q (roomyAt (ps.map (·.2)) n) H) :
    tB (tMeth CW "declares_room" (spWRoomy K CL CS CW CN) [] (fun _ _ _ => False) (tVar i) (tCons (tVar j) tNil)) σ H Q := by
  have hW2 := hW
  obtain ⟨dx, S, Tb, Lv, h1, _⟩ := hW2
  refine ⟨_, hi, W, dx, _, rfl, h1, rfl, _, hj, W, _, ps, rfl, hW, .inr ⟨_, rfl, fun n3 e3 hn3 c hc => ⟨_, rfl, ?_⟩, fun out => absurd ⟨by omega, by omega⟩ out⟩⟩
  have e : n3 = n := by omega
  subst e
  have er : roomyAt (ps.map (·.2)) n3 = c.roomy := by unfold roomyAt; rw [hc]
  rw [← er]
  exact k
theorem flds_at {ms : List Cm} {i : Nat} {c : Cm} (e : ms[i]? = some c) : c.fields = fieldsAt ms i := by unfold fieldsAt; rw [e]
end
section
variable {P : Program} {w : World} {K : PySem.W.Frag} {mg : Str → Option Value} {base : Heap} {CL CS CW CN : Addr}
theorem ok_due {f fO fF fR fG : Addr} {fd dO dF dR dG : FuncData} (F : Fun K "_law_due" "_law_due" sDue f fd) (T : TxtA mg) (WC : WdC K mg CW)
    (mO : Meth K CW "order" fO) (bO : Binds K dO ["self", "number"] []) (GO : FnOk P w K mg base (L2.CX P w) 6 fO dO ["self", "number"] (spWList K CL CS CW CN fun m => natsV m.order))
    (mF : Meth K CW "fields" fF) (bF : Binds K dF ["self", "number"] []) (GF : FnOk P w K mg base (L2.CX P w) 6 fF dF ["self", "number"] (spWList K CL CS CW CN fun m => m.fields.map V.str))
    (mR : Meth K CW "declares_room" fR) (bR : Binds K dR ["self", "number"] []) (GR : FnOk P w K mg base (L2.CX P w) 6 fR dR ["self", "number"] (spWRoomy K CL CS CW CN))
    (gG : mg "_law_has_ring" = some (.ref fG)) (kG : PySem.W.keepIn K (.ref fG) = true) (bG : Binds K dG ["_law_world", "_law_bases_here"] []) (GG : FnOk P w K mg base CX0 7 fG dG ["_law_world", "_law_bases_here"] (spRing K CL CS CW)) :
    FnOk P w K mg base CX0 8 f fd ["_law_world", "_law_bases_here", "_law_wide"] (spDue K CL CS CW) := by
  refine F.ok scDue (fun vs H Q E h => ?_) (fun cdv A outer s H vs Q E hr h => ?_)
  · obtain ⟨W, b, r, ns, ps, rfl, _⟩ := h
    rfl
  · obtain ⟨W, b, r, ns, ps, rfl, hW, g, hB, ne, l5, nd, lt, k⟩ := h
    have hr6 : Room 6 _ := hr.mono (by decide)
    have hr7 : Room 7 _ := hr.mono (by decide)
    refine ⟨_, pss_cons (ps_set (i := 3) scDue.nd rfl (Or.inr rfl) (pe_lst pa_nil))
      (pss_cons (ps_for PassesOwn.never rfl (pi_list (pv 1)) (pg_name (i := 4) scDue.nd rfl (Or.inl rfl))
        (pss_one (ps_set (i := 3) scDue.nd rfl (Or.inr rfl) (pe_op op_cat (pv 3) (pe_lc (own := [("_law_c", 8)]) (g := gName 8) (tt := tTest (tOp (rIn K true) (tVar 8) (tVar 3))) (te := tVar 8) rfl scDue.nd
          (pi_list (pe_meth (pv 0) WC.cl mO GO hr6 bO .nil (passE (E := fun _ _ _ => False) fun _ _ _ z => z) (pa_cons (pv 4) pa_nil))) (blkOk_by (N := nDue) (sc := defScope sDue) (by decide +kernel))
          (fun _ _ _ _ _ => pg_name (i := 8) scDue.nd rfl (Or.inl rfl)) (fun _ _ _ _ _ => pts_one (pt_cmpR op_notIn_seq (pv 8) (pv 3) (by rfl))) (fun _ _ _ _ _ => pv 8))))))
      (pss_cons (ps_setLc (i := 5) (own := [("_law_c", 8)]) (g := gName 8) (tt := tTest (tOp (rNeD K) (tWL K CL CS CW CN "fields" (fun m => m.fields.map V.str) 0 8) (tLst tNil))) (te := tVar 8) rfl scDue.nd rfl rfl (sw_true rfl rfl rfl (by decide +kernel)) (pi_list (pv 3)) (blkOk_by (N := nDue) (sc := defScope sDue) (by decide +kernel))
          (fun _ _ _ _ _ => pg_name (i := 8) scDue.nd rfl (Or.inl rfl)) (fun _ _ _ _ _ => pts_one (pt_cmpR (op_neD hr.units) (pe_meth (pv 0) WC.cl mF GF hr6 bF .nil (passE (E := fun _ _ _ => False) fun _ _ _ z => z) (pa_cons (pv 8) pa_nil)) (pe_lst pa_nil) (nomark _))) (fun _ _ _ _ _ => pv 8))
      (pss_cons (ps_for PassesOwn.never rfl (pi_list (pv 5)) (pg_name (i := 6) scDue.nd rfl (Or.inl rfl))
        (pss_one (ps_for PassesOwn.never rfl (pi_list (pv 5)) (pg_name (i := 7) scDue.nd rfl (Or.inl rfl))
          (pss_one (ps_if (PW.pt (pw_and (pt_cmpR op_notIn_seq (pv 6) (pe_meth (pv 0) WC.cl mO GO hr6 bO .nil (passE (E := fun _ _ _ => False) fun _ _ _ z => z) (pa_cons (pv 7) pa_nil)) (by rfl)) (pw_and1 (pt_cmpR op_notIn_seq (pv 7) (pe_meth (pv 0) WC.cl mO GO hr6 bO .nil (passE (E := fun _ _ _ => False) fun _ _ _ z => z) (pa_cons (pv 6) pa_nil)) (by rfl)))))
            (pss_one (ps_ret pe_str)) pss_nil)))))
      (pss_cons (ps_if (pt_val (pe_call GG hr7 rfl gG kG bG .nil pass0 (pa_cons (pv 0) (pa_cons (pv 1) pa_nil)))) (pss_one (ps_ret pe_str)) pss_nil)
      (pss_one (ps_ret (pe_ifExp (PW.pt (pw_and (pt_val (pv 2)) (pw_and1 (pt_cmpR (op_neD hr.units) (pe_lc (own := [("_law_c", 8)]) (g := gName 8) (tt := tB (tMeth CW "declares_room" (spWRoomy K CL CS CW CN) [] (fun _ _ _ => False) (tVar 0) (tCons (tVar 8) tNil))) (te := tVar 8) rfl scDue.nd (pi_list (pv 3)) (blkOk_by (N := nDue) (sc := defScope sDue) (by decide +kernel))
          (fun _ _ _ _ _ => pg_name (i := 8) scDue.nd rfl (Or.inl rfl)) (fun _ _ _ _ _ => pts_one (pt_val (pe_meth (pv 0) WC.cl mR GR hr6 bR .nil (passE (E := fun _ _ _ => False) fun _ _ _ z => z) (pa_cons (pv 8) pa_nil)))) (fun _ _ _ _ _ => pv 8)) (pe_lst pa_nil) (nomark _))))) pe_str pe_str))))))), ?_⟩
    have few := world_few hW
    have lm : (ps.map (·.2)).length = ps.length := List.length_map _
    have lt' : ∀ n ∈ ns, n < (ps.map (·.2)).length := fun n hn => by rw [lm]; exact lt n hn
    have ord : ∀ c, c < ps.length → (orderAt (ps.map (·.2)) c).Nodup ∧ ∀ x ∈ orderAt (ps.map (·.2)) c, x < ps.length := fun c hc => by
      obtain ⟨m, em, k, eo, _⟩ := g.at_ (by rw [lm]; exact hc)
      rw [eo]
      exact ⟨k.nd, fun x hx => Nat.lt_of_le_of_lt (k.le x hx) hc⟩
    refine ⟨Nat.zero_le _, fun A0 nA0 => ?_⟩
    have s0 : Same H (upd H A0 (.lst [])) := same_new nA0
    have eA0 : (upd H A0 (.lst [])) A0 = some (.lst (natsV [])) := upd_same
    generalize upd H A0 (.lst []) = G0 at s0 eA0 ⊢
    refine ⟨_, rfl, b, rfl, ⟨_, s0.seq hB⟩, for_list (K := K) (a := b) (xs := natsV ns) (fun i σ G => ∃ (A : Addr) (v4 : Option V) (ab : List Nat), σ = [some (.ref W), some (.ref b), some (.bl r), some (.ref A), v4, none, none, none, none] ∧ Same H G ∧ G A = some (.lst (natsV ab)) ∧ ab.Nodup ∧ ∀ x, x ∈ ab ↔ ∃ c ∈ ns.take i, x ∈ orderAt (ps.map (·.2)) c)
      ⟨A0, _, [], rfl, s0, eA0, List.nodup_nil, fun x => ⟨(fun h => nomatch h), fun ⟨c, hc, _⟩ => by rw [List.take_zero] at hc; cases hc⟩⟩ (fun i σ G _ ⟨_, _, _, _, s, _⟩ => s.seq hB) ?_ ?_⟩
    · rintro i x σ G hx ⟨A, v4, ab, rfl, sG, eA, abn, abm⟩
      obtain ⟨c, hc, rfl⟩ := get_map hx
      have cl := lt c (List.mem_of_getElem? hc)
      obtain ⟨on, ol⟩ := ord c cl
      have abl : ∀ x ∈ ab, x < ps.length := fun x hx => by
        obtain ⟨c', hc', hx⟩ := (abm x).mp hx
        exact (ord c' (lt c' (List.take_subset _ _ hc'))).2 x hx
      have ab25 := Nat.le_trans (few_below abn abl) few
      have o25 := Nat.le_trans (few_below on ol) few
      refine ⟨_, rfl, ?_⟩
      refine wl_get (hW.keep sG) (fun _ _ _ => rfl) rfl rfl cl fun m hm p G2 np s2 ep => ?_
      rw [(g.cm hm).1] at ep
      refine ⟨p, rfl, ⟨_, SqL.of ep⟩, fun D nD => lc_selX (K := K) (ps := orderAt (List.map (fun x : Addr × Cm => x.2) ps) c) (gv := natV) 8 natV (fun x => !decide (x ∈ ab)) (SqL.of ep) (small1000 (by omega)) nD (fun _ => rfl) (fun j x G' Q1 hx s' q1 => ?_) (fun j x G' Q1 hx _ s' q1 => ⟨_, rfl, q1 _ (Same.refl _)⟩) fun G3 s3 d3 => ?_⟩
      · refine ⟨_, rfl, _, rfl, A, _, rfl, .inl (SqL.of (s' _ _ (s2 _ _ eA))), rfl, flat_nats _, _, rfl, ?_⟩
        have e := inV_nats (z := x) ab
        show Q1 (if true = true then !inV (natV x) (natsV ab) else inV (natV x) (natsV ab)) _
        rw [if_pos rfl, show inV (natV x) (natsV ab) = decide (x ∈ ab) from e]
        exact q1 _ (Same.refl _)
      · have eA3 := s3 _ _ (s2 _ _ eA)
        refine ⟨A, D, _, _, rfl, rfl, eA3, d3, ?_, fun A2 nA2 => ?_⟩
        · unfold natsV
          rw [List.length_map, List.length_map]
          have := List.length_filter_le (fun x => !decide (x ∈ ab)) (orderAt (ps.map (·.2)) c)
          exact Nat.le_trans (show _ ≤ 60 by omega) (by decide)
        refine ⟨A2, _, ab ++ (orderAt (ps.map (·.2)) c).filter (fun x => !decide (x ∈ ab)), rfl, same_upd ((sG.trans s2).trans s3) (none_of_same ((sG.trans s2).trans s3) nA2), by rw [upd_same]; unfold natsV; rw [List.map_append], ?_, fun x => ?_⟩
        · exact List.nodup_append.mpr ⟨abn, on.filter _, fun a ha y hy e => by
            have := (List.mem_filter.mp hy).2
            rw [← e] at this
            simp [ha] at this⟩
        · rw [take_snoc hc, List.mem_append, List.mem_filter]
          refine ⟨fun h => ?_, fun ⟨c', hc', hx⟩ => ?_⟩
          · rcases h with hx | ⟨hx, _⟩
            · obtain ⟨c', hc', hx⟩ := (abm x).mp hx
              exact ⟨c', List.mem_append_left _ hc', hx⟩
            · exact ⟨c, List.mem_append_right _ (List.mem_singleton.mpr rfl), hx⟩
          · rcases List.mem_append.mp hc' with hc' | hc'
            · exact .inl ((abm x).mpr ⟨c', hc', hx⟩)
            · rw [List.mem_singleton.mp hc'] at hx
              by_cases q : x ∈ ab
              · exact .inl q
              · exact .inr ⟨hx, by simp [q]⟩
    rintro σ G ⟨A, v4, ab, rfl, sG, eA, abn, abm⟩
    rw [show (natsV ns).length = ns.length from List.length_map _, List.take_length] at abm
    have abl : ∀ x ∈ ab, x < ps.length := fun x hx => by
      obtain ⟨c', hc', hx⟩ := (abm x).mp hx
      exact (ord c' (lt c' hc')).2 x hx
    have ab25 := Nat.le_trans (few_below abn abl) few
    refine ⟨_, rfl, A, rfl, ⟨_, SqL.of eA⟩, fun D nD => lc_selX (K := K) (ps := ab) (gv := natV) 8 natV (fun c => !decide (fieldsAt (ps.map (·.2)) c = [])) (SqL.of eA) (small1000 (by omega)) nD (fun _ => rfl) (fun j c G' Q1 hc s' q1 => ?_) (fun j c G' Q1 hc _ s' q1 => ⟨_, rfl, q1 _ (Same.refl _)⟩) fun G2 s2 d2 => ?_⟩
    · have cl := abl c (List.mem_of_getElem? hc)
      refine wl_get (hW.keep (sG.trans s')) (fun _ _ _ => rfl) rfl rfl cl fun m hm p G3 np s3 ep => ?_
      rw [flds_at hm] at ep
      obtain ⟨nmz, _, _⟩ := g.names (n := c) (by rw [lm]; exact cl)
      refine ⟨Nat.zero_le _, fun q nq => ⟨strsL (fieldsAt (ps.map (·.2)) c), strsL [], dp_strsL (app ep nq), dp_strsL upd_same, shaped_strsL nmz, rfl, _, rfl, ?_⟩⟩
      rw [eqv_strsL]
      exact q1 _ (s3.trans (same_new nq))
    obtain ⟨ow, eow⟩ : ∃ ow, ow = ab.filter fun c => !decide (fieldsAt (ps.map (·.2)) c = []) := ⟨_, rfl⟩
    rw [← eow] at d2
    have sG2 := sG.trans s2
    have owm : ∀ x, x ∈ ow ↔ (∃ c ∈ ns, x ∈ orderAt (ps.map (·.2)) c) ∧ fieldsAt (ps.map (·.2)) x ≠ [] := fun x => by
      rw [eow, List.mem_filter, abm x]
      simp
    have owl : ∀ x ∈ ow, x < ps.length := fun x hx => by
      rw [eow] at hx
      exact abl x (List.mem_filter.mp hx).1
    have eA2 := s2 _ _ eA
    have told_line : ∀ {x y : Nat}, x ∈ ow → y ∈ ow → Odd2 (ps.map (·.2)) x y → ∀ z, Told (ps.map (·.2)) ns r z → ("line" : Str) = z := fun {x y} hx hy od z t => by
      obtain ⟨⟨c, hc, hxc⟩, fx⟩ := (owm x).mp hx
      obtain ⟨⟨c2, hc2, hyc⟩, fy⟩ := (owm y).mp hy
      have nn : colOf (ps.map (·.2)) ns ≠ none := fun e => odd_none g ne lt' e hc hxc fx hc2 hyc fy od
      cases t with
      | line _ => rfl
      | order e _ => exact absurd e nn
      | room e _ _ _ _ => exact absurd e nn
      | made e _ _ => exact absurd e nn
    refine ⟨_, rfl, D, rfl, ⟨_, SqL.of d2⟩, for_list (K := K) (a := D) (xs := natsV ow) (fun i σ G => ∃ (v6 v7 : Option V), σ = [some (.ref W), some (.ref b), some (.bl r), some (.ref A), v4, some (.ref D), v6, v7, none] ∧ Same G2 G ∧ ∀ x ∈ ow.take i, ∀ y ∈ ow, ¬ Odd2 (ps.map (·.2)) x y)
      ⟨_, _, rfl, Same.refl _, fun x hx => by rw [List.take_zero] at hx; cases hx⟩ (fun i σ G _ ⟨_, _, _, s, _⟩ => SqL.of (s _ _ d2)) ?_ ?_⟩
    · rintro i x0 σ G hx0 ⟨v6, v7, rfl, sA, no⟩
      obtain ⟨x, hx, rfl⟩ := get_map hx0
      have xo := List.mem_of_getElem? hx
      have xl := owl x xo
      refine ⟨_, rfl, D, rfl, ⟨_, SqL.of (sA _ _ d2)⟩, for_list (K := K) (a := D) (xs := natsV ow) (fun j σ G => ∃ (v7 : Option V), σ = [some (.ref W), some (.ref b), some (.bl r), some (.ref A), v4, some (.ref D), some (natV x), v7, none] ∧ Same G2 G ∧ ∀ y ∈ ow.take j, ¬ Odd2 (ps.map (·.2)) x y)
        ⟨_, rfl, sA, fun x hx => by rw [List.take_zero] at hx; cases hx⟩ (fun i σ G _ ⟨_, _, s, _⟩ => SqL.of (s _ _ d2)) ?_ ?_⟩
      · rintro j y0 σ G hy0 ⟨v7, rfl, sB, no2⟩
        obtain ⟨y, hy, rfl⟩ := get_map hy0
        have yo := List.mem_of_getElem? hy
        have yl := owl y yo
        have next : ∀ {G'}, Same G2 G' → ¬ Odd2 (ps.map (·.2)) x y → ∃ (v7 : Option V), [some (V.ref W), some (.ref b), some (.bl r), some (.ref A), v4, some (.ref D), some (natV x), some (natV y), none] = [some (V.ref W), some (.ref b), some (.bl r), some (.ref A), v4, some (.ref D), some (natV x), v7, none] ∧ Same G2 G' ∧ ∀ z ∈ ow.take (j + 1), ¬ Odd2 (ps.map (·.2)) x z := fun s n => ⟨_, rfl, s, fun z hz => by
          rw [take_snoc hy] at hz
          rcases List.mem_append.mp hz with hz | hz
          · exact no2 z hz
          · rw [List.mem_singleton.mp hz]; exact n⟩
        refine notin_read (hW.keep (sG2.trans sB)) (fun _ _ _ => rfl) rfl rfl rfl yl (fun c hc => by rw [(g.cm hc).1]) fun G3 s3 => ?_
        by_cases h1 : x ∈ orderAt (ps.map (·.2)) y
        · refine ite_false_of (by simp [h1]) (ite_false_of rfl ?_)
          exact next (sB.trans s3) fun od => od.1 h1
        · refine ite_true_of (by simp [h1]) ?_
          refine notin_read (hW.keep (sG2.trans (sB.trans s3))) (fun _ _ _ => rfl) rfl rfl rfl xl (fun c hc => by rw [(g.cm hc).1]) fun G4 s4 => ?_
          by_cases h2 : y ∈ orderAt (ps.map (·.2)) x
          · refine ite_false_of (by simp [h2]) ?_
            exact next ((sB.trans s3).trans s4) fun od => od.2 h2
          · refine ite_true_of (by simp [h2]) ?_
            exact k _ _ (sG2.trans ((sB.trans s3).trans s4)) (told_line xo yo ⟨h1, h2⟩)
      · rintro σ G ⟨v7, rfl, sB, no2⟩
        rw [show (natsV ow).length = ow.length from List.length_map _, List.take_length] at no2
        refine ⟨_, _, rfl, sB, fun z hz => ?_⟩
        rw [take_snoc hx] at hz
        rcases List.mem_append.mp hz with hz | hz
        · exact no z hz
        · rw [List.mem_singleton.mp hz]; exact no2
    rintro σ G ⟨v6, v7, rfl, sA, no⟩
    rw [show (natsV ow).length = ow.length from List.length_map _, List.take_length] at no
    have cn : colOf (ps.map (·.2)) ns = none := by
      cases e : colOf (ps.map (·.2)) ns with
      | none => rfl
      | some p =>
        obtain ⟨i, j⟩ := p
        obtain ⟨x, y, hx, hy, hi, hj, fx, fy, od⟩ := odd_some g lt' e
        exact absurd od (no x ((owm x).mpr ⟨⟨i, hi, hx⟩, fx⟩) y ((owm y).mpr ⟨⟨j, hj, hy⟩, fy⟩))
    have sGA := sG2.trans sA
    refine ⟨_, rfl, _, rfl, W, b, ns, ps, rfl, hW.keep sGA, g, sGA.seq hB, l5, nd, lt, fun G3 v s3 hv1 hv2 => ⟨_, rfl, ?_⟩⟩
    cases v with
    | true =>
      refine ite_true_of rfl ?_
      refine k _ _ (sGA.trans s3) fun z t => ?_
      cases t with
      | line e => rw [cn] at e; cases e
      | order _ _ => rfl
      | room _ m _ _ _ => exact nomatch hv2 ⟨_, m⟩
      | made _ m _ => exact nomatch hv2 ⟨_, m⟩
    | false =>
      refine ite_false_of rfl ?_
      have noR : ¬ Mg.Round (ordLs (ps.map (·.2)) ns) := fun q => nomatch hv1 q
      have sG3 := sGA.trans s3
      refine ⟨_, rfl, r, rfl, ?_⟩
      cases r with
      | false =>
        refine ite_false_of rfl (ite_false_of rfl ?_)
        refine k _ _ sG3 fun z t => ?_
        cases t with
        | line e => rw [cn] at e; cases e
        | order _ q => exact absurd q noR
        | room _ _ e _ _ => cases e
        | made _ _ _ => rfl
      | true =>
        refine ite_true_of rfl ?_
        refine ⟨_, rfl, A, rfl, ⟨_, SqL.of (s3 _ _ (sA _ _ eA2))⟩, fun D2 nD2 => lc_selX (K := K) (ps := ab) (gv := natV) 8 natV (roomyAt (ps.map (·.2))) (SqL.of (s3 _ _ (sA _ _ eA2))) (small1000 (by omega)) nD2 (fun _ => rfl) (fun j c G' Q1 hc s' q1 => ?_) (fun j c G' Q1 hc _ s' q1 => ⟨_, rfl, q1 _ (Same.refl _)⟩) fun G4 s4 d4 => ?_⟩
        · exact roomy_val (hW.keep (sG3.trans s')) rfl rfl (abl c (List.mem_of_getElem? hc)) (q1 _ (Same.refl _))
        refine ⟨Nat.zero_le _, fun q nq => ⟨natsD (ab.filter (roomyAt (List.map (fun x : Addr × Cm => x.2) ps))), natsD [], dp_natsL (app d4 nq), dp_natsL upd_same, shaped_nats _, shaped_nats _, _, rfl, ?_⟩⟩
        rw [eqv_nats]
        have s5 := (sG3.trans s4).trans (same_new (o := .lst []) nq)
        have rm : ∀ b ∈ ns, roomAt (ps.map (·.2)) b = true ↔ ∃ x ∈ orderAt (ps.map (·.2)) b, roomyAt (ps.map (·.2)) x = true := fun b hb => by
          obtain ⟨m, em, k, eo, _⟩ := g.at_ (lt' b hb)
          rw [eo, (World0.at_ em).2.2.1]
          exact k.room
        by_cases hf : ab.filter (roomyAt (ps.map (·.2))) = []
        · refine ite_false_of (by simp [hf]) ?_
          refine k _ _ s5 fun z t => ?_
          cases t with
          | line e => rw [cn] at e; cases e
          | order _ q => exact absurd q noR
          | @room mg b2 _ _ _ hb e =>
            obtain ⟨x, hx, q⟩ := (rm b2 hb).mp e
            have : x ∈ ab.filter (roomyAt (ps.map (·.2))) := List.mem_filter.mpr ⟨(abm x).mpr ⟨b2, hb, hx⟩, q⟩
            rw [hf] at this
            cases this
          | made _ _ _ => rfl
        · refine ite_true_of (by simp [hf]) ?_
          refine k _ _ s5 fun z t => ?_
          cases t with
          | line e => rw [cn] at e; cases e
          | order _ q => exact absurd q noR
          | room _ _ _ _ _ => rfl
          | made _ _ h =>
            obtain ⟨x, hx⟩ := List.exists_mem_of_ne_nil _ hf
            obtain ⟨hx, q⟩ := List.mem_filter.mp hx
            obtain ⟨c, hc, hx⟩ := (abm x).mp hx
            have := (rm c hc).mpr ⟨x, hx, q⟩
            rw [h rfl c hc] at this
            cases this
end
end Lw

set_option autoImplicit true
set_option Elab.async false
set_option linter.all false
set_option maxRecDepth 100000
set_option maxHeartbeats 1000000
/-! k91: _law_told. -/
namespace Lw
open PySem L2 Two Pr ClX SlX
abbrev sTold : Stmt := top 72
abbrev nTold : List Str := ["_law_rows_here", "_law_bases_here", "_law_fields_here", "_law_wide", "_law_world", "_law_number", "_law_order", "_law_base", "_law_c"]
theorem scTold : FnScope nTold ["_law_rows_here", "_law_bases_here", "_law_fields_here", "_law_wide"] (defScope sTold) := ⟨rfl, rfl, rfl, by decide +kernel, rfl, by decide +kernel, by decide +kernel⟩
/-- the three errors, told apart -/
structure Exm3 (K : PySem.W.Frag) (mg : Str → Option Value) (CC CO CR : Addr) : Prop where
  gC : mg "Collision" = some (.ref CC)
  gO : mg "NoOrder" = some (.ref CO)
  gR : mg "HasRoom" = some (.ref CR)
  cc : PySem.W.exmOne K (.ref CC) (.ref CC) = some true
  oc : PySem.W.exmOne K (.ref CO) (.ref CC) = some false
  oo : PySem.W.exmOne K (.ref CO) (.ref CO) = some true
  rc : PySem.W.exmOne K (.ref CR) (.ref CC) = some false
  ro : PySem.W.exmOne K (.ref CR) (.ref CO) = some false
  rr : PySem.W.exmOne K (.ref CR) (.ref CR) = some true
def spTold (K : PySem.W.Frag) : Sp := fun vs H Q _ => ∃ (l R b fl : Addr) (r : Bool) (ts : List Addr) (rows : List RowN) (ms : List Cm) (ns : List Nat) (gs : List Str), vs = [.ref R, .ref b, .ref fl, .bl r] ∧ RowsAt (fun _ => True) l H R ts rows ∧ By rows ms ∧ ms.length ≤ 13 ∧
  SqL K H b (natsV ns) ∧ ns ≠ [] ∧ ns.length ≤ 5 ∧ ns.Nodup ∧ (∀ n ∈ ns, n < ms.length) ∧ H fl = some (.lst (gs.map V.str)) ∧ (∀ z ∈ gs, isName z = true) ∧ gs.Nodup ∧ gs.length ≤ 6 ∧
  ∀ (H' : Hp) (z : Str), Same H H' → Told ms ns r z → Q (.str z) H'
section
variable {P : Program} {w : World} {K : PySem.W.Frag} {mg : Str → Option Value} {base : Heap} {CL CS CW CB CN CD CT CC CO CR CLE fI fU fM t0 : Addr} {dI dU dM : FuncData} {mv : List Value}
theorem ok_told {f fA fO : Addr} {fd dA dO : FuncData} (F : Fun K "_law_told" "_law_told" sTold f fd) (D : MkW P w K mg base CL CS CW CB CN CD CT CC CO CR CLE fI fU fM t0 dI dU dM mv) (X3 : Exm3 K mg CC CO CR)
    (gA : mg "_law_again" = some (.ref fA)) (kA : PySem.W.keepIn K (.ref fA) = true) (bA : Binds K dA ["_law_rows_here"] []) (GA : FnOk P w K mg base CX0 14 fA dA ["_law_rows_here"] (spAgain K CL CS CW))
    (mO : Meth K CW "order" fO) (bO : Binds K dO ["self", "number"] []) (GO : FnOk P w K mg base (L2.CX P w) 6 fO dO ["self", "number"] (spWList K CL CS CW CN fun m => natsV m.order)) :
    FnOk P w K mg base CX0 15 f fd ["_law_rows_here", "_law_bases_here", "_law_fields_here", "_law_wide"] (spTold K) := by
  refine F.ok scTold (fun vs H Q E h => ?_) (fun cdv A outer s H vs Q E hr h => ?_)
  · obtain ⟨l, R, b, fl, r, ts, rows, ms, ns, gs, rfl, _⟩ := h
    rfl
  · obtain ⟨l, R, b, fl, r, ts, rows, ms, ns, gs, rfl, hR, by_, l13, hB, ne, l5, nd, lt, hF, gnm, gnd, g6, k⟩ := h
    have hr6 : Room 6 _ := hr.mono (by decide)
    refine ⟨_, PSs.nox (pss_cons (ps_set (i := 4) scTold.nd rfl (Or.inr rfl) (pe_call GA (hr.mono (by decide)) rfl gA kA bA .nil pass0 (pa_cons (pv 0) pa_nil)))
      (pss_cons (L2.ps_try_many (X := (cxOf CX0 P w K mg base nTold "_law_told" (defScope sTold) f cdv A outer s H E).nox) (tb := fun W => tAsg (tMethNS CW "make_class" 3 1 (spMake0 K CL CS CW CB CN CD CT CC CO CR) (fun vs zs => vs ++ zs ++ [.ref t0]) (WE W) (tVar 4) (tCons (tVar 1) (tCons (tVar 2) tNil)) (tCons (tVar 3) tNil)) (gName 5))
              rfl rfl takes0 (fun W pn xe tk _ => ?tryb) (HdsOk.cons (c := .ref CC) (ts := fun _ _ _ => tRet (tC (.str "line"))) ⟨rfl, by decide, .inl X3.gC⟩ (fun a oe cls d pn hz hf => ?suite1)
                (HdsOk.cons (c := .ref CO) (ts := fun _ _ _ => tRet (tC (.str "order"))) ⟨rfl, by decide, .inl X3.gO⟩ (fun a oe cls d pn hz hf => ?suite2)
                (HdsOk.cons (c := .ref CR) (ts := fun _ _ _ => tRet (tC (.str "room"))) ⟨rfl, by decide, .inl X3.gR⟩ (fun a oe cls d pn hz hf => ?suite3) .nil))))
      (pss_cons (ps_set (i := 6) scTold.nd rfl (Or.inl rfl) (pe_meth (pv 4) D.WC.cl mO GO hr6 bO .nil (passE (E := fun _ _ _ => False) fun _ _ _ z => z) (pa_cons (pv 5) pa_nil)))
      (pss_cons (ps_for PassesOwn.never rfl (pi_list (pv 1)) (pg_name (i := 7) scTold.nd rfl (Or.inr rfl))
        (pss_one (ps_if (pt_cmpR (op_neD hr.units) (pe_lc (own := [("_law_c", 8)]) (g := gName 8) (tt := tTest (tOp (rIn K false) (tVar 8) (tWL K CL CS CW CN "order" (fun m => natsV m.order) 4 7))) (te := tVar 8) rfl scTold.nd (pi_list (pv 6)) (blkOk_by (N := nTold) (sc := defScope sTold) (by decide +kernel))
          (fun _ _ _ _ _ => pg_name (i := 8) scTold.nd rfl (Or.inl rfl)) (fun _ _ _ _ _ => pts_one (pt_cmpR op_in_seq (pv 8) (pe_meth (pv 4) D.WC.cl mO GO hr6 bO .nil (passE (E := fun _ _ _ => False) fun _ _ _ z => z) (pa_cons (pv 7) pa_nil)) (by rfl))) (fun _ _ _ _ _ => pv 8))
          (pe_meth (pv 4) D.WC.cl mO GO hr6 bO .nil (passE (E := fun _ _ _ => False) fun _ _ _ z => z) (pa_cons (pv 7) pa_nil)) (nomark _)) (pss_one (ps_ret pe_str)) pss_nil)))
      (pss_one (ps_ret (pe_ifExp (pt_cmpR (op_eqD hr.units) (pe_lc (own := [("_law_c", 8)]) (g := gName 8) (tt := tTest (tOp (rIn K false) (tVar 8) (tVar 1))) (te := tVar 8) rfl scTold.nd (pi_list (pv 6)) (blkOk_by (N := nTold) (sc := defScope sTold) (by decide +kernel))
          (fun _ _ _ _ _ => pg_name (i := 8) scTold.nd rfl (Or.inl rfl)) (fun _ _ _ _ _ => pts_one (pt_cmpR op_in_seq (pv 8) (pv 1) (by rfl))) (fun _ _ _ _ _ => pv 8)) (pv 1) (nomark _)) pe_str pe_str))))))), ?_⟩
    case tryb =>
      exact pss_one (ps_set (i := 5) scTold.nd rfl (Or.inl rfl) (pe_methNS (pv 4) D.WC.cl D.mM D.GM (hr.mono (by decide)) D.bM (fun σ => passAt tk σ) (pa_cons (pv 1) (pa_cons (pv 2) pa_nil)) (pk_cons (pv 3) pk_nil)))
    case suite1 => exact pss_one (ps_ret pe_str)
    case suite2 => exact pss_one (ps_ret pe_str)
    case suite3 => exact pss_one (ps_ret pe_str)
    refine ⟨_, rfl, l, R, ts, rows, ms, rfl, hR, by_, l13, fun G1 W dx Sh Tb Lv ps s1 hW ems => ?_⟩
    subst ems
    have lm : (ps.map (·.2)).length = ps.length := List.length_map _
    rw [lm] at l13 lt
    refine ⟨_, rfl, W, dx, _, rfl, hW.w, rfl, _, rfl, _, rfl, _, rfl, rfl, rfl, ?_⟩
    refine ⟨W, dx, Sh, Tb, Lv, .ref b, .ref fl, r, t0, _, ps, rfl, hW, D.h0 _, .inr ⟨b, fl, ns, gs, rfl, rfl, s1.seq hB, ne, nd, l5, lt, s1 _ _ hF, gnm, gnd, g6, by omega, fun c hc => none_of_same s1 hc,
      ⟨fun i j e H' x y off nx ny s ex ey M o nn ho hn d H2 s2 nd2 hd => ?_, fun e H' q n us s f1 f2 f3 f4 f5 f6 f7 d H2 s2 nd2 hd => ?_, fun e mg MT hr z hz H' s d H2 s2 nd2 hd => ?_, fun hcol mg above MT ab noR H' a kk hw => ?_⟩⟩⟩
    · refine ⟨true, X3.cc, fun _ a ha => ?_, fun z => nomatch z⟩
      exact k _ _ ((s1.trans s).trans s2) (.line e)
    · refine ⟨false, X3.oc, (fun z => nomatch z), fun _ => ⟨true, X3.oo, fun _ a ha => ?_, fun z => nomatch z⟩⟩
      exact k _ _ ((s1.trans s).trans s2) (.order e (Mg.ring_round f5))
    · refine ⟨false, X3.rc, (fun z => nomatch z), fun _ => ⟨false, X3.ro, (fun z => nomatch z), fun _ => ⟨true, X3.rr, fun _ a ha => ?_, fun z => nomatch z⟩⟩⟩
      exact k _ _ ((s1.trans s).trans s2) (.room e MT hr (List.mem_of_find?_eq_some hz) (List.find?_some hz))
    · have s2 : Same H H' := same_kk s1 hW kk
      have g : Grown ((ps ++ [(a, newCm (ps.map (·.2)) ps.length ns gs r above mg)]).map (·.2)) := by
        rw [List.map_append]
        have g := Grown.more by_.grown (by rw [lm]; omega) ne nd l5 (fun z hz => by rw [lm]; exact lt z hz) gnd g6 gnm hcol MT ab noR
        rw [lm] at g
        exact g
      obtain ⟨pn, epn⟩ : ∃ pn, pn = ps ++ [(a, newCm (ps.map (·.2)) ps.length ns gs r above mg)] := ⟨_, rfl⟩
      rw [← epn] at g hw
      have ln : pn.length = ps.length + 1 := by rw [epn, List.length_append]; rfl
      have lmn : (pn.map (·.2)).length = pn.length := List.length_map _
      have hn : ps.length < pn.length := by omega
      have hn' : ps.length < (pn.map (·.2)).length := by rw [lmn]; exact hn
      obtain ⟨m, em, ck, eo, eb⟩ := g.at_ hn'
      have ebs : m.bases = ns := by
        rw [epn, List.map_append, List.getElem?_append_right (by rw [lm]; exact Nat.le_refl _), lm, Nat.sub_self] at em
        cases em
        rfl
      have told : Told (ps.map (·.2)) ns r "made" := .made hcol MT noR
      have hWn := hw.is
      refine wl_get hWn (fun _ _ _ => rfl) rfl rfl hn fun c hc O G3 nO s3 eO => ?_
      rw [(g.cm hc).1, eo] at eO
      have o26 : m.order.length ≤ 26 := by
        obtain ⟨t, et, tl, _⟩ := ck.ord
        have tn : t.Nodup := by have := ck.nd; rw [et] at this; exact (List.nodup_cons.mp this).2
        have := few_below tn tl
        rw [et, List.length_cons]
        omega
      have sH3 := s2.trans s3
      refine ⟨_, rfl, b, rfl, ⟨_, sH3.seq hB⟩, for_list (K := K) (a := b) (xs := natsV ns) (fun i σ G => ∃ v7 : Option V, σ = [some (.ref R), some (.ref b), some (.ref fl), some (.bl r), some (.ref W), some (.int (ps.length : Nat)), some (.ref O), v7, none] ∧ Same G3 G) ⟨_, rfl, Same.refl _⟩ (fun i σ G _ ⟨_, _, s⟩ => (sH3.trans s).seq hB) ?_ ?_⟩
      · rintro i x0 σ G hx0 ⟨v7, rfl, s4⟩
        obtain ⟨x, hx, rfl⟩ := get_map hx0
        have xn := List.mem_of_getElem? hx
        have xl : x < pn.length := Nat.lt_trans (lt x xn) hn
        refine ⟨_, rfl, O, rfl, ⟨_, SqL.of (s4 _ _ eO)⟩, fun D2 nD2 => lc_selX (K := K) (ps := m.order) (gv := natV) 8 natV (fun c => decide (c ∈ orderAt (List.map (fun x : Addr × Cm => x.2) pn) x)) (SqL.of (s4 _ _ eO)) (small1000 (by omega)) nD2 (fun _ => rfl) (fun j c G' Q1 hc s' q1 => ?_) (fun j c G' Q1 hc _ s' q1 => ⟨_, rfl, q1 _ (Same.refl _)⟩) fun G5 s5 d5 => ?_⟩
        · exact in_read (hWn.keep (s3.trans (s4.trans s'))) (fun _ _ _ => rfl) rfl rfl rfl xl (fun c hc => by rw [(g.cm hc).1]) fun G' s => q1 _ s
        · refine wl_read (hWn.keep (s3.trans (s4.trans s5))) (fun _ _ _ => rfl) rfl rfl xl fun c hc p np => ?_
          refine ⟨natsD (m.order.filter (fun c => decide (c ∈ orderAt (List.map (fun x : Addr × Cm => x.2) pn) x))), natsD c.order, dp_natsL (app d5 np), dp_natsL upd_same, shaped_nats _, shaped_nats _, _, rfl, ?_⟩
          rw [eqv_nats]
          refine ite_false_of (by rw [(g.cm hc).1, ck.inb x (by rw [ebs]; exact xn)]; simp) ?_
          exact ⟨_, rfl, (s4.trans s5).trans (same_new np)⟩
      · rintro σ G ⟨v7, rfl, s4⟩
        refine ⟨_, rfl, O, rfl, ⟨_, SqL.of (s4 _ _ eO)⟩, fun D2 nD2 => lc_selX (K := K) (ps := m.order) (gv := natV) 8 natV (fun c => decide (c ∈ ns)) (SqL.of (s4 _ _ eO)) (small1000 (by omega)) nD2 (fun _ => rfl) (fun j c G' Q1 hc s' q1 => ?_) (fun j c G' Q1 hc _ s' q1 => ⟨_, rfl, q1 _ (Same.refl _)⟩) fun G5 s5 d5 => ?_⟩
        · refine ⟨_, rfl, _, rfl, b, _, rfl, .inl ((sH3.trans (s4.trans s')).seq hB), rfl, flat_nats _, _, rfl, ?_⟩
          have e := inV_nats (z := c) ns
          show Q1 (if false = true then !inV (natV c) (natsV ns) else inV (natV c) (natsV ns)) _
          rw [if_neg Bool.false_ne_true, show inV (natV c) (natsV ns) = decide (c ∈ ns) from e]
          exact q1 _ (Same.refl _)
        · refine ⟨_, rfl, natsD (m.order.filter fun c => decide (c ∈ ns)), natsD ns, dp_natsL d5, .lst ((sH3.trans (s4.trans s5)).seq hB) (dp_nats ns), shaped_nats _, shaped_nats _, _, rfl, ?_⟩
          rw [eqv_nats]
          have eb2 := ck.bas
          rw [ebs] at eb2
          refine ite_true_of (by rw [eb2]; simp) ?_
          exact k _ _ (sH3.trans (s4.trans s5)) told
end
end Lw

set_option autoImplicit true
set_option Elab.async false
set_option linter.all false
set_option maxRecDepth 100000
set_option maxHeartbeats 1000000
/-! k91: _law_lists. -/
namespace Lw
open PySem L2 Two Pr ClX SlX
abbrev sLists : Stmt := top 73
abbrev nLists : List Str := ["_law_some", "_law_found", "_law_two", "_law_one_here", "_law_three", "_law_c"]
theorem scLists : FnScope nLists ["_law_some"] (defScope sLists) := ⟨rfl, rfl, rfl, by decide +kernel, rfl, by decide +kernel, by decide +kernel⟩
/-- a list of lists that are all new since H0 -/
def LsF (H0 H : Hp) (D : Addr) (ls : List (List Nat)) : Prop := H0 D = none ∧ ∃ qs : List Addr, H D = some (.lst (qs.map V.ref)) ∧ qs.length = ls.length ∧ ∀ (i : Nat) (q : Addr) (l : List Nat), qs[i]? = some q → ls[i]? = some l → H0 q = none ∧ H q = some (.lst (natsV l))
theorem LsF.keep {H0 H H' : Hp} {D : Addr} {ls : List (List Nat)} (h : LsF H0 H D ls) (s : Same H H') : LsF H0 H' D ls := let ⟨n, qs, a, b, c⟩ := h; ⟨n, qs, s _ _ a, b, fun i q l x y => ⟨(c i q l x y).1, s _ _ (c i q l x y).2⟩⟩
theorem LsF.down {H0 H1 H : Hp} {D : Addr} {ls : List (List Nat)} (h : LsF H1 H D ls) (s : Same H0 H1) : LsF H0 H D ls := let ⟨n, qs, a, b, c⟩ := h; ⟨none_of_same s n, qs, a, b, fun i q l x y => ⟨none_of_same s (c i q l x y).1, (c i q l x y).2⟩⟩
theorem LsF.cat {H0 H : Hp} {A B p : Addr} {l1 l2 : List (List Nat)} {xs ys : List V} (h1 : LsF H0 H A l1) (h2 : LsF H0 H B l2) (e1 : H A = some (.lst xs)) (e2 : H B = some (.lst ys)) (n0 : H0 p = none) (np : H p = none) : LsF H0 (upd H p (.lst (xs ++ ys))) p (l1 ++ l2) := by
  obtain ⟨_, qs, a1, b1, c1⟩ := h1
  obtain ⟨_, rs, a2, b2, c2⟩ := h2
  rw [a1] at e1
  rw [a2] at e2
  cases e1
  cases e2
  refine ⟨n0, qs ++ rs, by rw [upd_same, List.map_append], by rw [List.length_append, List.length_append, b1, b2], fun i q l hq hl => ?_⟩
  by_cases e : i < qs.length
  · rw [List.getElem?_append_left e] at hq
    rw [List.getElem?_append_left (b1 ▸ e)] at hl
    exact ⟨(c1 i q l hq hl).1, app (c1 i q l hq hl).2 np⟩
  · rw [List.getElem?_append_right (by omega)] at hq
    rw [List.getElem?_append_right (by omega), ← b1] at hl
    exact ⟨(c2 _ q l hq hl).1, app (c2 _ q l hq hl).2 np⟩
theorem LsF.nil {H0 H : Hp} {A : Addr} (n : H0 A = none) (e : H A = some (.lst [])) : LsF H0 H A [] := ⟨n, [], e, rfl, fun i q l h => by simp at h⟩
theorem LsF.some {H0 H : Hp} {A : Addr} {ls : List (List Nat)} (h : LsF H0 H A ls) : ∃ xs : List V, H A = some (.lst xs) ∧ xs.length = ls.length := let ⟨_, qs, e, l, _⟩ := h; ⟨_, e, by rw [List.length_map]; exact l⟩
/-- a comprehension that makes a new list each time -/
theorem lc_selL {α : Type} {K : PySem.W.Frag} {a : Addr} {ps : List α} {gv : α → V} {te : TE} {tt : TT} {vs : List Nat} {σ : L2.St} {H1 : Hp} {D : Addr} {Qd : Hp → Prop} (i : Nat) (f : α → List Nat) (c : α → Bool) (hS : SqL K H1 a (ps.map gv)) (hz : ps.length < sizeLine) (hD : H1 D = none)
    (hw : ∀ x, wipe ((wipe σ vs).set i (some x)) vs = wipe σ vs)
    (tstep : ∀ (j : Nat) (x : α) (H : Hp) (Q : Bool → Hp → Prop), ps[j]? = some x → Same H1 H → (∀ H', Same H H' → Q (c x) H') → tt ((wipe σ vs).set i (some (gv x))) H Q)
    (estep : ∀ (j : Nat) (x : α) (H : Hp) (Q : VK), ps[j]? = some x → c x = true → Same H1 H → (∀ H' p, Same H H' → H p = none → H' p = some (.lst (natsV (f x))) → Q (.ref p) H') → te ((wipe σ vs).set i (some (gv x))) H Q)
    (done : ∀ H, Same H1 H → LsF H1 H D ((ps.filter c).map f) → Qd H) :
    ∃ W : Nat → Nat → Hp → Prop, (∃ m, W 0 m (upd H1 D (.lst []))) ∧ ∀ i' m H, W i' m H →
      ((Itl K a).stop i' H ∧ Qd H) ∨ ((Itl K a).go i' H ∧ ∃ Nx : Hp → Prop, (∀ H', Nx H' → ∃ m', m' < m ∧ W (i' + 1) m' H') ∧ ∀ x H', (Itl K a).yld i' H x H' → gName i x (wipe σ vs) H' fun σ2 H2 => wipe σ2 vs = wipe σ vs ∧ tt σ2 H2 fun b H3 =>
        if b = true then te σ2 H3 fun y H4 => ∃ acc, H4 D = some (.lst acc) ∧ acc.length < sizeLine ∧ Nx (upd H4 D (.lst (acc ++ [y]))) else Nx H3) := by
  refine lc_list (xs := ps.map gv) (fun j H => Same H1 H ∧ ∃ qs : List Addr, H D = some (.lst (qs.map V.ref)) ∧ qs.length = ((ps.take j).filter c).length ∧ ∀ (i : Nat) (q : Addr) (l : List Nat), qs[i]? = some q → (((ps.take j).filter c).map f)[i]? = some l → q ≠ D ∧ H1 q = none ∧ H q = some (.lst (natsV l)))
    ⟨same_new hD, [], upd_same, rfl, fun i q l h => by simp at h⟩ (fun j H _ p => p.1.seq hS) (fun j x H hx p => ?_) fun H p => ?_
  · obtain ⟨x, hx1, rfl⟩ := get_map hx
    obtain ⟨s1, qs, eD, lq, each⟩ := p
    refine ⟨hw _, tstep j x H _ hx1 s1 fun H' s => ?_⟩
    have s2 := s1.trans s
    by_cases hc : c x = true
    · rw [if_pos hc]
      have eD' := s _ _ eD
      refine estep j x H' _ hx1 hc s2 fun H4 p s4 np ep => ⟨_, s4 _ _ eD', ?_, same_upd (s2.trans s4) hD, qs ++ [p], by rw [upd_same, List.map_append]; rfl, ?_, fun i q l hq hl => ?_⟩
      · rw [List.length_map, lq]
        have := List.length_filter_le c (ps.take j)
        have := List.length_take_le' j ps
        omega
      · rw [take_snoc hx1, List.filter_append, List.length_append, List.length_append, lq, List.filter_cons_of_pos hc]
        rfl
      · have pD : p ≠ D := fun z => by rw [z, eD'] at np; cases np
        rw [take_snoc hx1, List.filter_append, List.filter_cons_of_pos hc, List.filter_nil, List.map_append] at hl
        by_cases e : i < qs.length
        · rw [List.getElem?_append_left e] at hq
          rw [List.getElem?_append_left (by rw [List.length_map, ← lq]; exact e)] at hl
          obtain ⟨a1, n1, b1⟩ := each i q l hq hl
          exact ⟨a1, n1, by rw [upd_ne a1]; exact s4 _ _ (s _ _ b1)⟩
        · have := (List.getElem?_eq_some_iff.mp hq).1
          rw [List.length_append, List.length_singleton] at this
          obtain rfl : i = qs.length := by omega
          rw [List.getElem?_append_right (Nat.le_refl _), Nat.sub_self] at hq
          rw [List.getElem?_append_right (by rw [List.length_map, lq]; exact Nat.le_refl _), List.length_map, lq, Nat.sub_self] at hl
          cases hq
          cases hl
          exact ⟨pD, none_of_same s2 np, by rw [upd_ne pD]; exact ep⟩
    · rw [if_neg hc]
      refine ⟨s2, qs, s _ _ eD, ?_, fun i q l hq hl => ?_⟩
      · rw [take_snoc hx1, List.filter_append, List.length_append, lq, List.filter_cons_of_neg hc]
        rfl
      · rw [take_snoc hx1, List.filter_append, List.filter_cons_of_neg hc, List.filter_nil, List.append_nil] at hl
        obtain ⟨a1, n1, b1⟩ := each i q l hq hl
        exact ⟨a1, n1, s _ _ b1⟩
  · obtain ⟨s1, qs, eD, lq, each⟩ := p
    rw [List.length_map, List.take_length] at lq each
    exact done H s1 ⟨hD, qs, eD, by rw [List.length_map]; exact lq, fun i q l hq hl => (each i q l hq hl).2⟩
def GoodL (ss : List Nat) (n : Nat) (l : List Nat) : Prop := l ≠ [] ∧ l.Nodup ∧ l.length ≤ n ∧ ∀ x ∈ l, x ∈ ss
abbrev tOneMore : TE := tOp rCat (tVar 3) (tLst (tCons (tVar 5) tNil))
/-- [one + [c] for c in some if c not in one] -/
theorem more_lc {K : PySem.W.Frag} {S q : Addr} {ss l : List Nat} {v1 v2 v4 v5 : Option V} {G : Hp} {Qv : VK} (hS : SqL K G S (natsV ss)) (l4 : ss.length ≤ 4) (hq : G q = some (.lst (natsV l))) (ll : l.length ≤ 3)
    (k : ∀ G' D, Same G G' → G D = none → LsF G G' D ((ss.filter fun c => !decide (c ∈ l)).map fun c => l ++ [c]) → Qv (.ref D) G') : tLc (iList K (tVar 0)) (gName 5) (tTest (tOp (rIn K true) (tVar 5) (tVar 3))) tOneMore [5] [some (.ref S), v1, v2, some (.ref q), v4, v5] G Qv := by
  refine ⟨_, rfl, S, rfl, ⟨_, hS⟩, fun D nD => lc_selL (K := K) (ps := ss) (gv := natV) 5 (fun c => l ++ [c]) (fun c => !decide (c ∈ l)) hS (small1000 (by omega)) nD (fun _ => rfl) (fun j c G' Q1 hc s' q1 => ?_) (fun j c G' Q1 hc _ s' q1 => ?_) fun G2 s2 d2 => ?_⟩
  · refine ⟨_, rfl, _, rfl, q, _, rfl, .inl (SqL.of (s' _ _ hq)), rfl, flat_nats _, _, rfl, ?_⟩
    have e := inV_nats (z := c) l
    show Q1 (if true = true then !inV (natV c) (natsV l) else inV (natV c) (natsV l)) _
    rw [if_pos rfl, show inV (natV c) (natsV l) = decide (c ∈ l) from e]
    exact q1 _ (Same.refl _)
  · refine ⟨_, rfl, _, rfl, by show 1 ≤ sizeLine; decide, fun p np => ⟨q, p, _, _, rfl, rfl, app (s' _ _ hq) np, upd_same, ?_, fun p2 np2 => ?_⟩⟩
    · unfold natsV
      rw [List.length_map]
      exact Nat.le_trans (show l.length + 1 ≤ 4 by omega) (by decide)
    · refine q1 _ p2 ((same_new np).trans (same_new np2)) (none_of_same (same_new np) np2) ?_
      rw [upd_same]
      unfold natsV
      rw [List.map_append]
      rfl
  · exact k G2 D s2 nD d2
theorem good_more {ss l : List Nat} {n : Nat} (h : GoodL ss n l) : ∀ l' ∈ (ss.filter fun c => !decide (c ∈ l)).map (fun c => l ++ [c]), GoodL ss (n + 1) l' := fun l' hl => by
  obtain ⟨c, hc, rfl⟩ := List.mem_map.mp hl
  obtain ⟨h1, h2⟩ := List.mem_filter.mp hc
  have h3 : c ∉ l := by simpa using h2
  obtain ⟨a, b, d, e⟩ := h
  refine ⟨by simp, List.nodup_append.mpr ⟨b, List.nodup_cons.mpr ⟨List.not_mem_nil, List.nodup_nil⟩, fun x hx y hy q => h3 (by rw [← List.mem_singleton.mp hy, ← q]; exact hx)⟩, by rw [List.length_append]; exact Nat.succ_le_succ d, fun x hx => ?_⟩
  rcases List.mem_append.mp hx with hx | hx
  · exact e x hx
  · rw [List.mem_singleton.mp hx]; exact h1
theorem GoodL.up {ss l : List Nat} {n m : Nat} (h : GoodL ss n l) (q : n ≤ m) : GoodL ss m l := ⟨h.1, h.2.1, Nat.le_trans h.2.2.1 q, h.2.2.2⟩
def spLists (K : PySem.W.Frag) : Sp := fun vs H Q _ => ∃ (S : Addr) (ss : List Nat), vs = [.ref S] ∧ SqL K H S (natsV ss) ∧ ss.length ≤ 4 ∧
  ∀ (H' : Hp) (D : Addr) (ls : List (List Nat)), Same H H' → LsF H H' D ls → (∀ l ∈ ls, GoodL ss 3 l) → ls.length ≤ 100 → Q (.ref D) H'
section
variable {P : Program} {w : World} {K : PySem.W.Frag} {mg : Str → Option Value} {base : Heap}
theorem ok_lists {f : Addr} {fd : FuncData} (F : Fun K "_law_lists" "_law_lists" sLists f fd) : FnOk P w K mg base CX0 1 f fd ["_law_some"] (spLists K) := by
  refine F.ok scLists (fun vs H Q E h => ?_) (fun cdv A outer s H vs Q E hr h => ?_)
  · obtain ⟨S, ss, rfl, _⟩ := h
    rfl
  · obtain ⟨S, ss, rfl, hS, l4, k⟩ := h
    refine ⟨_, pss_cons (ps_setLc (i := 1) (own := [("_law_c", 5)]) (g := gName 5) (tt := tYes) (te := tLst (tCons (tVar 5) tNil)) rfl scLists.nd rfl rfl (sw_true rfl rfl rfl (by decide +kernel)) (pi_list (pv 0)) (blkOk_by (N := nLists) (sc := defScope sLists) (by decide +kernel))
          (fun _ _ _ _ _ => pg_name (i := 5) scLists.nd rfl (Or.inl rfl)) (fun _ _ _ _ _ => pts_nil) (fun _ _ _ _ _ => pe_lst (pa_cons (pv 5) pa_nil)))
      (pss_cons (ps_set (i := 2) scLists.nd rfl (Or.inl rfl) (pe_lst pa_nil))
      (pss_cons (ps_for PassesOwn.never rfl (pi_list (pv 1)) (pg_name (i := 3) scLists.nd rfl (Or.inr rfl))
        (pss_one (ps_set (i := 2) scLists.nd rfl (Or.inl rfl) (pe_op op_cat (pv 2) (pe_lc (own := [("_law_c", 5)]) (g := gName 5) (tt := tTest (tOp (rIn K true) (tVar 5) (tVar 3))) (te := tOneMore) rfl scLists.nd (pi_list (pv 0)) (blkOk_by (N := nLists) (sc := defScope sLists) (by decide +kernel))
          (fun _ _ _ _ _ => pg_name (i := 5) scLists.nd rfl (Or.inl rfl)) (fun _ _ _ _ _ => pts_one (pt_cmpR op_notIn_seq (pv 5) (pv 3) (by rfl))) (fun _ _ _ _ _ => pe_op op_cat (pv 3) (pe_lst (pa_cons (pv 5) pa_nil))))))))
      (pss_cons (ps_set (i := 4) scLists.nd rfl (Or.inl rfl) (pe_lst pa_nil))
      (pss_cons (ps_for PassesOwn.never rfl (pi_list (pv 2)) (pg_name (i := 3) scLists.nd rfl (Or.inr rfl))
        (pss_one (ps_set (i := 4) scLists.nd rfl (Or.inl rfl) (pe_op op_cat (pv 4) (pe_lc (own := [("_law_c", 5)]) (g := gName 5) (tt := tTest (tOp (rIn K true) (tVar 5) (tVar 3))) (te := tOneMore) rfl scLists.nd (pi_list (pv 0)) (blkOk_by (N := nLists) (sc := defScope sLists) (by decide +kernel))
          (fun _ _ _ _ _ => pg_name (i := 5) scLists.nd rfl (Or.inl rfl)) (fun _ _ _ _ _ => pts_one (pt_cmpR op_notIn_seq (pv 5) (pv 3) (by rfl))) (fun _ _ _ _ _ => pe_op op_cat (pv 3) (pe_lst (pa_cons (pv 5) pa_nil))))))))
      (pss_one (ps_ret (pe_op op_cat (pe_op op_cat (pv 1) (pv 2)) (pv 4)))))))), ?_⟩
    have ln : (natsV ss).length = ss.length := List.length_map _
    refine ⟨_, rfl, S, rfl, ⟨_, hS⟩, fun D1 nD1 => lc_selL (K := K) (ps := ss) (gv := natV) 5 (fun c => [c]) (fun _ => true) hS (small1000 (by omega)) nD1 (fun _ => rfl) (fun j c G' Q1 hc s' q1 => q1 _ (Same.refl _)) (fun j c G' Q1 hc _ s' q1 => ⟨_, rfl, by show 1 ≤ sizeLine; decide, fun p np => q1 _ p (same_new np) np upd_same⟩) fun G1 s1 L1 => ?_⟩
    obtain ⟨l1, el1⟩ : ∃ l1, l1 = (ss.filter fun _ => true).map (fun c => [c]) := ⟨_, rfl⟩
    rw [← el1] at L1
    have n1 : l1.length ≤ 4 := by
      rw [el1, List.length_map]
      exact Nat.le_trans (List.length_filter_le _ _) l4
    have g1 : ∀ l ∈ l1, GoodL ss 1 l := fun l hl => by
      rw [el1] at hl
      obtain ⟨c, hc, rfl⟩ := List.mem_map.mp hl
      exact ⟨by simp, by simp, Nat.le_refl _, fun x hx => by rw [List.mem_singleton.mp hx]; exact (List.mem_filter.mp hc).1⟩
    clear el1
    refine ⟨Nat.zero_le _, fun A0 nA0 => ?_⟩
    have s2 : Same G1 (upd G1 A0 (.lst [])) := same_new nA0
    have L0 : LsF H (upd G1 A0 (.lst [])) A0 [] := .nil (none_of_same s1 nA0) upd_same
    generalize upd G1 A0 (.lst []) = G2 at s2 L0 ⊢
    have s02 := s1.trans s2
    obtain ⟨_, q1s, eq1, lq1, at1⟩ := L1.keep s2
    refine ⟨_, rfl, D1, rfl, ⟨_, SqL.of eq1⟩, for_list (K := K) (a := D1) (xs := q1s.map V.ref) (fun i σ G => ∃ (A : Addr) (v3 : Option V) (l2 : List (List Nat)), σ = [some (.ref S), some (.ref D1), some (.ref A), v3, none, none] ∧ Same G2 G ∧ LsF H G A l2 ∧ l2.length ≤ 4 * i ∧ ∀ l ∈ l2, GoodL ss 2 l)
      ⟨A0, _, [], rfl, Same.refl _, L0, Nat.zero_le _, fun _ h => nomatch h⟩ (fun i σ G _ ⟨_, _, _, _, s, _⟩ => SqL.of (s _ _ eq1)) ?_ ?_⟩
    · rintro i x0 σ G hx0 ⟨A, v3, l2, rfl, sG, LA, nA, gA⟩
      obtain ⟨q, hq, rfl⟩ := get_map hx0
      have il : i < l1.length := by rw [← lq1]; exact (List.getElem?_eq_some_iff.mp hq).1
      obtain ⟨l, hl⟩ : ∃ l, l1[i]? = some l := ⟨_, List.getElem?_eq_getElem il⟩
      have gl := g1 l (List.mem_of_getElem? hl)
      refine ⟨_, rfl, ?_⟩
      refine more_lc ((s02.trans sG).seq hS) l4 (sG _ _ (at1 i q l hq hl).2) (by have := gl.2.2.1; omega) fun G3 D3 s3 nD3 L3 => ?_
      have LA3 := LA.keep s3
      replace L3 := L3.down (s02.trans sG)
      obtain ⟨xs, ex, lx⟩ := LA3.some
      obtain ⟨ys, ey, ly⟩ := L3.some
      have l3 : ((ss.filter fun c => !decide (c ∈ l)).map fun c => l ++ [c]).length ≤ 4 := by
        rw [List.length_map]
        exact Nat.le_trans (List.length_filter_le _ _) l4
      refine ⟨A, D3, xs, ys, rfl, rfl, ex, ey, Nat.le_trans (show _ ≤ 40 by omega) (by decide), fun A2 nA2 => ?_⟩
      refine ⟨A2, _, _, rfl, (sG.trans s3).trans (same_new nA2), LA3.cat L3 ex ey (none_of_same ((s02.trans sG).trans s3) nA2) nA2, by rw [List.length_append]; omega, fun l' hl' => ?_⟩
      rcases List.mem_append.mp hl' with hl' | hl'
      · exact gA l' hl'
      · exact good_more gl l' hl'
    rintro σ G ⟨A, v3, l2, rfl, sG, LA, nA, gA⟩
    rw [List.length_map, lq1] at nA
    refine ⟨Nat.zero_le _, fun B0 nB0 => ?_⟩
    have s3 : Same G (upd G B0 (.lst [])) := same_new nB0
    have LB0 : LsF H (upd G B0 (.lst [])) B0 [] := .nil (none_of_same (s02.trans sG) nB0) upd_same
    generalize upd G B0 (.lst []) = G3 at s3 LB0 ⊢
    have s03 := (s02.trans sG).trans s3
    have LA3 := LA.keep s3
    obtain ⟨_, q2s, eq2, lq2, at2⟩ := LA3
    have LA3 := LA.keep s3
    refine ⟨_, rfl, A, rfl, ⟨_, SqL.of eq2⟩, for_list (K := K) (a := A) (xs := q2s.map V.ref) (fun i σ G => ∃ (B : Addr) (v3 : Option V) (l3 : List (List Nat)), σ = [some (.ref S), some (.ref D1), some (.ref A), v3, some (.ref B), none] ∧ Same G3 G ∧ LsF H G B l3 ∧ l3.length ≤ 4 * i ∧ ∀ l ∈ l3, GoodL ss 3 l)
      ⟨B0, _, [], rfl, Same.refl _, LB0, Nat.zero_le _, fun _ h => nomatch h⟩ (fun i σ G _ ⟨_, _, _, _, s, _⟩ => SqL.of (s _ _ eq2)) ?_ ?_⟩
    · rintro i x0 σ G5 hx0 ⟨B, v3, l3, rfl, sG5, LB, nB, gB⟩
      obtain ⟨q, hq, rfl⟩ := get_map hx0
      have il : i < l2.length := by rw [← lq2]; exact (List.getElem?_eq_some_iff.mp hq).1
      obtain ⟨l, hl⟩ : ∃ l, l2[i]? = some l := ⟨_, List.getElem?_eq_getElem il⟩
      have gl := gA l (List.mem_of_getElem? hl)
      refine ⟨_, rfl, ?_⟩
      refine more_lc ((s03.trans sG5).seq hS) l4 (sG5 _ _ (at2 i q l hq hl).2) (by have := gl.2.2.1; omega) fun G6 D6 s6 nD6 L6 => ?_
      have LB6 := LB.keep s6
      replace L6 := L6.down (s03.trans sG5)
      obtain ⟨xs, ex, lx⟩ := LB6.some
      obtain ⟨ys, ey, ly⟩ := L6.some
      have l6 : ((ss.filter fun c => !decide (c ∈ l)).map fun c => l ++ [c]).length ≤ 4 := by
        rw [List.length_map]
        exact Nat.le_trans (List.length_filter_le _ _) l4
      refine ⟨B, D6, xs, ys, rfl, rfl, ex, ey, Nat.le_trans (show _ ≤ 100 by omega) (by decide), fun B2 nB2 => ?_⟩
      refine ⟨B2, _, _, rfl, (sG5.trans s6).trans (same_new nB2), LB6.cat L6 ex ey (none_of_same ((s03.trans sG5).trans s6) nB2) nB2, by rw [List.length_append]; omega, fun l' hl' => ?_⟩
      rcases List.mem_append.mp hl' with hl' | hl'
      · exact gB l' hl'
      · exact good_more gl l' hl'
    rintro σ G5 ⟨B, v3, l3, rfl, sG5, LB, nB, gB⟩
    rw [List.length_map, lq2] at nB
    have L15 := (((L1.keep s2).keep sG).keep s3).keep sG5
    have LA5 := LA3.keep sG5
    obtain ⟨xs, ex, lx⟩ := L15.some
    obtain ⟨ys, ey, ly⟩ := LA5.some
    refine ⟨_, rfl, _, rfl, D1, A, xs, ys, rfl, rfl, ex, ey, Nat.le_trans (show _ ≤ 100 by omega) (by decide), fun C1 nC1 => ?_⟩
    have LC := L15.cat LA5 ex ey (none_of_same (s03.trans sG5) nC1) nC1
    have LB7 := LB.keep (same_new (o := .lst (xs ++ ys)) nC1)
    obtain ⟨zs, ez, lz⟩ := LB7.some
    refine ⟨_, rfl, C1, B, xs ++ ys, zs, rfl, rfl, upd_same, ez, by rw [List.length_append]; exact Nat.le_trans (show _ ≤ 200 by omega) (by decide), fun C2 nC2 => ?_⟩
    refine k _ C2 (l1 ++ l2 ++ l3) (((s03.trans sG5).trans (same_new nC1)).trans (same_new nC2)) (LC.cat LB7 upd_same ez (none_of_same ((s03.trans sG5).trans (same_new nC1)) nC2) nC2) (fun l hl => ?_) (by rw [List.length_append, List.length_append]; omega)
    rcases List.mem_append.mp hl with hl | hl
    · rcases List.mem_append.mp hl with hl | hl
      · exact (g1 l hl).up (by decide)
      · exact (gA l hl).up (by decide)
    · exact gB l hl
end
end Lw

set_option autoImplicit true
set_option Elab.async false
set_option linter.all false
set_option maxRecDepth 100000
set_option maxHeartbeats 1000000
/-! k91: law. -/
namespace Lw
open PySem L2 Two Pr ClX SlX
abbrev sLaw : Stmt := top 74
abbrev nLaw : List Str := ["_law_script", "_law_cell", "_law_well_here", "_law_rows_here", "_law_world", "_law_last", "_law_bases_here", "_law_wide", "_law_fields_here"]
theorem scLaw : FnScope nLaw ["_law_script"] (defScope sLaw) := ⟨rfl, rfl, rfl, by decide +kernel, rfl, by decide +kernel, by decide +kernel⟩
def spLaw (K : PySem.W.Frag) : Sp := fun vs H Q _ => ∃ (a : Addr) (ns : List Int), vs = [.ref a] ∧ SqL K H a (ns.map V.int) ∧ ns.length ≤ 63 ∧ ∀ H', Q (.bl true) H'
/-- what the law calls -/
structure Defs (P : Program) (w : World) (K : PySem.W.Frag) (mg : Str → Option Value) (base : Heap) (CL CS CW fC fW fR fA fL fD fT fU fN : Addr) (dC dW dR dA dL dD dT dU dN : FuncData) : Prop where
  T : TxtA mg
  list : mg "list" = none
  WC : WdC K mg CW
  gC : mg "_law_cell_at" = some (.ref fC)
  kC : PySem.W.keepIn K (.ref fC) = true
  bC : Binds K dC ["_law_script", "_law_k"] []
  GC : FnOk P w K mg base CX0 1 fC dC ["_law_script", "_law_k"] (spCell K)
  gW : mg "_law_well" = some (.ref fW)
  kW : PySem.W.keepIn K (.ref fW) = true
  bW : Binds K dW ["_law_cell"] []
  GW : FnOk P w K mg base CX0 1 fW dW ["_law_cell"] spWell
  gR : mg "_law_rows" = some (.ref fR)
  kR : PySem.W.keepIn K (.ref fR) = true
  bR : Binds K dR ["_law_well_here"] []
  GR : FnOk P w K mg base CX0 14 fR dR ["_law_well_here"] spRows
  gA : mg "_law_again" = some (.ref fA)
  kA : PySem.W.keepIn K (.ref fA) = true
  bA : Binds K dA ["_law_rows_here"] []
  GA : FnOk P w K mg base CX0 14 fA dA ["_law_rows_here"] (spAgain K CL CS CW)
  gL : mg "_law_lists" = some (.ref fL)
  kL : PySem.W.keepIn K (.ref fL) = true
  bL : Binds K dL ["_law_some"] []
  GL : FnOk P w K mg base CX0 1 fL dL ["_law_some"] (spLists K)
  gD : mg "_law_draw" = some (.ref fD)
  kD : PySem.W.keepIn K (.ref fD) = true
  bD : Binds K dD ["_law_well_here", "_law_many"] []
  GD : FnOk P w K mg base CX0 1 fD dD ["_law_well_here", "_law_many"] spDraw
  gT : mg "_law_told" = some (.ref fT)
  kT : PySem.W.keepIn K (.ref fT) = true
  bT : Binds K dT ["_law_rows_here", "_law_bases_here", "_law_fields_here", "_law_wide"] []
  GT : FnOk P w K mg base CX0 15 fT dT ["_law_rows_here", "_law_bases_here", "_law_fields_here", "_law_wide"] (spTold K)
  gU : mg "_law_due" = some (.ref fU)
  kU : PySem.W.keepIn K (.ref fU) = true
  bU : Binds K dU ["_law_world", "_law_bases_here", "_law_wide"] []
  GU : FnOk P w K mg base CX0 8 fU dU ["_law_world", "_law_bases_here", "_law_wide"] (spDue K CL CS CW)
  mN : Meth K CW "count" fN
  bN : Binds K dN ["self"] []
  GN : FnOk P w K mg base CX0 1 fN dN ["self"] (spWCount K CL CS CW)
theorem rg_nats (n : Nat) : rgV 0 (n : Int) = natsV (List.range n) := by
  unfold rgV natsV
  rw [show ((n : Int) - 0).toNat = n by omega]
  exact List.map_congr_left fun i _ => by show V.int (0 + (i : Int)) = natV i; rw [Int.zero_add]; rfl
theorem cut_three (l : List Nat) : ∃ t : List Nat, cutV (natsV l) (some (0 - 3)) none = natsV t ∧ t.length ≤ 3 ∧ ∀ x ∈ t, x ∈ l := by
  unfold cutV
  have e : HT.sIx (natsV l).length 0 (some (0 - 3)) = l.length - 3 := by
    have ln : (natsV l).length = l.length := List.length_map _
    show (if (0 - 3 : Int) < 0 then ((0 - 3 : Int) + ((natsV l).length : Int)).toNat else min (0 - 3 : Int).toNat (natsV l).length) = l.length - 3
    rw [if_pos (by decide), ln]
    omega
  rw [e, HT.sIx_none]
  unfold natsV
  rw [← List.map_drop, ← List.map_take]
  refine ⟨_, rfl, ?_, fun x hx => List.drop_subset _ _ (List.take_subset _ _ hx)⟩
  rw [List.length_take, List.length_drop, List.length_map]
  omega
section
variable {P : Program} {w : World} {K : PySem.W.Frag} {mg : Str → Option Value} {base : Heap} {CL CS CW fC fW fR fA fL fD fT fU fN : Addr} {dC dW dR dA dL dD dT dU dN : FuncData}
theorem ok_law {f : Addr} {fd : FuncData} (F : Fun K "law" "law" sLaw f fd) (D : Defs P w K mg base CL CS CW fC fW fR fA fL fD fT fU fN dC dW dR dA dL dD dT dU dN) :
    FnOk P w K mg base CX0 16 f fd ["_law_script"] (spLaw K) := by
  refine F.ok scLaw (fun vs H Q E h => ?_) (fun cdv A outer s H vs Q E hr h => ?_)
  · obtain ⟨a, ns, rfl, _⟩ := h
    rfl
  · obtain ⟨a, ns, rfl, hS, hlen, k⟩ := h
    have hr1 : Room 1 _ := hr.mono (by decide)
    have hr8 : Room 8 _ := hr.mono (by decide)
    have hr14 : Room 14 _ := hr.mono (by decide)
    refine ⟨_, pss_cons (ps_for PassesOwn.never rfl (pi_list (pe_op op_cat (pe_lst (pa_cons (pe_call D.GC hr1 rfl D.gC D.kC D.bC .nil pass0 (pa_cons (pv 0) (pa_cons pe_int pa_nil))) pa_nil)) (pe_slice sl_list (pv 0) (po_some pe_int) (po_some pe_int)))) (pg_name (i := 1) scLaw.nd rfl (Or.inl rfl))
        (pss_cons (ps_set (i := 2) scLaw.nd rfl (Or.inl rfl) (pe_call D.GW hr1 rfl D.gW D.kW D.bW .nil pass0 (pa_cons (pv 1) pa_nil)))
        (pss_cons (ps_set (i := 3) scLaw.nd rfl (Or.inl rfl) (pe_call D.GR hr14 rfl D.gR D.kR D.bR .nil pass0 (pa_cons (pv 2) pa_nil)))
        (pss_cons (ps_set (i := 4) scLaw.nd rfl (Or.inl rfl) (pe_call D.GA hr14 rfl D.gA D.kA D.bA .nil pass0 (pa_cons (pv 3) pa_nil)))
        (pss_cons (ps_set (i := 5) scLaw.nd rfl (Or.inl rfl) (pe_slice sl_list (pe_slice sl_list (pe_listRg rfl (by rfl) D.list (prg_1 (by rfl) D.T.range (pe_meth0 (pv 4) D.WC.cl D.mN D.GN hr1 D.bN .nil pass0))) (po_some pe_int) po_none) (po_some (pe_op op_sub pe_int pe_int)) po_none))
        (pss_one (ps_for PassesOwn.never rfl (pi_list (pe_call D.GL hr1 rfl D.gL D.kL D.bL .nil pass0 (pa_cons (pe_op op_cat (pe_lst (pa_cons pe_int pa_nil)) (pv 5)) pa_nil))) (pg_name (i := 6) scLaw.nd rfl (Or.inl rfl))
          (pss_cons (ps_par (i := 7) (j := 8) rfl scLaw.nd rfl rfl (by decide) rfl rfl (pa_cons (pe_cmpR op_eq (pe_call D.GD hr1 rfl D.gD D.kD D.bD .nil pass0 (pa_cons (pv 2) (pa_cons pe_int pa_nil))) pe_int (nomark _))
              (pa_cons (pe_op op_rep (pe_lst (pa_cons pe_str pa_nil)) (pe_callTy call_int1 (by rfl) D.T.int (by decide +kernel) (pa_cons (pe_cmpR op_eq (pe_call D.GD hr1 rfl D.gD D.kD D.bD .nil pass0 (pa_cons (pv 2) (pa_cons pe_int pa_nil))) pe_int (nomark _)) pa_nil))) pa_nil)) rfl)
          (pss_one (ps_if (pt_cmpR op_ne (pe_call D.GT hr rfl D.gT D.kT D.bT .nil pass0 (pa_cons (pv 3) (pa_cons (pv 6) (pa_cons (pv 8) (pa_cons (pv 7) pa_nil))))) (pe_call D.GU hr8 rfl D.gU D.kU D.bU .nil pass0 (pa_cons (pv 4) (pa_cons (pv 6) (pa_cons (pv 7) pa_nil)))) (nomark _)) (pss_one (ps_ret pe_bl)) pss_nil))))))))))
      (pss_one (ps_ret pe_bl)), ?_⟩
    refine ⟨_, rfl, a, ns, 0, rfl, hS, by omega, fun z0 => ?_⟩
    refine ⟨by show 1 ≤ sizeLine; decide, fun A1 hA1 => ?_⟩
    have s1 : Same H (upd H A1 (.lst [.int z0])) := same_new hA1
    have hA1e : (upd H A1 (.lst [.int z0])) A1 = some (.lst [.int z0]) := upd_same
    generalize upd H A1 (.lst [.int z0]) = G1 at s1 hA1e ⊢
    refine ⟨_, rfl, _, rfl, _, rfl, a, _, rfl, s1.seq hS, fun A2 hA2 => ?_⟩
    obtain ⟨cs, hcs⟩ : ∃ cs : List Int, cutV (ns.map V.int) (some 1) (some 2) = cs.map V.int := by
      refine ⟨((ns.drop (HT.sIx (ns.map V.int).length 0 (some 1))).take (HT.sIx (ns.map V.int).length (ns.map V.int).length (some 2) - HT.sIx (ns.map V.int).length 0 (some 1))), ?_⟩
      unfold cutV
      rw [List.map_take, List.map_drop]
    have lcs : cs.length ≤ 63 := by
      have e := cutV_length (ns.map V.int) (some 1) (some 2)
      rw [hcs, List.length_map, List.length_map] at e
      omega
    rw [hcs]
    have s2 : Same G1 (upd G1 A2 (.lst (cs.map V.int))) := same_new hA2
    have hA2e : (upd G1 A2 (.lst (cs.map V.int))) A2 = some (.lst (cs.map V.int)) := upd_same
    generalize upd G1 A2 (.lst (cs.map V.int)) = G2 at s2 hA2e ⊢
    refine ⟨A1, A2, _, _, rfl, rfl, s2 _ _ hA1e, hA2e, Nat.le_of_lt (small1000 (by rw [List.length_map]; show 1 + cs.length ≤ 1000; omega)), fun Cs hCs => ?_⟩
    have ez : [V.int z0] ++ cs.map V.int = (z0 :: cs).map V.int := rfl
    rw [ez]
    have hCe : (upd G2 Cs (.lst ((z0 :: cs).map V.int))) Cs = some (.lst ((z0 :: cs).map V.int)) := upd_same
    generalize upd G2 Cs (.lst ((z0 :: cs).map V.int)) = G3 at hCe ⊢
    refine ⟨Cs, rfl, ⟨_, SqL.of hCe⟩, for_list (K := K) (a := Cs) (xs := (z0 :: cs).map V.int) (fun i σ G => G Cs = some (.lst ((z0 :: cs).map V.int)) ∧ ∃ (v1 v2 v3 v4 v5 v6 v7 v8 : Option V), σ = [some (.ref a), v1, v2, v3, v4, v5, v6, v7, v8]) ⟨hCe, _, _, _, _, _, _, _, _, rfl⟩ (fun i σ G _ p => SqL.of p.1) ?_ ?_⟩
    · rintro i x σ G4 hx ⟨e4, v1, v2, v3, v4, v5, v6, v7, v8, rfl⟩
      obtain ⟨y, _, rfl⟩ := get_map hx
      refine ⟨_, rfl, y, rfl, fun G5 l s5 nl src => ?_⟩
      have e5 := s5 _ _ e4
      have Cl : Cs ≠ l := fun z => by rw [z, nl] at e4; cases e4
      refine ⟨_, rfl, l, 0, rfl, src, by decide, fun G6 R ts rows ms b6 src6 hR by_ l13 => ?_⟩
      have e6 := b6 _ _ Cl e5
      obtain ⟨xl6, el6⟩ := src_lst src6
      have nl6 : G6 l ≠ none := by rw [el6]; exact fun z => nomatch z
      refine ⟨_, rfl, l, R, ts, rows, ms, rfl, hR, by_, l13, fun G7 W dx Sh Tb Lv ps s7 hW ems => ?_⟩
      subst ems
      have g := by_.grown
      have lm : (ps.map (·.2)).length = ps.length := List.length_map _
      have p1 : 0 < ps.length := by
        have := Grown.pos g
        rw [lm] at this
        exact this
      have few := world_few hW.is
      have hW' := hW.is
      refine ⟨_, rfl, W, dx, _, rfl, hW.w, rfl, W, ps, rfl, hW', _, rfl, RgOk.of_le (Int.le_refl 0) (by omega) (by decide) (by omega), fun q1 nq1 => ?_⟩
      rw [rg_nats]
      have sA : Same G7 (upd G7 q1 (.lst (natsV (List.range ps.length)))) := same_new nq1
      have eA : (upd G7 q1 (.lst (natsV (List.range ps.length)))) q1 = some (.lst (natsV (List.range ps.length))) := upd_same
      generalize upd G7 q1 (.lst (natsV (List.range ps.length))) = G8 at sA eA ⊢
      refine ⟨_, rfl, q1, _, rfl, SqL.of eA, fun q2 nq2 => ?_⟩
      rw [cut_tail]
      obtain ⟨t1, et1, mt1⟩ : ∃ t1 : List Nat, (natsV (List.range ps.length)).tail = natsV t1 ∧ ∀ x ∈ t1, x < ps.length := by
        refine ⟨(List.range ps.length).tail, by unfold natsV; rw [List.map_tail], fun x hx => List.mem_range.mp (List.mem_of_mem_tail hx)⟩
      rw [et1]
      have sB : Same G8 (upd G8 q2 (.lst (natsV t1))) := same_new nq2
      have eB : (upd G8 q2 (.lst (natsV t1))) q2 = some (.lst (natsV t1)) := upd_same
      generalize upd G8 q2 (.lst (natsV t1)) = G9 at sB eB ⊢
      refine ⟨_, _, rfl, rfl, _, rfl, q2, _, rfl, SqL.of eB, fun q3 nq3 => ?_⟩
      obtain ⟨t2, et2, lt2, mt2⟩ := cut_three t1
      rw [et2]
      have sC : Same G9 (upd G9 q3 (.lst (natsV t2))) := same_new nq3
      have eC : (upd G9 q3 (.lst (natsV t2))) q3 = some (.lst (natsV t2)) := upd_same
      generalize upd G9 q3 (.lst (natsV t2)) = GA at sC eC ⊢
      refine ⟨by show 1 ≤ sizeLine; decide, fun q4 nq4 => ⟨_, rfl, q4, q3, _, _, rfl, rfl, upd_same, app eC nq4, ?_, fun q5 nq5 => ?_⟩⟩
      · show 1 + (natsV t2).length ≤ sizeLine
        rw [show (natsV t2).length = t2.length from List.length_map _]
        exact Nat.le_trans (show 1 + t2.length ≤ 4 by omega) (by decide)
      have sD : Same GA (upd (upd GA q4 (.lst [.int 0])) q5 (.lst ([.int 0] ++ natsV t2))) := ad (same_new nq4) nq5
      have eD : (upd (upd GA q4 (.lst [.int 0])) q5 (.lst ([.int 0] ++ natsV t2))) q5 = some (.lst (natsV (0 :: t2))) := upd_same
      generalize upd (upd GA q4 (.lst [.int 0])) q5 (.lst ([.int 0] ++ natsV t2)) = GB at sD eD ⊢
      have s6B : Same G6 GB := (((s7.trans sA).trans sB).trans sC).trans sD
      have mss : ∀ x ∈ 0 :: t2, x < ps.length := fun x hx => by
        rcases List.mem_cons.mp hx with rfl | hx
        · exact p1
        · exact mt1 x (mt2 x hx)
      refine ⟨q5, 0 :: t2, rfl, SqL.of eD, by show t2.length + 1 ≤ 4; omega, fun GC Dl ls sE hL good few2 => ?_⟩
      obtain ⟨nDl, qs, eq, lq, at_⟩ := hL
      have s6C := s6B.trans sE
      have lB : ∀ {q : Addr}, GB q = none → q ≠ l := fun {q} h z => nl6 (none_of_same s6B (z ▸ h))
      have srcC := src6.keep s6C
      have hWC : WorldAt K CL CS CW (fun b => G6 b = none) GC W dx Sh Tb Lv ps := hW.keep ((((sA.trans sB).trans sC).trans sD).trans sE)
      have hRC := hR.but (but_same s6C)
      have eCs := s6C _ _ e6
      refine ⟨Dl, rfl, ⟨_, SqL.of eq⟩, for_list (K := K) (a := Dl) (xs := qs.map V.ref) (fun i σ G => ∃ (v6 v7 v8 : Option V), σ = [some (.ref a), some (.int y), some (.ref l), some (.ref R), some (.ref W), some (.ref q3), v6, v7, v8] ∧ But (· = l) GC G ∧ Src G l (1000 + 2 * i)) ⟨_, _, _, rfl, but_same (Same.refl _), srcC.more (by omega)⟩ (fun i σ G _ ⟨_, _, _, _, bt, _⟩ => SqL.of (bt _ _ (lB nDl) eq)) ?_ ?_⟩
      · rintro i x0 σ G hx0 ⟨v6, v7, v8, rfl, bt, srcG⟩
        obtain ⟨q, hq, rfl⟩ := get_map hx0
        have il : i < ls.length := by rw [← lq]; exact (List.getElem?_eq_some_iff.mp hq).1
        obtain ⟨bs, hbs⟩ : ∃ bs, ls[i]? = some bs := ⟨_, List.getElem?_eq_getElem il⟩
        obtain ⟨nq, eqq⟩ := at_ i q bs hq hbs
        obtain ⟨bne, bnd, bl3, bmem⟩ := good bs (List.mem_of_getElem? hbs)
        have ql := lB nq
        have blt : ∀ n ∈ bs, n < ps.length := fun n hn => mss n (bmem n hn)
        refine ⟨_, rfl, l, 6, _, rfl, by decide, by decide, srcG, by omega, fun H1 d1 b1 s1 h10 h11 => ⟨rfl, ?_⟩⟩
        obtain ⟨wd, ewd⟩ : ∃ wd : Bool, wd = decide (V.int d1 = V.int 0) := ⟨_, rfl⟩
        rw [← ewd]
        have bt1 := but_trans bt b1
        refine ⟨by show 1 ≤ sizeLine; decide, fun z1 nz1 => ?_⟩
        obtain ⟨xl1, el1⟩ := src_lst s1
        have z1l : z1 ≠ l := fun z => by rw [z, el1] at nz1; cases nz1
        have bt2 : But (· = l) GC (upd H1 z1 (.lst [.str "z"])) := but_trans bt1 (but_same (same_new nz1))
        have s2 := s1.upd (o := .lst [.str "z"]) z1l
        have ez1 : (upd H1 z1 (.lst [.str "z"])) z1 = some (.lst [.str "z"]) := upd_same
        generalize upd H1 z1 (.lst [.str "z"]) = H2 at bt2 s2 ez1 ⊢
        refine ⟨_, rfl, l, 2, _, rfl, by decide, by decide, s2, by omega, fun H3 d3 b3 s3 h30 h31 => ⟨rfl, .inr ⟨_, rfl, ?_⟩⟩⟩
        have bt3 := but_trans bt2 b3
        have ez3 := b3 _ _ z1l ez1
        obtain ⟨gs, egs, hgs⟩ : ∃ gs : List Str, (List.replicate (if decide (V.int d3 = V.int 0) = true then (1 : Int) else 0).toNat [V.str "z"]).flatten = gs.map V.str ∧ (gs = ([("z" : Str)] : List Str) ∨ gs = []) := by
          by_cases h : decide (V.int d3 = V.int 0) = true
          · refine ⟨[("z" : Str)], ?_, .inl rfl⟩
            rw [if_pos h]
            rfl
          · refine ⟨[], ?_, .inr rfl⟩
            rw [if_neg h]
            rfl
        refine ⟨z1, _, [.str "z"], rfl, rfl, ez3, ?_, ?_, ?_, fun z2 nz2 => ?_⟩
        · split <;> decide
        · split <;> decide
        · show 1 * _ ≤ sizeLine
          refine Nat.le_trans (Nat.mul_le_mul (Nat.le_refl 1) (show _ ≤ 1 from ?_)) (by decide)
          split <;> decide
        rw [egs]
        obtain ⟨xl3, el3⟩ := src_lst s3
        have z2l : z2 ≠ l := fun z => by rw [z, el3] at nz2; cases nz2
        have bt4 : But (· = l) GC (upd H3 z2 (.lst (gs.map V.str))) := but_trans bt3 (but_same (same_new nz2))
        have s4 := s3.upd (o := .lst (gs.map V.str)) z2l
        have ez4 : (upd H3 z2 (.lst (gs.map V.str))) z2 = some (.lst (gs.map V.str)) := upd_same
        generalize upd H3 z2 (.lst (gs.map V.str)) = H4 at bt4 s4 ez4 ⊢
        have gfacts : (∀ z ∈ gs, isName z = true) ∧ gs.Nodup ∧ gs.length ≤ 6 := by
          rcases hgs with rfl | rfl <;> decide +kernel
        have world : ∀ {H' : Hp}, But (· = l) GC H' → IsWorld K CL CS CW H' W ps := fun bt => (hWC.keepL fun c o e _ h => bt c o (fun z => by
          rcases h with h | h
          · exact nl6 (z ▸ h)
          · obtain ⟨xs, el⟩ := src_lst srcC
            rw [z, el] at e
            exact h xs (Option.some.inj e).symm) e).is
        refine ⟨_, _, rfl, ?_⟩
        refine ⟨_, rfl, _, rfl, _, rfl, _, rfl, l, R, q, z2, wd, ts, rows, ps.map (·.2), bs, gs, rfl, hRC.but bt4, by_, l13, SqL.of (bt4 _ _ ql eqq), bne, by omega, bnd, fun n hn => by rw [lm]; exact blt n hn, ez4, gfacts.1, gfacts.2.1, gfacts.2.2, fun H5 z s5 told => ?_⟩
        have bt5 := but_trans bt4 (but_same s5)
        refine ⟨_, rfl, _, rfl, _, rfl, W, q, wd, bs, ps, rfl, world bt5, g, SqL.of (bt5 _ _ ql eqq), bne, by omega, bnd, blt, fun H6 z' s6 due => ⟨rfl, _, rfl, ?_⟩⟩
        rw [due z told]
        refine ite_false_of (by simp) ?_
        exact ⟨_, _, _, rfl, but_trans bt5 (but_same s6), ((s4.keep s5).keep s6).more (by omega)⟩
      · rintro σ G ⟨v6, v7, v8, rfl, bt, srcG⟩
        exact ⟨bt _ _ Cl eCs, _, _, _, _, _, _, _, _, rfl⟩
    · rintro σ G4 _
      exact k _
end
end Lw

set_option autoImplicit true
set_option Elab.async false
set_option linter.all false
set_option maxRecDepth 100000
set_option maxHeartbeats 1000000
/-! World.order, World.fields. -/
namespace Pr
open PySem L2 Two ClX SlX
abbrev mWOrder : Stmt := within cWorld 7
section
variable {P : Program} {w : World} {K : PySem.W.Frag} {mg : Str → Option Value} {base : Heap}
theorem sc_wOrder : FnScope ["self", "number"] ["self", "number"] (defScope mWOrder) := ⟨rfl, rfl, rfl, by decide +kernel, rfl, by decide +kernel, by decide +kernel⟩
theorem ok_wOrder {f fS fN CL CS CW CN : Addr} {fd dS dN : FuncData} (F : Fun K "order" "World.order" mWOrder f fd) (C : WdC K mg CW) (mS : Meth K CW "_shape" fS) (bS : Binds K dS ["self", "number"] []) (GS : FnOk P w K mg base (L2.CX P w) 5 fS dS ["self", "number"] (spWShape K CL CS CW CN))
    (SC : ShC K mg CS) (mN : Meth K CS "order" fN) (bN : Binds K dN ["self"] []) (GN : FnOk P w K mg base CX0 1 fN dN ["self"] (spShList K CL CS fun m => natsV m.order)) : FnOk P w K mg base (L2.CX P w) 6 f fd ["self", "number"] (spWList K CL CS CW CN fun m => natsV m.order) := by
  refine F.okX sc_wOrder (fun vs H Q E h => ?_) (fun cdv A outer s H vs Q E hr h => ?_)
  · obtain ⟨W, x, ps, rfl, _⟩ := h
    rfl
  · obtain ⟨W, x, ps, rfl, hW, h⟩ := h
    have hr1 : Room 1 _ := hr.mono (by decide)
    refine ⟨_, pss_one (ps_ret (pe_meth0 (pe_meth (E := E) (pv 0) C.cl mS GS hr bS .nil (fun pins σ => passAt (W := fun cls d _ H => E cls d H) (takes_of rfl rfl rfl rfl) σ pins) (pa_cons (pv 1) pa_nil)) SC.cl mN GN hr1 bN .nil pass0)), ?_⟩
    have hW2 := hW
    obtain ⟨dx, S, Tb, Lv, h1, h2, h3, _⟩ := hW2
    refine ⟨_, rfl, W, dx, _, rfl, h1, rfl, _, rfl, W, x, ps, rfl, hW, ?_⟩
    rcases h with ⟨ni, th⟩ | ⟨i, rfl, ok, out⟩
    · exact .inl ⟨ni, th⟩
    · refine .inr ⟨i, rfl, fun n e hn a m hm sh => ?_, out⟩
      obtain ⟨da, us, ha, uL, uF, uO, uY, uB⟩ := isShape_ins sh
      exact ⟨a, da, _, rfl, ha, uO, a, m, rfl, sh, ok n e hn m (by rw [List.getElem?_map, hm]; rfl)⟩
theorem sc_wFields : FnScope ["self", "number"] ["self", "number"] (defScope mWFields) := ⟨rfl, rfl, rfl, by decide +kernel, rfl, by decide +kernel, by decide +kernel⟩
theorem ok_wFields {f fS fN CL CS CW CN : Addr} {fd dS dN : FuncData} (F : Fun K "fields" "World.fields" mWFields f fd) (C : WdC K mg CW) (mS : Meth K CW "_shape" fS) (bS : Binds K dS ["self", "number"] []) (GS : FnOk P w K mg base (L2.CX P w) 5 fS dS ["self", "number"] (spWShape K CL CS CW CN))
    (SC : ShC K mg CS) (mN : Meth K CS "fields" fN) (bN : Binds K dN ["self"] []) (GN : FnOk P w K mg base CX0 1 fN dN ["self"] (spShList K CL CS fun m => m.fields.map V.str)) : FnOk P w K mg base (L2.CX P w) 6 f fd ["self", "number"] (spWList K CL CS CW CN fun m => m.fields.map V.str) := by
  refine F.okX sc_wFields (fun vs H Q E h => ?_) (fun cdv A outer s H vs Q E hr h => ?_)
  · obtain ⟨W, x, ps, rfl, _⟩ := h
    rfl
  · obtain ⟨W, x, ps, rfl, hW, h⟩ := h
    have hr1 : Room 1 _ := hr.mono (by decide)
    refine ⟨_, pss_one (ps_ret (pe_meth0 (pe_meth (E := E) (pv 0) C.cl mS GS hr bS .nil (fun pins σ => passAt (W := fun cls d _ H => E cls d H) (takes_of rfl rfl rfl rfl) σ pins) (pa_cons (pv 1) pa_nil)) SC.cl mN GN hr1 bN .nil pass0)), ?_⟩
    have hW2 := hW
    obtain ⟨dx, S, Tb, Lv, h1, h2, h3, _⟩ := hW2
    refine ⟨_, rfl, W, dx, _, rfl, h1, rfl, _, rfl, W, x, ps, rfl, hW, ?_⟩
    rcases h with ⟨ni, th⟩ | ⟨i, rfl, ok, out⟩
    · exact .inl ⟨ni, th⟩
    · refine .inr ⟨i, rfl, fun n e hn a m hm sh => ?_, out⟩
      obtain ⟨da, us, ha, uL, uF, uO, uY, uB⟩ := isShape_ins sh
      exact ⟨a, da, _, rfl, ha, uF, a, m, rfl, sh, ok n e hn m (by rw [List.getElem?_map, hm]; rfl)⟩
end
end Pr

set_option autoImplicit true
set_option Elab.async false
set_option linter.all false
set_option maxRecDepth 100000
set_option maxHeartbeats 2000000
/-! The walk with tables of code objects, where the object of sys.modules is to stand apart. -/
namespace Two
open PySem PySem.Spec PyProof.Rows L2 LamX
theorem lawTS {P : Program} {w : World} {K : PySem.W.Frag} {mg mb : Str → Option Value} {k : Nat} {fa a : Addr} {cs : List (Addr × Addr)} {fd : FuncData} {x : Str} {sp : Sp} {z : Shared} {vs : List Value} {ns : List Int}
    (KX : K.In z.heap) (hns : z.heap.Ns mainGlobals mg) (hb : z.heap.Ns builtinsNs mb) (hbb : ∀ x : Str, x ≠ "__name__" → mb x = bootBuiltins x) (hlim : z.heap.NoLimit) (hg : z.gens = #[])
    (hT : ∀ p ∈ cs, z.heap.get? p.2 = some { cls := .none, data := .fields #[] }) (nT : ∀ p ∈ cs, K.lookup p.2 = none) (C : ∀ p ∈ cs, PySem.W.CodeHd z.heap p.1 p.2)
    (hbm : ∃ (bm : Addr) (ob : Obj), mg "__builtins__" = some (.ref bm) ∧ bm ≠ builtinsNs ∧ z.heap.get? bm = some ob ∧ ob.cls = .type "module" ∧ ob.dict = some builtinsNs ∧ ob.data = .plain)
    (hm : ∃ mm, z.heap.Ns 1 mm) (K1 : K.lookup 1 = none)
    (ha : z.heap.get? a = some { cls := .type "list", data := .seq vs.toArray }) (hi : IntsAre vs ns) (hl : ns.length ≤ sizeLine) (hr : Room k callerA)
    (F : ∀ base : Heap, K.In base → base.Ns mainGlobals mg → (∀ p ∈ cs, TabB base mg p.1 p.2) → FnG P w K mg base CX0 k fa fd [x] sp) (hbind : ∀ (s : Shared) (u : Value), BindsTo s fd ⟨[u], []⟩ [(x, u)])
    (hsp : ∀ H : Hp, (∀ p ∈ cs, H p.2 = some (.tbl #[])) → SqL K H a (ns.map V.int) → (∃ o, H 1 = some (.frz o (.own 0))) → sp [.ref a] H (fun v _ => v = .bl true) fun _ _ _ => False) :
    codeAny (model P w) callerA (.call (.ref fa) ⟨[.ref a], []⟩) (fun r y => r = .ok (.ret (.bool true)) ∧ OldK z.heap y.heap ∧ y.os = z.os ∧ AllBare y.gens) z := by
  obtain ⟨H0, hO0, hS0, hok0, only0⟩ := script_ho (P := P) (w := w) KX ha hi hl
  obtain ⟨mm, o1, es1, ep1, e1, d1, r1⟩ := hm
  have a1 : a ≠ 1 := fun q => by
    rw [q, e1] at ha
    cases ha
    cases d1
  have isT : ∀ b : Addr, b ∈ cs.map (·.2) → z.heap.get? b = some { cls := .none, data := .fields #[] } := fun b hb => by
    obtain ⟨p, hp, e⟩ := List.mem_map.mp hb
    rw [← e]
    exact hT p hp
  have aT : a ∉ cs.map (·.2) := fun q => by
    have q := isT a q
    rw [ha] at q
    have z' : Data.seq vs.toArray _ = Data.fields #[] := congrArg Obj.data (Option.some.inj q)
    cases z'
  have oneT : (1 : Addr) ∉ cs.map (·.2) := fun q => by
    have q := isT 1 q
    rw [e1] at q
    cases q
    cases d1
  have memT : ∀ p ∈ cs, p.2 ∈ cs.map (·.2) := fun p hp => List.mem_map.mpr ⟨p, hp, rfl⟩
  let H : Hp := fun b => if b = 1 then some (.frz o1 (.own 0)) else if b ∈ cs.map (·.2) then some (.tbl #[]) else H0 b
  have h1 : H 1 = some (.frz o1 (.own 0)) := if_pos rfl
  have hTb : ∀ b, b ∈ cs.map (·.2) → H b = some (.tbl #[]) := fun b hb => by
    have n : b ≠ 1 := fun q => oneT (q ▸ hb)
    exact (if_neg n).trans (if_pos hb)
  have hne : ∀ b, b ≠ 1 → b ∉ cs.map (·.2) → H b = H0 b := fun b q q2 => (if_neg q).trans (if_neg q2)
  have hO : ∀ b, H b = none ∨ b ∈ cs.map (·.2) ∨ ∃ o u, H b = some (.frz o u) := fun b => by
    by_cases q : b = 1
    · exact .inr (.inr ⟨_, _, q ▸ h1⟩)
    · by_cases q2 : b ∈ cs.map (·.2)
      · exact .inr (.inl q2)
      · rw [hne b q q2]
        rcases hO0 b with n | ⟨o, xs, n⟩
        · exact .inl n
        · exact .inr (.inr ⟨_, _, n⟩)
  have hS : SqL K H a (ns.map V.int) := hS0.imp (fun h => h.imp (fun e => (hne a a1 aT).trans e) fun ⟨o, e⟩ => ⟨o, (hne a a1 aT).trans e⟩) id
  have hok : HOk P w H z.heap := fun b u e => by
    by_cases q : b = 1
    · rw [q, h1] at e
      cases e
      rw [q]
      exact ⟨e1, o1, e1⟩
    · by_cases q2 : b ∈ cs.map (·.2)
      · rw [hTb b q2] at e
        cases e
        exact isT b q2
      · rw [hne b q q2] at e
        rcases hO0 b with n | ⟨o, xs, n⟩
        · rw [n] at e; cases e
        · have := hok0 b u e
          rw [n] at e
          cases e
          exact this
  have only : ∀ b, H b ≠ none → b = 1 ∨ b ∈ cs.map (·.2) ∨ (b = a ∧ K.lookup a = none) := fun b n => by
    by_cases q : b = 1
    · exact .inl q
    · by_cases q2 : b ∈ cs.map (·.2)
      · exact .inr (.inl q2)
      · rw [hne b q q2] at n
        exact .inr (.inr (only0 b n))
  have base_of : ∀ {b : Addr} {o : Obj}, z.heap.get? b = some o → H b = none → (hidT z.heap H).get? b = some o := fun e n => hidT_get e n
  have noD : ∀ {b : Addr} {o : Obj}, z.heap.get? b = some o → b ≠ 1 → (∀ vs n, o.data ≠ .seq vs n) → o.data ≠ .fields #[] → H b = none := fun {b o} e n1 h1 h2 => Decidable.byContradiction fun n => by
    rcases only b n with q | q | q
    · exact n1 q
    · rw [isT b q] at e
      cases e
      exact h2 rfl
    · rw [q.1, ha] at e
      cases e
      exact h1 _ _ rfl
  have nsK : ∀ {b : Addr} {m : Str → Option Value}, b ≠ 1 → z.heap.Ns b m → (hidT z.heap H).Ns b m := fun {b m} b1 ⟨o, es, ep, e, d, r⟩ => by
    refine ⟨o, es, ep, base_of e (noD e b1 (fun vs n q => ?_) fun q => ?_), d, r⟩
    · rw [d] at q
      cases q
    · rw [d] at q
      cases q
  have kin : K.In (hidT z.heap H) := fun b o e => base_of (KX b o e) (Decidable.byContradiction fun n => by
    rcases only b n with q | q | q
    · rw [q, K1] at e; cases e
    · obtain ⟨p, hp, ep⟩ := List.mem_map.mp q
      rw [← ep, nT p hp] at e
      cases e
    · rw [q.1, q.2] at e; cases e)
  have mod : Mod K mg (hidT z.heap H) := ⟨kin, nsK (by decide) hns, ⟨mb, nsK (by decide) hb, hbb⟩, let ⟨mc, h1, h2⟩ := hlim; ⟨mc, nsK (by decide) h1, h2⟩⟩
  have n1 : ∀ {b : Addr} {o : Obj}, z.heap.get? b = some o → (∀ es ep, o.data ≠ .dict es ep) → b ≠ 1 := fun {b o} e nd q => by
    rw [q, e1] at e
    cases e
    exact nd _ _ d1
  have TB : ∀ p ∈ cs, TabB (hidT z.heap H) mg p.1 p.2 := fun p hp => by
    have hTp := hT p hp
    refine ⟨?_, ?_, fun q => ?_⟩
    · obtain ⟨o, us, file, tf, flags, tg, inF, text, tt, e1, r1, r2, r3, r4, r5, r6, r7, r8, hne⟩ := C p hp
      refine ⟨o, us, file, tf, flags, tg, inF, text, tt, base_of e1 (noD e1 (n1 e1 fun es ep q => by rw [r2] at q; cases q) (fun vs n q => ?_) fun q => ?_), r1, r2, r3, r4, r5, r6, r7, r8, hne⟩
      · rw [r2] at q
        cases q
      · rw [r2] at q
        cases q
        simp at r3
    · obtain ⟨bm, ob, b1, b2, b3, b4, b5, b6⟩ := hbm
      have nG : bm ≠ mainGlobals := fun q => by
        obtain ⟨o, es, ep, e, hd, _⟩ := hns
        rw [q, e] at b3
        cases b3
        rw [hd] at b6
        cases b6
      have nP : bm ≠ p.2 := fun q => by
        rw [q, hTp] at b3
        cases b3
        cases b6
      refine ⟨bm, ob, b1, b2, nG, nP, base_of b3 (noD b3 (n1 b3 fun es ep q => by rw [b6] at q; cases q) (fun vs n q => ?_) fun q => ?_), b4, b5, b6⟩
      · rw [b6] at q
        cases q
      · rw [b6] at q
        cases q
    · obtain ⟨o, es, ep, e, hd, _⟩ := hns
      rw [q, hTp] at e
      cases e
      cases hd
  have env : Env0 P w K mg (hidT z.heap H) callerA [] z H := ⟨rfl, mod, fun b o e => of_hidT e, Nat.le_of_eq (hidT_size _ _), trivial, (fun b hb => nomatch hb), hok, .of_eq hg⟩
  refine codeAny_mono ((F _ kin (nsK (by decide) hns) TB).run callerA [] z H ⟨[.ref a], []⟩ [.ref a] [.ref a] _ _ hr rfl env (hbind z (.ref a)) (.cons rfl .nil) (hsp H (fun p hp => hTb _ (memT p hp)) hS ⟨_, h1⟩)) fun r y h => ?_
  match r, h with
  | .error e, h => exact h.elim
  | .ok .next, h => exact False.elim h
  | .ok .brk, h => exact False.elim h
  | .ok .cont, h => exact False.elim h
  | .ok (.ret u), h =>
    obtain ⟨v, G, os, bare, un, hokG, rv, q⟩ := h
    have q : v = .bl true := q
    subst q
    cases rv
    have key : ∀ b o, b ∉ cs.map (·.2) → z.heap.get? b = some o → y.heap.get? b = some o := fun b o nb e => by
      cases t : H b with
      | none => exact un.keep b o e t (fun n => nomatch n) (fun n => nomatch n)
      | some u =>
        rcases hO b with n | n | ⟨ob, xs, n⟩
        · rw [t] at n; cases n
        · exact absurd n nb
        · have e1 := (hok b _ n).1
          have e2 := (hokG b _ (un.frzs b ob _ n)).1
          rw [e] at e1
          cases e1
          exact e2
    have grown : ∀ p ∈ cs, ∃ more : Array Value, y.heap.get? p.2 = some { cls := .none, data := .fields more } := fun p hp => by
      obtain ⟨more, q⟩ := un.tbls p.2 #[] (hTb _ (memT p hp))
      exact ⟨_, hokG p.2 _ q⟩
    refine ⟨rfl, ⟨fun b o e => ?_, fun b o e => ?_⟩, os, bare⟩
    · by_cases hb : b ∈ cs.map (·.2)
      · obtain ⟨p, hp, ep⟩ := List.mem_map.mp hb
        obtain ⟨more, hm⟩ := grown p hp
        rw [← ep] at e ⊢
        rw [hT p hp] at e
        cases e
        exact .inr (.inl ⟨((C p hp).tab (hT p hp)).isCodeTable, rfl, #[], more, rfl, by rw [Array.empty_append]; exact hm⟩)
      · exact .inl (key b o hb e)
    · by_cases hb : b ∈ cs.map (·.2)
      · obtain ⟨p, hp, ep⟩ := List.mem_map.mp hb
        obtain ⟨more, hm⟩ := grown p hp
        rw [← ep]
        exact ⟨_, hm⟩
      · exact ⟨o, key b o hb e⟩
/-- what the text tells of the law's def -/
def LawAtG (l : PySem.W.OpenLaw) (w : World) (K : PySem.W.Frag) (k n : Nat) (x : Str) (mg : Str → Option Value) (fa : Addr) (h : Heap) : Prop :=
  ∃ (fd : FuncData) (cs : List (Addr × Addr)) (sp : Sp), (∀ p ∈ cs, h.get? p.2 = some { cls := .none, data := .fields #[] }) ∧ (∀ p ∈ cs, K.lookup p.2 = none) ∧ (∀ p ∈ cs, PySem.W.CodeHd h p.1 p.2) ∧ (∀ (s : Shared) (u : Value), BindsTo s fd ⟨[u], []⟩ [(x, u)]) ∧
    (∀ (H : Hp) (a : Addr) (ns : List Int), ns.length ≤ n → (∀ p ∈ cs, H p.2 = some (.tbl #[])) → SqL K H a (ns.map V.int) → (∃ o, H 1 = some (.frz o (.own 0))) → sp [.ref a] H (fun v _ => v = .bl true) fun _ _ _ => False) ∧
    ∀ base : Heap, K.In base → base.Ns mainGlobals mg → (∀ p ∈ cs, TabB base mg p.1 p.2) → FnG l.prog w K mg base CX0 k fa fd [x] sp
theorem walkTS {l : PySem.W.OpenLaw} {n k : Nat} {q : Program} {loose : List Str} {XP : (Str → Option Value) → Heap → Prop} {YP : World → Heap → Prop} {d : DefRec} {K : Params → PySem.W.Frag} {x : Str}
    (hn : l.most = some n) (hn2 : n ≤ sizeLine) (hdf : d.params.defaults = []) (hr : Room k callerA) (hY : ∀ (w : World) (h : Heap), YP w h → (K w.params).In h)
    (hq : importsNone q = true) (K1 : ∀ w : World, (K w.params).lookup 1 = none)
    (F : ∀ (w : World) (mg : Str → Option Value) (fa : Addr) (h : Heap), YP w h → (K w.params).In h → h.Ns mainGlobals mg → mg d.name = some (.ref fa) → LawAtG l w (K w.params) k n x mg fa h) :
    PySem.W.WalkO q loose XP YP l.row.toRowW d [] (fun f vs => PySem.call f vs) := by
  refine Att.attach_call hn hdf fun w s0 z mg mb fa o pm cd doc a vs ns G Y ho hd hcd hmg hobj hints hlen hg => ?_
  obtain ⟨fd, cs, sp, hT, nT, C, hb, hsp, hF⟩ := F w mg fa _ Y (hY w _ Y) G.T.g hmg
  obtain ⟨mm, hm, _⟩ := (G.T.seer hq).mods
  exact lawTS (hY w _ Y) G.T.g G.T.b G.T.builtins G.T.nolimit hg hT nT C G.T.bmain ⟨mm, hm⟩ (K1 w) hobj hints (Nat.le_trans hlen hn2) hr hF hb fun H hH hS h1 => hsp H a ns hlen hH hS h1
end Two

set_option autoImplicit true
set_option Elab.async false
set_option linter.all false
set_option maxRecDepth 100000
set_option maxHeartbeats 4000000
namespace Lw
open PySem L2 Two Pr ClX SlX LamX
abbrev sNameInit : Stmt := within (top 3) 0
abbrev sOffInit : Stmt := within (top 6) 0
abbrev sNoClsInit : Stmt := within (top 7) 0
section
variable {P : Program} {w : World} {K : PySem.W.Frag} {mg : Str → Option Value} {base : Heap}
theorem sc_sNameInit : FnScope ["self", "name"] ["self", "name"] (defScope sNameInit) := ⟨rfl, rfl, rfl, by decide +kernel, rfl, by decide +kernel, by decide +kernel⟩
theorem ok_sNameInit {f fL cL : Addr} {fd dL : FuncData} {mc : Value} (F : Fun K "__init__" "BadName.__init__" sNameInit f fd) (gL : mg "LineError" = some (.ref cL)) (r : CRead K cL mc) (c : CFn K cL mc "__init__" fL) (bL : Binds K dL ["self", "why"] [])
    (GL : FnOk P w K mg base CX0 1 fL dL ["self", "why"] (spInit K ["why"] fun y => [("why", y)])) : FnOk P w K mg base CX0 2 f fd ["self", "name"] (spInit K ["why", "name"] fun y => [("name", y), ("why", .str "name")]) :=
  ok_init1 (cL := cL) F sc_sNameInit fun cdv A outer s H E hr => pss_cons (ps_expr (pe_cfn (pe_glob rfl gL rfl) r c GL hr bL .nil pass0 (pa_cons (pv 0) (pa_cons pe_str pa_nil)))) (pss_one (ps_ost (pv 0) (pv 1)))
theorem sc_sOffInit : FnScope ["self", "offset"] ["self", "offset"] (defScope sOffInit) := ⟨rfl, rfl, rfl, by decide +kernel, rfl, by decide +kernel, by decide +kernel⟩
theorem ok_sOffInit {f fL cL : Addr} {fd dL : FuncData} {mc : Value} (F : Fun K "__init__" "BadOffset.__init__" sOffInit f fd) (gL : mg "LineError" = some (.ref cL)) (r : CRead K cL mc) (c : CFn K cL mc "__init__" fL) (bL : Binds K dL ["self", "why"] [])
    (GL : FnOk P w K mg base CX0 1 fL dL ["self", "why"] (spInit K ["why"] fun y => [("why", y)])) : FnOk P w K mg base CX0 2 f fd ["self", "offset"] (spInit K ["why", "offset"] fun y => [("offset", y), ("why", .str "offset")]) :=
  ok_init1 (cL := cL) F sc_sOffInit fun cdv A outer s H E hr => pss_cons (ps_expr (pe_cfn (pe_glob rfl gL rfl) r c GL hr bL .nil pass0 (pa_cons (pv 0) (pa_cons pe_str pa_nil)))) (pss_one (ps_ost (pv 0) (pv 1)))
theorem sc_sNoClsInit : FnScope ["self", "number"] ["self", "number"] (defScope sNoClsInit) := ⟨rfl, rfl, rfl, by decide +kernel, rfl, by decide +kernel, by decide +kernel⟩
theorem ok_sNoClsInit {f fL cL : Addr} {fd dL : FuncData} {mc : Value} (F : Fun K "__init__" "NoClass.__init__" sNoClsInit f fd) (gL : mg "LineError" = some (.ref cL)) (r : CRead K cL mc) (c : CFn K cL mc "__init__" fL) (bL : Binds K dL ["self", "why"] [])
    (GL : FnOk P w K mg base CX0 1 fL dL ["self", "why"] (spInit K ["why"] fun y => [("why", y)])) : FnOk P w K mg base CX0 2 f fd ["self", "number"] (spInit K ["why", "number"] fun y => [("number", y), ("why", .str "class")]) :=
  ok_init1 (cL := cL) F sc_sNoClsInit fun cdv A outer s H E hr => pss_cons (ps_expr (pe_cfn (pe_glob rfl gL rfl) r c GL hr bL .nil pass0 (pa_cons (pv 0) (pa_cons pe_str pa_nil)))) (pss_one (ps_ost (pv 0) (pv 1)))
theorem bl_only {ds : List Value} (h : Vals [V.bl false] ds) : ds = [.bool false] := by
  cases h with
  | cons r t =>
    cases t
    rw [show _ = Value.bool false from r]
theorem one_mem {α : Type} {x : α} {Pr : α → Prop} (h : Pr x) : ∀ y ∈ [x], Pr y := fun y hy => by rw [List.mem_singleton.mp hy]; exact h
theorem raw0 {CX : CXT} {k : Nat} {f : Addr} {fd : FuncData} {ps : List Str} {sp : Sp} (F : FnOk P w K mg base CX k f fd ps sp) (b : Binds K fd ps []) : FnR P w K mg base CX k f sp := by
  have h := F.raw b .nil
  simpa only [List.append_nil] using h
theorem toG {CX : CXT} {k : Nat} {f : Addr} {fd : FuncData} {ps : List Str} {sp : Sp} (F : FnOk P w K mg base CX k f fd ps sp) : FnG P w K mg base CX k f fd ps sp := ⟨F.len, fun A outer s H args us vs Q E hr _ => F.run A outer s H args us vs Q E hr⟩
theorem vals_app : ∀ {vs zs : List V} {us ws : List Value}, Vals vs us → Vals zs ws → Vals (vs ++ zs) (us ++ ws)
  | _, _, _, _, .nil, h => h
  | _, _, _, _, .cons r t, h => .cons r (vals_app t h)
theorem nil_only {ds : List Value} (h : Vals [] ds) : ds = [] := by cases h; rfl
end
/-! ### what the top has written -/
theorem all_mk {l : PySem.W.OpenLaw} {w : World} {K : PySem.W.Frag} {h : Heap} {mg : Str → Option Value} {fa : Addr} (X : K.In h) (G : h.Ns mainGlobals mg) (hfa : mg "law" = some (.ref fa))
    {t_longest t_deep t_mbases t_mfields t_mvalues t_mitems t_mclasses : Tok}
    (longest : PySem.W.nsIn K mainGlobals "LONGEST_NAME" = some (some (.int 8 t_longest)))
    (deep : PySem.W.nsIn K mainGlobals "DEEPEST_VALUE" = some (some (.int 4 t_deep)))
    (mbases : PySem.W.nsIn K mainGlobals "MOST_BASES" = some (some (.int 5 t_mbases)))
    (mfields : PySem.W.nsIn K mainGlobals "MOST_FIELDS" = some (some (.int 6 t_mfields)))
    (mvalues : PySem.W.nsIn K mainGlobals "MOST_VALUES" = some (some (.int 6 t_mvalues)))
    (mitems : PySem.W.nsIn K mainGlobals "MOST_ITEMS" = some (some (.int 30 t_mitems)))
    (mclasses : PySem.W.nsIn K mainGlobals "MOST_CLASSES" = some (some (.int 25 t_mclasses)))
    (z_isinstance : PySem.W.nsIn K mainGlobals "isinstance" = some none)
    (z_int : PySem.W.nsIn K mainGlobals "int" = some none)
    (z_bool : PySem.W.nsIn K mainGlobals "bool" = some none)
    (z_str : PySem.W.nsIn K mainGlobals "str" = some none)
    (z_list : PySem.W.nsIn K mainGlobals "list" = some none)
    (z_tuple : PySem.W.nsIn K mainGlobals "tuple" = some none)
    (z_set : PySem.W.nsIn K mainGlobals "set" = some none)
    (z_len : PySem.W.nsIn K mainGlobals "len" = some none)
    (z_all : PySem.W.nsIn K mainGlobals "all" = some none)
    (z_any : PySem.W.nsIn K mainGlobals "any" = some none)
    (z_zip : PySem.W.nsIn K mainGlobals "zip" = some none)
    (z_enumerate : PySem.W.nsIn K mainGlobals "enumerate" = some none)
    (z_range : PySem.W.nsIn K mainGlobals "range" = some none)
    (z_reversed : PySem.W.nsIn K mainGlobals "reversed" = some none)
    (z_min : PySem.W.nsIn K mainGlobals "min" = some none)
    (z_max : PySem.W.nsIn K mainGlobals "max" = some none)
    (z_repr : PySem.W.nsIn K mainGlobals "repr" = some none)
    (z_sorted : PySem.W.nsIn K mainGlobals "sorted" = some none)
    {f_I : Addr} {od_I an_I : Option Addr} {sl_I : Array (Option Value)} {oc_I kV_I dc_I pm_I cd_I ct_I : Value} 
    (a_I : PySem.W.nsIn K mainGlobals "is_int" = some (some (.ref f_I)))
    (l_I : K.lookup f_I = some ⟨oc_I, od_I, .func (PySem.W.fnOf "is_int" "is_int" (defArgs sIsInt) (defBody sIsInt) (defScope sIsInt) .none kV_I dc_I pm_I an_I cd_I ct_I), sl_I⟩)
    (c_I : PySem.W.codeIn K cd_I "is_int" = true)
    (k_I : PySem.W.keepIn K (.ref f_I) = true)
    {f_N : Addr} {od_N an_N : Option Addr} {sl_N : Array (Option Value)} {oc_N kV_N dc_N pm_N cd_N ct_N : Value} 
    (a_N : PySem.W.nsIn K mainGlobals "is_name" = some (some (.ref f_N)))
    (l_N : K.lookup f_N = some ⟨oc_N, od_N, .func (PySem.W.fnOf "is_name" "is_name" (defArgs sIsName) (defBody sIsName) (defScope sIsName) .none kV_N dc_N pm_N an_N cd_N ct_N), sl_N⟩)
    (c_N : PySem.W.codeIn K cd_N "is_name" = true)
    (k_N : PySem.W.keepIn K (.ref f_N) = true)
    {f_v : Addr} {od_v an_v : Option Addr} {sl_v : Array (Option Value)} {oc_v kV_v dc_v pm_v cd_v ct_v : Value} 
    (a_v : PySem.W.nsIn K mainGlobals "is_value" = some (some (.ref f_v)))
    (l_v : K.lookup f_v = some ⟨oc_v, od_v, .func (PySem.W.fnOf "is_value" "is_value" (defArgs sIsValue) (defBody sIsValue) (defScope sIsValue) .none kV_v dc_v pm_v an_v cd_v ct_v), sl_v⟩)
    (c_v : PySem.W.codeIn K cd_v "is_value" = true)
    (k_v : PySem.W.keepIn K (.ref f_v) = true)
    {f_V : Addr} {od_V an_V : Option Addr} {sl_V : Array (Option Value)} {oc_V kV_V dc_V pm_V cd_V ct_V : Value} 
    (a_V : PySem.W.nsIn K mainGlobals "_is_value_within" = some (some (.ref f_V)))
    (l_V : K.lookup f_V = some ⟨oc_V, od_V, .func (PySem.W.fnOf "_is_value_within" "_is_value_within" (defArgs sValueIn) (defBody sValueIn) (defScope sValueIn) .none kV_V dc_V pm_V an_V cd_V ct_V), sl_V⟩)
    (c_V : PySem.W.codeIn K cd_V "_is_value_within" = true)
    (k_V : PySem.W.keepIn K (.ref f_V) = true)
    {f_n : Addr} {od_n an_n : Option Addr} {sl_n : Array (Option Value)} {oc_n kV_n dc_n pm_n cd_n ct_n : Value} 
    (a_n : PySem.W.nsIn K mainGlobals "check_name" = some (some (.ref f_n)))
    (l_n : K.lookup f_n = some ⟨oc_n, od_n, .func (PySem.W.fnOf "check_name" "check_name" (defArgs sCkName) (defBody sCkName) (defScope sCkName) .none kV_n dc_n pm_n an_n cd_n ct_n), sl_n⟩)
    (c_n : PySem.W.codeIn K cd_n "check_name" = true)
    (k_n : PySem.W.keepIn K (.ref f_n) = true)
    {f_q : Addr} {od_q an_q : Option Addr} {sl_q : Array (Option Value)} {oc_q kV_q dc_q pm_q cd_q ct_q : Value} 
    (a_q : PySem.W.nsIn K mainGlobals "check_value" = some (some (.ref f_q)))
    (l_q : K.lookup f_q = some ⟨oc_q, od_q, .func (PySem.W.fnOf "check_value" "check_value" (defArgs sCkValue) (defBody sCkValue) (defScope sCkValue) .none kV_q dc_q pm_q an_q cd_q ct_q), sl_q⟩)
    (c_q : PySem.W.codeIn K cd_q "check_value" = true)
    (k_q : PySem.W.keepIn K (.ref f_q) = true)
    {f_j : Addr} {od_j an_j : Option Addr} {sl_j : Array (Option Value)} {oc_j kV_j dc_j pm_j cd_j ct_j : Value} 
    (a_j : PySem.W.nsIn K mainGlobals "check_class" = some (some (.ref f_j)))
    (l_j : K.lookup f_j = some ⟨oc_j, od_j, .func (PySem.W.fnOf "check_class" "check_class" (defArgs sCkClass) (defBody sCkClass) (defScope sCkClass) .none kV_j dc_j pm_j an_j cd_j ct_j), sl_j⟩)
    (c_j : PySem.W.codeIn K cd_j "check_class" = true)
    (k_j : PySem.W.keepIn K (.ref f_j) = true)
    {f_S : Addr} {od_S an_S : Option Addr} {sl_S : Array (Option Value)} {oc_S kV_S dc_S pm_S cd_S ct_S : Value} 
    (a_S : PySem.W.nsIn K mainGlobals "check_names" = some (some (.ref f_S)))
    (l_S : K.lookup f_S = some ⟨oc_S, od_S, .func (PySem.W.fnOf "check_names" "check_names" (defArgs sCkNames) (defBody sCkNames) (defScope sCkNames) .none kV_S dc_S pm_S an_S cd_S ct_S), sl_S⟩)
    (c_S : PySem.W.codeIn K cd_S "check_names" = true)
    (k_S : PySem.W.keepIn K (.ref f_S) = true)
    {f_U : Addr} {od_U an_U : Option Addr} {sl_U : Array (Option Value)} {oc_U kV_U dc_U pm_U cd_U ct_U : Value} 
    (a_U : PySem.W.nsIn K mainGlobals "check_unlike" = some (some (.ref f_U)))
    (l_U : K.lookup f_U = some ⟨oc_U, od_U, .func (PySem.W.fnOf "check_unlike" "check_unlike" (defArgs sUnlike) (defBody sUnlike) (defScope sUnlike) .none kV_U dc_U pm_U an_U cd_U ct_U), sl_U⟩)
    (c_U : PySem.W.codeIn K cd_U "check_unlike" = true)
    (k_U : PySem.W.keepIn K (.ref f_U) = true)
    {f_M : Addr} {od_M an_M : Option Addr} {sl_M : Array (Option Value)} {oc_M kV_M dc_M pm_M cd_M ct_M : Value} 
    (a_M : PySem.W.nsIn K mainGlobals "check_more_fields" = some (some (.ref f_M)))
    (l_M : K.lookup f_M = some ⟨oc_M, od_M, .func (PySem.W.fnOf "check_more_fields" "check_more_fields" (defArgs sCkMore) (defBody sCkMore) (defScope sCkMore) .none kV_M dc_M pm_M an_M cd_M ct_M), sl_M⟩)
    (c_M : PySem.W.codeIn K cd_M "check_more_fields" = true)
    (k_M : PySem.W.keepIn K (.ref f_M) = true)
    {f_b : Addr} {od_b an_b : Option Addr} {sl_b : Array (Option Value)} {oc_b kV_b dc_b pm_b cd_b ct_b : Value} 
    (a_b : PySem.W.nsIn K mainGlobals "check_bases" = some (some (.ref f_b)))
    (l_b : K.lookup f_b = some ⟨oc_b, od_b, .func (PySem.W.fnOf "check_bases" "check_bases" (defArgs sCkBases) (defBody sCkBases) (defScope sCkBases) .none kV_b dc_b pm_b an_b cd_b ct_b), sl_b⟩)
    (c_b : PySem.W.codeIn K cd_b "check_bases" = true)
    (k_b : PySem.W.keepIn K (.ref f_b) = true)
    {f_p : Addr} {od_p an_p : Option Addr} {sl_p : Array (Option Value)} {oc_p kV_p dc_p pm_p cd_p ct_p : Value} 
    (a_p : PySem.W.nsIn K mainGlobals "check_pairs" = some (some (.ref f_p)))
    (l_p : K.lookup f_p = some ⟨oc_p, od_p, .func (PySem.W.fnOf "check_pairs" "check_pairs" (defArgs sCkPairs) (defBody sCkPairs) (defScope sCkPairs) .none kV_p dc_p pm_p an_p cd_p ct_p), sl_p⟩)
    (c_p : PySem.W.codeIn K cd_p "check_pairs" = true)
    (k_p : PySem.W.keepIn K (.ref f_p) = true)
    {f_P : Addr} {od_P an_P : Option Addr} {sl_P : Array (Option Value)} {oc_P kV_P dc_P pm_P cd_P ct_P : Value} 
    (a_P : PySem.W.nsIn K mainGlobals "_is_pair" = some (some (.ref f_P)))
    (l_P : K.lookup f_P = some ⟨oc_P, od_P, .func (PySem.W.fnOf "_is_pair" "_is_pair" (defArgs sIsPair) (defBody sIsPair) (defScope sIsPair) .none kV_P dc_P pm_P an_P cd_P ct_P), sl_P⟩)
    (c_P : PySem.W.codeIn K cd_P "_is_pair" = true)
    (k_P : PySem.W.keepIn K (.ref f_P) = true)
    {f_mg : Addr} {od_mg an_mg : Option Addr} {sl_mg : Array (Option Value)} {oc_mg kV_mg dc_mg pm_mg cd_mg ct_mg : Value} 
    (a_mg : PySem.W.nsIn K mainGlobals "merge" = some (some (.ref f_mg)))
    (l_mg : K.lookup f_mg = some ⟨oc_mg, od_mg, .func (PySem.W.fnOf "merge" "merge" (defArgs sMerge) (defBody sMerge) (defScope sMerge) .none kV_mg dc_mg pm_mg an_mg cd_mg ct_mg), sl_mg⟩)
    (c_mg : PySem.W.codeIn K cd_mg "merge" = true)
    (k_mg : PySem.W.keepIn K (.ref f_mg) = true)
    {f_mc : Addr} {od_mc an_mc : Option Addr} {sl_mc : Array (Option Value)} {oc_mc kV_mc dc_mc pm_mc cd_mc ct_mc : Value} 
    (a_mc : PySem.W.nsIn K mainGlobals "_check_lists" = some (some (.ref f_mc)))
    (l_mc : K.lookup f_mc = some ⟨oc_mc, od_mc, .func (PySem.W.fnOf "_check_lists" "_check_lists" (defArgs sCheck) (defBody sCheck) (defScope sCheck) .none kV_mc dc_mc pm_mc an_mc cd_mc ct_mc), sl_mc⟩)
    (c_mc : PySem.W.codeIn K cd_mc "_check_lists" = true)
    (k_mc : PySem.W.keepIn K (.ref f_mc) = true)
    {f_ml : Addr} {od_ml an_ml : Option Addr} {sl_ml : Array (Option Value)} {oc_ml kV_ml dc_ml pm_ml cd_ml ct_ml : Value} 
    (a_ml : PySem.W.nsIn K mainGlobals "_is_list_of_ints" = some (some (.ref f_ml)))
    (l_ml : K.lookup f_ml = some ⟨oc_ml, od_ml, .func (PySem.W.fnOf "_is_list_of_ints" "_is_list_of_ints" (defArgs sIsList) (defBody sIsList) (defScope sIsList) .none kV_ml dc_ml pm_ml an_ml cd_ml ct_ml), sl_ml⟩)
    (c_ml : PySem.W.codeIn K cd_ml "_is_list_of_ints" = true)
    (k_ml : PySem.W.keepIn K (.ref f_ml) = true)
    {f_mt : Addr} {od_mt an_mt : Option Addr} {sl_mt : Array (Option Value)} {oc_mt kV_mt dc_mt pm_mt cd_mt ct_mt : Value} 
    (a_mt : PySem.W.nsIn K mainGlobals "_times_behind" = some (some (.ref f_mt)))
    (l_mt : K.lookup f_mt = some ⟨oc_mt, od_mt, .func (PySem.W.fnOf "_times_behind" "_times_behind" (defArgs sTimes) (defBody sTimes) (defScope sTimes) .none kV_mt dc_mt pm_mt an_mt cd_mt ct_mt), sl_mt⟩)
    (c_mt : PySem.W.codeIn K cd_mt "_times_behind" = true)
    (k_mt : PySem.W.keepIn K (.ref f_mt) = true)
    {f_mf : Addr} {od_mf an_mf : Option Addr} {sl_mf : Array (Option Value)} {oc_mf kV_mf dc_mf pm_mf cd_mf ct_mf : Value} 
    (a_mf : PySem.W.nsIn K mainGlobals "_first_free" = some (some (.ref f_mf)))
    (l_mf : K.lookup f_mf = some ⟨oc_mf, od_mf, .func (PySem.W.fnOf "_first_free" "_first_free" (defArgs sFree) (defBody sFree) (defScope sFree) .none kV_mf dc_mf pm_mf an_mf cd_mf ct_mf), sl_mf⟩)
    (c_mf : PySem.W.codeIn K cd_mf "_first_free" = true)
    (k_mf : PySem.W.keepIn K (.ref f_mf) = true)
    {f_mk : Addr} {od_mk an_mk : Option Addr} {sl_mk : Array (Option Value)} {oc_mk kV_mk dc_mk pm_mk cd_mk ct_mk : Value} 
    (a_mk : PySem.W.nsIn K mainGlobals "_take" = some (some (.ref f_mk)))
    (l_mk : K.lookup f_mk = some ⟨oc_mk, od_mk, .func (PySem.W.fnOf "_take" "_take" (defArgs sTake) (defBody sTake) (defScope sTake) .none kV_mk dc_mk pm_mk an_mk cd_mk ct_mk), sl_mk⟩)
    (c_mk : PySem.W.codeIn K cd_mk "_take" = true)
    (k_mk : PySem.W.keepIn K (.ref f_mk) = true)
    {f_mr : Addr} {od_mr an_mr : Option Addr} {sl_mr : Array (Option Value)} {oc_mr kV_mr dc_mr pm_mr cd_mr ct_mr : Value} 
    (a_mr : PySem.W.nsIn K mainGlobals "_ring_of" = some (some (.ref f_mr)))
    (l_mr : K.lookup f_mr = some ⟨oc_mr, od_mr, .func (PySem.W.fnOf "_ring_of" "_ring_of" (defArgs sRingOf) (defBody sRingOf) (defScope sRingOf) .none kV_mr dc_mr pm_mr an_mr cd_mr ct_mr), sl_mr⟩)
    (c_mr : PySem.W.codeIn K cd_mr "_ring_of" = true)
    (k_mr : PySem.W.keepIn K (.ref f_mr) = true)
    {f_co : Addr} {od_co an_co : Option Addr} {sl_co : Array (Option Value)} {oc_co kV_co dc_co pm_co cd_co ct_co : Value} 
    (a_co : PySem.W.nsIn K mainGlobals "collision_of" = some (some (.ref f_co)))
    (l_co : K.lookup f_co = some ⟨oc_co, od_co, .func (PySem.W.fnOf "collision_of" "collision_of" (defArgs sColOf) (defBody sColOf) (defScope sColOf) .none kV_co dc_co pm_co an_co cd_co ct_co), sl_co⟩)
    (c_co : PySem.W.codeIn K cd_co "collision_of" = true)
    (k_co : PySem.W.keepIn K (.ref f_co) = true)
    {f_cb : Addr} {od_cb an_cb : Option Addr} {sl_cb : Array (Option Value)} {oc_cb kV_cb dc_cb pm_cb cd_cb ct_cb : Value} 
    (a_cb : PySem.W.nsIn K mainGlobals "_collision_between" = some (some (.ref f_cb)))
    (l_cb : K.lookup f_cb = some ⟨oc_cb, od_cb, .func (PySem.W.fnOf "_collision_between" "_collision_between" (defArgs sBetween) (defBody sBetween) (defScope sBetween) .none kV_cb dc_cb pm_cb an_cb cd_cb ct_cb), sl_cb⟩)
    (c_cb : PySem.W.codeIn K cd_cb "_collision_between" = true)
    (k_cb : PySem.W.keepIn K (.ref f_cb) = true)
    {f_la : Addr} {od_la an_la : Option Addr} {sl_la : Array (Option Value)} {oc_la kV_la dc_la pm_la cd_la ct_la : Value} 
    (a_la : PySem.W.nsIn K mainGlobals "_line_above" = some (some (.ref f_la)))
    (l_la : K.lookup f_la = some ⟨oc_la, od_la, .func (PySem.W.fnOf "_line_above" "_line_above" (defArgs sLineAbove) (defBody sLineAbove) (defScope sLineAbove) .none kV_la dc_la pm_la an_la cd_la ct_la), sl_la⟩)
    (c_la : PySem.W.codeIn K cd_la "_line_above" = true)
    (k_la : PySem.W.keepIn K (.ref f_la) = true)
    {f_oa : Addr} {od_oa an_oa : Option Addr} {sl_oa : Array (Option Value)} {oc_oa kV_oa dc_oa pm_oa cd_oa ct_oa : Value} 
    (a_oa : PySem.W.nsIn K mainGlobals "_order_above" = some (some (.ref f_oa)))
    (l_oa : K.lookup f_oa = some ⟨oc_oa, od_oa, .func (PySem.W.fnOf "_order_above" "_order_above" (defArgs sOrdAbove) (defBody sOrdAbove) (defScope sOrdAbove) .none kV_oa dc_oa pm_oa an_oa cd_oa ct_oa), sl_oa⟩)
    (c_oa : PySem.W.codeIn K cd_oa "_order_above" = true)
    (k_oa : PySem.W.keepIn K (.ref f_oa) = true)
    {f_cr : Addr} {od_cr an_cr : Option Addr} {sl_cr : Array (Option Value)} {oc_cr kV_cr dc_cr pm_cr cd_cr ct_cr : Value} 
    (a_cr : PySem.W.nsIn K mainGlobals "_check_room" = some (some (.ref f_cr)))
    (l_cr : K.lookup f_cr = some ⟨oc_cr, od_cr, .func (PySem.W.fnOf "_check_room" "_check_room" (defArgs sCkRoom) (defBody sCkRoom) (defScope sCkRoom) .none kV_cr dc_cr pm_cr an_cr cd_cr ct_cr), sl_cr⟩)
    (c_cr : PySem.W.codeIn K cd_cr "_check_room" = true)
    (k_cr : PySem.W.keepIn K (.ref f_cr) = true)
    {f_lo : Addr} {od_lo an_lo : Option Addr} {sl_lo : Array (Option Value)} {oc_lo kV_lo dc_lo pm_lo cd_lo ct_lo : Value} 
    (a_lo : PySem.W.nsIn K mainGlobals "_layout_of" = some (some (.ref f_lo)))
    (l_lo : K.lookup f_lo = some ⟨oc_lo, od_lo, .func (PySem.W.fnOf "_layout_of" "_layout_of" (defArgs sLayOf) (defBody sLayOf) (defScope sLayOf) .none kV_lo dc_lo pm_lo an_lo cd_lo ct_lo), sl_lo⟩)
    (c_lo : PySem.W.codeIn K cd_lo "_layout_of" = true)
    (k_lo : PySem.W.keepIn K (.ref f_lo) = true)
    {f_lc : Addr} {od_lc an_lc : Option Addr} {sl_lc : Array (Option Value)} {oc_lc kV_lc dc_lc pm_lc cd_lc ct_lc : Value} 
    (a_lc : PySem.W.nsIn K mainGlobals "_law_cell_at" = some (some (.ref f_lc)))
    (l_lc : K.lookup f_lc = some ⟨oc_lc, od_lc, .func (PySem.W.fnOf "_law_cell_at" "_law_cell_at" (defArgs sCell) (defBody sCell) (defScope sCell) .none kV_lc dc_lc pm_lc an_lc cd_lc ct_lc), sl_lc⟩)
    (c_lc : PySem.W.codeIn K cd_lc "_law_cell_at" = true)
    (k_lc : PySem.W.keepIn K (.ref f_lc) = true)
    {f_ls : Addr} {od_ls an_ls : Option Addr} {sl_ls : Array (Option Value)} {oc_ls kV_ls dc_ls pm_ls cd_ls ct_ls : Value} 
    (a_ls : PySem.W.nsIn K mainGlobals "_law_well" = some (some (.ref f_ls)))
    (l_ls : K.lookup f_ls = some ⟨oc_ls, od_ls, .func (PySem.W.fnOf "_law_well" "_law_well" (defArgs sWell) (defBody sWell) (defScope sWell) .none kV_ls dc_ls pm_ls an_ls cd_ls ct_ls), sl_ls⟩)
    (c_ls : PySem.W.codeIn K cd_ls "_law_well" = true)
    (k_ls : PySem.W.keepIn K (.ref f_ls) = true)
    {f_ld : Addr} {od_ld an_ld : Option Addr} {sl_ld : Array (Option Value)} {oc_ld kV_ld dc_ld pm_ld cd_ld ct_ld : Value} 
    (a_ld : PySem.W.nsIn K mainGlobals "_law_draw" = some (some (.ref f_ld)))
    (l_ld : K.lookup f_ld = some ⟨oc_ld, od_ld, .func (PySem.W.fnOf "_law_draw" "_law_draw" (defArgs sDraw) (defBody sDraw) (defScope sDraw) .none kV_ld dc_ld pm_ld an_ld cd_ld ct_ld), sl_ld⟩)
    (c_ld : PySem.W.codeIn K cd_ld "_law_draw" = true)
    (k_ld : PySem.W.keepIn K (.ref f_ld) = true)
    {f_lb : Addr} {od_lb an_lb : Option Addr} {sl_lb : Array (Option Value)} {oc_lb kV_lb dc_lb pm_lb cd_lb ct_lb : Value} 
    (a_lb : PySem.W.nsIn K mainGlobals "_law_bases" = some (some (.ref f_lb)))
    (l_lb : K.lookup f_lb = some ⟨oc_lb, od_lb, .func (PySem.W.fnOf "_law_bases" "_law_bases" (defArgs sBases) (defBody sBases) (defScope sBases) .none kV_lb dc_lb pm_lb an_lb cd_lb ct_lb), sl_lb⟩)
    (c_lb : PySem.W.codeIn K cd_lb "_law_bases" = true)
    (k_lb : PySem.W.keepIn K (.ref f_lb) = true)
    {f_lf : Addr} {od_lf an_lf : Option Addr} {sl_lf : Array (Option Value)} {oc_lf kV_lf dc_lf pm_lf cd_lf ct_lf : Value} 
    (a_lf : PySem.W.nsIn K mainGlobals "_law_fields" = some (some (.ref f_lf)))
    (l_lf : K.lookup f_lf = some ⟨oc_lf, od_lf, .func (PySem.W.fnOf "_law_fields" "_law_fields" (defArgs sFields) (defBody sFields) (defScope sFields) .none kV_lf dc_lf pm_lf an_lf cd_lf ct_lf), sl_lf⟩)
    (c_lf : PySem.W.codeIn K cd_lf "_law_fields" = true)
    (k_lf : PySem.W.keepIn K (.ref f_lf) = true)
    {f_Lr : Addr} {od_Lr an_Lr : Option Addr} {sl_Lr : Array (Option Value)} {oc_Lr kV_Lr dc_Lr pm_Lr cd_Lr ct_Lr : Value} 
    (a_Lr : PySem.W.nsIn K mainGlobals "_law_rows" = some (some (.ref f_Lr)))
    (l_Lr : K.lookup f_Lr = some ⟨oc_Lr, od_Lr, .func (PySem.W.fnOf "_law_rows" "_law_rows" (defArgs sRows) (defBody sRows) (defScope sRows) .none kV_Lr dc_Lr pm_Lr an_Lr cd_Lr ct_Lr), sl_Lr⟩)
    (c_Lr : PySem.W.codeIn K cd_Lr "_law_rows" = true)
    (k_Lr : PySem.W.keepIn K (.ref f_Lr) = true)
    {f_La : Addr} {od_La an_La : Option Addr} {sl_La : Array (Option Value)} {oc_La kV_La dc_La pm_La cd_La ct_La : Value} 
    (a_La : PySem.W.nsIn K mainGlobals "_law_again" = some (some (.ref f_La)))
    (l_La : K.lookup f_La = some ⟨oc_La, od_La, .func (PySem.W.fnOf "_law_again" "_law_again" (defArgs sAgain) (defBody sAgain) (defScope sAgain) .none kV_La dc_La pm_La an_La cd_La ct_La), sl_La⟩)
    (c_La : PySem.W.codeIn K cd_La "_law_again" = true)
    (k_La : PySem.W.keepIn K (.ref f_La) = true)
    {f_Lg : Addr} {od_Lg an_Lg : Option Addr} {sl_Lg : Array (Option Value)} {oc_Lg kV_Lg dc_Lg pm_Lg cd_Lg ct_Lg : Value} 
    (a_Lg : PySem.W.nsIn K mainGlobals "_law_has_ring" = some (some (.ref f_Lg)))
    (l_Lg : K.lookup f_Lg = some ⟨oc_Lg, od_Lg, .func (PySem.W.fnOf "_law_has_ring" "_law_has_ring" (defArgs sRing) (defBody sRing) (defScope sRing) .none kV_Lg dc_Lg pm_Lg an_Lg cd_Lg ct_Lg), sl_Lg⟩)
    (c_Lg : PySem.W.codeIn K cd_Lg "_law_has_ring" = true)
    (k_Lg : PySem.W.keepIn K (.ref f_Lg) = true)
    {f_Lu : Addr} {od_Lu an_Lu : Option Addr} {sl_Lu : Array (Option Value)} {oc_Lu kV_Lu dc_Lu pm_Lu cd_Lu ct_Lu : Value} 
    (a_Lu : PySem.W.nsIn K mainGlobals "_law_due" = some (some (.ref f_Lu)))
    (l_Lu : K.lookup f_Lu = some ⟨oc_Lu, od_Lu, .func (PySem.W.fnOf "_law_due" "_law_due" (defArgs sDue) (defBody sDue) (defScope sDue) .none kV_Lu dc_Lu pm_Lu an_Lu cd_Lu ct_Lu), sl_Lu⟩)
    (c_Lu : PySem.W.codeIn K cd_Lu "_law_due" = true)
    (k_Lu : PySem.W.keepIn K (.ref f_Lu) = true)
    {f_Lt : Addr} {od_Lt an_Lt : Option Addr} {sl_Lt : Array (Option Value)} {oc_Lt kV_Lt dc_Lt pm_Lt cd_Lt ct_Lt : Value} 
    (a_Lt : PySem.W.nsIn K mainGlobals "_law_told" = some (some (.ref f_Lt)))
    (l_Lt : K.lookup f_Lt = some ⟨oc_Lt, od_Lt, .func (PySem.W.fnOf "_law_told" "_law_told" (defArgs sTold) (defBody sTold) (defScope sTold) .none kV_Lt dc_Lt pm_Lt an_Lt cd_Lt ct_Lt), sl_Lt⟩)
    (c_Lt : PySem.W.codeIn K cd_Lt "_law_told" = true)
    (k_Lt : PySem.W.keepIn K (.ref f_Lt) = true)
    {f_Ll : Addr} {od_Ll an_Ll : Option Addr} {sl_Ll : Array (Option Value)} {oc_Ll kV_Ll dc_Ll pm_Ll cd_Ll ct_Ll : Value} 
    (a_Ll : PySem.W.nsIn K mainGlobals "_law_lists" = some (some (.ref f_Ll)))
    (l_Ll : K.lookup f_Ll = some ⟨oc_Ll, od_Ll, .func (PySem.W.fnOf "_law_lists" "_law_lists" (defArgs sLists) (defBody sLists) (defScope sLists) .none kV_Ll dc_Ll pm_Ll an_Ll cd_Ll ct_Ll), sl_Ll⟩)
    (c_Ll : PySem.W.codeIn K cd_Ll "_law_lists" = true)
    (k_Ll : PySem.W.keepIn K (.ref f_Ll) = true)
    {f_l : Addr} {od_l an_l : Option Addr} {sl_l : Array (Option Value)} {oc_l kV_l dc_l pm_l cd_l ct_l : Value} 
    (a_l : PySem.W.nsIn K mainGlobals "law" = some (some (.ref f_l)))
    (l_l : K.lookup f_l = some ⟨oc_l, od_l, .func (PySem.W.fnOf "law" "law" (defArgs sLaw) (defBody sLaw) (defScope sLaw) .none kV_l dc_l pm_l an_l cd_l ct_l), sl_l⟩)
    (c_l : PySem.W.codeIn K cd_l "law" = true)
    (k_l : PySem.W.keepIn K (.ref f_l) = true)
    {CL : Addr}
    (a_CL : PySem.W.nsIn K mainGlobals "LineError" = some (some (.ref CL)))
    {C0 : Addr}
    (a_C0 : PySem.W.nsIn K mainGlobals "BadList" = some (some (.ref C0)))
    {C1 : Addr}
    (a_C1 : PySem.W.nsIn K mainGlobals "NoClass" = some (some (.ref C1)))
    {C2 : Addr}
    (a_C2 : PySem.W.nsIn K mainGlobals "TooMany" = some (some (.ref C2)))
    {C3 : Addr}
    (a_C3 : PySem.W.nsIn K mainGlobals "Duplicate" = some (some (.ref C3)))
    {C4 : Addr}
    (a_C4 : PySem.W.nsIn K mainGlobals "BadName" = some (some (.ref C4)))
    {C5 : Addr}
    (a_C5 : PySem.W.nsIn K mainGlobals "BadOffset" = some (some (.ref C5)))
    {C9 : Addr}
    (a_C9 : PySem.W.nsIn K mainGlobals "Collision" = some (some (.ref C9)))
    {C14 : Addr}
    (a_C14 : PySem.W.nsIn K mainGlobals "NoOrder" = some (some (.ref C14)))
    {C10 : Addr}
    (a_C10 : PySem.W.nsIn K mainGlobals "HasRoom" = some (some (.ref C10)))
    {f_iL : Addr} {od_iL an_iL : Option Addr} {sl_iL : Array (Option Value)} {oc_iL kV_iL dc_iL pm_iL cd_iL ct_iL : Value} 
    (i_iL : PySem.W.findIn K (.ref CL) "__init__" = some (some (.ref f_iL)))
    (l_iL : K.lookup f_iL = some ⟨oc_iL, od_iL, .func (PySem.W.fnOf "__init__" "LineError.__init__" (defArgs sLineInit) (defBody sLineInit) (defScope sLineInit) .none kV_iL dc_iL pm_iL an_iL cd_iL ct_iL), sl_iL⟩)
    (c_iL : PySem.W.codeIn K cd_iL "LineError.__init__" = true)
    (k_iL : PySem.W.keepIn K (.ref f_iL) = true)
    (t_iL : PySem.W.typeIn K (.ref f_iL) = some (.type "function"))
    {f_iN : Addr} {od_iN an_iN : Option Addr} {sl_iN : Array (Option Value)} {oc_iN kV_iN dc_iN pm_iN cd_iN ct_iN : Value} 
    (i_iN : PySem.W.findIn K (.ref C4) "__init__" = some (some (.ref f_iN)))
    (l_iN : K.lookup f_iN = some ⟨oc_iN, od_iN, .func (PySem.W.fnOf "__init__" "BadName.__init__" (defArgs sNameInit) (defBody sNameInit) (defScope sNameInit) .none kV_iN dc_iN pm_iN an_iN cd_iN ct_iN), sl_iN⟩)
    (c_iN : PySem.W.codeIn K cd_iN "BadName.__init__" = true)
    (k_iN : PySem.W.keepIn K (.ref f_iN) = true)
    (t_iN : PySem.W.typeIn K (.ref f_iN) = some (.type "function"))
    {f_iO : Addr} {od_iO an_iO : Option Addr} {sl_iO : Array (Option Value)} {oc_iO kV_iO dc_iO pm_iO cd_iO ct_iO : Value} 
    (i_iO : PySem.W.findIn K (.ref C5) "__init__" = some (some (.ref f_iO)))
    (l_iO : K.lookup f_iO = some ⟨oc_iO, od_iO, .func (PySem.W.fnOf "__init__" "BadOffset.__init__" (defArgs sOffInit) (defBody sOffInit) (defScope sOffInit) .none kV_iO dc_iO pm_iO an_iO cd_iO ct_iO), sl_iO⟩)
    (c_iO : PySem.W.codeIn K cd_iO "BadOffset.__init__" = true)
    (k_iO : PySem.W.keepIn K (.ref f_iO) = true)
    (t_iO : PySem.W.typeIn K (.ref f_iO) = some (.type "function"))
    {f_iD : Addr} {od_iD an_iD : Option Addr} {sl_iD : Array (Option Value)} {oc_iD kV_iD dc_iD pm_iD cd_iD ct_iD : Value} 
    (i_iD : PySem.W.findIn K (.ref C3) "__init__" = some (some (.ref f_iD)))
    (l_iD : K.lookup f_iD = some ⟨oc_iD, od_iD, .func (PySem.W.fnOf "__init__" "Duplicate.__init__" (defArgs sDupInit) (defBody sDupInit) (defScope sDupInit) .none kV_iD dc_iD pm_iD an_iD cd_iD ct_iD), sl_iD⟩)
    (c_iD : PySem.W.codeIn K cd_iD "Duplicate.__init__" = true)
    (k_iD : PySem.W.keepIn K (.ref f_iD) = true)
    (t_iD : PySem.W.typeIn K (.ref f_iD) = some (.type "function"))
    {f_iT : Addr} {od_iT an_iT : Option Addr} {sl_iT : Array (Option Value)} {oc_iT kV_iT dc_iT pm_iT cd_iT ct_iT : Value} 
    (i_iT : PySem.W.findIn K (.ref C2) "__init__" = some (some (.ref f_iT)))
    (l_iT : K.lookup f_iT = some ⟨oc_iT, od_iT, .func (PySem.W.fnOf "__init__" "TooMany.__init__" (defArgs sManyInit) (defBody sManyInit) (defScope sManyInit) .none kV_iT dc_iT pm_iT an_iT cd_iT ct_iT), sl_iT⟩)
    (c_iT : PySem.W.codeIn K cd_iT "TooMany.__init__" = true)
    (k_iT : PySem.W.keepIn K (.ref f_iT) = true)
    (t_iT : PySem.W.typeIn K (.ref f_iT) = some (.type "function"))
    {f_iC : Addr} {od_iC an_iC : Option Addr} {sl_iC : Array (Option Value)} {oc_iC kV_iC dc_iC pm_iC cd_iC ct_iC : Value} 
    (i_iC : PySem.W.findIn K (.ref C1) "__init__" = some (some (.ref f_iC)))
    (l_iC : K.lookup f_iC = some ⟨oc_iC, od_iC, .func (PySem.W.fnOf "__init__" "NoClass.__init__" (defArgs sNoClsInit) (defBody sNoClsInit) (defScope sNoClsInit) .none kV_iC dc_iC pm_iC an_iC cd_iC ct_iC), sl_iC⟩)
    (c_iC : PySem.W.codeIn K cd_iC "NoClass.__init__" = true)
    (k_iC : PySem.W.keepIn K (.ref f_iC) = true)
    (t_iC : PySem.W.typeIn K (.ref f_iC) = some (.type "function"))
    {f_iK : Addr} {od_iK an_iK : Option Addr} {sl_iK : Array (Option Value)} {oc_iK kV_iK dc_iK pm_iK cd_iK ct_iK : Value} 
    (i_iK : PySem.W.findIn K (.ref C9) "__init__" = some (some (.ref f_iK)))
    (l_iK : K.lookup f_iK = some ⟨oc_iK, od_iK, .func (PySem.W.fnOf "__init__" "Collision.__init__" (defArgs sColInit) (defBody sColInit) (defScope sColInit) .none kV_iK dc_iK pm_iK an_iK cd_iK ct_iK), sl_iK⟩)
    (c_iK : PySem.W.codeIn K cd_iK "Collision.__init__" = true)
    (k_iK : PySem.W.keepIn K (.ref f_iK) = true)
    (t_iK : PySem.W.typeIn K (.ref f_iK) = some (.type "function"))
    {f_iR : Addr} {od_iR an_iR : Option Addr} {sl_iR : Array (Option Value)} {oc_iR kV_iR dc_iR pm_iR cd_iR ct_iR : Value} 
    (i_iR : PySem.W.findIn K (.ref C14) "__init__" = some (some (.ref f_iR)))
    (l_iR : K.lookup f_iR = some ⟨oc_iR, od_iR, .func (PySem.W.fnOf "__init__" "NoOrder.__init__" (defArgs sNoOrdInit) (defBody sNoOrdInit) (defScope sNoOrdInit) .none kV_iR dc_iR pm_iR an_iR cd_iR ct_iR), sl_iR⟩)
    (c_iR : PySem.W.codeIn K cd_iR "NoOrder.__init__" = true)
    (k_iR : PySem.W.keepIn K (.ref f_iR) = true)
    (t_iR : PySem.W.typeIn K (.ref f_iR) = some (.type "function"))
    {f_iH : Addr} {od_iH an_iH : Option Addr} {sl_iH : Array (Option Value)} {oc_iH kV_iH dc_iH pm_iH cd_iH ct_iH : Value} 
    (i_iH : PySem.W.findIn K (.ref C10) "__init__" = some (some (.ref f_iH)))
    (l_iH : K.lookup f_iH = some ⟨oc_iH, od_iH, .func (PySem.W.fnOf "__init__" "HasRoom.__init__" (defArgs sRoomInit) (defBody sRoomInit) (defScope sRoomInit) .none kV_iH dc_iH pm_iH an_iH cd_iH ct_iH), sl_iH⟩)
    (c_iH : PySem.W.codeIn K cd_iH "HasRoom.__init__" = true)
    (k_iH : PySem.W.keepIn K (.ref f_iH) = true)
    (t_iH : PySem.W.typeIn K (.ref f_iH) = some (.type "function"))
    (i_B : PySem.W.findIn K (.ref C0) "__init__" = some (some (.ref f_iL)))
    {mcL : Value}
    (rdT : PySem.W.typeIn K (.ref CL) = some mcL)
    (rdL : PySem.W.readsIn K CL mcL = true)
    (gaL : PySem.W.specialIn K (.ref CL) "__getattribute__" = some (some (.builtin "type.__getattribute__")))
    (atL : PySem.W.findCls K (.ref CL) mcL "__init__" = some (.val (.ref f_iL)))
    (kCL : PySem.W.keepIn K (.ref CL) = true)
    {nmC0 qC0 : Str} {NC0 : Addr} {bsC0 bmC0 : List Value} {snC0 : List Str} {subC0 : List Value} {abC0 : Bool} {colC0 : Option Bool} {ddC0 : Option Addr} {m0C0 m1C0 m2C0 m3C0 m5C0 : Option Value}
    (x_C0 : K.lookup C0 = some (excClassObj nmC0 qC0 C0 NC0 bsC0 bmC0 true snC0 subC0 abC0 colC0 ddC0 m0C0 m1C0 m2C0 m3C0 m5C0 "ValueError.__new__"))
    (rv_C0 : PySem.HandSPX.refsVE bmC0 = true)
    (sa_C0 : PySem.W.findIn K (.ref C0) "__setattr__" = some (some (.builtin "object.__setattr__")))
    (ex_C0 : PySem.W.subIn K (.ref C0) (.type "BaseException") = some true)
    (ty_C0 : PySem.W.typeIn K (.ref C0) = some (.type "type"))
    (kc_C0 : PySem.W.keepIn K (.ref C0) = true)
    (nw_C0 : PySem.W.findIn K (.ref C0) "why" = some none)
    {nmC1 qC1 : Str} {NC1 : Addr} {bsC1 bmC1 : List Value} {snC1 : List Str} {subC1 : List Value} {abC1 : Bool} {colC1 : Option Bool} {ddC1 : Option Addr} {m0C1 m1C1 m2C1 m3C1 m5C1 : Option Value}
    (x_C1 : K.lookup C1 = some (excClassObj nmC1 qC1 C1 NC1 bsC1 bmC1 true snC1 subC1 abC1 colC1 ddC1 m0C1 m1C1 m2C1 m3C1 m5C1 "ValueError.__new__"))
    (rv_C1 : PySem.HandSPX.refsVE bmC1 = true)
    (sa_C1 : PySem.W.findIn K (.ref C1) "__setattr__" = some (some (.builtin "object.__setattr__")))
    (ex_C1 : PySem.W.subIn K (.ref C1) (.type "BaseException") = some true)
    (ty_C1 : PySem.W.typeIn K (.ref C1) = some (.type "type"))
    (kc_C1 : PySem.W.keepIn K (.ref C1) = true)
    (nw_C1 : PySem.W.findIn K (.ref C1) "why" = some none)
    (nf_C1_number : PySem.W.findIn K (.ref C1) "number" = some none)
    {nmC2 qC2 : Str} {NC2 : Addr} {bsC2 bmC2 : List Value} {snC2 : List Str} {subC2 : List Value} {abC2 : Bool} {colC2 : Option Bool} {ddC2 : Option Addr} {m0C2 m1C2 m2C2 m3C2 m5C2 : Option Value}
    (x_C2 : K.lookup C2 = some (excClassObj nmC2 qC2 C2 NC2 bsC2 bmC2 true snC2 subC2 abC2 colC2 ddC2 m0C2 m1C2 m2C2 m3C2 m5C2 "ValueError.__new__"))
    (rv_C2 : PySem.HandSPX.refsVE bmC2 = true)
    (sa_C2 : PySem.W.findIn K (.ref C2) "__setattr__" = some (some (.builtin "object.__setattr__")))
    (ex_C2 : PySem.W.subIn K (.ref C2) (.type "BaseException") = some true)
    (ty_C2 : PySem.W.typeIn K (.ref C2) = some (.type "type"))
    (kc_C2 : PySem.W.keepIn K (.ref C2) = true)
    (nw_C2 : PySem.W.findIn K (.ref C2) "why" = some none)
    (nf_C2_limit : PySem.W.findIn K (.ref C2) "limit" = some none)
    {nmC3 qC3 : Str} {NC3 : Addr} {bsC3 bmC3 : List Value} {snC3 : List Str} {subC3 : List Value} {abC3 : Bool} {colC3 : Option Bool} {ddC3 : Option Addr} {m0C3 m1C3 m2C3 m3C3 m5C3 : Option Value}
    (x_C3 : K.lookup C3 = some (excClassObj nmC3 qC3 C3 NC3 bsC3 bmC3 true snC3 subC3 abC3 colC3 ddC3 m0C3 m1C3 m2C3 m3C3 m5C3 "ValueError.__new__"))
    (rv_C3 : PySem.HandSPX.refsVE bmC3 = true)
    (sa_C3 : PySem.W.findIn K (.ref C3) "__setattr__" = some (some (.builtin "object.__setattr__")))
    (ex_C3 : PySem.W.subIn K (.ref C3) (.type "BaseException") = some true)
    (ty_C3 : PySem.W.typeIn K (.ref C3) = some (.type "type"))
    (kc_C3 : PySem.W.keepIn K (.ref C3) = true)
    (nw_C3 : PySem.W.findIn K (.ref C3) "why" = some none)
    (nf_C3_thing : PySem.W.findIn K (.ref C3) "thing" = some none)
    {nmC4 qC4 : Str} {NC4 : Addr} {bsC4 bmC4 : List Value} {snC4 : List Str} {subC4 : List Value} {abC4 : Bool} {colC4 : Option Bool} {ddC4 : Option Addr} {m0C4 m1C4 m2C4 m3C4 m5C4 : Option Value}
    (x_C4 : K.lookup C4 = some (excClassObj nmC4 qC4 C4 NC4 bsC4 bmC4 true snC4 subC4 abC4 colC4 ddC4 m0C4 m1C4 m2C4 m3C4 m5C4 "ValueError.__new__"))
    (rv_C4 : PySem.HandSPX.refsVE bmC4 = true)
    (sa_C4 : PySem.W.findIn K (.ref C4) "__setattr__" = some (some (.builtin "object.__setattr__")))
    (ex_C4 : PySem.W.subIn K (.ref C4) (.type "BaseException") = some true)
    (ty_C4 : PySem.W.typeIn K (.ref C4) = some (.type "type"))
    (kc_C4 : PySem.W.keepIn K (.ref C4) = true)
    (nw_C4 : PySem.W.findIn K (.ref C4) "why" = some none)
    (nf_C4_name : PySem.W.findIn K (.ref C4) "name" = some none)
    {nmC5 qC5 : Str} {NC5 : Addr} {bsC5 bmC5 : List Value} {snC5 : List Str} {subC5 : List Value} {abC5 : Bool} {colC5 : Option Bool} {ddC5 : Option Addr} {m0C5 m1C5 m2C5 m3C5 m5C5 : Option Value}
    (x_C5 : K.lookup C5 = some (excClassObj nmC5 qC5 C5 NC5 bsC5 bmC5 true snC5 subC5 abC5 colC5 ddC5 m0C5 m1C5 m2C5 m3C5 m5C5 "ValueError.__new__"))
    (rv_C5 : PySem.HandSPX.refsVE bmC5 = true)
    (sa_C5 : PySem.W.findIn K (.ref C5) "__setattr__" = some (some (.builtin "object.__setattr__")))
    (ex_C5 : PySem.W.subIn K (.ref C5) (.type "BaseException") = some true)
    (ty_C5 : PySem.W.typeIn K (.ref C5) = some (.type "type"))
    (kc_C5 : PySem.W.keepIn K (.ref C5) = true)
    (nw_C5 : PySem.W.findIn K (.ref C5) "why" = some none)
    (nf_C5_offset : PySem.W.findIn K (.ref C5) "offset" = some none)
    {nmC9 qC9 : Str} {NC9 : Addr} {bsC9 bmC9 : List Value} {snC9 : List Str} {subC9 : List Value} {abC9 : Bool} {colC9 : Option Bool} {ddC9 : Option Addr} {m0C9 m1C9 m2C9 m3C9 m5C9 : Option Value}
    (x_C9 : K.lookup C9 = some (excClassObj nmC9 qC9 C9 NC9 bsC9 bmC9 true snC9 subC9 abC9 colC9 ddC9 m0C9 m1C9 m2C9 m3C9 m5C9 "ValueError.__new__"))
    (rv_C9 : PySem.HandSPX.refsVE bmC9 = true)
    (sa_C9 : PySem.W.findIn K (.ref C9) "__setattr__" = some (some (.builtin "object.__setattr__")))
    (ex_C9 : PySem.W.subIn K (.ref C9) (.type "BaseException") = some true)
    (ty_C9 : PySem.W.typeIn K (.ref C9) = some (.type "type"))
    (kc_C9 : PySem.W.keepIn K (.ref C9) = true)
    (nw_C9 : PySem.W.findIn K (.ref C9) "why" = some none)
    (nf_C9_number : PySem.W.findIn K (.ref C9) "number" = some none)
    (nf_C9_owners : PySem.W.findIn K (.ref C9) "owners" = some none)
    (nf_C9_offset : PySem.W.findIn K (.ref C9) "offset" = some none)
    (nf_C9_names : PySem.W.findIn K (.ref C9) "names" = some none)
    {nmC14 qC14 : Str} {NC14 : Addr} {bsC14 bmC14 : List Value} {snC14 : List Str} {subC14 : List Value} {abC14 : Bool} {colC14 : Option Bool} {ddC14 : Option Addr} {m0C14 m1C14 m2C14 m3C14 m5C14 : Option Value}
    (x_C14 : K.lookup C14 = some (excClassObj nmC14 qC14 C14 NC14 bsC14 bmC14 true snC14 subC14 abC14 colC14 ddC14 m0C14 m1C14 m2C14 m3C14 m5C14 "ValueError.__new__"))
    (rv_C14 : PySem.HandSPX.refsVE bmC14 = true)
    (sa_C14 : PySem.W.findIn K (.ref C14) "__setattr__" = some (some (.builtin "object.__setattr__")))
    (ex_C14 : PySem.W.subIn K (.ref C14) (.type "BaseException") = some true)
    (ty_C14 : PySem.W.typeIn K (.ref C14) = some (.type "type"))
    (kc_C14 : PySem.W.keepIn K (.ref C14) = true)
    (nw_C14 : PySem.W.findIn K (.ref C14) "why" = some none)
    (nf_C14_number : PySem.W.findIn K (.ref C14) "number" = some none)
    (nf_C14_ring : PySem.W.findIn K (.ref C14) "ring" = some none)
    {nmC10 qC10 : Str} {NC10 : Addr} {bsC10 bmC10 : List Value} {snC10 : List Str} {subC10 : List Value} {abC10 : Bool} {colC10 : Option Bool} {ddC10 : Option Addr} {m0C10 m1C10 m2C10 m3C10 m5C10 : Option Value}
    (x_C10 : K.lookup C10 = some (excClassObj nmC10 qC10 C10 NC10 bsC10 bmC10 true snC10 subC10 abC10 colC10 ddC10 m0C10 m1C10 m2C10 m3C10 m5C10 "ValueError.__new__"))
    (rv_C10 : PySem.HandSPX.refsVE bmC10 = true)
    (sa_C10 : PySem.W.findIn K (.ref C10) "__setattr__" = some (some (.builtin "object.__setattr__")))
    (ex_C10 : PySem.W.subIn K (.ref C10) (.type "BaseException") = some true)
    (ty_C10 : PySem.W.typeIn K (.ref C10) = some (.type "type"))
    (kc_C10 : PySem.W.keepIn K (.ref C10) = true)
    (nw_C10 : PySem.W.findIn K (.ref C10) "why" = some none)
    (nf_C10_number : PySem.W.findIn K (.ref C10) "number" = some none)
    (nf_C10_base : PySem.W.findIn K (.ref C10) "base" = some none)
    (hn : PySem.W.specialIn K (.builtin "object.__class__") "__get__" = some (some (.builtin "getset_descriptor.__get__")))
    (ht : PySem.W.takesIn K (.builtin "object.__class__") = some true)
    {Y p0 p1 : Addr}
    (a_Y : PySem.W.nsIn K mainGlobals "Layout" = some (some (.ref Y)))
    (pg_Y : PySem.W.plainGet K Y Str.empty = true)
    (ic_Y : PySem.W.isClsIn K Y = true)
    (po_Y : PySem.W.plainOver K Y = true)
    (sa_Y : PySem.W.findIn K (.ref Y) "__setattr__" = some (some (.builtin "object.__setattr__")))
    (at_0 : PySem.W.findIn K (.ref Y) "_fields" = some (some (.ref p0)))
    (get_0 : PySem.W.specialIn K (.ref p0) "__get__" = some (some (.builtin "member_descriptor.__get__")))
    (tk_0 : PySem.W.takesIn K (.ref p0) = some true)
    (ty_p0 : PySem.W.typeIn K (.ref p0) = some (.type "member_descriptor"))
    (ix_0 : PySem.W.slotIn K p0 Y = some 0)
    (at_1 : PySem.W.findIn K (.ref Y) "_room" = some (some (.ref p1)))
    (get_1 : PySem.W.specialIn K (.ref p1) "__get__" = some (some (.builtin "member_descriptor.__get__")))
    (tk_1 : PySem.W.takesIn K (.ref p1) = some true)
    (ty_p1 : PySem.W.typeIn K (.ref p1) = some (.type "member_descriptor"))
    (ix_1 : PySem.W.slotIn K p1 Y = some 1)
    (ca_Y : PySem.W.findIn K (.ref Y) "__class__" = some (some (.builtin "object.__class__")))
    (cm_Y : PySem.W.mroIn K Y (.type "object") = some true)
    (mk_Y : PySem.W.makesIn K Y = true)
    (kc_Y : PySem.W.keepIn K (.ref Y) = true)
    (sf_Y : PySem.W.selfFirst K Y = true)
    {foL roL : Option Value}
    (fo1 : PySem.W.findIn K (.type "list") "__add__" = some foL)
    (ro1 : PySem.W.findIn K (.type "list") "__radd__" = some roL)
    (ot_L : ((foL.isSome && !isSeqSlot foL) || (roL.isSome && !isSeqSlot roL)) = false)
    {f_mF : Addr} {od_mF an_mF : Option Addr} {sl_mF : Array (Option Value)} {oc_mF kV_mF dc_mF pm_mF cd_mF ct_mF : Value} 
    (a_mF : PySem.W.findIn K (.ref Y) "fields" = some (some (.ref f_mF)))
    (l_mF : K.lookup f_mF = some ⟨oc_mF, od_mF, .func (PySem.W.fnOf "fields" "Layout.fields" (defArgs mFields) (defBody mFields) (defScope mFields) .none kV_mF dc_mF pm_mF an_mF cd_mF ct_mF), sl_mF⟩)
    (c_mF : PySem.W.codeIn K cd_mF "Layout.fields" = true)
    (k_mF : PySem.W.keepIn K (.ref f_mF) = true)
    (fn_mF : PySem.W.isFn K (.ref f_mF) = true)
    {f_mH : Addr} {od_mH an_mH : Option Addr} {sl_mH : Array (Option Value)} {oc_mH kV_mH dc_mH pm_mH cd_mH ct_mH : Value} 
    (a_mH : PySem.W.findIn K (.ref Y) "has_room" = some (some (.ref f_mH)))
    (l_mH : K.lookup f_mH = some ⟨oc_mH, od_mH, .func (PySem.W.fnOf "has_room" "Layout.has_room" (defArgs mHas) (defBody mHas) (defScope mHas) .none kV_mH dc_mH pm_mH an_mH cd_mH ct_mH), sl_mH⟩)
    (c_mH : PySem.W.codeIn K cd_mH "Layout.has_room" = true)
    (k_mH : PySem.W.keepIn K (.ref f_mH) = true)
    (fn_mH : PySem.W.isFn K (.ref f_mH) = true)
    {f_mW : Addr} {od_mW an_mW : Option Addr} {sl_mW : Array (Option Value)} {oc_mW kV_mW dc_mW pm_mW cd_mW ct_mW : Value} 
    (a_mW : PySem.W.findIn K (.ref Y) "with_room" = some (some (.ref f_mW)))
    (l_mW : K.lookup f_mW = some ⟨oc_mW, od_mW, .func (PySem.W.fnOf "with_room" "Layout.with_room" (defArgs mWith) (defBody mWith) (defScope mWith) .none kV_mW dc_mW pm_mW an_mW cd_mW ct_mW), sl_mW⟩)
    (c_mW : PySem.W.codeIn K cd_mW "Layout.with_room" = true)
    (k_mW : PySem.W.keepIn K (.ref f_mW) = true)
    (fn_mW : PySem.W.isFn K (.ref f_mW) = true)
    {f_mL : Addr} {od_mL an_mL : Option Addr} {sl_mL : Array (Option Value)} {oc_mL kV_mL dc_mL pm_mL cd_mL ct_mL : Value} 
    (a_mL : PySem.W.findIn K (.ref Y) "__len__" = some (some (.ref f_mL)))
    (l_mL : K.lookup f_mL = some ⟨oc_mL, od_mL, .func (PySem.W.fnOf "__len__" "Layout.__len__" (defArgs mLen) (defBody mLen) (defScope mLen) .none kV_mL dc_mL pm_mL an_mL cd_mL ct_mL), sl_mL⟩)
    (c_mL : PySem.W.codeIn K cd_mL "Layout.__len__" = true)
    (k_mL : PySem.W.keepIn K (.ref f_mL) = true)
    (fn_mL : PySem.W.isFn K (.ref f_mL) = true)
    {f_mG : Addr} {od_mG an_mG : Option Addr} {sl_mG : Array (Option Value)} {oc_mG kV_mG dc_mG pm_mG cd_mG ct_mG : Value} 
    (a_mG : PySem.W.findIn K (.ref Y) "__getitem__" = some (some (.ref f_mG)))
    (l_mG : K.lookup f_mG = some ⟨oc_mG, od_mG, .func (PySem.W.fnOf "__getitem__" "Layout.__getitem__" (defArgs mGet) (defBody mGet) (defScope mGet) .none kV_mG dc_mG pm_mG an_mG cd_mG ct_mG), sl_mG⟩)
    (c_mG : PySem.W.codeIn K cd_mG "Layout.__getitem__" = true)
    (k_mG : PySem.W.keepIn K (.ref f_mG) = true)
    (fn_mG : PySem.W.isFn K (.ref f_mG) = true)
    {f_mA : Addr} {od_mA an_mA : Option Addr} {sl_mA : Array (Option Value)} {oc_mA kV_mA dc_mA pm_mA cd_mA ct_mA : Value} 
    (a_mA : PySem.W.findIn K (.ref Y) "__add__" = some (some (.ref f_mA)))
    (l_mA : K.lookup f_mA = some ⟨oc_mA, od_mA, .func (PySem.W.fnOf "__add__" "Layout.__add__" (defArgs mAdd) (defBody mAdd) (defScope mAdd) .none kV_mA dc_mA pm_mA an_mA cd_mA ct_mA), sl_mA⟩)
    (c_mA : PySem.W.codeIn K cd_mA "Layout.__add__" = true)
    (k_mA : PySem.W.keepIn K (.ref f_mA) = true)
    (fn_mA : PySem.W.isFn K (.ref f_mA) = true)
    (fi_mG : PySem.W.fnIn K f_mG = true)
    {f_mI : Addr} {od_mI an_mI : Option Addr} {sl_mI : Array (Option Value)} {oc_mI kV_mI dc_mI pm_mI cd_mI ct_mI : Value} {dT : Addr} {odT : Option Addr} {slT : Array (Option Value)} {ocT : Value} {nT : Nat}
    (a_mI : PySem.W.findIn K (.ref Y) "__init__" = some (some (.ref f_mI)))
    (l_mI : K.lookup f_mI = some ⟨oc_mI, od_mI, .func (PySem.W.fnOf "__init__" "Layout.__init__" (defArgs mInit) (defBody mInit) (defScope mInit) (.ref dT) kV_mI dc_mI pm_mI an_mI cd_mI ct_mI), sl_mI⟩)
    (l_T : K.lookup dT = some ⟨ocT, odT, .seq #[.bool false] nT, slT⟩)
    (c_mI : PySem.W.codeIn K cd_mI "Layout.__init__" = true)
    (k_mI : PySem.W.keepIn K (.ref f_mI) = true)
    (fn_mI : PySem.W.isFn K (.ref f_mI) = true)
    {CS : Addr}
    (a_CS : PySem.W.nsIn K mainGlobals "Shape" = some (some (.ref CS)))
    (pg_CS : PySem.W.plainGet K CS Str.empty = true)
    (hd_CS : PySem.W.hasDictIn K CS = true)
    (po_CS : PySem.W.plainOver K CS = true)
    (sa_CS : PySem.W.findIn K (.ref CS) "__setattr__" = some (some (.builtin "object.__setattr__")))
    (mk_CS : PySem.W.makesIn K CS = true)
    (kc_CS : PySem.W.keepIn K (.ref CS) = true)
    (na_CS_order : PySem.W.findIn K (.ref CS) "_order" = some none)
    (na_CS_layout : PySem.W.findIn K (.ref CS) "_layout" = some none)
    (na_CS_line : PySem.W.findIn K (.ref CS) "_line" = some none)
    (na_CS_offsets : PySem.W.findIn K (.ref CS) "_offsets" = some none)
    (na_CS_bases : PySem.W.findIn K (.ref CS) "_bases" = some none)
    (na_CS_fields : PySem.W.findIn K (.ref CS) "_fields" = some none)
    (na_CS_roomy : PySem.W.findIn K (.ref CS) "_roomy" = some none)
    {f_CSO : Addr} {od_CSO an_CSO : Option Addr} {sl_CSO : Array (Option Value)} {oc_CSO kV_CSO dc_CSO pm_CSO cd_CSO ct_CSO : Value} 
    (a_CSO : PySem.W.findIn K (.ref CS) "order" = some (some (.ref f_CSO)))
    (l_CSO : K.lookup f_CSO = some ⟨oc_CSO, od_CSO, .func (PySem.W.fnOf "order" "Shape.order" (defArgs mShOrder) (defBody mShOrder) (defScope mShOrder) .none kV_CSO dc_CSO pm_CSO an_CSO cd_CSO ct_CSO), sl_CSO⟩)
    (c_CSO : PySem.W.codeIn K cd_CSO "Shape.order" = true)
    (k_CSO : PySem.W.keepIn K (.ref f_CSO) = true)
    (fn_CSO : PySem.W.isFn K (.ref f_CSO) = true)
    {f_CSN : Addr} {od_CSN an_CSN : Option Addr} {sl_CSN : Array (Option Value)} {oc_CSN kV_CSN dc_CSN pm_CSN cd_CSN ct_CSN : Value} 
    (a_CSN : PySem.W.findIn K (.ref CS) "line" = some (some (.ref f_CSN)))
    (l_CSN : K.lookup f_CSN = some ⟨oc_CSN, od_CSN, .func (PySem.W.fnOf "line" "Shape.line" (defArgs mShLine) (defBody mShLine) (defScope mShLine) .none kV_CSN dc_CSN pm_CSN an_CSN cd_CSN ct_CSN), sl_CSN⟩)
    (c_CSN : PySem.W.codeIn K cd_CSN "Shape.line" = true)
    (k_CSN : PySem.W.keepIn K (.ref f_CSN) = true)
    (fn_CSN : PySem.W.isFn K (.ref f_CSN) = true)
    {f_CSY : Addr} {od_CSY an_CSY : Option Addr} {sl_CSY : Array (Option Value)} {oc_CSY kV_CSY dc_CSY pm_CSY cd_CSY ct_CSY : Value} 
    (a_CSY : PySem.W.findIn K (.ref CS) "layout" = some (some (.ref f_CSY)))
    (l_CSY : K.lookup f_CSY = some ⟨oc_CSY, od_CSY, .func (PySem.W.fnOf "layout" "Shape.layout" (defArgs mShLay) (defBody mShLay) (defScope mShLay) .none kV_CSY dc_CSY pm_CSY an_CSY cd_CSY ct_CSY), sl_CSY⟩)
    (c_CSY : PySem.W.codeIn K cd_CSY "Shape.layout" = true)
    (k_CSY : PySem.W.keepIn K (.ref f_CSY) = true)
    (fn_CSY : PySem.W.isFn K (.ref f_CSY) = true)
    {f_CSF : Addr} {od_CSF an_CSF : Option Addr} {sl_CSF : Array (Option Value)} {oc_CSF kV_CSF dc_CSF pm_CSF cd_CSF ct_CSF : Value} 
    (a_CSF : PySem.W.findIn K (.ref CS) "fields" = some (some (.ref f_CSF)))
    (l_CSF : K.lookup f_CSF = some ⟨oc_CSF, od_CSF, .func (PySem.W.fnOf "fields" "Shape.fields" (defArgs mShFields) (defBody mShFields) (defScope mShFields) .none kV_CSF dc_CSF pm_CSF an_CSF cd_CSF ct_CSF), sl_CSF⟩)
    (c_CSF : PySem.W.codeIn K cd_CSF "Shape.fields" = true)
    (k_CSF : PySem.W.keepIn K (.ref f_CSF) = true)
    (fn_CSF : PySem.W.isFn K (.ref f_CSF) = true)
    {f_CSR : Addr} {od_CSR an_CSR : Option Addr} {sl_CSR : Array (Option Value)} {oc_CSR kV_CSR dc_CSR pm_CSR cd_CSR ct_CSR : Value} 
    (a_CSR : PySem.W.findIn K (.ref CS) "declares_room" = some (some (.ref f_CSR)))
    (l_CSR : K.lookup f_CSR = some ⟨oc_CSR, od_CSR, .func (PySem.W.fnOf "declares_room" "Shape.declares_room" (defArgs mShRoomy) (defBody mShRoomy) (defScope mShRoomy) .none kV_CSR dc_CSR pm_CSR an_CSR cd_CSR ct_CSR), sl_CSR⟩)
    (c_CSR : PySem.W.codeIn K cd_CSR "Shape.declares_room" = true)
    (k_CSR : PySem.W.keepIn K (.ref f_CSR) = true)
    (fn_CSR : PySem.W.isFn K (.ref f_CSR) = true)
    {f_CSI : Addr} {od_CSI an_CSI : Option Addr} {sl_CSI : Array (Option Value)} {oc_CSI kV_CSI dc_CSI pm_CSI cd_CSI ct_CSI : Value} 
    (a_CSI : PySem.W.findIn K (.ref CS) "__init__" = some (some (.ref f_CSI)))
    (l_CSI : K.lookup f_CSI = some ⟨oc_CSI, od_CSI, .func (PySem.W.fnOf "__init__" "Shape.__init__" (defArgs mShInit) (defBody mShInit) (defScope mShInit) .none kV_CSI dc_CSI pm_CSI an_CSI cd_CSI ct_CSI), sl_CSI⟩)
    (c_CSI : PySem.W.codeIn K cd_CSI "Shape.__init__" = true)
    (k_CSI : PySem.W.keepIn K (.ref f_CSI) = true)
    (fn_CSI : PySem.W.isFn K (.ref f_CSI) = true)
    {CW : Addr}
    (a_CW : PySem.W.nsIn K mainGlobals "World" = some (some (.ref CW)))
    (pg_CW : PySem.W.plainGet K CW Str.empty = true)
    (hd_CW : PySem.W.hasDictIn K CW = true)
    (po_CW : PySem.W.plainOver K CW = true)
    (sa_CW : PySem.W.findIn K (.ref CW) "__setattr__" = some (some (.builtin "object.__setattr__")))
    (mk_CW : PySem.W.makesIn K CW = true)
    (kc_CW : PySem.W.keepIn K (.ref CW) = true)
    (na_CW_shapes : PySem.W.findIn K (.ref CW) "_shapes" = some none)
    (na_CW_tables : PySem.W.findIn K (.ref CW) "_tables" = some none)
    (na_CW_lives : PySem.W.findIn K (.ref CW) "_lives" = some none)
    {f_CWC : Addr} {od_CWC an_CWC : Option Addr} {sl_CWC : Array (Option Value)} {oc_CWC kV_CWC dc_CWC pm_CWC cd_CWC ct_CWC : Value} 
    (a_CWC : PySem.W.findIn K (.ref CW) "count" = some (some (.ref f_CWC)))
    (l_CWC : K.lookup f_CWC = some ⟨oc_CWC, od_CWC, .func (PySem.W.fnOf "count" "World.count" (defArgs mWCount) (defBody mWCount) (defScope mWCount) .none kV_CWC dc_CWC pm_CWC an_CWC cd_CWC ct_CWC), sl_CWC⟩)
    (c_CWC : PySem.W.codeIn K cd_CWC "World.count" = true)
    (k_CWC : PySem.W.keepIn K (.ref f_CWC) = true)
    (fn_CWC : PySem.W.isFn K (.ref f_CWC) = true)
    {f_CWS : Addr} {od_CWS an_CWS : Option Addr} {sl_CWS : Array (Option Value)} {oc_CWS kV_CWS dc_CWS pm_CWS cd_CWS ct_CWS : Value} 
    (a_CWS : PySem.W.findIn K (.ref CW) "_shape" = some (some (.ref f_CWS)))
    (l_CWS : K.lookup f_CWS = some ⟨oc_CWS, od_CWS, .func (PySem.W.fnOf "_shape" "World._shape" (defArgs mWShape) (defBody mWShape) (defScope mWShape) .none kV_CWS dc_CWS pm_CWS an_CWS cd_CWS ct_CWS), sl_CWS⟩)
    (c_CWS : PySem.W.codeIn K cd_CWS "World._shape" = true)
    (k_CWS : PySem.W.keepIn K (.ref f_CWS) = true)
    (fn_CWS : PySem.W.isFn K (.ref f_CWS) = true)
    {f_CWF : Addr} {od_CWF an_CWF : Option Addr} {sl_CWF : Array (Option Value)} {oc_CWF kV_CWF dc_CWF pm_CWF cd_CWF ct_CWF : Value} 
    (a_CWF : PySem.W.findIn K (.ref CW) "fields" = some (some (.ref f_CWF)))
    (l_CWF : K.lookup f_CWF = some ⟨oc_CWF, od_CWF, .func (PySem.W.fnOf "fields" "World.fields" (defArgs mWFields) (defBody mWFields) (defScope mWFields) .none kV_CWF dc_CWF pm_CWF an_CWF cd_CWF ct_CWF), sl_CWF⟩)
    (c_CWF : PySem.W.codeIn K cd_CWF "World.fields" = true)
    (k_CWF : PySem.W.keepIn K (.ref f_CWF) = true)
    (fn_CWF : PySem.W.isFn K (.ref f_CWF) = true)
    {f_CWR : Addr} {od_CWR an_CWR : Option Addr} {sl_CWR : Array (Option Value)} {oc_CWR kV_CWR dc_CWR pm_CWR cd_CWR ct_CWR : Value} 
    (a_CWR : PySem.W.findIn K (.ref CW) "declares_room" = some (some (.ref f_CWR)))
    (l_CWR : K.lookup f_CWR = some ⟨oc_CWR, od_CWR, .func (PySem.W.fnOf "declares_room" "World.declares_room" (defArgs mWRoomy) (defBody mWRoomy) (defScope mWRoomy) .none kV_CWR dc_CWR pm_CWR an_CWR cd_CWR ct_CWR), sl_CWR⟩)
    (c_CWR : PySem.W.codeIn K cd_CWR "World.declares_room" = true)
    (k_CWR : PySem.W.keepIn K (.ref f_CWR) = true)
    (fn_CWR : PySem.W.isFn K (.ref f_CWR) = true)
    {f_CWD : Addr} {od_CWD an_CWD : Option Addr} {sl_CWD : Array (Option Value)} {oc_CWD kV_CWD dc_CWD pm_CWD cd_CWD ct_CWD : Value} 
    (a_CWD : PySem.W.findIn K (.ref CW) "order" = some (some (.ref f_CWD)))
    (l_CWD : K.lookup f_CWD = some ⟨oc_CWD, od_CWD, .func (PySem.W.fnOf "order" "World.order" (defArgs mWOrder) (defBody mWOrder) (defScope mWOrder) .none kV_CWD dc_CWD pm_CWD an_CWD cd_CWD ct_CWD), sl_CWD⟩)
    (c_CWD : PySem.W.codeIn K cd_CWD "World.order" = true)
    (k_CWD : PySem.W.keepIn K (.ref f_CWD) = true)
    (fn_CWD : PySem.W.isFn K (.ref f_CWD) = true)
    {f_CWI : Addr} {od_CWI an_CWI : Option Addr} {sl_CWI : Array (Option Value)} {oc_CWI kV_CWI dc_CWI pm_CWI cd_CWI ct_CWI : Value} 
    (a_CWI : PySem.W.findIn K (.ref CW) "__init__" = some (some (.ref f_CWI)))
    (l_CWI : K.lookup f_CWI = some ⟨oc_CWI, od_CWI, .func (PySem.W.fnOf "__init__" "World.__init__" (defArgs mWInit) (defBody mWInit) (defScope mWInit) .none kV_CWI dc_CWI pm_CWI an_CWI cd_CWI ct_CWI), sl_CWI⟩)
    (c_CWI : PySem.W.codeIn K cd_CWI "World.__init__" = true)
    (k_CWI : PySem.W.keepIn K (.ref f_CWI) = true)
    (fn_CWI : PySem.W.isFn K (.ref f_CWI) = true)
    {f_wM : Addr} {od_wM an_wM : Option Addr} {sl_wM : Array (Option Value)} {oc_wM dc_wM pm_wM cd_wM ct_wM : Value} {kD t0 : Addr} {sl0 : Array (Option Value)} {n0 : Nat}
    (a_wM : PySem.W.findIn K (.ref CW) "make_class" = some (some (.ref f_wM)))
    (l_wM : K.lookup f_wM = some ⟨oc_wM, od_wM, .func (PySem.W.fnOf "make_class" "World.make_class" (defArgs mWMake) (defBody mWMake) (defScope mWMake) .none (.ref kD) dc_wM pm_wM an_wM cd_wM ct_wM), sl_wM⟩)
    (c_wM : PySem.W.codeIn K cd_wM "World.make_class" = true)
    (k_wM : PySem.W.keepIn K (.ref f_wM) = true)
    (fn_wM : PySem.W.isFn K (.ref f_wM) = true)
    (kd1 : PySem.W.nsIn K kD "roomy" = some (some (.bool false)))
    (kd2 : PySem.W.nsIn K kD "pairs" = some (some (.ref t0)))
    (l_t0 : K.lookup t0 = some ⟨.type "tuple", none, .seq #[] n0, sl0⟩)
    (xm_C9 : PySem.W.exmOne K (.ref C9) (.ref CL) = some true)
    (xm_C14 : PySem.W.exmOne K (.ref C14) (.ref CL) = some true)
    (xm_C10 : PySem.W.exmOne K (.ref C10) (.ref CL) = some true)
    (xx_C9_C9 : PySem.W.exmOne K (.ref C9) (.ref C9) = some true)
    (xx_C14_C9 : PySem.W.exmOne K (.ref C14) (.ref C9) = some false)
    (xx_C14_C14 : PySem.W.exmOne K (.ref C14) (.ref C14) = some true)
    (xx_C10_C9 : PySem.W.exmOne K (.ref C10) (.ref C9) = some false)
    (xx_C10_C14 : PySem.W.exmOne K (.ref C10) (.ref C14) = some false)
    (xx_C10_C10 : PySem.W.exmOne K (.ref C10) (.ref C10) = some true)
    : LawAtG l w K 16 63 "_law_script" mg fa h := by
  have e := hfa.symm.trans (PySem.W.mg_of X G a_l)
  cases e
  have T0 : Pr.Txt mg := ⟨PySem.W.mg_none_of X G z_isinstance, PySem.W.mg_none_of X G z_int, PySem.W.mg_none_of X G z_bool, PySem.W.mg_none_of X G z_str, PySem.W.mg_none_of X G z_list, PySem.W.mg_none_of X G z_tuple, PySem.W.mg_none_of X G z_set, PySem.W.mg_none_of X G z_len, PySem.W.mg_none_of X G z_all, PySem.W.mg_none_of X G z_any, PySem.W.mg_none_of X G z_zip, PySem.W.mg_none_of X G z_enumerate, PySem.W.mg_none_of X G z_range, ⟨t_mitems, PySem.W.mg_of X G mitems⟩⟩
  have T : TxtN mg := ⟨T0, PySem.W.mg_none_of X G z_reversed, PySem.W.mg_none_of X G z_min, PySem.W.mg_none_of X G z_max, ⟨t_longest, PySem.W.mg_of X G longest⟩, ⟨t_mfields, PySem.W.mg_of X G mfields⟩⟩
  have F_I := fun_mk (st := sIsInt) l_I c_I k_I
  have b_I := F_I.binds (ps := ["thing"]) fun _ _ _ _ _ _ us hl => match us, hl with | [_], _ => rfl
  have g_I := PySem.W.mg_of X G a_I
  have F_N := fun_mk (st := sIsName) l_N c_N k_N
  have b_N := F_N.binds (ps := ["thing"]) fun _ _ _ _ _ _ us hl => match us, hl with | [_], _ => rfl
  have g_N := PySem.W.mg_of X G a_N
  have F_v := fun_mk (st := sIsValue) l_v c_v k_v
  have b_v := F_v.binds (ps := ["thing"]) fun _ _ _ _ _ _ us hl => match us, hl with | [_], _ => rfl
  have g_v := PySem.W.mg_of X G a_v
  have F_V := fun_mk (st := sValueIn) l_V c_V k_V
  have b_V := F_V.binds (ps := ["thing", "depth"]) fun _ _ _ _ _ _ us hl => match us, hl with | [_, _], _ => rfl
  have g_V := PySem.W.mg_of X G a_V
  have F_n := fun_mk (st := sCkName) l_n c_n k_n
  have b_n := F_n.binds (ps := ["name"]) fun _ _ _ _ _ _ us hl => match us, hl with | [_], _ => rfl
  have g_n := PySem.W.mg_of X G a_n
  have F_q := fun_mk (st := sCkValue) l_q c_q k_q
  have b_q := F_q.binds (ps := ["value"]) fun _ _ _ _ _ _ us hl => match us, hl with | [_], _ => rfl
  have g_q := PySem.W.mg_of X G a_q
  have F_j := fun_mk (st := sCkClass) l_j c_j k_j
  have b_j := F_j.binds (ps := ["number", "many"]) fun _ _ _ _ _ _ us hl => match us, hl with | [_, _], _ => rfl
  have g_j := PySem.W.mg_of X G a_j
  have F_S := fun_mk (st := sCkNames) l_S c_S k_S
  have b_S := F_S.binds (ps := ["fields"]) fun _ _ _ _ _ _ us hl => match us, hl with | [_], _ => rfl
  have g_S := PySem.W.mg_of X G a_S
  have F_U := fun_mk (st := sUnlike) l_U c_U k_U
  have b_U := F_U.binds (ps := ["things"]) fun _ _ _ _ _ _ us hl => match us, hl with | [_], _ => rfl
  have g_U := PySem.W.mg_of X G a_U
  have F_M := fun_mk (st := sCkMore) l_M c_M k_M
  have b_M := F_M.binds (ps := ["fields"]) fun _ _ _ _ _ _ us hl => match us, hl with | [_], _ => rfl
  have g_M := PySem.W.mg_of X G a_M
  have F_b := fun_mk (st := sCkBases) l_b c_b k_b
  have b_b := F_b.binds (ps := ["bases", "many"]) fun _ _ _ _ _ _ us hl => match us, hl with | [_, _], _ => rfl
  have g_b := PySem.W.mg_of X G a_b
  have F_p := fun_mk (st := sCkPairs) l_p c_p k_p
  have b_p := F_p.binds (ps := ["pairs", "fields"]) fun _ _ _ _ _ _ us hl => match us, hl with | [_, _], _ => rfl
  have g_p := PySem.W.mg_of X G a_p
  have F_P := fun_mk (st := sIsPair) l_P c_P k_P
  have b_P := F_P.binds (ps := ["thing"]) fun _ _ _ _ _ _ us hl => match us, hl with | [_], _ => rfl
  have g_P := PySem.W.mg_of X G a_P
  have F_mg := fun_mk (st := sMerge) l_mg c_mg k_mg
  have b_mg := F_mg.binds (ps := ["lists"]) fun _ _ _ _ _ _ us hl => match us, hl with | [_], _ => rfl
  have g_mg := PySem.W.mg_of X G a_mg
  have F_mc := fun_mk (st := sCheck) l_mc c_mc k_mc
  have b_mc := F_mc.binds (ps := ["lists"]) fun _ _ _ _ _ _ us hl => match us, hl with | [_], _ => rfl
  have g_mc := PySem.W.mg_of X G a_mc
  have F_ml := fun_mk (st := sIsList) l_ml c_ml k_ml
  have b_ml := F_ml.binds (ps := ["items"]) fun _ _ _ _ _ _ us hl => match us, hl with | [_], _ => rfl
  have g_ml := PySem.W.mg_of X G a_ml
  have F_mt := fun_mk (st := sTimes) l_mt c_mt k_mt
  have b_mt := F_mt.binds (ps := ["lists"]) fun _ _ _ _ _ _ us hl => match us, hl with | [_], _ => rfl
  have g_mt := PySem.W.mg_of X G a_mt
  have F_mf := fun_mk (st := sFree) l_mf c_mf k_mf
  have b_mf := F_mf.binds (ps := ["rests", "behind"]) fun _ _ _ _ _ _ us hl => match us, hl with | [_, _], _ => rfl
  have g_mf := PySem.W.mg_of X G a_mf
  have F_mk := fun_mk (st := sTake) l_mk c_mk k_mk
  have b_mk := F_mk.binds (ps := ["item", "rests", "behind"]) fun _ _ _ _ _ _ us hl => match us, hl with | [_, _, _], _ => rfl
  have g_mk := PySem.W.mg_of X G a_mk
  have F_mr := fun_mk (st := sRingOf) l_mr c_mr k_mr
  have b_mr := F_mr.binds (ps := ["rests"]) fun _ _ _ _ _ _ us hl => match us, hl with | [_], _ => rfl
  have g_mr := PySem.W.mg_of X G a_mr
  have F_co := fun_mk (st := sColOf) l_co c_co k_co
  have b_co := F_co.binds (ps := ["numbers", "shapes"]) fun _ _ _ _ _ _ us hl => match us, hl with | [_, _], _ => rfl
  have g_co := PySem.W.mg_of X G a_co
  have F_cb := fun_mk (st := sBetween) l_cb c_cb k_cb
  have b_cb := F_cb.binds (ps := ["one", "other", "shapes"]) fun _ _ _ _ _ _ us hl => match us, hl with | [_, _, _], _ => rfl
  have g_cb := PySem.W.mg_of X G a_cb
  have F_la := fun_mk (st := sLineAbove) l_la c_la k_la
  have b_la := F_la.binds (ps := ["number", "bases", "shapes"]) fun _ _ _ _ _ _ us hl => match us, hl with | [_, _, _], _ => rfl
  have g_la := PySem.W.mg_of X G a_la
  have F_oa := fun_mk (st := sOrdAbove) l_oa c_oa k_oa
  have b_oa := F_oa.binds (ps := ["number", "bases", "shapes"]) fun _ _ _ _ _ _ us hl => match us, hl with | [_, _, _], _ => rfl
  have g_oa := PySem.W.mg_of X G a_oa
  have F_cr := fun_mk (st := sCkRoom) l_cr c_cr k_cr
  have b_cr := F_cr.binds (ps := ["number", "bases", "shapes"]) fun _ _ _ _ _ _ us hl => match us, hl with | [_, _, _], _ => rfl
  have g_cr := PySem.W.mg_of X G a_cr
  have F_lo := fun_mk (st := sLayOf) l_lo c_lo k_lo
  have b_lo := F_lo.binds (ps := ["bases", "fields", "roomy", "above", "shapes"]) fun _ _ _ _ _ _ us hl => match us, hl with | [_, _, _, _, _], _ => rfl
  have g_lo := PySem.W.mg_of X G a_lo
  have F_lc := fun_mk (st := sCell) l_lc c_lc k_lc
  have b_lc := F_lc.binds (ps := ["_law_script", "_law_k"]) fun _ _ _ _ _ _ us hl => match us, hl with | [_, _], _ => rfl
  have g_lc := PySem.W.mg_of X G a_lc
  have F_ls := fun_mk (st := sWell) l_ls c_ls k_ls
  have b_ls := F_ls.binds (ps := ["_law_cell"]) fun _ _ _ _ _ _ us hl => match us, hl with | [_], _ => rfl
  have g_ls := PySem.W.mg_of X G a_ls
  have F_ld := fun_mk (st := sDraw) l_ld c_ld k_ld
  have b_ld := F_ld.binds (ps := ["_law_well_here", "_law_many"]) fun _ _ _ _ _ _ us hl => match us, hl with | [_, _], _ => rfl
  have g_ld := PySem.W.mg_of X G a_ld
  have F_lb := fun_mk (st := sBases) l_lb c_lb k_lb
  have b_lb := F_lb.binds (ps := ["_law_well_here", "_law_count"]) fun _ _ _ _ _ _ us hl => match us, hl with | [_, _], _ => rfl
  have g_lb := PySem.W.mg_of X G a_lb
  have F_lf := fun_mk (st := sFields) l_lf c_lf k_lf
  have b_lf := F_lf.binds (ps := ["_law_well_here", "_law_most"]) fun _ _ _ _ _ _ us hl => match us, hl with | [_, _], _ => rfl
  have g_lf := PySem.W.mg_of X G a_lf
  have F_Lr := fun_mk (st := sRows) l_Lr c_Lr k_Lr
  have b_Lr := F_Lr.binds (ps := ["_law_well_here"]) fun _ _ _ _ _ _ us hl => match us, hl with | [_], _ => rfl
  have g_Lr := PySem.W.mg_of X G a_Lr
  have F_La := fun_mk (st := sAgain) l_La c_La k_La
  have b_La := F_La.binds (ps := ["_law_rows_here"]) fun _ _ _ _ _ _ us hl => match us, hl with | [_], _ => rfl
  have g_La := PySem.W.mg_of X G a_La
  have F_Lg := fun_mk (st := sRing) l_Lg c_Lg k_Lg
  have b_Lg := F_Lg.binds (ps := ["_law_world", "_law_bases_here"]) fun _ _ _ _ _ _ us hl => match us, hl with | [_, _], _ => rfl
  have g_Lg := PySem.W.mg_of X G a_Lg
  have F_Lu := fun_mk (st := sDue) l_Lu c_Lu k_Lu
  have b_Lu := F_Lu.binds (ps := ["_law_world", "_law_bases_here", "_law_wide"]) fun _ _ _ _ _ _ us hl => match us, hl with | [_, _, _], _ => rfl
  have g_Lu := PySem.W.mg_of X G a_Lu
  have F_Lt := fun_mk (st := sTold) l_Lt c_Lt k_Lt
  have b_Lt := F_Lt.binds (ps := ["_law_rows_here", "_law_bases_here", "_law_fields_here", "_law_wide"]) fun _ _ _ _ _ _ us hl => match us, hl with | [_, _, _, _], _ => rfl
  have g_Lt := PySem.W.mg_of X G a_Lt
  have F_Ll := fun_mk (st := sLists) l_Ll c_Ll k_Ll
  have b_Ll := F_Ll.binds (ps := ["_law_some"]) fun _ _ _ _ _ _ us hl => match us, hl with | [_], _ => rfl
  have g_Ll := PySem.W.mg_of X G a_Ll
  have F_l := fun_mk (st := sLaw) l_l c_l k_l
  have b_l := F_l.binds (ps := ["_law_script"]) fun _ _ _ _ _ _ us hl => match us, hl with | [_], _ => rfl
  have g_l := PySem.W.mg_of X G a_l
  have F_iL := fun_mk (st := sLineInit) l_iL c_iL k_iL
  have b_iL := F_iL.binds (ps := ["self", "why"]) fun _ _ _ _ _ _ us hl => match us, hl with | [_, _], _ => rfl
  have F_iN := fun_mk (st := sNameInit) l_iN c_iN k_iN
  have b_iN := F_iN.binds (ps := ["self", "name"]) fun _ _ _ _ _ _ us hl => match us, hl with | [_, _], _ => rfl
  have F_iO := fun_mk (st := sOffInit) l_iO c_iO k_iO
  have b_iO := F_iO.binds (ps := ["self", "offset"]) fun _ _ _ _ _ _ us hl => match us, hl with | [_, _], _ => rfl
  have F_iD := fun_mk (st := sDupInit) l_iD c_iD k_iD
  have b_iD := F_iD.binds (ps := ["self", "thing"]) fun _ _ _ _ _ _ us hl => match us, hl with | [_, _], _ => rfl
  have F_iT := fun_mk (st := sManyInit) l_iT c_iT k_iT
  have b_iT := F_iT.binds (ps := ["self", "limit"]) fun _ _ _ _ _ _ us hl => match us, hl with | [_, _], _ => rfl
  have F_iC := fun_mk (st := sNoClsInit) l_iC c_iC k_iC
  have b_iC := F_iC.binds (ps := ["self", "number"]) fun _ _ _ _ _ _ us hl => match us, hl with | [_, _], _ => rfl
  have F_iK := fun_mk (st := sColInit) l_iK c_iK k_iK
  have b_iK := F_iK.binds (ps := ["self", "number", "owners", "offset", "names"]) fun _ _ _ _ _ _ us hl => match us, hl with | [_, _, _, _, _], _ => rfl
  have F_iR := fun_mk (st := sNoOrdInit) l_iR c_iR k_iR
  have b_iR := F_iR.binds (ps := ["self", "number", "ring"]) fun _ _ _ _ _ _ us hl => match us, hl with | [_, _, _], _ => rfl
  have F_iH := fun_mk (st := sRoomInit) l_iH c_iH k_iH
  have b_iH := F_iH.binds (ps := ["self", "number", "base"]) fun _ _ _ _ _ _ us hl => match us, hl with | [_, _, _], _ => rfl
  have F_mF := fun_mk (st := mFields) l_mF c_mF k_mF
  have b_mF := F_mF.binds (ps := ["self"]) fun _ _ _ _ _ _ us hl => match us, hl with | [_], _ => rfl
  have F_mH := fun_mk (st := mHas) l_mH c_mH k_mH
  have b_mH := F_mH.binds (ps := ["self"]) fun _ _ _ _ _ _ us hl => match us, hl with | [_], _ => rfl
  have F_mW := fun_mk (st := mWith) l_mW c_mW k_mW
  have b_mW := F_mW.binds (ps := ["self"]) fun _ _ _ _ _ _ us hl => match us, hl with | [_], _ => rfl
  have F_mL := fun_mk (st := mLen) l_mL c_mL k_mL
  have b_mL := F_mL.binds (ps := ["self"]) fun _ _ _ _ _ _ us hl => match us, hl with | [_], _ => rfl
  have F_mG := fun_mk (st := mGet) l_mG c_mG k_mG
  have b_mG := F_mG.binds (ps := ["self", "at"]) fun _ _ _ _ _ _ us hl => match us, hl with | [_, _], _ => rfl
  have F_mA := fun_mk (st := mAdd) l_mA c_mA k_mA
  have b_mA := F_mA.binds (ps := ["self", "other"]) fun _ _ _ _ _ _ us hl => match us, hl with | [_, _], _ => rfl
  have F_CSO := fun_mk (st := mShOrder) l_CSO c_CSO k_CSO
  have b_CSO := F_CSO.binds (ps := ["self"]) fun _ _ _ _ _ _ us hl => match us, hl with | [_], _ => rfl
  have F_CSN := fun_mk (st := mShLine) l_CSN c_CSN k_CSN
  have b_CSN := F_CSN.binds (ps := ["self"]) fun _ _ _ _ _ _ us hl => match us, hl with | [_], _ => rfl
  have F_CSY := fun_mk (st := mShLay) l_CSY c_CSY k_CSY
  have b_CSY := F_CSY.binds (ps := ["self"]) fun _ _ _ _ _ _ us hl => match us, hl with | [_], _ => rfl
  have F_CSF := fun_mk (st := mShFields) l_CSF c_CSF k_CSF
  have b_CSF := F_CSF.binds (ps := ["self"]) fun _ _ _ _ _ _ us hl => match us, hl with | [_], _ => rfl
  have F_CSR := fun_mk (st := mShRoomy) l_CSR c_CSR k_CSR
  have b_CSR := F_CSR.binds (ps := ["self"]) fun _ _ _ _ _ _ us hl => match us, hl with | [_], _ => rfl
  have F_CSI := fun_mk (st := mShInit) l_CSI c_CSI k_CSI
  have b_CSI := F_CSI.binds (ps := ["self", "number", "bases", "fields", "roomy", "shapes"]) fun _ _ _ _ _ _ us hl => match us, hl with | [_, _, _, _, _, _], _ => rfl
  have F_CWC := fun_mk (st := mWCount) l_CWC c_CWC k_CWC
  have b_CWC := F_CWC.binds (ps := ["self"]) fun _ _ _ _ _ _ us hl => match us, hl with | [_], _ => rfl
  have F_CWS := fun_mk (st := mWShape) l_CWS c_CWS k_CWS
  have b_CWS := F_CWS.binds (ps := ["self", "number"]) fun _ _ _ _ _ _ us hl => match us, hl with | [_, _], _ => rfl
  have F_CWF := fun_mk (st := mWFields) l_CWF c_CWF k_CWF
  have b_CWF := F_CWF.binds (ps := ["self", "number"]) fun _ _ _ _ _ _ us hl => match us, hl with | [_, _], _ => rfl
  have F_CWR := fun_mk (st := mWRoomy) l_CWR c_CWR k_CWR
  have b_CWR := F_CWR.binds (ps := ["self", "number"]) fun _ _ _ _ _ _ us hl => match us, hl with | [_, _], _ => rfl
  have F_CWD := fun_mk (st := mWOrder) l_CWD c_CWD k_CWD
  have b_CWD := F_CWD.binds (ps := ["self", "number"]) fun _ _ _ _ _ _ us hl => match us, hl with | [_, _], _ => rfl
  have F_CWI := fun_mk (st := mWInit) l_CWI c_CWI k_CWI
  have b_CWI := F_CWI.binds (ps := ["self"]) fun _ _ _ _ _ _ us hl => match us, hl with | [_], _ => rfl
  have F_mI : FunD K "__init__" "Layout.__init__" (defArgs mInit) (defBody mInit) (defScope mInit) [.bl false] [] f_mI (PySem.W.fnOf "__init__" "Layout.__init__" (defArgs mInit) (defBody mInit) (defScope mInit) (.ref dT) kV_mI dc_mI pm_mI an_mI cd_mI ct_mI) := ⟨⟨_, _, _, _, _, _, _, _, _, _, rfl, l_mI, c_mI, .inr ⟨(fun z => nomatch z), dT, _, [.bool false], _, rfl, l_T, rfl, .cons rfl .nil⟩, .inl rfl⟩, k_mI⟩
  have b_mI : Binds K (PySem.W.fnOf "__init__" "Layout.__init__" (defArgs mInit) (defBody mInit) (defScope mInit) (.ref dT) kV_mI dc_mI pm_mI an_mI cd_mI ct_mI) ["self", "fields", "has_room"] [] := by
    obtain ⟨ds, r, b⟩ := F_mI.binds1 (ps := ["self", "fields", "has_room"]) 3 1 (fun z => nomatch z) rfl fun _ _ _ _ _ _ _ us its hl hi => match us, its, hl, hi with | [_, _, _], [_], _, _ => ⟨_, rfl, rfl⟩
    rw [nil_only r] at b
    exact b
  have b_mJ : Binds K (PySem.W.fnOf "__init__" "Layout.__init__" (defArgs mInit) (defBody mInit) (defScope mInit) (.ref dT) kV_mI dc_mI pm_mI an_mI cd_mI ct_mI) ["self", "fields", "has_room"] [.bool false] := by
    obtain ⟨ds, r, b⟩ := F_mI.binds1 (ps := ["self", "fields", "has_room"]) 2 0 (fun z => nomatch z) rfl fun _ _ _ _ _ _ _ us its hl hi => match us, its, hl, hi with | [_, _], [_], _, _ => ⟨_, rfl, rfl⟩
    rw [bl_only r] at b
    exact b
  have F_wM : FunD K "make_class" "World.make_class" (defArgs mWMake) (defBody mWMake) (defScope mWMake) [] [("roomy", .bl false), ("pairs", .ref t0)] f_wM (PySem.W.fnOf "make_class" "World.make_class" (defArgs mWMake) (defBody mWMake) (defScope mWMake) .none (.ref kD) dc_wM pm_wM an_wM cd_wM ct_wM) :=
    ⟨⟨_, _, _, _, _, _, _, _, _, _, rfl, l_wM, c_wM, .inl ⟨rfl, rfl⟩, .inr ⟨kD, rfl, fun q hq => by
      rcases List.mem_cons.mp hq with rfl | hq
      · exact ⟨_, kd1, rfl⟩
      · rw [List.mem_singleton.mp hq]; exact ⟨_, kd2, rfl⟩⟩⟩, k_wM⟩
  obtain ⟨mv, b_wM⟩ := kbinds0 F_wM 3 ["roomy"] [("pairs", .ref t0)] (fun us mv ws => us ++ ws ++ mv) (ps := ["self", "bases", "fields", "roomy", "pairs"]) (fun z => nomatch z) (fun q hq => List.mem_cons_of_mem _ hq) (fun r1 r2 r3 => vals_app (vals_app r1 r3) r2) fun _ _ _ _ _ _ us mv ws hl hm hw => match us, mv, ws, hl, hm, hw with | [_, _, _], [_], [_], _, _, _ => ⟨_, _, _, _, _, _, rfl, rfl, rfl⟩
  have h0 : ∀ H, SqT K H t0 [] := fun H => .inr ⟨_, #[], _, l_t0, rfl, rfl, Nat.zero_le _, .nil⟩
  have g_CL := PySem.W.mg_of X G a_CL
  have g_Y := PySem.W.mg_of X G a_Y
  have g_CS := PySem.W.mg_of X G a_CS
  have g_CW := PySem.W.mg_of X G a_CW
  have g_C0 := PySem.W.mg_of X G a_C0
  have g_C1 := PySem.W.mg_of X G a_C1
  have g_C2 := PySem.W.mg_of X G a_C2
  have g_C3 := PySem.W.mg_of X G a_C3
  have g_C4 := PySem.W.mg_of X G a_C4
  have g_C5 := PySem.W.mg_of X G a_C5
  have g_C9 := PySem.W.mg_of X G a_C9
  have g_C14 := PySem.W.mg_of X G a_C14
  have g_C10 := PySem.W.mg_of X G a_C10
  have O_C0 : OexC K C0 := ⟨⟨_, _, _, _, _, _, _, _, _, _, _, _, _, _, _, x_C0, rv_C0⟩, sa_C0, ex_C0, ty_C0, kc_C0⟩
  have O_C1 : OexC K C1 := ⟨⟨_, _, _, _, _, _, _, _, _, _, _, _, _, _, _, x_C1, rv_C1⟩, sa_C1, ex_C1, ty_C1, kc_C1⟩
  have O_C2 : OexC K C2 := ⟨⟨_, _, _, _, _, _, _, _, _, _, _, _, _, _, _, x_C2, rv_C2⟩, sa_C2, ex_C2, ty_C2, kc_C2⟩
  have O_C3 : OexC K C3 := ⟨⟨_, _, _, _, _, _, _, _, _, _, _, _, _, _, _, x_C3, rv_C3⟩, sa_C3, ex_C3, ty_C3, kc_C3⟩
  have O_C4 : OexC K C4 := ⟨⟨_, _, _, _, _, _, _, _, _, _, _, _, _, _, _, x_C4, rv_C4⟩, sa_C4, ex_C4, ty_C4, kc_C4⟩
  have O_C5 : OexC K C5 := ⟨⟨_, _, _, _, _, _, _, _, _, _, _, _, _, _, _, x_C5, rv_C5⟩, sa_C5, ex_C5, ty_C5, kc_C5⟩
  have O_C9 : OexC K C9 := ⟨⟨_, _, _, _, _, _, _, _, _, _, _, _, _, _, _, x_C9, rv_C9⟩, sa_C9, ex_C9, ty_C9, kc_C9⟩
  have O_C14 : OexC K C14 := ⟨⟨_, _, _, _, _, _, _, _, _, _, _, _, _, _, _, x_C14, rv_C14⟩, sa_C14, ex_C14, ty_C14, kc_C14⟩
  have O_C10 : OexC K C10 := ⟨⟨_, _, _, _, _, _, _, _, _, _, _, _, _, _, _, x_C10, rv_C10⟩, sa_C10, ex_C10, ty_C10, kc_C10⟩
  have rL : CRead K CL mcL := ⟨rdL, gaL⟩
  have cL : CFn K CL mcL "__init__" f_iL := ⟨atL, k_iL⟩
  have LC : LayC K mg Y p0 p1 := ⟨⟨pg_Y, ic_Y, po_Y, sa_Y⟩, ⟨at_0, get_0, tk_0, ty_p0, ix_0, by decide⟩, ⟨at_1, get_1, tk_1, ty_p1, ix_1, by decide⟩, g_Y, ⟨ca_Y, hn, ht, cm_Y⟩⟩
  have MK : Mk K Y f_mI := ⟨mk_Y, a_mI, fn_mI, kc_Y⟩
  have SC : ShC K mg CS := ⟨⟨pg_CS, hd_CS, po_CS, sa_CS⟩, g_CS, na_CS_order, na_CS_layout, na_CS_offsets, na_CS_line, na_CS_bases, na_CS_fields, na_CS_roomy⟩
  have WC : WdC K mg CW := ⟨⟨pg_CW, hd_CW, po_CW, sa_CW⟩, g_CW, na_CW_shapes, na_CW_tables, na_CW_lives⟩
  refine ⟨PySem.W.fnOf "law" "law" (defArgs sLaw) (defBody sLaw) (defScope sLaw) .none kV_l dc_l pm_l an_l cd_l ct_l, [], spLaw K, (fun _ h => nomatch h), (fun _ h => nomatch h), (fun _ h => nomatch h), fun s v => .of_eq rfl,
    fun H a ns hn2 hT2 hS h1 => ⟨a, ns, rfl, hS, hn2, fun _ => rfl⟩, fun base KXb Gb hTB => ?_⟩
  have G_iL := ok_lineInit (P := l.prog) (w := w) (base := base) (mg := mg) F_iL
  have G_iN := ok_sNameInit (P := l.prog) (w := w) (base := base) F_iN g_CL rL cL b_iL G_iL
  have G_iO := ok_sOffInit (P := l.prog) (w := w) (base := base) F_iO g_CL rL cL b_iL G_iL
  have G_iC := ok_sNoClsInit (P := l.prog) (w := w) (base := base) F_iC g_CL rL cL b_iL G_iL
  have G_iT := ok_manyInit (P := l.prog) (w := w) (base := base) F_iT g_CL rL cL b_iL G_iL
  have G_iD := ok_dupInit (P := l.prog) (w := w) (base := base) F_iD g_CL kCL rL cL b_iL G_iL
  have G_iK := ok_colInit (P := l.prog) (w := w) (base := base) F_iK g_CL rL cL b_iL G_iL
  have G_iR := ok_noOrdInit (P := l.prog) (w := w) (base := base) F_iR g_CL rL cL b_iL G_iL
  have G_iH := ok_roomInit (P := l.prog) (w := w) (base := base) F_iH g_CL rL cL b_iL G_iL
  have EB : BadTxt l.prog w K mg base C0 f_iL _ := ⟨g_C0, O_C0, i_B, t_iL, b_iL, G_iL, nw_C0⟩
  have EC : ErrTxt l.prog w K mg base "NoClass" "number" "class" C1 f_iC _ := ⟨g_C1, O_C1, i_iC, t_iC, b_iC, G_iC, nw_C1, nf_C1_number⟩
  have ET : ErrTxt l.prog w K mg base "TooMany" "limit" "too many" C2 f_iT _ := ⟨g_C2, O_C2, i_iT, t_iT, b_iT, G_iT, nw_C2, nf_C2_limit⟩
  have ED : ErrTxt l.prog w K mg base "Duplicate" "thing" "duplicate" C3 f_iD _ := ⟨g_C3, O_C3, i_iD, t_iD, b_iD, G_iD, nw_C3, nf_C3_thing⟩
  have EN : ErrTxt l.prog w K mg base "BadName" "name" "name" C4 f_iN _ := ⟨g_C4, O_C4, i_iN, t_iN, b_iN, G_iN, nw_C4, nf_C4_name⟩
  have EO : ErrTxt l.prog w K mg base "BadOffset" "offset" "offset" C5 f_iO _ := ⟨g_C5, O_C5, i_iO, t_iO, b_iO, G_iO, nw_C5, nf_C5_offset⟩
  have EK : ErrTxtN l.prog w K mg base "Collision" ["number", "owners", "offset", "names"] ["why", "number", "owners", "offset", "names"] fsCol C9 f_iK (PySem.W.fnOf "__init__" "Collision.__init__" (defArgs sColInit) (defBody sColInit) (defScope sColInit) .none kV_iK dc_iK pm_iK an_iK cd_iK ct_iK) := by
    refine ⟨g_C9, O_C9, i_iK, t_iK, b_iK, G_iK, fun f hf => ?_⟩
    have c : f = "why" ∨ f = "number" ∨ f = "owners" ∨ f = "offset" ∨ f = "names" := by simpa using hf
    rcases c with rfl | rfl | rfl | rfl | rfl
    · exact nw_C9
    · exact nf_C9_number
    · exact nf_C9_owners
    · exact nf_C9_offset
    · exact nf_C9_names
  have ER : ErrTxtN l.prog w K mg base "NoOrder" ["number", "ring"] ["why", "number", "ring"] fsNoOrd C14 f_iR (PySem.W.fnOf "__init__" "NoOrder.__init__" (defArgs sNoOrdInit) (defBody sNoOrdInit) (defScope sNoOrdInit) .none kV_iR dc_iR pm_iR an_iR cd_iR ct_iR) := by
    refine ⟨g_C14, O_C14, i_iR, t_iR, b_iR, G_iR, fun f hf => ?_⟩
    have c : f = "why" ∨ f = "number" ∨ f = "ring" := by simpa using hf
    rcases c with rfl | rfl | rfl
    · exact nw_C14
    · exact nf_C14_number
    · exact nf_C14_ring
  have EH : ErrTxtN l.prog w K mg base "HasRoom" ["number", "base"] ["why", "number", "base"] fsRoom C10 f_iH (PySem.W.fnOf "__init__" "HasRoom.__init__" (defArgs sRoomInit) (defBody sRoomInit) (defScope sRoomInit) .none kV_iH dc_iH pm_iH an_iH cd_iH ct_iH) := by
    refine ⟨g_C10, O_C10, i_iH, t_iH, b_iH, G_iH, fun f hf => ?_⟩
    have c : f = "why" ∨ f = "number" ∨ f = "base" := by simpa using hf
    rcases c with rfl | rfl | rfl
    · exact nw_C10
    · exact nf_C10_number
    · exact nf_C10_base
  have G_I := ok_isInt (P := l.prog) (w := w) (base := base) F_I T0
  have G_N := ok_isName (P := l.prog) (w := w) (base := base) F_N T
  have G_n := ok_ckName (P := l.prog) (w := w) (base := base) F_n T EN g_N k_N b_N G_N
  have G_S := ok_ckNames (P := l.prog) (w := w) (base := base) F_S T EB g_n k_n b_n G_n
  have G_U := ok_ckUnlike (P := l.prog) (w := w) (base := base) F_U T ED
  have G_UX := ok_unlikeX (P := l.prog) (w := w) (base := base) F_U T0 ED
  have G_M := ok_more (P := l.prog) (w := w) (base := base) F_M T ET g_S k_S b_S G_S g_U k_U b_U G_U
  have G_j := ok_ckClass (P := l.prog) (w := w) (base := base) F_j EC g_I k_I b_I G_I
  have G_b := ok_ckBases (P := l.prog) (w := w) (base := base) F_b T ⟨t_mbases, PySem.W.mg_of X G mbases⟩ EB ET g_j k_j b_j G_j g_U k_U b_U G_U
  have G_V := ok_valIn (P := l.prog) (w := w) (base := base) F_V T g_V k_V b_V g_I k_I b_I G_I 4
  have G_v := ok_isVal (P := l.prog) (w := w) (base := base) F_v ⟨t_deep, PySem.W.mg_of X G deep⟩ g_V k_V b_V G_V
  have G_q := ok_ckValue (P := l.prog) (w := w) (base := base) F_q g_v k_v b_v G_v
  have G_P := ok_isPair (P := l.prog) (w := w) (base := base) F_P T
  have G_p := ok_ckPairs0 (P := l.prog) (w := w) (base := base) (CN := C4) (CD := C3) F_p T ⟨t_mvalues, PySem.W.mg_of X G mvalues⟩ g_P k_P b_P G_P g_n k_n b_n G_n g_q k_q b_q G_q g_U k_U b_U G_U
  have G_ml := ok_isListX (P := l.prog) (w := w) (base := base) F_ml T0 g_I k_I b_I G_I
  have G_mc := ok_checkX (P := l.prog) (w := w) (base := base) (fD := f_iD) (dD := default) F_mc T0 g_ml k_ml b_ml G_ml g_U k_U b_U G_UX EB ET
  have G_mt := ok_times (P := l.prog) (w := w) (base := base) F_mt T0
  have G_mf := ok_free (P := l.prog) (w := w) (base := base) F_mf T0
  have G_mk := ok_take (P := l.prog) (w := w) (base := base) F_mk T0
  have G_mr := ok_ringOf (P := l.prog) (w := w) (base := base) F_mr T0
  have G_mg := ok_mergeX (P := l.prog) (w := w) (base := base) F_mg T0 g_mc k_mc b_mc G_mc g_mt k_mt b_mt G_mt g_mf k_mf b_mf G_mf g_mk k_mk b_mk G_mk g_mr k_mr b_mr G_mr
  have G_mI := ok_lInit (P := l.prog) (w := w) (base := base) l_mI c_mI T LC EB g_S k_S b_S G_S
  have G_mF := ok_fields (P := l.prog) (w := w) (base := base) F_mF T LC
  have G_mH := ok_has (P := l.prog) (w := w) (base := base) F_mH LC
  have M_F : Meth K Y "fields" f_mF := ⟨a_mF, fn_mF, k_mF⟩
  have G_mW := ok_with (P := l.prog) (w := w) (base := base) F_mW LC MK b_mI G_mI M_F b_mF G_mF
  have G_mL := ok_len (P := l.prog) (w := w) (base := base) F_mL T LC
  have G_mG := ok_get (P := l.prog) (w := w) (base := base) F_mG T LC EO g_I k_I b_I G_I
  have G_mA := ok_add (P := l.prog) (w := w) (base := base) F_mA LC g_M k_M b_M G_M MK b_mI G_mI M_F b_mF G_mF
  have G_sO := ok_shOrder (P := l.prog) (w := w) (base := base) (CL := Y) F_CSO T SC
  have G_sN := ok_shLine (P := l.prog) (w := w) (base := base) (CL := Y) F_CSN T SC
  have G_sY := ok_shLay (P := l.prog) (w := w) (base := base) (CL := Y) F_CSY SC
  have LO : LayOps l.prog w K mg base Y C5 f_mL f_mG _ _ := ⟨a_mL, fn_mL, b_mL, G_mL, a_mG, fi_mG, fn_mG, b_mG, G_mG⟩
  have SO : ShOps l.prog w K mg base Y CS f_CSY _ := ⟨SC, ⟨a_CSY, fn_CSY, k_CSY⟩, b_CSY, G_sY⟩
  have SL : ShLineOps l.prog w K mg base Y CS f_CSN _ := ⟨SC, ⟨a_CSN, fn_CSN, k_CSN⟩, b_CSN, G_sN⟩
  have SR : ShOrdOps l.prog w K mg base Y CS f_CSO _ := ⟨SC, ⟨a_CSO, fn_CSO, k_CSO⟩, b_CSO, G_sO⟩
  have LH : LayHas l.prog w K mg base Y p0 p1 f_mH _ := ⟨LC, ⟨a_mH, fn_mH, k_mH⟩, b_mH, G_mH⟩
  have LM : LayMake l.prog w K mg base Y p0 p1 C0 C4 C3 C2 f_mI f_mA f_mW _ _ _ := ⟨MK, b_mJ, G_mI, sf_Y, a_mA, fn_mA, ⟨_, _, fo1, ro1, ot_L⟩, b_mA, G_mA, ⟨a_mW, fn_mW, k_mW⟩, b_mW, G_mW⟩
  have G_cb := ok_between (P := l.prog) (w := w) (base := base) F_cb T LO SO
  have G_co := ok_colOf (P := l.prog) (w := w) (base := base) F_co T SL g_cb k_cb b_cb G_cb
  have G_la := ok_lineAbove (P := l.prog) (w := w) (base := base) F_la T SL EK g_co k_co b_co G_co
  have G_oa := ok_ordAbove (P := l.prog) (w := w) (base := base) F_oa T SR ER g_mg k_mg b_mg G_mg
  have G_cr := ok_ckRoom (P := l.prog) (w := w) (base := base) F_cr SO LH EH
  have G_lo := ok_layOf (P := l.prog) (w := w) (base := base) F_lo T SO LH LM
  have G_sI := ok_shInit (P := l.prog) (w := w) (base := base) F_CSI T SC T0.enum a_mL fn_mL b_mL G_mL g_la k_la b_la G_la g_oa k_oa b_oa G_oa g_cr k_cr b_cr G_cr g_lo k_lo b_lo G_lo
  have SM : ShMake l.prog w K mg base Y CS C9 C14 C10 f_CSI _ := ⟨SC, ⟨mk_CS, a_CSI, fn_CSI, kc_CS⟩, b_CSI, G_sI⟩
  have G_wC := ok_wCount (P := l.prog) (w := w) (base := base) (CL := Y) (CS := CS) F_CWC T WC
  have MC : Meth K CW "count" f_CWC := ⟨a_CWC, fn_CWC, k_CWC⟩
  have G_wI := ok_wInit (P := l.prog) (w := w) (base := base) F_CWI WC SM
  have G_wM := ok_make0 (P := l.prog) (w := w) (base := base) l_wM c_wM ⟨T, ⟨t_mclasses, PySem.W.mg_of X G mclasses⟩, WC, SM, MC, b_CWC, G_wC, g_b, k_b, b_b, G_b, g_M, k_M, b_M, G_M, g_p, k_p, b_p, G_p⟩
  have MM : Meth K CW "make_class" f_wM := ⟨a_wM, fn_wM, k_wM⟩
  have G_wS := ok_wShape (P := l.prog) (w := w) (base := base) F_CWS WC MC b_CWC G_wC g_j k_j b_j G_j
  have MS : Meth K CW "_shape" f_CWS := ⟨a_CWS, fn_CWS, k_CWS⟩
  have G_sF := ok_shFields (P := l.prog) (w := w) (base := base) (CL := Y) F_CSF T SC
  have G_sR := ok_shRoomy (P := l.prog) (w := w) (base := base) (CL := Y) F_CSR SC
  have G_wF := ok_wFields (P := l.prog) (w := w) (base := base) F_CWF WC MS b_CWS G_wS SC ⟨a_CSF, fn_CSF, k_CSF⟩ b_CSF G_sF
  have G_wD := ok_wOrder (P := l.prog) (w := w) (base := base) F_CWD WC MS b_CWS G_wS SC ⟨a_CSO, fn_CSO, k_CSO⟩ b_CSO G_sO
  have G_wR := ok_wRoomy (P := l.prog) (w := w) (base := base) F_CWR WC MS b_CWS G_wS SC ⟨a_CSR, fn_CSR, k_CSR⟩ b_CSR G_sR
  have MF : Meth K CW "fields" f_CWF := ⟨a_CWF, fn_CWF, k_CWF⟩
  have MD : Meth K CW "order" f_CWD := ⟨a_CWD, fn_CWD, k_CWD⟩
  have MR : Meth K CW "declares_room" f_CWR := ⟨a_CWR, fn_CWR, k_CWR⟩
  have TW : TxtW mg := ⟨PySem.W.mg_none_of X G z_int, PySem.W.mg_none_of X G z_len⟩
  have TRr : TxtR mg := ⟨TW, PySem.W.mg_none_of X G z_range⟩
  have TA : TxtA mg := ⟨TRr, PySem.W.mg_none_of X G z_sorted⟩
  have G_lc := ok_cell (P := l.prog) (w := w) (base := base) F_lc TW
  have G_ls := ok_well (P := l.prog) (w := w) (base := base) F_ls TW
  have G_ld := ok_draw (P := l.prog) (w := w) (base := base) (mg := mg) F_ld
  have G_lb := ok_bases (P := l.prog) (w := w) (base := base) F_lb TRr (PySem.W.mg_none_of X G z_max) g_ld k_ld b_ld G_ld
  have G_lf := ok_fieldsL (P := l.prog) (w := w) (base := base) F_lf TRr g_ld k_ld b_ld G_ld
  have MKW : MkW l.prog w K mg base Y CS CW _ _ _ _ C9 C14 C10 CL f_CWI f_CWC f_wM t0 _ _ _ mv := ⟨WC, ⟨mk_CW, a_CWI, fn_CWI, kc_CW⟩, b_CWI, G_wI, MC, b_CWC, G_wC, MM, b_wM, h0, G_wM, g_CL, xm_C9, xm_C14, xm_C10⟩
  have X3 : Exm3 K mg C9 C14 C10 := ⟨g_C9, g_C14, g_C10, xx_C9_C9, xx_C14_C9, xx_C14_C14, xx_C10_C9, xx_C10_C14, xx_C10_C10⟩
  have G_Lr := ok_rows (P := l.prog) (w := w) (base := base) F_Lr TRr MKW g_ld k_ld b_ld G_ld g_lb k_lb b_lb G_lb g_lf k_lf b_lf G_lf
  have G_La := ok_again (P := l.prog) (w := w) (base := base) F_La MKW
  have G_Lg := ok_ring (P := l.prog) (w := w) (base := base) F_Lg TA (PySem.W.mg_none_of X G z_list) WC MD b_CWD G_wD
  have G_Lu := ok_due (P := l.prog) (w := w) (base := base) F_Lu TA WC MD b_CWD G_wD MF b_CWF G_wF MR b_CWR G_wR g_Lg k_Lg b_Lg G_Lg
  have G_Lt := ok_told (P := l.prog) (w := w) (base := base) F_Lt MKW X3 g_La k_La b_La G_La MD b_CWD G_wD
  have G_Ll := ok_lists (P := l.prog) (w := w) (base := base) (mg := mg) F_Ll
  have G_l := ok_law (P := l.prog) (w := w) (base := base) F_l ⟨TA, PySem.W.mg_none_of X G z_list, WC, g_lc, k_lc, b_lc, G_lc, g_ls, k_ls, b_ls, G_ls, g_Lr, k_Lr, b_Lr, G_Lr, g_La, k_La, b_La, G_La, g_Ll, k_Ll, b_Ll, G_Ll, g_ld, k_ld, b_ld, G_ld, g_Lt, k_Lt, b_Lt, G_Lt, g_Lu, k_Lu, b_Lu, G_Lu, MC, b_CWC, G_wC⟩
  exact toG G_l
end Lw

set_option autoImplicit true
set_option Elab.async false
open PySem PySem.W PyProof.Rows in
set_option maxRecDepth 100000 in
set_option maxHeartbeats 0 in
theorem PySem.Challenge.cw_layoutline_k91_whole_made_by_definition_holds : PySem.Challenge.rw_layoutline_k91_whole_made_by_definition.Holds := by
  w_on; o_law
  refine HandSHeadRun.head_any (r := Hd.R) (q := Hd.qv) (H := Hd.hk) (M := 7339) (loose := Hd.loo) (kwd := []) (fun _ => rfl) (by kernel_rfl) (fun s => by kernel_rfl) Hd.runE (by rfl) (by rfl) (by rfl) (by rfl) (by first | assumption | decide +kernel) (by decide +kernel) ⟨rfl, rfl, rfl, rfl, rfl, by decide +kernel⟩ ?hw ?hc
  case hw => w_witness2
  k_fill
  refine Two.walkTS (l := PySem.Challenge.rw_layoutline_k91_whole_made_by_definition) (n := 63) (k := 16) (x := "_law_script") rfl (by decide) rfl ⟨rfl, by decide, by decide⟩ (fun w h Y => PySem.W.km_in_of Y) ?hq ?K1 ?F
  case hq => first | rfl | decide +kernel
  case K1 => intro w; first | rfl | k_is
  case F =>
    intro w mg fa h Y KX G hmg
    refine' Lw.all_mk KX G hmg ?longest ?deep ?mbases ?mfields ?mvalues ?mitems ?mclasses ?z_isinstance ?z_int ?z_bool ?z_str ?z_list ?z_tuple ?z_set ?z_len ?z_all ?z_any ?z_zip ?z_enumerate ?z_range ?z_reversed ?z_min ?z_max ?z_repr ?z_sorted ?a_I ?l_I ?c_I ?k_I ?a_N ?l_N ?c_N ?k_N ?a_v ?l_v ?c_v ?k_v ?a_V ?l_V ?c_V ?k_V ?a_n ?l_n ?c_n ?k_n ?a_q ?l_q ?c_q ?k_q ?a_j ?l_j ?c_j ?k_j ?a_S ?l_S ?c_S ?k_S ?a_U ?l_U ?c_U ?k_U ?a_M ?l_M ?c_M ?k_M ?a_b ?l_b ?c_b ?k_b ?a_p ?l_p ?c_p ?k_p ?a_P ?l_P ?c_P ?k_P ?a_mg ?l_mg ?c_mg ?k_mg ?a_mc ?l_mc ?c_mc ?k_mc ?a_ml ?l_ml ?c_ml ?k_ml ?a_mt ?l_mt ?c_mt ?k_mt ?a_mf ?l_mf ?c_mf ?k_mf ?a_mk ?l_mk ?c_mk ?k_mk ?a_mr ?l_mr ?c_mr ?k_mr ?a_co ?l_co ?c_co ?k_co ?a_cb ?l_cb ?c_cb ?k_cb ?a_la ?l_la ?c_la ?k_la ?a_oa ?l_oa ?c_oa ?k_oa ?a_cr ?l_cr ?c_cr ?k_cr ?a_lo ?l_lo ?c_lo ?k_lo ?a_lc ?l_lc ?c_lc ?k_lc ?a_ls ?l_ls ?c_ls ?k_ls ?a_ld ?l_ld ?c_ld ?k_ld ?a_lb ?l_lb ?c_lb ?k_lb ?a_lf ?l_lf ?c_lf ?k_lf ?a_Lr ?l_Lr ?c_Lr ?k_Lr ?a_La ?l_La ?c_La ?k_La ?a_Lg ?l_Lg ?c_Lg ?k_Lg ?a_Lu ?l_Lu ?c_Lu ?k_Lu ?a_Lt ?l_Lt ?c_Lt ?k_Lt ?a_Ll ?l_Ll ?c_Ll ?k_Ll ?a_l ?l_l ?c_l ?k_l ?a_CL ?a_C0 ?a_C1 ?a_C2 ?a_C3 ?a_C4 ?a_C5 ?a_C9 ?a_C14 ?a_C10 ?i_iL ?l_iL ?c_iL ?k_iL ?t_iL ?i_iN ?l_iN ?c_iN ?k_iN ?t_iN ?i_iO ?l_iO ?c_iO ?k_iO ?t_iO ?i_iD ?l_iD ?c_iD ?k_iD ?t_iD ?i_iT ?l_iT ?c_iT ?k_iT ?t_iT ?i_iC ?l_iC ?c_iC ?k_iC ?t_iC ?i_iK ?l_iK ?c_iK ?k_iK ?t_iK ?i_iR ?l_iR ?c_iR ?k_iR ?t_iR ?i_iH ?l_iH ?c_iH ?k_iH ?t_iH ?i_B ?rdT ?rdL ?gaL ?atL ?kCL ?x_C0 ?rv_C0 ?sa_C0 ?ex_C0 ?ty_C0 ?kc_C0 ?nw_C0 ?x_C1 ?rv_C1 ?sa_C1 ?ex_C1 ?ty_C1 ?kc_C1 ?nw_C1 ?nf_C1_number ?x_C2 ?rv_C2 ?sa_C2 ?ex_C2 ?ty_C2 ?kc_C2 ?nw_C2 ?nf_C2_limit ?x_C3 ?rv_C3 ?sa_C3 ?ex_C3 ?ty_C3 ?kc_C3 ?nw_C3 ?nf_C3_thing ?x_C4 ?rv_C4 ?sa_C4 ?ex_C4 ?ty_C4 ?kc_C4 ?nw_C4 ?nf_C4_name ?x_C5 ?rv_C5 ?sa_C5 ?ex_C5 ?ty_C5 ?kc_C5 ?nw_C5 ?nf_C5_offset ?x_C9 ?rv_C9 ?sa_C9 ?ex_C9 ?ty_C9 ?kc_C9 ?nw_C9 ?nf_C9_number ?nf_C9_owners ?nf_C9_offset ?nf_C9_names ?x_C14 ?rv_C14 ?sa_C14 ?ex_C14 ?ty_C14 ?kc_C14 ?nw_C14 ?nf_C14_number ?nf_C14_ring ?x_C10 ?rv_C10 ?sa_C10 ?ex_C10 ?ty_C10 ?kc_C10 ?nw_C10 ?nf_C10_number ?nf_C10_base ?hn ?ht ?a_Y ?pg_Y ?ic_Y ?po_Y ?sa_Y ?at_0 ?get_0 ?tk_0 ?ty_p0 ?ix_0 ?at_1 ?get_1 ?tk_1 ?ty_p1 ?ix_1 ?ca_Y ?cm_Y ?mk_Y ?kc_Y ?sf_Y ?fo1 ?ro1 ?ot_L ?a_mF ?l_mF ?c_mF ?k_mF ?fn_mF ?a_mH ?l_mH ?c_mH ?k_mH ?fn_mH ?a_mW ?l_mW ?c_mW ?k_mW ?fn_mW ?a_mL ?l_mL ?c_mL ?k_mL ?fn_mL ?a_mG ?l_mG ?c_mG ?k_mG ?fn_mG ?a_mA ?l_mA ?c_mA ?k_mA ?fn_mA ?fi_mG ?a_mI ?l_mI ?l_T ?c_mI ?k_mI ?fn_mI ?a_CS ?pg_CS ?hd_CS ?po_CS ?sa_CS ?mk_CS ?kc_CS ?na_CS_order ?na_CS_layout ?na_CS_line ?na_CS_offsets ?na_CS_bases ?na_CS_fields ?na_CS_roomy ?a_CSO ?l_CSO ?c_CSO ?k_CSO ?fn_CSO ?a_CSN ?l_CSN ?c_CSN ?k_CSN ?fn_CSN ?a_CSY ?l_CSY ?c_CSY ?k_CSY ?fn_CSY ?a_CSF ?l_CSF ?c_CSF ?k_CSF ?fn_CSF ?a_CSR ?l_CSR ?c_CSR ?k_CSR ?fn_CSR ?a_CSI ?l_CSI ?c_CSI ?k_CSI ?fn_CSI ?a_CW ?pg_CW ?hd_CW ?po_CW ?sa_CW ?mk_CW ?kc_CW ?na_CW_shapes ?na_CW_tables ?na_CW_lives ?a_CWC ?l_CWC ?c_CWC ?k_CWC ?fn_CWC ?a_CWS ?l_CWS ?c_CWS ?k_CWS ?fn_CWS ?a_CWF ?l_CWF ?c_CWF ?k_CWF ?fn_CWF ?a_CWR ?l_CWR ?c_CWR ?k_CWR ?fn_CWR ?a_CWD ?l_CWD ?c_CWD ?k_CWD ?fn_CWD ?a_CWI ?l_CWI ?c_CWI ?k_CWI ?fn_CWI ?a_wM ?l_wM ?c_wM ?k_wM ?fn_wM ?kd1 ?kd2 ?l_t0 ?xm_C9 ?xm_C14 ?xm_C10 ?xx_C9_C9 ?xx_C14_C9 ?xx_C14_C14 ?xx_C10_C9 ?xx_C10_C14 ?xx_C10_C10
    (case longest => first | k_is | kit_is | rfl)
    (case deep => first | k_is | kit_is | rfl)
    (case mbases => first | k_is | kit_is | rfl)
    (case mfields => first | k_is | kit_is | rfl)
    (case mvalues => first | k_is | kit_is | rfl)
    (case mitems => first | k_is | kit_is | rfl)
    (case mclasses => first | k_is | kit_is | rfl)
    (case z_isinstance => first | k_is | kit_is | rfl)
    (case z_int => first | k_is | kit_is | rfl)
    (case z_bool => first | k_is | kit_is | rfl)
    (case z_str => first | k_is | kit_is | rfl)
    (case z_list => first | k_is | kit_is | rfl)
    (case z_tuple => first | k_is | kit_is | rfl)
    (case z_set => first | k_is | kit_is | rfl)
    (case z_len => first | k_is | kit_is | rfl)
    (case z_all => first | k_is | kit_is | rfl)
    (case z_any => first | k_is | kit_is | rfl)
    (case z_zip => first | k_is | kit_is | rfl)
    (case z_enumerate => first | k_is | kit_is | rfl)
    (case z_range => first | k_is | kit_is | rfl)
    (case z_reversed => first | k_is | kit_is | rfl)
    (case z_min => first | k_is | kit_is | rfl)
    (case z_max => first | k_is | kit_is | rfl)
    (case z_repr => first | k_is | kit_is | rfl)
    (case z_sorted => first | k_is | kit_is | rfl)
    (case a_I => first | k_is | kit_is | rfl)
    (case l_I => first | k_is | kit_is | rfl)
    (case c_I => first | k_is | kit_is | rfl)
    (case k_I => first | k_is | kit_is | rfl)
    (case a_N => first | k_is | kit_is | rfl)
    (case l_N => first | k_is | kit_is | rfl)
    (case c_N => first | k_is | kit_is | rfl)
    (case k_N => first | k_is | kit_is | rfl)
    (case a_v => first | k_is | kit_is | rfl)
    (case l_v => first | k_is | kit_is | rfl)
    (case c_v => first | k_is | kit_is | rfl)
    (case k_v => first | k_is | kit_is | rfl)
    (case a_V => first | k_is | kit_is | rfl)
    (case l_V => first | k_is | kit_is | rfl)
    (case c_V => first | k_is | kit_is | rfl)
    (case k_V => first | k_is | kit_is | rfl)
    (case a_n => first | k_is | kit_is | rfl)
    (case l_n => first | k_is | kit_is | rfl)
    (case c_n => first | k_is | kit_is | rfl)
    (case k_n => first | k_is | kit_is | rfl)
    (case a_q => first | k_is | kit_is | rfl)
    (case l_q => first | k_is | kit_is | rfl)
    (case c_q => first | k_is | kit_is | rfl)
    (case k_q => first | k_is | kit_is | rfl)
    (case a_j => first | k_is | kit_is | rfl)
    (case l_j => first | k_is | kit_is | rfl)
    (case c_j => first | k_is | kit_is | rfl)
    (case k_j => first | k_is | kit_is | rfl)
    (case a_S => first | k_is | kit_is | rfl)
    (case l_S => first | k_is | kit_is | rfl)
    (case c_S => first | k_is | kit_is | rfl)
    (case k_S => first | k_is | kit_is | rfl)
    (case a_U => first | k_is | kit_is | rfl)
    (case l_U => first | k_is | kit_is | rfl)
    (case c_U => first | k_is | kit_is | rfl)
    (case k_U => first | k_is | kit_is | rfl)
    (case a_M => first | k_is | kit_is | rfl)
    (case l_M => first | k_is | kit_is | rfl)
    (case c_M => first | k_is | kit_is | rfl)
    (case k_M => first | k_is | kit_is | rfl)
    (case a_b => first | k_is | kit_is | rfl)
    (case l_b => first | k_is | kit_is | rfl)
    (case c_b => first | k_is | kit_is | rfl)
    (case k_b => first | k_is | kit_is | rfl)
    (case a_p => first | k_is | kit_is | rfl)
    (case l_p => first | k_is | kit_is | rfl)
    (case c_p => first | k_is | kit_is | rfl)
    (case k_p => first | k_is | kit_is | rfl)
    (case a_P => first | k_is | kit_is | rfl)
    (case l_P => first | k_is | kit_is | rfl)
    (case c_P => first | k_is | kit_is | rfl)
    (case k_P => first | k_is | kit_is | rfl)
    (case a_mg => first | k_is | kit_is | rfl)
    (case l_mg => first | k_is | kit_is | rfl)
    (case c_mg => first | k_is | kit_is | rfl)
    (case k_mg => first | k_is | kit_is | rfl)
    (case a_mc => first | k_is | kit_is | rfl)
    (case l_mc => first | k_is | kit_is | rfl)
    (case c_mc => first | k_is | kit_is | rfl)
    (case k_mc => first | k_is | kit_is | rfl)
    (case a_ml => first | k_is | kit_is | rfl)
    (case l_ml => first | k_is | kit_is | rfl)
    (case c_ml => first | k_is | kit_is | rfl)
    (case k_ml => first | k_is | kit_is | rfl)
    (case a_mt => first | k_is | kit_is | rfl)
    (case l_mt => first | k_is | kit_is | rfl)
    (case c_mt => first | k_is | kit_is | rfl)
    (case k_mt => first | k_is | kit_is | rfl)
    (case a_mf => first | k_is | kit_is | rfl)
    (case l_mf => first | k_is | kit_is | rfl)
    (case c_mf => first | k_is | kit_is | rfl)
    (case k_mf => first | k_is | kit_is | rfl)
    (case a_mk => first | k_is | kit_is | rfl)
    (case l_mk => first | k_is | kit_is | rfl)
    (case c_mk => first | k_is | kit_is | rfl)
    (case k_mk => first | k_is | kit_is | rfl)
    (case a_mr => first | k_is | kit_is | rfl)
    (case l_mr => first | k_is | kit_is | rfl)
    (case c_mr => first | k_is | kit_is | rfl)
    (case k_mr => first | k_is | kit_is | rfl)
    (case a_co => first | k_is | kit_is | rfl)
    (case l_co => first | k_is | kit_is | rfl)
    (case c_co => first | k_is | kit_is | rfl)
    (case k_co => first | k_is | kit_is | rfl)
    (case a_cb => first | k_is | kit_is | rfl)
    (case l_cb => first | k_is | kit_is | rfl)
    (case c_cb => first | k_is | kit_is | rfl)
    (case k_cb => first | k_is | kit_is | rfl)
    (case a_la => first | k_is | kit_is | rfl)
    (case l_la => first | k_is | kit_is | rfl)
    (case c_la => first | k_is | kit_is | rfl)
    (case k_la => first | k_is | kit_is | rfl)
    (case a_oa => first | k_is | kit_is | rfl)
    (case l_oa => first | k_is | kit_is | rfl)
    (case c_oa => first | k_is | kit_is | rfl)
    (case k_oa => first | k_is | kit_is | rfl)
    (case a_cr => first | k_is | kit_is | rfl)
    (case l_cr => first | k_is | kit_is | rfl)
    (case c_cr => first | k_is | kit_is | rfl)
    (case k_cr => first | k_is | kit_is | rfl)
    (case a_lo => first | k_is | kit_is | rfl)
    (case l_lo => first | k_is | kit_is | rfl)
    (case c_lo => first | k_is | kit_is | rfl)
    (case k_lo => first | k_is | kit_is | rfl)
    (case a_lc => first | k_is | kit_is | rfl)
    (case l_lc => first | k_is | kit_is | rfl)
    (case c_lc => first | k_is | kit_is | rfl)
    (case k_lc => first | k_is | kit_is | rfl)
    (case a_ls => first | k_is | kit_is | rfl)
    (case l_ls => first | k_is | kit_is | rfl)
    (case c_ls => first | k_is | kit_is | rfl)
    (case k_ls => first | k_is | kit_is | rfl)
    (case a_ld => first | k_is | kit_is | rfl)
    (case l_ld => first | k_is | kit_is | rfl)
    (case c_ld => first | k_is | kit_is | rfl)
    (case k_ld => first | k_is | kit_is | rfl)
    (case a_lb => first | k_is | kit_is | rfl)
    (case l_lb => first | k_is | kit_is | rfl)
    (case c_lb => first | k_is | kit_is | rfl)
    (case k_lb => first | k_is | kit_is | rfl)
    (case a_lf => first | k_is | kit_is | rfl)
    (case l_lf => first | k_is | kit_is | rfl)
    (case c_lf => first | k_is | kit_is | rfl)
    (case k_lf => first | k_is | kit_is | rfl)
    (case a_Lr => first | k_is | kit_is | rfl)
    (case l_Lr => first | k_is | kit_is | rfl)
    (case c_Lr => first | k_is | kit_is | rfl)
    (case k_Lr => first | k_is | kit_is | rfl)
    (case a_La => first | k_is | kit_is | rfl)
    (case l_La => first | k_is | kit_is | rfl)
    (case c_La => first | k_is | kit_is | rfl)
    (case k_La => first | k_is | kit_is | rfl)
    (case a_Lg => first | k_is | kit_is | rfl)
    (case l_Lg => first | k_is | kit_is | rfl)
    (case c_Lg => first | k_is | kit_is | rfl)
    (case k_Lg => first | k_is | kit_is | rfl)
    (case a_Lu => first | k_is | kit_is | rfl)
    (case l_Lu => first | k_is | kit_is | rfl)
    (case c_Lu => first | k_is | kit_is | rfl)
    (case k_Lu => first | k_is | kit_is | rfl)
    (case a_Lt => first | k_is | kit_is | rfl)
    (case l_Lt => first | k_is | kit_is | rfl)
    (case c_Lt => first | k_is | kit_is | rfl)
    (case k_Lt => first | k_is | kit_is | rfl)
    (case a_Ll => first | k_is | kit_is | rfl)
    (case l_Ll => first | k_is | kit_is | rfl)
    (case c_Ll => first | k_is | kit_is | rfl)
    (case k_Ll => first | k_is | kit_is | rfl)
    (case a_l => first | k_is | kit_is | rfl)
    (case l_l => first | k_is | kit_is | rfl)
    (case c_l => first | k_is | kit_is | rfl)
    (case k_l => first | k_is | kit_is | rfl)
    (case a_CL => first | k_is | kit_is | rfl)
    (case a_C0 => first | k_is | kit_is | rfl)
    (case a_C1 => first | k_is | kit_is | rfl)
    (case a_C2 => first | k_is | kit_is | rfl)
    (case a_C3 => first | k_is | kit_is | rfl)
    (case a_C4 => first | k_is | kit_is | rfl)
    (case a_C5 => first | k_is | kit_is | rfl)
    (case a_C9 => first | k_is | kit_is | rfl)
    (case a_C14 => first | k_is | kit_is | rfl)
    (case a_C10 => first | k_is | kit_is | rfl)
    (case i_iL => first | k_is | kit_is | rfl)
    (case l_iL => first | k_is | kit_is | rfl)
    (case c_iL => first | k_is | kit_is | rfl)
    (case k_iL => first | k_is | kit_is | rfl)
    (case t_iL => first | k_is | kit_is | rfl)
    (case i_iN => first | k_is | kit_is | rfl)
    (case l_iN => first | k_is | kit_is | rfl)
    (case c_iN => first | k_is | kit_is | rfl)
    (case k_iN => first | k_is | kit_is | rfl)
    (case t_iN => first | k_is | kit_is | rfl)
    (case i_iO => first | k_is | kit_is | rfl)
    (case l_iO => first | k_is | kit_is | rfl)
    (case c_iO => first | k_is | kit_is | rfl)
    (case k_iO => first | k_is | kit_is | rfl)
    (case t_iO => first | k_is | kit_is | rfl)
    (case i_iD => first | k_is | kit_is | rfl)
    (case l_iD => first | k_is | kit_is | rfl)
    (case c_iD => first | k_is | kit_is | rfl)
    (case k_iD => first | k_is | kit_is | rfl)
    (case t_iD => first | k_is | kit_is | rfl)
    (case i_iT => first | k_is | kit_is | rfl)
    (case l_iT => first | k_is | kit_is | rfl)
    (case c_iT => first | k_is | kit_is | rfl)
    (case k_iT => first | k_is | kit_is | rfl)
    (case t_iT => first | k_is | kit_is | rfl)
    (case i_iC => first | k_is | kit_is | rfl)
    (case l_iC => first | k_is | kit_is | rfl)
    (case c_iC => first | k_is | kit_is | rfl)
    (case k_iC => first | k_is | kit_is | rfl)
    (case t_iC => first | k_is | kit_is | rfl)
    (case i_iK => first | k_is | kit_is | rfl)
    (case l_iK => first | k_is | kit_is | rfl)
    (case c_iK => first | k_is | kit_is | rfl)
    (case k_iK => first | k_is | kit_is | rfl)
    (case t_iK => first | k_is | kit_is | rfl)
    (case i_iR => first | k_is | kit_is | rfl)
    (case l_iR => first | k_is | kit_is | rfl)
    (case c_iR => first | k_is | kit_is | rfl)
    (case k_iR => first | k_is | kit_is | rfl)
    (case t_iR => first | k_is | kit_is | rfl)
    (case i_iH => first | k_is | kit_is | rfl)
    (case l_iH => first | k_is | kit_is | rfl)
    (case c_iH => first | k_is | kit_is | rfl)
    (case k_iH => first | k_is | kit_is | rfl)
    (case t_iH => first | k_is | kit_is | rfl)
    (case i_B => first | k_is | kit_is | rfl)
    (case rdT => first | k_is | kit_is | rfl)
    (case rdL => first | k_is | kit_is | rfl)
    (case gaL => first | k_is | kit_is | rfl)
    (case atL => first | k_is | kit_is | rfl)
    (case kCL => first | k_is | kit_is | rfl)
    (case x_C0 => first | k_is | kit_is | rfl)
    (case rv_C0 => first | rfl | decide +kernel | k_is)
    (case sa_C0 => first | k_is | kit_is | rfl)
    (case ex_C0 => first | k_is | kit_is | rfl)
    (case ty_C0 => first | k_is | kit_is | rfl)
    (case kc_C0 => first | k_is | kit_is | rfl)
    (case nw_C0 => first | k_is | kit_is | rfl)
    (case x_C1 => first | k_is | kit_is | rfl)
    (case rv_C1 => first | rfl | decide +kernel | k_is)
    (case sa_C1 => first | k_is | kit_is | rfl)
    (case ex_C1 => first | k_is | kit_is | rfl)
    (case ty_C1 => first | k_is | kit_is | rfl)
    (case kc_C1 => first | k_is | kit_is | rfl)
    (case nw_C1 => first | k_is | kit_is | rfl)
    (case nf_C1_number => first | k_is | kit_is | rfl)
    (case x_C2 => first | k_is | kit_is | rfl)
    (case rv_C2 => first | rfl | decide +kernel | k_is)
    (case sa_C2 => first | k_is | kit_is | rfl)
    (case ex_C2 => first | k_is | kit_is | rfl)
    (case ty_C2 => first | k_is | kit_is | rfl)
    (case kc_C2 => first | k_is | kit_is | rfl)
    (case nw_C2 => first | k_is | kit_is | rfl)
    (case nf_C2_limit => first | k_is | kit_is | rfl)
    (case x_C3 => first | k_is | kit_is | rfl)
    (case rv_C3 => first | rfl | decide +kernel | k_is)
    (case sa_C3 => first | k_is | kit_is | rfl)
    (case ex_C3 => first | k_is | kit_is | rfl)
    (case ty_C3 => first | k_is | kit_is | rfl)
    (case kc_C3 => first | k_is | kit_is | rfl)
    (case nw_C3 => first | k_is | kit_is | rfl)
    (case nf_C3_thing => first | k_is | kit_is | rfl)
    (case x_C4 => first | k_is | kit_is | rfl)
    (case rv_C4 => first | rfl | decide +kernel | k_is)
    (case sa_C4 => first | k_is | kit_is | rfl)
    (case ex_C4 => first | k_is | kit_is | rfl)
    (case ty_C4 => first | k_is | kit_is | rfl)
    (case kc_C4 => first | k_is | kit_is | rfl)
    (case nw_C4 => first | k_is | kit_is | rfl)
    (case nf_C4_name => first | k_is | kit_is | rfl)
    (case x_C5 => first | k_is | kit_is | rfl)
    (case rv_C5 => first | rfl | decide +kernel | k_is)
    (case sa_C5 => first | k_is | kit_is | rfl)
    (case ex_C5 => first | k_is | kit_is | rfl)
    (case ty_C5 => first | k_is | kit_is | rfl)
    (case kc_C5 => first | k_is | kit_is | rfl)
    (case nw_C5 => first | k_is | kit_is | rfl)
    (case nf_C5_offset => first | k_is | kit_is | rfl)
    (case x_C9 => first | k_is | kit_is | rfl)
    (case rv_C9 => first | rfl | decide +kernel | k_is)
    (case sa_C9 => first | k_is | kit_is | rfl)
    (case ex_C9 => first | k_is | kit_is | rfl)
    (case ty_C9 => first | k_is | kit_is | rfl)
    (case kc_C9 => first | k_is | kit_is | rfl)
    (case nw_C9 => first | k_is | kit_is | rfl)
    (case nf_C9_number => first | k_is | kit_is | rfl)
    (case nf_C9_owners => first | k_is | kit_is | rfl)
    (case nf_C9_offset => first | k_is | kit_is | rfl)
    (case nf_C9_names => first | k_is | kit_is | rfl)
    (case x_C14 => first | k_is | kit_is | rfl)
    (case rv_C14 => first | rfl | decide +kernel | k_is)
    (case sa_C14 => first | k_is | kit_is | rfl)
    (case ex_C14 => first | k_is | kit_is | rfl)
    (case ty_C14 => first | k_is | kit_is | rfl)
    (case kc_C14 => first | k_is | kit_is | rfl)
    (case nw_C14 => first | k_is | kit_is | rfl)
    (case nf_C14_number => first | k_is | kit_is | rfl)
    (case nf_C14_ring => first | k_is | kit_is | rfl)
    (case x_C10 => first | k_is | kit_is | rfl)
    (case rv_C10 => first | rfl | decide +kernel | k_is)
    (case sa_C10 => first | k_is | kit_is | rfl)
    (case ex_C10 => first | k_is | kit_is | rfl)
    (case ty_C10 => first | k_is | kit_is | rfl)
    (case kc_C10 => first | k_is | kit_is | rfl)
    (case nw_C10 => first | k_is | kit_is | rfl)
    (case nf_C10_number => first | k_is | kit_is | rfl)
    (case nf_C10_base => first | k_is | kit_is | rfl)
    (case hn => first | k_is | kit_is | rfl)
    (case ht => first | k_is | kit_is | rfl)
    (case a_Y => first | k_is | kit_is | rfl)
    (case pg_Y => first | k_is | kit_is | rfl)
    (case ic_Y => first | k_is | kit_is | rfl)
    (case po_Y => first | k_is | kit_is | rfl)
    (case sa_Y => first | k_is | kit_is | rfl)
    (case at_0 => first | k_is | kit_is | rfl)
    (case get_0 => first | k_is | kit_is | rfl)
    (case tk_0 => first | k_is | kit_is | rfl)
    (case ty_p0 => first | k_is | kit_is | rfl)
    (case ix_0 => first | k_is | kit_is | rfl)
    (case at_1 => first | k_is | kit_is | rfl)
    (case get_1 => first | k_is | kit_is | rfl)
    (case tk_1 => first | k_is | kit_is | rfl)
    (case ty_p1 => first | k_is | kit_is | rfl)
    (case ix_1 => first | k_is | kit_is | rfl)
    (case ca_Y => first | k_is | kit_is | rfl)
    (case cm_Y => first | k_is | kit_is | rfl)
    (case mk_Y => first | k_is | kit_is | rfl)
    (case kc_Y => first | k_is | kit_is | rfl)
    (case sf_Y => first | k_is | kit_is | rfl)
    (case fo1 => first | k_is | kit_is | rfl)
    (case ro1 => first | k_is | kit_is | rfl)
    (case ot_L => first | rfl | decide +kernel | k_is)
    (case a_mF => first | k_is | kit_is | rfl)
    (case l_mF => first | k_is | kit_is | rfl)
    (case c_mF => first | k_is | kit_is | rfl)
    (case k_mF => first | k_is | kit_is | rfl)
    (case fn_mF => first | k_is | kit_is | rfl)
    (case a_mH => first | k_is | kit_is | rfl)
    (case l_mH => first | k_is | kit_is | rfl)
    (case c_mH => first | k_is | kit_is | rfl)
    (case k_mH => first | k_is | kit_is | rfl)
    (case fn_mH => first | k_is | kit_is | rfl)
    (case a_mW => first | k_is | kit_is | rfl)
    (case l_mW => first | k_is | kit_is | rfl)
    (case c_mW => first | k_is | kit_is | rfl)
    (case k_mW => first | k_is | kit_is | rfl)
    (case fn_mW => first | k_is | kit_is | rfl)
    (case a_mL => first | k_is | kit_is | rfl)
    (case l_mL => first | k_is | kit_is | rfl)
    (case c_mL => first | k_is | kit_is | rfl)
    (case k_mL => first | k_is | kit_is | rfl)
    (case fn_mL => first | k_is | kit_is | rfl)
    (case a_mG => first | k_is | kit_is | rfl)
    (case l_mG => first | k_is | kit_is | rfl)
    (case c_mG => first | k_is | kit_is | rfl)
    (case k_mG => first | k_is | kit_is | rfl)
    (case fn_mG => first | k_is | kit_is | rfl)
    (case a_mA => first | k_is | kit_is | rfl)
    (case l_mA => first | k_is | kit_is | rfl)
    (case c_mA => first | k_is | kit_is | rfl)
    (case k_mA => first | k_is | kit_is | rfl)
    (case fn_mA => first | k_is | kit_is | rfl)
    (case fi_mG => first | k_is | kit_is | rfl)
    (case a_mI => first | k_is | kit_is | rfl)
    (case l_mI => first | k_is | kit_is | rfl)
    (case l_T => first | k_is | kit_is | rfl)
    (case c_mI => first | k_is | kit_is | rfl)
    (case k_mI => first | k_is | kit_is | rfl)
    (case fn_mI => first | k_is | kit_is | rfl)
    (case a_CS => first | k_is | kit_is | rfl)
    (case pg_CS => first | k_is | kit_is | rfl)
    (case hd_CS => first | k_is | kit_is | rfl)
    (case po_CS => first | k_is | kit_is | rfl)
    (case sa_CS => first | k_is | kit_is | rfl)
    (case mk_CS => first | k_is | kit_is | rfl)
    (case kc_CS => first | k_is | kit_is | rfl)
    (case na_CS_order => first | k_is | kit_is | rfl)
    (case na_CS_layout => first | k_is | kit_is | rfl)
    (case na_CS_line => first | k_is | kit_is | rfl)
    (case na_CS_offsets => first | k_is | kit_is | rfl)
    (case na_CS_bases => first | k_is | kit_is | rfl)
    (case na_CS_fields => first | k_is | kit_is | rfl)
    (case na_CS_roomy => first | k_is | kit_is | rfl)
    (case a_CSO => first | k_is | kit_is | rfl)
    (case l_CSO => first | k_is | kit_is | rfl)
    (case c_CSO => first | k_is | kit_is | rfl)
    (case k_CSO => first | k_is | kit_is | rfl)
    (case fn_CSO => first | k_is | kit_is | rfl)
    (case a_CSN => first | k_is | kit_is | rfl)
    (case l_CSN => first | k_is | kit_is | rfl)
    (case c_CSN => first | k_is | kit_is | rfl)
    (case k_CSN => first | k_is | kit_is | rfl)
    (case fn_CSN => first | k_is | kit_is | rfl)
    (case a_CSY => first | k_is | kit_is | rfl)
    (case l_CSY => first | k_is | kit_is | rfl)
    (case c_CSY => first | k_is | kit_is | rfl)
    (case k_CSY => first | k_is | kit_is | rfl)
    (case fn_CSY => first | k_is | kit_is | rfl)
    (case a_CSF => first | k_is | kit_is | rfl)
    (case l_CSF => first | k_is | kit_is | rfl)
    (case c_CSF => first | k_is | kit_is | rfl)
    (case k_CSF => first | k_is | kit_is | rfl)
    (case fn_CSF => first | k_is | kit_is | rfl)
    (case a_CSR => first | k_is | kit_is | rfl)
    (case l_CSR => first | k_is | kit_is | rfl)
    (case c_CSR => first | k_is | kit_is | rfl)
    (case k_CSR => first | k_is | kit_is | rfl)
    (case fn_CSR => first | k_is | kit_is | rfl)
    (case a_CSI => first | k_is | kit_is | rfl)
    (case l_CSI => first | k_is | kit_is | rfl)
    (case c_CSI => first | k_is | kit_is | rfl)
    (case k_CSI => first | k_is | kit_is | rfl)
    (case fn_CSI => first | k_is | kit_is | rfl)
    (case a_CW => first | k_is | kit_is | rfl)
    (case pg_CW => first | k_is | kit_is | rfl)
    (case hd_CW => first | k_is | kit_is | rfl)
    (case po_CW => first | k_is | kit_is | rfl)
    (case sa_CW => first | k_is | kit_is | rfl)
    (case mk_CW => first | k_is | kit_is | rfl)
    (case kc_CW => first | k_is | kit_is | rfl)
    (case na_CW_shapes => first | k_is | kit_is | rfl)
    (case na_CW_tables => first | k_is | kit_is | rfl)
    (case na_CW_lives => first | k_is | kit_is | rfl)
    (case a_CWC => first | k_is | kit_is | rfl)
    (case l_CWC => first | k_is | kit_is | rfl)
    (case c_CWC => first | k_is | kit_is | rfl)
    (case k_CWC => first | k_is | kit_is | rfl)
    (case fn_CWC => first | k_is | kit_is | rfl)
    (case a_CWS => first | k_is | kit_is | rfl)
    (case l_CWS => first | k_is | kit_is | rfl)
    (case c_CWS => first | k_is | kit_is | rfl)
    (case k_CWS => first | k_is | kit_is | rfl)
    (case fn_CWS => first | k_is | kit_is | rfl)
    (case a_CWF => first | k_is | kit_is | rfl)
    (case l_CWF => first | k_is | kit_is | rfl)
    (case c_CWF => first | k_is | kit_is | rfl)
    (case k_CWF => first | k_is | kit_is | rfl)
    (case fn_CWF => first | k_is | kit_is | rfl)
    (case a_CWR => first | k_is | kit_is | rfl)
    (case l_CWR => first | k_is | kit_is | rfl)
    (case c_CWR => first | k_is | kit_is | rfl)
    (case k_CWR => first | k_is | kit_is | rfl)
    (case fn_CWR => first | k_is | kit_is | rfl)
    (case a_CWD => first | k_is | kit_is | rfl)
    (case l_CWD => first | k_is | kit_is | rfl)
    (case c_CWD => first | k_is | kit_is | rfl)
    (case k_CWD => first | k_is | kit_is | rfl)
    (case fn_CWD => first | k_is | kit_is | rfl)
    (case a_CWI => first | k_is | kit_is | rfl)
    (case l_CWI => first | k_is | kit_is | rfl)
    (case c_CWI => first | k_is | kit_is | rfl)
    (case k_CWI => first | k_is | kit_is | rfl)
    (case fn_CWI => first | k_is | kit_is | rfl)
    (case a_wM => first | k_is | kit_is | rfl)
    (case l_wM => first | k_is | kit_is | rfl)
    (case c_wM => first | k_is | kit_is | rfl)
    (case k_wM => first | k_is | kit_is | rfl)
    (case fn_wM => first | k_is | kit_is | rfl)
    (case kd1 => first | k_is | kit_is | rfl)
    (case kd2 => first | k_is | kit_is | rfl)
    (case l_t0 => first | k_is | kit_is | rfl)
    (case xm_C9 => first | k_is | kit_is | rfl)
    (case xm_C14 => first | k_is | kit_is | rfl)
    (case xm_C10 => first | k_is | kit_is | rfl)
    (case xx_C9_C9 => first | k_is | kit_is | rfl)
    (case xx_C14_C9 => first | k_is | kit_is | rfl)
    (case xx_C14_C14 => first | k_is | kit_is | rfl)
    (case xx_C10_C9 => first | k_is | kit_is | rfl)
    (case xx_C10_C14 => first | k_is | kit_is | rfl)
    (case xx_C10_C10 => first | k_is | kit_is | rfl)

