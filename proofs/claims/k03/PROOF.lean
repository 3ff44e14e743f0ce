import PyProof.Rows.All
import Wide.All
import OpenK.AllK
import Wide.FinOn
import HandS.ForMost
import HandS.DictComp
import HandS.SetBool
import HandS.Strs
import HandS.IsInst
import KE.DataAny
import HandS.ClsMeth
import HandS.ExcInit
import HandS.WordsExc
import HandS.Flow
import HandS.Walk
import HandS.Style
import KE.KExcIs
import HandS.Lambda
import HandS.RaiseMore
import HandS.ExcIs
import HandS.ExcField
import HandS.EndTab
import HandS.Zip
import HandS.SetFor
import HandS.Conv
import PySem.Challenge.RW_layoutline_k03_invalid_lists
set_option Elab.async false
set_option linter.all false
set_option maxRecDepth 100000
set_option maxHeartbeats 4000000
/-! A dict comprehension of two plain clauses: {kx: vx for t0 in i0 for t1 in i1}. -/
namespace Two
open PySem PySem.Spec PyProof.Rows L2

abbrev dc2 (kx vx t0 i0 t1 i1 : Expr) (sc : Scope) (ps : Pos) : Expr :=
  .DictComp kx vx [⟨t0, i0, [], 0⟩, ⟨t1, i1, [], 0⟩] sc ps

section
variable {P : Program} {w : World} {A : Around} {s : Shared}
variable {kx vx t0 i0 t1 i1 : Expr} {sc : Scope} {ps : Pos} {it : Value} {D : Addr} {en : Env}

/-- what an error does in the block -/
abbrev erE (P : Program) (w : World) (A : Around) (en : Env) (R : Result → Shared → Prop) : Value → Shared → Prop :=
  notedBy (model P w) A en fun e z => R (.error e) z

theorem turnOut : compTurn (dc2 kx vx t0 i0 t1 i1 sc ps) 0 it (.ref D) en = (do
      standAt i0.pos
      match ← pyNext it with
      | none => pure (.done .next)
      | some v =>
        letOwnedTupleGo t0 it v
        assign t0 en v
        let y ← eval i1 en
        standAt i1.pos
        let y ← foldedSetIterable i1 en y
        let _ ← runOwn (.compStart (dc2 kx vx t0 i0 t1 i1 sc ps) 1 (← holding [y] (pyIter y)) (.ref D) en) en
        again (.compLoop (dc2 kx vx t0 i0 t1 i1 sc ps) 0 it (.ref D) en)) := by rfl

theorem turnIn : compTurn (dc2 kx vx t0 i0 t1 i1 sc ps) 1 it (.ref D) en = (do
      standAt i1.pos
      match ← pyNext it with
      | none => pure (.done .next)
      | some v =>
        letOwnedTupleGo t1 it v
        assign t1 en v
        (do
          let a ← eval kx en
          let b ← holding [a] (eval vx en)
          standAt { kx.pos with endLine := vx.pos.endLine, endCol := vx.pos.endCol }
          holding [a, b] (dictSet D a b))
        again (.compLoop (dc2 kx vx t0 i0 t1 i1 sc ps) 1 it (.ref D) en)) := by rfl

/-- one turn of the first clause -/
theorem loopOut {R : Result → Shared → Prop} (hf : ∀ y, foldedSetIterable i1 en y = pure y) (J : Nat → Shared → Prop)
    (go : ∀ n z, J n z → wpAny (model P w) A (pyNext it) (fun r z1 => match r with
      | none => R (.ok .next) z1
      | some v => wpAny (model P w) A (letOwnedTupleGo t0 it v) (fun _ z2 =>
          wpAny (model P w) A (assign t0 en v) (fun _ z3 =>
            wpAny (model P w) A (eval i1 en) (fun y z4 =>
              wpAny (model P w) A (pyIter y) (fun j z5 =>
                codeAny (model P w) A (.compStart (dc2 kx vx t0 i0 t1 i1 sc ps) 1 j (.ref D) en)
                  (fun q z6 => match q with | .ok _ => ∃ m, m < n ∧ J m z6 | .error _ => False) z5)
              (erE P w A en R) z4) (erE P w A en R) z3) (erE P w A en R) z2) (erE P w A en R) z1) (erE P w A en R) z)
    (n : Nat) (h : J n s) : codeAny (model P w) A (.compLoop (dc2 kx vx t0 i0 t1 i1 sc ps) 0 it (.ref D) en) R s := by
  refine codeAny_loop rfl J (fun n z hz => ?_) n h
  show wpAny _ A ((compTurn (dc2 kx vx t0 i0 t1 i1 sc ps) 0 it (.ref D) en).onRaise (fun x => do noteFrame x en; theTreesLotGoes x)) _ _ z
  refine wpAny_noted ?_
  rw [turnOut]
  refine wpAny_bind (wpAny_standAt (wpAny_bind (wpAny_mono (go n z hz) (fun r z1 g1 => ?_) fun _ _ k => k)))
  match r, g1 with
  | none, g1 => exact wpAny_pure g1
  | some v, g1 =>
    refine wpAny_bind (wpAny_mono g1 (fun _ z2 g2 => wpAny_bind (wpAny_mono g2 (fun _ z3 g3 => ?_) fun _ _ k => k)) fun _ _ k => k)
    refine wpAny_bind (wpAny_mono g3 (fun y z4 g4 => wpAny_bind (wpAny_standAt ?_)) fun _ _ k => k)
    refine wpAny_bind (wpAny_of_eq (hf y) (wpAny_bind (wpAny_holding (wpAny_mono g4 (fun j z5 g5 => ?_) fun _ _ k => k))))
    refine wpAny_bind (wpAny_runOwn ?_)
    rw [Around.mark_none]
    refine codeAny_mono g5 fun q z6 g6 => ?_
    match q, g6 with
    | .ok f, g6 =>
      first
        | exact wpAny_pure ⟨rfl, g6⟩
        | exact wpAny_bind (wpAny_pure (wpAny_pure ⟨rfl, g6⟩))
    | .error e, g6 => exact g6.elim

/-- one turn of the second -/
theorem loopIn {R : Result → Shared → Prop} (J : Nat → Shared → Prop)
    (go : ∀ n z, J n z → wpAny (model P w) A (pyNext it) (fun r z1 => match r with
      | none => R (.ok .next) z1
      | some v => wpAny (model P w) A (letOwnedTupleGo t1 it v) (fun _ z2 =>
          wpAny (model P w) A (assign t1 en v) (fun _ z3 =>
            wpAny (model P w) A (eval kx en) (fun a z4 =>
              wpAny (model P w) A (eval vx en) (fun b z5 =>
                wpAny (model P w) A (dictSet D a b) (fun _ z6 => ∃ m, m < n ∧ J m z6) (erE P w A en R) z5)
              (erE P w A en R) z4) (erE P w A en R) z3) (erE P w A en R) z2) (erE P w A en R) z1) (erE P w A en R) z)
    (n : Nat) (h : J n s) : codeAny (model P w) A (.compLoop (dc2 kx vx t0 i0 t1 i1 sc ps) 1 it (.ref D) en) R s := by
  refine codeAny_loop rfl J (fun n z hz => ?_) n h
  show wpAny _ A ((compTurn (dc2 kx vx t0 i0 t1 i1 sc ps) 1 it (.ref D) en).onRaise (fun x => do noteFrame x en; theTreesLotGoes x)) _ _ z
  refine wpAny_noted ?_
  rw [turnIn]
  refine wpAny_bind (wpAny_standAt (wpAny_bind (wpAny_mono (go n z hz) (fun r z1 g1 => ?_) fun _ _ k => k)))
  match r, g1 with
  | none, g1 => exact wpAny_pure g1
  | some v, g1 =>
    refine wpAny_bind (wpAny_mono g1 (fun _ z2 g2 => wpAny_bind (wpAny_mono g2 (fun _ z3 g3 => ?_) fun _ _ k => k)) fun _ _ k => k)
    refine wpAny_bind (wpAny_bind (wpAny_mono g3 (fun a z4 g4 => ?_) fun _ _ k => k))
    refine wpAny_bind (wpAny_holding (wpAny_mono g4 (fun b z5 g5 => ?_) fun _ _ k => k))
    exact wpAny_bind (wpAny_standAt (wpAny_holding (wpAny_mono g5 (fun _ z6 g6 => wpAny_pure ⟨rfl, g6⟩) fun _ _ k => k)))

/-- where the second clause begins -/
theorem startIn {R : Result → Shared → Prop} (h0 : codeAny (model P w) A (.compLoop (dc2 kx vx t0 i0 t1 i1 sc ps) 1 it (.ref D) en) R s)
    (h : wpAny (model P w) A (pyIter it) (fun j z => codeAny (model P w) A (.compLoop (dc2 kx vx t0 i0 t1 i1 sc ps) 1 j (.ref D) en) R z) (erE P w A en R) s) :
    codeAny (model P w) A (.compStart (dc2 kx vx t0 i0 t1 i1 sc ps) 1 it (.ref D) en) R s := by
  refine codeAny_of_tree ?_
  show wpAny _ _ ((compStart (dc2 kx vx t0 i0 t1 i1 sc ps) 1 it (.ref D) en).onRaise (fun x => do noteFrame x en; standAt theWindowsPlace)) _ _ s
  refine wpAny_notedAt ?_
  unfold compStart
  show wpAny _ _ (ask >>= _) _ _ s
  refine wpAny_bind (wpAny_askSetting (wpAny_ite ?_))
  split
  · first
      | exact wpAny_bind (wpAny_pure (wpAny_pure ⟨rfl, h0⟩))
      | exact wpAny_pure ⟨rfl, h0⟩
  · refine wpAny_bind (wpAny_rule ?_)
    show wpAny _ _ (standAt i1.pos >>= _) _ _ s
    exact wpAny_bind (wpAny_standAt (wpAny_bind (wpAny_mono h (fun j z k => wpAny_pure ⟨rfl, k⟩) fun _ _ k => k)))
end
end Two

set_option Elab.async false
set_option linter.all false
set_option maxRecDepth 100000
set_option maxHeartbeats 4000000
namespace Two
open PySem PySem.Spec PyProof.Rows L2
section
variable {X : Cx}

/-- the cells of a comprehension's own frame at C -/
abbrev cxB (X : Cx) (s : Shared) (H : Hp) (sc : Scope) (C : Addr) (cl : List (Str × Addr)) (fp : List Addr) : Cx := X.blk s H sc (compEnvC sc cl C X.env) fp

/-- what the inner clause is to do from heap G: own measure, then Nx -/
def inner (J1 : It) (g1 : TG) (tk tv : TE) (vs1 : List Nat) (D : Addr) (σ2 : L2.St) (Nx : Hp → Prop) (G : Hp) : Prop :=
  ∃ W1 : Nat → Nat → Hp → Prop, (∃ m, W1 0 m G) ∧ ∀ j k G1, W1 j k G1 →
    (J1.stop j G1 ∧ Nx G1) ∨ (J1.go j G1 ∧ ∃ N1 : Hp → Prop, (∀ G2, N1 G2 → ∃ k2, k2 < k ∧ W1 (j + 1) k2 G2) ∧
      ∀ x G2, J1.yld j G1 x G2 → g1 x (wipe σ2 vs1) G2 fun σ3 G3 => wipe σ3 vs1 = wipe σ2 vs1 ∧
        tk σ3 G3 fun y G4 => tv σ3 G4 fun z G5 => ∃ kvs k0, y = kV k0 ∧ G5 D = some (.dK kvs) ∧ kvs.length < sizeLine ∧ N1 (upd G5 D (.dK (putK kvs k0 z))))
/-- the outer clause over the new dict D -/
def outer (J : It) (g : TG) (wi1 : TI) (g1 : TG) (tk tv : TE) (vs vs1 : List Nat) (D : Addr) (σ : L2.St) (Qd : Hp → Prop) (G : Hp) : Prop :=
  ∃ W : Nat → Nat → Hp → Prop, (∃ m, W 0 m G) ∧ ∀ i m G1, W i m G1 →
    (J.stop i G1 ∧ Qd G1) ∨ (J.go i G1 ∧ ∃ Nx : Hp → Prop, (∀ G2, Nx G2 → ∃ m2, m2 < m ∧ W (i + 1) m2 G2) ∧
      ∀ x G2, J.yld i G1 x G2 → g x (wipe σ vs) G2 fun σ2 G3 => wipe σ2 vs = wipe σ vs ∧
        wi1 σ2 G3 fun J1 G4 => inner J1 g1 tk tv vs1 D σ2 Nx G4)
/-- {kx: vx for t0 in i0 for t1 in i1} -/
def tDc2 (wi : TI) (g : TG) (wi1 : TI) (g1 : TG) (tk tv : TE) (vs vs1 : List Nat) : TE := fun σ H Q =>
  wi σ H fun J H1 => ∀ D, H1 D = none → outer J g wi1 g1 tk tv vs vs1 D σ (Q (.ref D)) (upd H1 D (.dK []))

theorem wipe_keep {σ : L2.St} {i : Nat} {v : V} {a b : List Nat} (sub : ∀ j ∈ b, j ∈ a) {τ : L2.St} (e : wipe τ a = wipe σ a) (h : (wipe σ a)[i]? = some (some v)) : (wipe τ b)[i]? = some (some v) ∧ τ[i]? = some (some v) := by
  rw [← e] at h
  obtain ⟨h1, h2⟩ := wipe_some h
  exact ⟨by rw [wipe_out fun q => h2 (sub _ q)]; exact h1, h1⟩

theorem dc2_core {pins : List (Addr × Obj)} {s : Shared} {σ : L2.St} {H : Hp} {Q : VK} {kx vx t0 i0 t1 i1 : Expr} {sc : Scope} {ps pos' : Pos} {own : List (Str × Nat)} {vs1 : List Nat}
    {wi wi1 : TI} {g g1 : TG} {tk tv : TE} {use : Option (Value → Sem Unit)} {Qf : Value → Shared → Prop}
    (hc : X.calm = true) (hN : X.N.Nodup) (I : Inv X pins σ H s) (hi : PI X t0 i0 wi) (ok : BlkOk X.N X.env.scope sc own) (hv : ∀ i ∈ vs1, i ∈ own.map (·.2))
    (hg : ∀ s H C cl fp, PG (cxB X s H sc C cl fp) t0 g) (hi1 : ∀ s H C cl fp, PI (cxB X s H sc C cl fp) t1 i1 wi1) (hg1 : ∀ s H C cl fp, PG (cxB X s H sc C cl fp) t1 g1)
    (hk : ∀ s H C cl fp, PE (cxB X s H sc C cl fp) kx tk) (hx : ∀ s H C cl fp, PE (cxB X s H sc C cl fp) vx tv)
    (hs : ∀ x, foldedSetIterable i0 X.env x = pure x) (hs1 : ∀ en x, foldedSetIterable i1 en x = pure x)
    (h : tDc2 wi g wi1 g1 tk tv (own.map (·.2)) vs1 σ H Q)
    (fin : ∀ D C z m G, Inv X pins σ G z → Q (.ref D) G → z.heap.Ns C m → FpOk X pins G C → compPost (model X.prog X.w) X.A X.xe use Qf (.ref D) C (.ok .next) z) :
    wpAny (model X.prog X.w) X.A (comprehension (dc2 kx vx t0 i0 t1 i1 sc ps) sc X.env pos' newDict false (eval i0 X.env) use) Qf X.xe s := by
  have free : ∀ y ∈ sc.names, y.2 = .free → ∃ c, X.env.cells.lookup y.1 = some c := fun y hy e =>
    (ok.free y hy e).elim (fun k => I.ok.has _ (.inl k)) fun k => I.ok.has _ (.inr k)
  refine wpAny_comprehension_free (use := use) rfl hs (closure_ok free) ok.kind (fun y hy e => by rw [ok.uniq y hy, e])
    (thn (hi.run pins s σ H _ I h) fun _ _ h1 => thn h1 fun _ sA hA => ?_)
  obtain ⟨it, fp, tn, J, HA, rfl, IA, T, stA, fpA, q⟩ := hA
  refine wpAny_newObj_type (newEnv_comp ?_)
  obtain ⟨D, hD⟩ : ∃ D, D = sA.heap.objs.size := ⟨_, rfl⟩
  have freshD : HA D = none := IA.hok.fresh (Nat.le_of_eq hD.symm)
  obtain ⟨W, ⟨m0, w0⟩, turn⟩ := q D freshD
  -- the new dict
  obtain ⟨sB, hB⟩ : ∃ z : Shared, z = { sA with heap := sA.heap.push { cls := .type "dict", data := .dict #[] } } := ⟨_, rfl⟩
  have heapB : sB.heap = sA.heap.push { cls := .type "dict", data := .dict #[] } := by rw [hB]
  have IB : Inv X pins σ (upd HA D (.dK [])) sB := by
    rw [hB]
    exact IA.laid (t' := sA.toks) (fun b o e => Heap.get?_push_of_some _ e) (Nat.le_of_eq hD.symm) (by rw [hD]; exact dk_empty sA.heap IA.big)
  have keepB : ∀ b o, sA.heap.get? b = some o → sB.heap.get? b = some o := fun b o e => by rw [heapB]; exact Heap.get?_push_of_some _ e
  have small : ∀ b ∈ fp, b < sA.heap.objs.size := fun b hb => let ⟨_, e, _⟩ := T.obj _ _ stA b hb; Heap.lt_size e
  have fpB : ∀ b ∈ fp, FpOk X pins (upd HA D (.dK [])) b ∧ b < sB.heap.objs.size := fun b hb =>
    have lt := small b hb
    ⟨⟨by rw [upd_ne (by rw [hD]; exact Nat.ne_of_lt lt)]; exact (fpA b hb).1, (fpA b hb).2⟩, by rw [heapB, Heap.size_push]; exact Nat.lt_succ_of_lt lt⟩
  have stB : tn 0 sB.heap := T.keep _ _ _ stA fun b _ o e => keepB b o e
  have IC := block_start IB ok hN fpB
  obtain ⟨cl, hcl⟩ : ∃ cl, cl = cellsFrom (sB.heap.objs.size + 1) sc.names (cloFrom X.env.cells sc.names []) := ⟨_, rfl⟩
  rw [← hcl] at IC
  have pg := hg sB (upd HA D (.dK [])) sB.heap.objs.size cl fp
  have pi1 := hi1 sB (upd HA D (.dK [])) sB.heap.objs.size cl fp
  have pg1 := hg1 sB (upd HA D (.dK [])) sB.heap.objs.size cl fp
  have pk := hk sB (upd HA D (.dK [])) sB.heap.objs.size cl fp
  have px := hx sB (upd HA D (.dK [])) sB.heap.objs.size cl fp
  have noneB : ∀ b ∈ fp, (upd HA D (.dK [])) b = none := fun b hb => (fpB b hb).1.1
  have locC : (compEnvC sc cl sB.heap.objs.size X.env).locals = sB.heap.objs.size := rfl
  unfold cxB at pg pi1 pg1 pk px
  suffices goal : codeAny (model X.prog X.w) X.A (.compStart (dc2 kx vx t0 i0 t1 i1 sc ps) 0 (.ref it) (.ref D) (compEnvC sc cl sB.heap.objs.size X.env))
      (compPost (model X.prog X.w) X.A X.xe use Qf (.ref D) sB.heap.objs.size) { sB with heap := pushCells (sB.heap.push { cls := .type "dict", data := .dict #[] }) sc.names } by
    subst hcl hB hD
    exact goal
  obtain ⟨sC, hC⟩ : ∃ z : Shared, z = { sB with heap := pushCells (sB.heap.push { cls := .type "dict", data := .dict #[] }) sc.names } := ⟨_, rfl⟩
  rw [← hC] at IC ⊢
  generalize hce : compEnvC sc cl sB.heap.objs.size X.env = ce at IC pg pi1 pg1 pk px locC ⊢
  generalize hH : upd HA D (.dK []) = HB at IB IC pg pi1 pg1 pk px w0 noneB fpB
  have stC : tn 0 sC.heap := T.keep _ _ _ stB fun b _ o e => by rw [hC]; exact pushCells_keeps _ _ _ _ (Heap.get?_push_of_some _ e)
  have fpY : ∀ {τ : L2.St} {G : Hp} {z : Shared}, Inv (X.blk sB HB sc ce fp) [] τ G z → (∀ b ∈ fp, G b = none) → ∀ b ∈ fp, FpOk (X.blk sB HB sc ce fp) [] G b :=
    fun {τ G z} K hn b hb => ⟨hn b hb, (K.ok.exf b hb).1, K.ok.exfs b hb, .inl hb, fun x c e => (K.ok.exf b hb).2 x c e, fun p hp => absurd (show p ∈ ([] : List (Addr × Obj)) ++ [] from hp) (by simp)⟩
  obtain ⟨base, hbase⟩ : ∃ b : L2.St, b = wipe σ (own.map (·.2)) := ⟨_, rfl⟩
  -- what stands between two turns of the first clause
  let Z : Nat → Shared → Prop := fun n z => ∃ i G, Inv (X.blk sB HB sc ce fp) [] base G z ∧ tn i z.heap ∧ (∀ b ∈ fp, G b = none) ∧ W i n G
  have loop : codeAny (model X.prog X.w) X.A (.compLoop (dc2 kx vx t0 i0 t1 i1 sc ps) 0 (.ref it) (.ref D) ce) (compPost (model X.prog X.w) X.A X.xe use Qf (.ref D) sB.heap.objs.size) sC := by
    refine loopOut (hs1 ce) Z ?_ m0 ⟨0, HB, by rw [hbase]; exact IC, stC, noneB, w0⟩
    rintro n z ⟨i, G, Iz, stz, nz, wz⟩
    rcases turn i n G wz with ⟨stop, qq⟩ | ⟨go, Nx, hNx, step⟩
    · have td := T.done (X.blk sB HB sc ce fp) rfl rfl rfl hc i [] z base G (fun _ _ => False) Iz (fpY Iz nz) stz stop
      refine thnF td fun r z2 ⟨hr, I2⟩ => ?_
      subst hr
      have I3 : Inv X pins σ G z2 := IB.call' (ch := fp) I2.os I2.base I2.hok I2.bare fun b hb =>
        have f := (fpB b hb).1.2
        ⟨f.2.2.1, f.1, f.2.2.2.1, f.2.2.2.2⟩
      have nC : G sB.heap.objs.size = none := by have k : G ce.locals = none := I2.free; rwa [locC] at k
      obtain ⟨m, hn, _⟩ := I2.loc
      have hn : z2.heap.Ns ce.locals m := hn
      rw [locC] at hn
      exact fin D sB.heap.objs.size z2 m G I3 qq hn (IB.fpOk (Nat.le_refl _) nC)
    · have ti := T.item (X.blk sB HB sc ce fp) rfl rfl rfl hc i [] z base G (fun _ _ => False) Iz (fpY Iz nz) stz go
      refine thnF ti fun r z2 ⟨u, hr, h2⟩ => ?_
      subst hr
      refine thnF h2 fun _ z3 ⟨x, G3, I3, r3, y3, st3, n3⟩ => ?_
      have P3 := I3.pinned (fpY I3 n3) (T.obj _ _ st3)
      rw [hbase] at P3
      have a4 := pg.run _ z3 _ G3 x u _ P3 r3 (step x G3 y3)
      refine thnF a4 fun _ z4 ⟨τ, G4, I4, hw4, q4⟩ => ?_
      have baseL : base.length = τ.length := by rw [hbase, ← hw4, wipe_length]
      have baseV : ∀ (j : Nat) v, base[j]? = some (some v) → τ[j]? = some (some v) := fun j v e => by
        rw [hbase, ← hw4] at e
        exact (wipe_some e).1
      have baseV1 : ∀ (j : Nat) v, base[j]? = some (some v) → (wipe τ vs1)[j]? = some (some v) := fun j v e =>
        (wipe_keep hv hw4 (by rw [← hbase]; exact e)).1
      -- the end of a turn, whatever the slots
      have ends : ∀ {ρ : L2.St} {y : Shared} {G' : Hp}, Inv (X.blk sB HB sc ce fp) ([] ++ pinsAt fp z3.heap) ρ G' y → base.length = ρ.length → (∀ (j : Nat) v, base[j]? = some (some v) → ρ[j]? = some (some v)) → Nx G' → ∃ m, m < n ∧ Z m y := by
        intro ρ y G' K hl hk nx
        obtain ⟨m2, lt2, w2⟩ := hNx G' nx
        have stay : ∀ b ∈ fp, ∀ o, z3.heap.get? b = some o → y.heap.get? b = some o ∧ G' b = none := fun b hb o e =>
          have k := K.pin (b, o) (List.mem_append_right _ (List.mem_append_right _ (mem_pinsAt hb e)))
          ⟨k.1, k.2.1⟩
        refine ⟨m2, lt2, i + 1, G', (K.unpinned (pins := [])).weak hl hk, T.keep _ _ _ st3 fun b hb o e => (stay b hb o e).1, fun b hb => ?_, w2⟩
        obtain ⟨o, e, _⟩ := T.obj _ _ st3 b hb
        exact (stay b hb o e).2
      have a5 := pi1.run _ z4 τ G4 _ I4 q4
      refine thnF a5 fun _ z5 h5 => ?_
      refine thnF h5 fun _ z6 h6 => ?_
      obtain ⟨it1, fp1, tn1, J1, G6, rfl, I6, T1, st6, f6, W1, ⟨m1, w1⟩, turn1⟩ := h6
      have ok1 : ∀ {G' : Hp}, (∀ b ∈ fp1, G' b = none) → ∀ b ∈ fp1, FpOk (X.blk sB HB sc ce fp) ([] ++ pinsAt fp z3.heap) G' b := fun hn b hb => ⟨hn b hb, (f6 b hb).2⟩
      let Z1 : Nat → Shared → Prop := fun k y => ∃ j G', Inv (X.blk sB HB sc ce fp) ([] ++ pinsAt fp z3.heap) (wipe τ vs1) G' y ∧ tn1 j y.heap ∧ (∀ b ∈ fp1, G' b = none) ∧ W1 j k G'
      have loop1 : codeAny (model X.prog X.w) X.A (.compLoop (dc2 kx vx t0 i0 t1 i1 sc ps) 1 (.ref it1) (.ref D) ce) (fun q y => match q with | .ok _ => ∃ m, m < n ∧ Z m y | .error _ => False) z6 := by
        refine loopIn Z1 ?_ m1 ⟨0, G6, I6.weak (wipe_length _ _) (fun j v e => (wipe_some e).1), st6, fun b hb => (f6 b hb).1, w1⟩
        rintro k y ⟨j, G7, I7, st7, n7, w7⟩
        rcases turn1 j k G7 w7 with ⟨stop1, nx⟩ | ⟨go1, N1, hN1, step1⟩
        · have td := T1.done (X.blk sB HB sc ce fp) rfl rfl rfl hc j _ y (wipe τ vs1) G7 (fun _ _ => False) I7 (ok1 n7) st7 stop1
          refine thnF td fun r y2 ⟨hr, I8⟩ => ?_
          subst hr
          exact ends I8 (baseL.trans (wipe_length τ vs1).symm) baseV1 nx
        · have ti := T1.item (X.blk sB HB sc ce fp) rfl rfl rfl hc j _ y (wipe τ vs1) G7 (fun _ _ => False) I7 (ok1 n7) st7 go1
          refine thnF ti fun r y2 ⟨u1, hr, h8⟩ => ?_
          subst hr
          refine thnF h8 fun _ y3 ⟨x1, G9, I9, r9, y9, st9, n9⟩ => ?_
          have P9 := I9.pinned (ok1 n9) (T1.obj _ _ st9)
          have b1 := pg1.run _ y3 (wipe τ vs1) G9 x1 u1 _ P9 r9 (step1 x1 G9 y9)
          refine thnF b1 fun _ y4 ⟨ρ, G10, I10, hw10, q10⟩ => ?_
          have back : ∀ {y' : Shared} {G' : Hp}, Inv (X.blk sB HB sc ce fp) (([] ++ pinsAt fp z3.heap) ++ pinsAt fp1 y3.heap) ρ G' y' → N1 G' → ∃ m, m < k ∧ Z1 m y' := by
            intro y' G' K nx
            obtain ⟨k2, lt2, w2⟩ := hN1 G' nx
            have stay : ∀ b ∈ fp1, ∀ o, y3.heap.get? b = some o → y'.heap.get? b = some o ∧ G' b = none := fun b hb o e =>
              have p := K.pin (b, o) (List.mem_append_right _ (List.mem_append_right _ (mem_pinsAt hb e)))
              ⟨p.1, p.2.1⟩
            refine ⟨k2, lt2, j + 1, G', K.unpinned.weak (by rw [← hw10, wipe_length]) (fun i v e => by rw [← hw10] at e; exact (wipe_some e).1), T1.keep _ _ _ st9 fun b hb o e => (stay b hb o e).1, fun b hb => ?_, w2⟩
            obtain ⟨o, e, _⟩ := T1.obj _ _ st9 b hb
            exact (stay b hb o e).2
          have b2 := pk.run _ y4 ρ G10 _ I10 q10
          refine thnF b2 fun _ y5 ⟨ky, G11, I11, r11, q11⟩ => ?_
          have b3 := px.run _ y5 ρ G11 _ I11 q11
          refine thnF b3 fun _ y6 ⟨vy, G12, I12, r12, kvs, k0, ek, hD12, hz12, nx⟩ => ?_
          subst ek
          have b4 := d_dictSet (E := fun _ _ => False) (Q := fun _ y' => ∃ m, m < k ∧ Z1 m y') I12 hD12 hz12 r11 r12 fun y7 I13 => back I13 nx
          exact thnF b4 fun _ _ z => z
      exact startIn loop1 (T1.self X.A 0 _ _ _ st6 loop1)
  exact codeAny_compStart_dict loop (T.self X.A 0 _ _ _ stC loop)
end
end Two

set_option Elab.async false
set_option linter.all false
set_option maxRecDepth 100000
set_option maxHeartbeats 4000000
namespace Two
open PySem PySem.Spec PyProof.Rows L2
section
variable {X : Cx}
theorem pe_dc2 {kx vx t0 i0 t1 i1 : Expr} {sc : Scope} {ps : Pos} {own : List (Str × Nat)} {vs1 : List Nat} {wi wi1 : TI} {g g1 : TG} {tk tv : TE}
    (hc : X.calm = true) (hN : X.N.Nodup) (hi : PI X t0 i0 wi) (ok : BlkOk X.N X.env.scope sc own) (hv : ∀ i ∈ vs1, i ∈ own.map (·.2))
    (hg : ∀ s H C cl fp, PG (cxB X s H sc C cl fp) t0 g) (hi1 : ∀ s H C cl fp, PI (cxB X s H sc C cl fp) t1 i1 wi1) (hg1 : ∀ s H C cl fp, PG (cxB X s H sc C cl fp) t1 g1)
    (hk : ∀ s H C cl fp, PE (cxB X s H sc C cl fp) kx tk) (hx : ∀ s H C cl fp, PE (cxB X s H sc C cl fp) vx tv)
    (hs : ∀ x, foldedSetIterable i0 X.env x = pure x := by intro _; rfl) (hs1 : ∀ en x, foldedSetIterable i1 en x = pure x := by intro _ _; rfl) :
    PE X (dc2 kx vx t0 i0 t1 i1 sc ps) (tDc2 wi g wi1 g1 tk tv (own.map (·.2)) vs1) := by
  refine ⟨fun pins s σ H Q I h => ?_⟩
  rw [arm_eval_DictComp]
  refine dc2_core hc hN I hi ok hv hg hi1 hg1 hk hx hs hs1 h fun D C z m G K q hn f => ⟨m, hn, fun h2 sb => ?_⟩
  exact ⟨.ref D, G, K.turned (t' := z.toks) (fun b o hb e => (sb.2 b hb).trans e) f.1 f.2.1 f.2.2.2.1 f.2.2.2.2.1 f.2.2.2.2.2, rfl, q⟩

theorem ps_setDc2 {i : Nat} {y : Str} {py : Pos} {kx vx t0 i0 t1 i1 : Expr} {sc : Scope} {ps sp : Pos} {own : List (Str × Nat)} {vs1 : List Nat} {wi wi1 : TI} {g g1 : TG} {tk tv : TE}
    (hc : X.calm = true) (hN : X.N.Nodup) (hy : X.N[i]? = some y) (hyl : X.env.scope.names.lookup y = some .local)
    (sw : swapsWith (dc2 kx vx t0 i0 t1 i1 sc ps) (some (.Name y py)) sp.line X.env = pure true)
    (hi : PI X t0 i0 wi) (ok : BlkOk X.N X.env.scope sc own) (hv : ∀ i ∈ vs1, i ∈ own.map (·.2))
    (hg : ∀ s H C cl fp, PG (cxB X s H sc C cl fp) t0 g) (hi1 : ∀ s H C cl fp, PI (cxB X s H sc C cl fp) t1 i1 wi1) (hg1 : ∀ s H C cl fp, PG (cxB X s H sc C cl fp) t1 g1)
    (hk : ∀ s H C cl fp, PE (cxB X s H sc C cl fp) kx tk) (hx : ∀ s H C cl fp, PE (cxB X s H sc C cl fp) vx tv)
    (hs : ∀ x, foldedSetIterable i0 X.env x = pure x := by intro _; rfl) (hs1 : ∀ en x, foldedSetIterable i1 en x = pure x := by intro _ _; rfl) :
    PS X (.Assign [.Name y py] (dc2 kx vx t0 i0 t1 i1 sc ps) sp) (tAsg (tDc2 wi g wi1 g1 tk tv (own.map (·.2)) vs1) (gName i)) := by
  refine ⟨fun pins s σ H D I h => ?_⟩
  rw [exec_Assign_Name_used _ _ _ _ sw]
  refine wpAny_bind (wpAny_standAt (wpAny_bind ?_))
  show wpAny _ X.A (do let _ ← comprehension (dc2 kx vx t0 i0 t1 i1 sc ps) sc X.env (firstIterPos [⟨t0, i0, [], 0⟩, ⟨t1, i1, [], 0⟩] ps) newDict false (eval i0 X.env) (some (assign (.Name y py) X.env))) _ _ s
  have h' : tDc2 wi g wi1 g1 tk tv (own.map (·.2)) vs1 σ H (fun x G => gName i x σ G D.nx) := h
  have fin : ∀ L C z m G, Inv X pins σ G z → gName i (V.ref L) σ G D.nx → z.heap.Ns C m → FpOk X pins G C →
      compPost (model X.prog X.w) X.A X.xe (some (assign (.Name y py) X.env)) (fun _ s' => SP X pins D .next s') (.ref L) C (.ok .next) z := by
    intro L C z m G K q hn f
    show wpAny _ _ (assign (.Name y py) X.env (.ref L)) _ _ _
    refine wpAny_assign_Name (store_ok2 (v := V.ref L) K hN hy (.inl hyl) rfl (fun s2 I2 ⟨a, sb, ha⟩ => ?_) (.inr hyl))
    have ne : C ≠ a := ha.elim (fun q => by rw [q]; exact f.2.1) fun q e => f.2.2.2.2.1 y a q e.symm
    exact ⟨m, hn.sameBut sb ne, fun h3 sb3 => ⟨_, G, I2.turned (t' := s2.toks) (fun b o hb e => (sb3.2 b hb).trans e) f.1 f.2.1 f.2.2.2.1 f.2.2.2.2.1 f.2.2.2.2.2, q⟩⟩
  exact wpAny_bind (thn (dc2_core (Qf := fun _ s' => SP X pins D .next s') hc hN I hi ok hv hg hi1 hg1 hk hx hs hs1 h' fin) fun _ s' hq => wpAny_pure (wpAny_pure hq))
theorem swD {kx vx t0 i0 t1 i1 : Expr} {sc : Scope} {ps py : Pos} {y : Str} {l : Nat} {env : Env} (hk : env.scope.kind = .function) (hy : env.scope.names.lookup y = some .local) (hl : (py.line == ps.line) = true)
    (ha : (sc.names.any fun (n, k) => n == y && (k == .local || k == .cell)) = false) : swapsWith (dc2 kx vx t0 i0 t1 i1 sc ps) (some (.Name y py)) l env = pure true := by
  have k1 : env.kindOf y = some .local := hy
  have k2 : env.blockKind = .function := by unfold Env.blockKind; rw [hk]; rfl
  unfold swapsWith
  simp only [k2, k1, ha, Expr.pos, hl]
  rfl

/-! ### any over data -/
def rAnyD (K : PySem.W.Frag) : List V → Hp → VK → Prop := fun vs H Q => ∃ (a : Addr) (ds : List PyData), vs = [V.ref a] ∧ Dp K H (.ref a) (.list ds) ∧ PyData.plainAll ds = true ∧ (∀ d ∈ ds, d.fits63) ∧ Q (.bl (ds.any PyData.truthy)) H
theorem cr_anyD (hc : X.calm = true) : CallR X (.builtin "any") (rAnyD X.K) := by
  intro pins s σ H vs us Q I r h
  obtain ⟨a, ds, rfl, hd, hp, hf, q⟩ := h
  rw [Vals.ref1 r]
  obtain ⟨as, rr⟩ := Dp.reads I _ _ _ hd rfl
  cases rr with
  | list h1 h2 h3 h4 =>
    refine PySem.W.any_list_data (I.ok.hd hc) ⟨_, h1, h2, _, h3⟩ h4 hp hf fun h' tk hk => ?_
    exact ⟨.bl _, H, I.kept hk, rfl, q⟩

/-! ### {e for x in xs} of ints -/
/-- over the new set D -/
def oneS (w : World) (J : It) (g : TG) (te : TE) (vs : List Nat) (D : Addr) (σ : L2.St) (Qd : Hp → Prop) (G : Hp) : Prop :=
  ∃ W : Nat → Nat → Hp → Prop, (∃ m, W 0 m G) ∧ ∀ i m G1, W i m G1 →
    (J.stop i G1 ∧ Qd G1) ∨ (J.go i G1 ∧ ∃ Nx : Hp → Prop, (∀ G2, Nx G2 → ∃ m2, m2 < m ∧ W (i + 1) m2 G2) ∧
      ∀ x G2, J.yld i G1 x G2 → g x (wipe σ vs) G2 fun σ2 G3 => wipe σ2 vs = wipe σ vs ∧
        te σ2 G3 fun y G4 => ∃ (k : Int) (S : Int → Bool) (n : Nat), y = .int k ∧ G4 D = some (SetO w D S n) ∧ n + 1 < scanBound ∧
          Nx (upd G4 D (SetO w D (fun j => S j || decide (j = k)) (if S k = true then n else n + 1))))
def tScI (w : World) (wi : TI) (g : TG) (te : TE) (vs : List Nat) : TE := fun σ H Q =>
  wi σ H fun J H1 => ∀ D, H1 D = none → oneS w J g te vs D σ (Q (.ref D)) (upd H1 D (SetO w D (fun _ => false) 0))

theorem pe_scI {e0 t0 i0 : Expr} {sc : Scope} {ps : Pos} {own : List (Str × Nat)} {wi : TI} {g : TG} {te : TE}
    (hc : X.calm = true) (hN : X.N.Nodup) (hi : PI X t0 i0 wi) (ok : BlkOk X.N X.env.scope sc own)
    (hg : ∀ s H C cl fp, PG (cxB X s H sc C cl fp) t0 g) (he : ∀ s H C cl fp, PE (cxB X s H sc C cl fp) e0 te)
    (hs : ∀ x, foldedSetIterable i0 X.env x = pure x := by intro _; rfl) :
    PE X (.SetComp e0 [⟨t0, i0, [], 0⟩] sc ps) (tScI X.w wi g te (own.map (·.2))) := by
  refine ⟨fun pins s σ H Q I h => ?_⟩
  rw [PpSet.eval_SetComp]
  have free : ∀ y ∈ sc.names, y.2 = .free → ∃ c, X.env.cells.lookup y.1 = some c := fun y hy e =>
    (ok.free y hy e).elim (fun k => I.ok.has _ (.inl k)) fun k => I.ok.has _ (.inr k)
  refine wpAny_comprehension_free (use := none) rfl hs (closure_ok free) ok.kind (fun y hy e => by rw [ok.uniq y hy, e])
    (thn (hi.run pins s σ H _ I h) fun _ _ h1 => thn h1 fun _ sA hA => ?_)
  obtain ⟨it, fp, tn, J, HA, rfl, IA, T, stA, fpA, q⟩ := hA
  refine PpSet.newSet_ok (newEnv_comp ?_)
  obtain ⟨D, hD⟩ : ∃ D, D = sA.heap.objs.size := ⟨_, rfl⟩
  have freshD : HA D = none := IA.hok.fresh (Nat.le_of_eq hD.symm)
  obtain ⟨W, ⟨m0, w0⟩, turn⟩ := q D freshD
  obtain ⟨ob, hob⟩ : ∃ ob : Obj, ob = { cls := .type "set", dict := none, data := .set #[] 0 (.fresh 0 0 (!X.w.params.followText "set-order")) } := ⟨_, rfl⟩
  obtain ⟨sB, hB⟩ : ∃ z : Shared, z = { sA with heap := sA.heap.push ob } := ⟨_, rfl⟩
  have heapB : sB.heap = sA.heap.push ob := by rw [hB]
  have IB : Inv X pins σ (upd HA D (SetO X.w D (fun _ => false) 0)) sB := by
    rw [hB]
    refine IA.laid (t' := sA.toks) (fun b o e => Heap.get?_push_of_some _ e) (Nat.le_of_eq hD.symm) (setO_new ?_)
    rw [hD, hob]
    exact setR_fresh X.w
  have keepB : ∀ b o, sA.heap.get? b = some o → sB.heap.get? b = some o := fun b o e => by rw [heapB]; exact Heap.get?_push_of_some _ e
  have small : ∀ b ∈ fp, b < sA.heap.objs.size := fun b hb => let ⟨_, e, _⟩ := T.obj _ _ stA b hb; Heap.lt_size e
  have fpB : ∀ b ∈ fp, FpOk X pins (upd HA D (SetO X.w D (fun _ => false) 0)) b ∧ b < sB.heap.objs.size := fun b hb =>
    have lt := small b hb
    ⟨⟨by rw [upd_ne (by rw [hD]; exact Nat.ne_of_lt lt)]; exact (fpA b hb).1, (fpA b hb).2⟩, by rw [heapB, Heap.size_push]; exact Nat.lt_succ_of_lt lt⟩
  have stB : tn 0 sB.heap := T.keep _ _ _ stA fun b _ o e => keepB b o e
  have IC := block_start IB ok hN fpB
  obtain ⟨cl, hcl⟩ : ∃ cl, cl = cellsFrom (sB.heap.objs.size + 1) sc.names (cloFrom X.env.cells sc.names []) := ⟨_, rfl⟩
  rw [← hcl] at IC
  have pg := hg sB (upd HA D (SetO X.w D (fun _ => false) 0)) sB.heap.objs.size cl fp
  have pe := he sB (upd HA D (SetO X.w D (fun _ => false) 0)) sB.heap.objs.size cl fp
  have noneB : ∀ b ∈ fp, (upd HA D (SetO X.w D (fun _ => false) 0)) b = none := fun b hb => (fpB b hb).1.1
  have locC : (compEnvC sc cl sB.heap.objs.size X.env).locals = sB.heap.objs.size := rfl
  unfold cxB at pg pe
  suffices goal : codeAny (model X.prog X.w) X.A (.compStart (.SetComp e0 [⟨t0, i0, [], 0⟩] sc ps) 0 (.ref it) (.ref D) (compEnvC sc cl sB.heap.objs.size X.env))
      (compPost (model X.prog X.w) X.A X.xe none (EP X pins σ Q) (.ref D) sB.heap.objs.size) { sB with heap := pushCells (sB.heap.push { cls := .type "dict", data := .dict #[] }) sc.names } by
    subst hcl hB hD hob
    exact goal
  obtain ⟨sC, hC⟩ : ∃ z : Shared, z = { sB with heap := pushCells (sB.heap.push { cls := .type "dict", data := .dict #[] }) sc.names } := ⟨_, rfl⟩
  rw [← hC] at IC ⊢
  generalize hce : compEnvC sc cl sB.heap.objs.size X.env = ce at IC pg pe locC ⊢
  generalize hH : upd HA D (SetO X.w D (fun _ => false) 0) = HB at IB IC pg pe w0 noneB fpB
  have stC : tn 0 sC.heap := T.keep _ _ _ stB fun b _ o e => by rw [hC]; exact pushCells_keeps _ _ _ _ (Heap.get?_push_of_some _ e)
  have fpY : ∀ {τ : L2.St} {G : Hp} {z : Shared}, Inv (X.blk sB HB sc ce fp) [] τ G z → (∀ b ∈ fp, G b = none) → ∀ b ∈ fp, FpOk (X.blk sB HB sc ce fp) [] G b :=
    fun {τ G z} K hn b hb => ⟨hn b hb, (K.ok.exf b hb).1, K.ok.exfs b hb, .inl hb, fun x c e => (K.ok.exf b hb).2 x c e, fun p hp => absurd (show p ∈ ([] : List (Addr × Obj)) ++ [] from hp) (by simp)⟩
  obtain ⟨base, hbase⟩ : ∃ b : L2.St, b = wipe σ (own.map (·.2)) := ⟨_, rfl⟩
  let Z : Nat → Shared → Prop := fun n z => ∃ i G, Inv (X.blk sB HB sc ce fp) [] base G z ∧ tn i z.heap ∧ (∀ b ∈ fp, G b = none) ∧ W i n G
  have loop : codeAny (model X.prog X.w) X.A (.compLoop (.SetComp e0 [⟨t0, i0, [], 0⟩] sc ps) 0 (.ref it) (.ref D) ce) (compPost (model X.prog X.w) X.A X.xe none (EP X pins σ Q) (.ref D) sB.heap.objs.size) sC := by
    refine PpSet.compLoopS_any Z ?_ m0 ⟨0, HB, by rw [hbase]; exact IC, stC, noneB, w0⟩
    rintro n z ⟨i, G, Iz, stz, nz, wz⟩
    rcases turn i n G wz with ⟨stop, qq⟩ | ⟨go, Nx, hNx, step⟩
    · refine thnF (T.done (X.blk sB HB sc ce fp) rfl rfl rfl hc i [] z base G (fun _ _ => False) Iz (fpY Iz nz) stz stop) fun r z2 ⟨hr, I2⟩ => ?_
      subst hr
      have I3 : Inv X pins σ G z2 := IB.call' (ch := fp) I2.os I2.base I2.hok I2.bare fun b hb =>
        have f := (fpB b hb).1.2
        ⟨f.2.2.1, f.1, f.2.2.2.1, f.2.2.2.2⟩
      have nC : G sB.heap.objs.size = none := by have k : G ce.locals = none := I2.free; rwa [locC] at k
      obtain ⟨m, hn, _⟩ := I2.loc
      have hn : z2.heap.Ns ce.locals m := hn
      rw [locC] at hn
      have f := IB.fpOk (H' := G) (Nat.le_refl _) nC
      exact ⟨m, hn, fun h2 sb => ⟨.ref D, G, I3.turned (t' := z2.toks) (fun b o hb e => (sb.2 b hb).trans e) f.1 f.2.1 f.2.2.2.1 f.2.2.2.2.1 f.2.2.2.2.2, rfl, qq⟩⟩
    · refine thnF (T.item (X.blk sB HB sc ce fp) rfl rfl rfl hc i [] z base G (fun _ _ => False) Iz (fpY Iz nz) stz go) fun r z2 ⟨u, hr, h2⟩ => ?_
      subst hr
      refine thnF h2 fun _ z3 ⟨x, G3, I3, r3, y3, st3, n3⟩ => ?_
      have P3 := I3.pinned (fpY I3 n3) (T.obj _ _ st3)
      rw [hbase] at P3
      refine thnF (pg.run _ z3 _ G3 x u _ P3 r3 (step x G3 y3)) fun _ z4 ⟨τ, G4, I4, hw4, q4⟩ => ?_
      refine thnF ((pts_nil (X := X.blk sB HB sc ce fp)).run _ z4 τ G4 (fun b G' => b = true ∧ G' = G4) I4 ⟨rfl, rfl⟩) fun b z5 ⟨G5, I5, hb, e5⟩ => ?_
      subst hb e5
      simp only [if_true]
      refine thnF (pe.run _ z5 τ G5 _ I5 q4) fun _ z6 ⟨vy, G6, I6, r6, k, S, cnt, ek, hD6, room, nx⟩ => ?_
      subst ek
      obtain ⟨tk, rfl⟩ := r6
      refine setR_add (setO_get (X := X.blk sB HB sc ce fp) I6 hD6) room fun h' sb new => ?_
      have he' : ∃ u, h'.get? D = some u := let ⟨o, _, _, _, ho, _⟩ := new; ⟨o, ho⟩
      have I7 := I6.write (e := D) (t' := z6.toks + 1) (by rw [hD6]; trivial) (.inl rfl) (fun b u hb hu => (sb.2 b hb).trans hu) he' (setO_new new)
      obtain ⟨m2, lt2, w2⟩ := hNx _ nx
      have stay : ∀ b ∈ fp, ∀ o, z3.heap.get? b = some o → h'.get? b = some o ∧ (upd G6 D (SetO X.w D (fun j => S j || decide (j = k)) (if S k = true then cnt else cnt + 1))) b = none := fun b hb o e =>
        have k := I7.pin (b, o) (List.mem_append_right _ (List.mem_append_right _ (mem_pinsAt hb e)))
        ⟨k.1, k.2.1⟩
      refine ⟨m2, lt2, i + 1, _, (I7.unpinned (pins := [])).weak (by rw [hbase, ← hw4, wipe_length]) (fun j v e => ?_), T.keep _ _ _ st3 fun b hb o e => (stay b hb o e).1, fun b hb => ?_, w2⟩
      · rw [hbase, ← hw4] at e
        exact (wipe_some e).1
      · obtain ⟨o, e, _⟩ := T.obj _ _ st3 b hb
        exact (stay b hb o e).2
  exact PpSet.codeAny_compStart_set loop (T.self X.A 0 _ _ _ stC loop)

/-! ### len of a set of ints -/
def rLenS (w : World) : List V → Hp → VK → Prop := fun vs H Q => ∃ (a : Addr) (S : Int → Bool) (n : Nat), vs = [V.ref a] ∧ H a = some (SetO w a S n) ∧ Q (.int (n : Int)) H
theorem cr_lenS : CallR X (.builtin "len") (rLenS X.w) := by
  intro pins s σ H vs us Q I r h
  obtain ⟨a, S, n, rfl, ha, q⟩ := h
  rw [Vals.ref1 r]
  obtain ⟨o, es, ep, t, ho, hex, hd, _, _, _, hb, hf, hn, _⟩ := setO_get I ha
  refine PySem.call_len_set ho hex hd hf (by rw [hn]; unfold scanBound at hb; omega) ⟨.int (n : Int), H, I.tok _, ⟨_, by rw [hn]⟩, q⟩
end
end Two

set_option Elab.async false
set_option linter.all false
set_option maxRecDepth 100000
set_option maxHeartbeats 4000000
/-! repr of data, and defs that are called where nothing is being printed. -/
namespace Two
open PySem PySem.Spec PyProof.Rows L2
section
variable {X : Cx}
def rReprD (K : PySem.W.Frag) : List V → Hp → VK → Prop := fun vs H Q => ∃ (a : Addr) (d : PyData), vs = [V.ref a] ∧ Dp K H (.ref a) d ∧
  d.showable = true ∧ d.hasDict = false ∧ d.depth ≤ 32 ∧ d.shown.length ≤ sizeLine ∧ Q (.str d.shown) H
theorem cr_reprD (hg : X.A.guards = some []) (hu : X.A.units + 64 < cLine) : CallR X (.builtin "repr") (rReprD X.K) := by
  intro pins s σ H vs us Q I r h
  obtain ⟨a, d, rfl, hd, hs, hn, hp, hz, q⟩ := h
  rw [Vals.ref1 r]
  obtain ⟨as, rr⟩ := Dp.reads I _ _ _ hd rfl
  exact repr_of_reads' rr hs (fun k => by rw [hn] at k; cases k) hg (by omega) (fun _ _ e => e) (fun h' u tk hk => ⟨.str d.shown, H, I.kept hk, ⟨u, rfl⟩, q⟩) hz
end

/-- a def's promise where nothing is being printed -/
structure FnG (P : Program) (w : World) (K : PySem.W.Frag) (mg : Str → Option Value) (base : Heap) (CX : CXT) (k : Nat) (f : Addr) (fd : FuncData) (ps : List Str) (sp : Sp) : Prop where
  len : ∀ vs H Q E, sp vs H Q E → vs.length = ps.length
  run : ∀ (A : Around) (outer : List Env) (s : Shared) (H : Hp) (args : Args) (us : List Value) (vs : List V) (Q : VK) (E : XK), Room k A → A.guards = some [] →
    Env0 P w K mg base A outer s H → BindsTo s fd args (ps.zip us) → Vals vs us → sp vs H Q E → codeAny (model P w) A (.call (.ref f) args) (CR CX outer P w H s Q E) s

section
variable {P : Program} {w : World} {K : PySem.W.Frag} {mg : Str → Option Value} {base : Heap}
/-- by its body -/
theorem FnG.of {x qual : Str} {st : Stmt} {f : Addr} {fd : FuncData} {N ps : List Str} {k : Nat} {sp : Sp} (F : Fun K x qual st f fd) (S : FnScope N ps (defScope st)) (len : ∀ vs H Q E, sp vs H Q E → vs.length = ps.length)
    (body : ∀ (cdv : Value) (A : Around) (outer : List Env) (s : Shared) (H : Hp) (vs : List V) (Q : VK) (E : XK), Room k (A.deeper (envOfC qual (defScope st) s.heap.objs.size f cdv)) → A.guards = some [] → sp vs H Q E →
      ∃ t, PSs (cxOf CX0 P w K mg base N qual (defScope st) f cdv A outer s H E).nox (defBody st) t ∧ t { nx := fun _ G => Q .non G, rt := Q } (start N vs) H) : FnG P w K mg base CX0 (k + 1) f fd ps sp := by
  obtain ⟨oc, od, kV, doc, pm, an, cdv, ct, osl, rfl, lk, hcd⟩ := F.ex
  refine ⟨len, fun A outer s H args us vs Q E hr hg e0 hb r hsp => ?_⟩
  have hl := len _ _ _ _ hsp
  have KX : K.In s.heap := e0.mod.kin.keeps fun b o e => (e0.bs b o e).1
  have lim : s.heap.NoLimit := e0.mod.nolimit.keeps fun b o e => (e0.bs b o e).1
  have kinds : ∀ y ∈ ps.zip us, (defScope st).names.lookup y.1 = some .local ∨ ((defScope st).names.lookup y.1 = some .cell ∧ ((cellsFrom (s.heap.objs.size + 1) (defScope st).names []).lookup y.1).isSome = true) := by
    rintro ⟨n, v⟩ hy
    exact (S.par n (List.of_mem_zip hy).1).imp id fun q => ⟨q, PySem.W.cellsFrom_some _ _ _ (.inl q)⟩
  refine codeAny_call_function hr.depth (KX _ _ lk) rfl S.co S.gen rfl (PySem.W.codeRec_of KX hcd) (hb _ _ _ _ ?_)
  refine wpAny_newFunctionEnv_cells S.kind kinds fun env he s1 x => ?_
  subst he
  refine ⟨lim.keeps x.toInCall.keep, codeAny_func ?_⟩
  obtain ⟨t, ht, hq⟩ := body cdv A outer s H vs Q E (hr.deeper _) hg hsp
  have I := inv_start (qual := qual) (f := f) (cd := cdv) (E := E) (CX := CX0) S hr.hd e0 hl r x
  refine wpAny_mono (ht.nox.run [] s1 (start N vs) H _ I hq) (fun fl s' hs => ?_) fun e s' hs => hs
  have done : ∀ {τ : L2.St} {G : Hp} {v : V} {u : Value}, Inv (cxOf CX0 P w K mg base N qual (defScope st) f cdv A outer s H E) [] τ G s' → RelV v u → Q v G → CE outer P w H s Q u s' :=
    fun {τ G v u} J rv q => ⟨v, G, J.os, J.bare, J.base, J.hok, rv, q⟩
  match fl, hs with
  | .ret u, hs => exact let ⟨v, τ, G, J, rv, q⟩ := hs; done J rv q
  | .next, hs => exact let ⟨τ, G, J, q⟩ := hs; done (v := V.non) (u := Value.none) J rfl q
  | .brk, hs => exact let ⟨_, _, _, q⟩ := hs; False.elim q
  | .cont, hs => exact let ⟨_, _, _, q⟩ := hs; False.elim q
end

section
variable {X : Cx} {k : Nat} {f : Addr} {fd : FuncData} {ps : List Str} {sp : Sp} {x : Str} {p pos : Pos} {e : Expr} {es : List Expr} {t : TA} {CX : CXT} {E : XK}
/-- such a def called -/
theorem pe_callG (F : FnG X.prog X.w X.K X.mg X.base CX k f fd ps sp) (hr : Room k X.A) (gd : X.A.guards = some []) (hg : Gl X x) (hm : X.mg x = some (.ref f)) (hk : PySem.W.keepIn X.K (.ref f) = true) (hb : Binds X.K fd ps []) (hx : Passes CX X E)
    (ha : PA X (e :: es) t) (hdb : (x == ("__debug__" : Str)) = false := by decide) (he : starEach (e :: es) X.env = (false, eval e X.env) :: starEach es X.env := by rfl) (hpl : (backTo pos (starEach es X.env)).any (·.1) = false := by rfl) :
    PE X (.Call (.Name x p) (e :: es) [] pos) (tCall sp [] E t) := by
  refine ⟨fun pins s σ H Q I h => wpAny_Call_Name_kw (ld_glob I hg hm ?_ hdb)⟩
  refine PySem.W.callWith_K (h₀ := X.base) I.ok.mod.kin hk (thn (ha.run pos pins s σ H _ I h) fun us s1 ⟨vs, H1, I1, r, q⟩ => ⟨I1.kIn, ?_⟩) he hpl
  have hl : (us ++ []).length = ps.length := by rw [← (r.append .nil).length]; exact F.len _ _ _ _ q
  refine wpAny_call (codeAny_mono (F.run X.A X.stack s1 H1 ⟨us, []⟩ (us ++ []) (vs ++ []) Q E hr gd I1.env0 (hb s1 us I1.kIn hl) (r.append .nil) q) fun q s' hq => ?_)
  match q, hq with
  | .error e, hq => exact hx pins σ H1 s1 e s' I1 hq
  | .ok (.ret u), hq => exact I1.after hq
  | .ok .next, hq => exact False.elim hq
  | .ok .brk, hq => exact False.elim hq
  | .ok .cont, hq => exact False.elim hq
end

/-! ### the end -/
theorem script_ho {P : Program} {w : World} {K : PySem.W.Frag} {h : Heap} {a : Addr} {vs : List Value} {ns : List Int} (KX : K.In h) (ha : h.get? a = some { cls := .type "list", data := .seq vs.toArray }) (hi : IntsAre vs ns) (hl : ns.length ≤ sizeLine) :
    ∃ H : Hp, Only H ∧ SqL K H a (ns.map V.int) ∧ HOk P w H h ∧ ∀ b, H b ≠ none → b = a ∧ K.lookup a = none := by
  have lz : (ns.map V.int).length ≤ sizeLine := by rw [List.length_map]; exact hl
  cases hk : K.lookup a with
  | some o =>
    have e := KX a o hk
    rw [ha] at e
    cases e
    exact ⟨fun _ => none, fun _ => .inl rfl, .inr ⟨_, vs.toArray, _, hk, rfl, rfl, rfl, by rw [List.size_toArray, hi.length]; exact hl, by simpa using vals_ints hi⟩, (fun b u z => nomatch z), fun b z => absurd rfl z⟩
  | none =>
    refine ⟨fun b => if b = a then some (.frz { cls := .type "list", data := .seq vs.toArray } (.lst (ns.map V.int))) else none, fun b => ?_, .inl (.inr ⟨_, if_pos rfl⟩), fun b u z => ?_, fun b z => ⟨?_, rfl⟩⟩
    · by_cases hb : b = a
      · exact .inr ⟨_, _, if_pos hb⟩
      · exact .inl (if_neg hb)
    · by_cases hb : b = a
      · subst hb
        cases (if_pos rfl).symm.trans z
        exact ⟨ha, lz, vs, _, vals_ints hi, ha⟩
      · exact nomatch (if_neg hb).symm.trans z
    · exact Decidable.byContradiction fun hb => z (if_neg hb)

theorem lawG {P : Program} {w : World} {K : PySem.W.Frag} {mg mb : Str → Option Value} {k : Nat} {fa a : Addr} {fd : FuncData} {x : Str} {sp : Sp} {z : Shared} {vs : List Value} {ns : List Int}
    (KX : K.In z.heap) (hns : z.heap.Ns mainGlobals mg) (hb : z.heap.Ns builtinsNs mb) (hbb : ∀ x : Str, x ≠ "__name__" → mb x = bootBuiltins x) (hlim : z.heap.NoLimit) (hg : z.gens = #[])
    (ha : z.heap.get? a = some { cls := .type "list", data := .seq vs.toArray }) (hi : IntsAre vs ns) (hl : ns.length ≤ sizeLine) (hr : Room k callerA)
    (F : ∀ base : Heap, K.In base → base.Ns mainGlobals mg → FnG P w K mg base CX0 k fa fd [x] sp) (hbind : ∀ (s : Shared) (u : Value), BindsTo s fd ⟨[u], []⟩ [(x, u)])
    (hsp : ∀ H : Hp, Only H → SqL K H a (ns.map V.int) → sp [.ref a] H (fun v _ => v = .bl true) fun _ _ _ => False) :
    codeAny (model P w) callerA (.call (.ref fa) ⟨[.ref a], []⟩) (fun r y => r = .ok (.ret (.bool true)) ∧ OldK z.heap y.heap ∧ y.os = z.os ∧ AllBare y.gens) z := by
  obtain ⟨H, hO, hS, hok, only⟩ := script_ho (P := P) (w := w) KX ha hi hl
  -- what isn't the script stands in the base
  have keep : ∀ {b : Addr} {o : Obj}, z.heap.get? b = some o → (b ≠ a ∨ K.lookup a ≠ none) → (hidT z.heap H).get? b = some o := fun {b o} e q =>
    hidT_get e (Decidable.byContradiction fun n => have k := only b n; q.elim (fun q => q k.1) fun q => q k.2)
  have ns : ∀ {b : Addr} {m : Str → Option Value}, z.heap.Ns b m → (hidT z.heap H).Ns b m := fun {b m} ⟨o, es, ep, e, d, r⟩ => by
    refine ⟨o, es, ep, keep e (.inl fun q => ?_), d, r⟩
    rw [q, ha] at e
    cases e
    cases d
  have kin : K.In (hidT z.heap H) := fun b o e => keep (KX b o e) (by
    by_cases q : b = a
    · exact .inr fun n => by rw [q, n] at e; cases e
    · exact .inl q)
  have mod : Mod K mg (hidT z.heap H) := ⟨kin, ns hns, ⟨mb, ns hb, hbb⟩, let ⟨mc, h1, h2⟩ := hlim; ⟨mc, ns h1, h2⟩⟩
  have env : Env0 P w K mg (hidT z.heap H) callerA [] z H := ⟨rfl, mod, fun b o e => of_hidT e, Nat.le_of_eq (hidT_size _ _), trivial, (fun b hb => nomatch hb), hok, .of_eq hg⟩
  refine codeAny_mono ((F _ kin (ns hns)).run callerA [] z H ⟨[.ref a], []⟩ [.ref a] [.ref a] _ _ hr rfl env (hbind z (.ref a)) (.cons rfl .nil) (hsp H hO hS)) fun r y h => ?_
  match r, h with
  | .error e, h => exact h.elim
  | .ok .next, h => exact False.elim h
  | .ok .brk, h => exact False.elim h
  | .ok .cont, h => exact False.elim h
  | .ok (.ret u), h =>
    obtain ⟨v, G, os, bare, un, hokG, rv, q⟩ := h
    have q : v = .bl true := q
    subst q
    cases rv
    refine ⟨rfl, OldK.of_keep fun b o e => ?_, os, bare⟩
    cases t : H b with
    | none => exact un.keep b o e t (fun n => nomatch n) (fun n => nomatch n)
    | some u =>
      rcases hO b with n | ⟨ob, xs, n⟩
      · rw [t] at n; cases n
      · have e1 := (hok b _ n).1
        have e2 := (hokG b _ (un.frzs b ob _ n)).1
        rw [e] at e1
        cases e1
        exact e2

/-- the goal that k_head leaves -/
theorem walkG {l : PySem.W.OpenLaw} {n k : Nat} {q : Program} {loose : List Str} {XP : (Str → Option Value) → Heap → Prop} {YP : World → Heap → Prop} {d : DefRec} {K : Params → PySem.W.Frag} {sp : World → Sp} {x : Str}
    (hn : l.most = some n) (hn2 : n ≤ sizeLine) (hdf : d.params.defaults = []) (hr : Room k callerA) (hY : ∀ (w : World) (h : Heap), YP w h → (K w.params).In h)
    (F : ∀ (w : World) (mg : Str → Option Value) (fa : Addr) (h : Heap), (K w.params).In h → h.Ns mainGlobals mg → mg d.name = some (.ref fa) →
      ∃ fd : FuncData, (∀ (s : Shared) (u : Value), BindsTo s fd ⟨[u], []⟩ [(x, u)]) ∧ ∀ base : Heap, (K w.params).In base → base.Ns mainGlobals mg → FnG l.prog w (K w.params) mg base CX0 k fa fd [x] (sp w))
    (hsp : ∀ (w : World) (H : Hp) (a : Addr) (ns : List Int), ns.length ≤ n → Only H → SqL (K w.params) H a (ns.map V.int) → sp w [.ref a] H (fun v _ => v = .bl true) fun _ _ _ => False) :
    PySem.W.WalkO q loose XP YP l.row.toRowW d [] (fun f vs => PySem.call f vs) := by
  refine Att.attach_call hn hdf fun w s0 z mg mb fa o pm cd doc a vs ns G Y ho hd hcd hmg hobj hints hlen hg => ?_
  obtain ⟨fd, hb, hF⟩ := F w mg fa _ (hY w _ Y) G.T.g hmg
  exact lawG (hY w _ Y) G.T.g G.T.b G.T.builtins G.T.nolimit hg hobj hints (Nat.le_trans hlen hn2) hr hF hb fun H hO hS => hsp w H a ns hlen hO hS
end Two

/-! The mathematics of merging lists: plain Lean. -/
set_option autoImplicit false
namespace Mg

/-- x stands behind no first item -/
def clear (rs : List (List Int)) (x : Int) : Bool := rs.all fun r => !(r.tail.contains x)
def heads (rs : List (List Int)) : List Int := rs.filterMap List.head?
def firstFree (rs : List (List Int)) : Option Int := (heads rs).find? (clear rs)
def pull1 (x : Int) (r : List Int) : List Int := if r.head? = some x then r.tail else r
def pull (x : Int) (rs : List (List Int)) : List (List Int) := rs.map (pull1 x)
def st (ls : List (List Int)) : Nat → List Int × List (List Int)
  | 0 => ([], ls)
  | n + 1 => match firstFree (st ls n).2 with
    | none => st ls n
    | some x => ((st ls n).1 ++ [x], pull x (st ls n).2)
theorem st_some {ls : List (List Int)} {n : Nat} {x : Int} (h : firstFree (st ls n).2 = some x) : st ls (n + 1) = ((st ls n).1 ++ [x], pull x (st ls n).2) := by
  show (match firstFree (st ls n).2 with | none => st ls n | some x => ((st ls n).1 ++ [x], pull x (st ls n).2)) = _
  rw [h]
theorem st_none {ls : List (List Int)} {n : Nat} (h : firstFree (st ls n).2 = none) : st ls (n + 1) = st ls n := by
  show (match firstFree (st ls n).2 with | none => st ls n | some x => ((st ls n).1 ++ [x], pull x (st ls n).2)) = _
  rw [h]
theorem st_final {ls : List (List Int)} {n : Nat} (h : firstFree (st ls n).2 = none) : ∀ k, st ls (n + k) = st ls n
  | 0 => rfl
  | k + 1 => by
    have e := st_final h k
    rw [← Nat.add_assoc, st_none (by rw [e]; exact h), e]
theorem final_unique {ls : List (List Int)} {n m : Nat} (h : firstFree (st ls n).2 = none) (h' : firstFree (st ls m).2 = none) : st ls n = st ls m := by
  rcases Nat.le_total n m with q | q
  · obtain ⟨k, rfl⟩ := Nat.exists_eq_add_of_le q
    exact (st_final h k).symm
  · obtain ⟨k, rfl⟩ := Nat.exists_eq_add_of_le q
    exact st_final h' k

theorem mem_heads {rs : List (List Int)} {x : Int} : x ∈ heads rs ↔ ∃ r ∈ rs, r.head? = some x := by
  unfold heads
  simp only [List.mem_filterMap]
theorem firstFree_some {rs : List (List Int)} {x : Int} (h : firstFree rs = some x) : x ∈ heads rs ∧ clear rs x = true :=
  ⟨List.mem_of_find?_eq_some h, List.find?_some h⟩
theorem clear_iff {rs : List (List Int)} {x : Int} : clear rs x = true ↔ ∀ r ∈ rs, x ∉ r.tail := by
  unfold clear
  simp [List.all_eq_true]
theorem firstFree_none {rs : List (List Int)} (h : firstFree rs = none) {x : Int} (hx : x ∈ heads rs) : ∃ r ∈ rs, x ∈ r.tail := by
  have q := List.find?_eq_none.mp h x hx
  refine Decidable.byContradiction fun n => q (clear_iff.mpr fun r hr k => n ⟨r, hr, k⟩)
theorem firstFree_of_empty {rs : List (List Int)} (h : ∀ r ∈ rs, r = []) : firstFree rs = none := by
  have e : heads rs = [] := by
    unfold heads
    refine List.filterMap_eq_nil_iff.mpr fun r hr => ?_
    rw [h r hr]
    rfl
  unfold firstFree
  rw [e]
  rfl

/-! what holds behind every step -/
structure Ok (ls : List (List Int)) (s : List Int × List (List Int)) : Prop where
  len : s.2.length = ls.length
  parts : ∀ (i : Nat) (l r : List Int), ls[i]? = some l → s.2[i]? = some r → l = s.1.filter (fun y => l.contains y) ++ r
  nd : s.1.Nodup
  apart : ∀ y ∈ s.1, ∀ r ∈ s.2, y ∉ r
theorem pull1_cases {x : Int} (r : List Int) : (∃ t, r = x :: t ∧ pull1 x r = t) ∨ (r.head? ≠ some x ∧ pull1 x r = r) := by
  unfold pull1
  by_cases h : r.head? = some x
  · rw [if_pos h]
    cases r with
    | nil => cases h
    | cons a t =>
      have e : a = x := Option.some.inj h
      subst e
      exact .inl ⟨t, rfl, rfl⟩
  · rw [if_neg h]
    exact .inr ⟨h, rfl⟩
theorem not_mem_of {x : Int} {r : List Int} (h : r.head? ≠ some x) (t : x ∉ r.tail) : x ∉ r := by
  cases r with
  | nil => simp
  | cons a r =>
    intro q
    rcases List.mem_cons.mp q with e | e
    · exact h (by rw [e]; rfl)
    · exact t e
theorem pull1_sub {x y : Int} {r : List Int} (h : y ∈ pull1 x r) : y ∈ r := by
  rcases pull1_cases (x := x) r with ⟨t, e, q⟩ | ⟨_, q⟩
  · rw [q] at h
    rw [e]
    exact List.mem_cons_of_mem _ h
  · rw [q] at h
    exact h
theorem Ok.step {ls : List (List Int)} {s : List Int × List (List Int)} {x : Int} (o : Ok ls s) (nls : ∀ l ∈ ls, l.Nodup) (h : firstFree s.2 = some x) : Ok ls (s.1 ++ [x], pull x s.2) := by
  obtain ⟨hx, hc⟩ := firstFree_some h
  have hc := clear_iff.mp hc
  obtain ⟨r0, hr0, h0⟩ := mem_heads.mp hx
  have x0 : x ∈ r0 := List.mem_of_mem_head? h0
  have nx : x ∉ s.1 := fun q => o.apart x q r0 hr0 x0
  refine ⟨by show (pull x s.2).length = _; unfold pull; rw [List.length_map]; exact o.len, fun i l r hl hr => ?_, ?_, fun y hy r hr => ?_⟩
  · have hr : (s.2.map (pull1 x))[i]? = some r := hr
    rw [List.getElem?_map] at hr
    obtain ⟨r1, h1, e1⟩ := Option.map_eq_some_iff.mp hr
    have p := o.parts i l r1 hl h1
    have t1 := hc r1 (List.mem_of_getElem? h1)
    show l = (s.1 ++ [x]).filter (fun y => l.contains y) ++ r
    rw [List.filter_append]
    rcases pull1_cases (x := x) r1 with ⟨t, e, q⟩ | ⟨n, q⟩
    · have xl : l.contains x = true := by
        rw [List.contains_iff_mem, p, e]
        simp
      have e2 : List.filter (fun y => l.contains y) [x] = [x] := by
        rw [List.filter_cons_of_pos (by exact xl)]
        rfl
      rw [e2, List.append_assoc, ← e1, q]
      rw [e] at p
      exact p
    · have n1 : x ∉ r1 := not_mem_of n t1
      have xl : ¬ l.contains x = true := by
        rw [List.contains_iff_mem, p, List.mem_append]
        rintro (k | k)
        · exact nx (List.mem_filter.mp k).1
        · exact n1 k
      have e2 : List.filter (fun y => l.contains y) [x] = [] := by
        rw [List.filter_cons_of_neg (by exact xl)]
        rfl
      rw [e2, List.append_nil, ← e1, q]
      exact p
  · exact List.nodup_append.mpr ⟨o.nd, by simp, fun a ha b hb => by
      rw [List.mem_singleton.mp hb]
      exact fun e => nx (e ▸ ha)⟩
  · obtain ⟨r1, h1, e1⟩ := List.mem_map.mp (show r ∈ s.2.map (pull1 x) from hr)
    subst e1
    rcases List.mem_append.mp hy with k | k
    · exact fun q => o.apart y k r1 h1 (pull1_sub q)
    · rw [List.mem_singleton.mp k]
      rcases pull1_cases (x := x) r1 with ⟨t, e, q⟩ | ⟨n, q⟩
      · rw [q]
        have := hc r1 h1
        rw [e] at this
        exact this
      · rw [q]
        exact not_mem_of n (hc r1 h1)
theorem ok_st {ls : List (List Int)} (nls : ∀ l ∈ ls, l.Nodup) : ∀ n, Ok ls (st ls n)
  | 0 => ⟨rfl, fun i l r hl hr => by
      have hr : ls[i]? = some r := hr
      rw [hl] at hr
      cases hr
      rfl, List.nodup_nil, fun y hy => nomatch hy⟩
  | n + 1 => by
    have o := ok_st nls n
    cases h : firstFree (st ls n).2 with
    | none => rw [st_none h]; exact o
    | some x => rw [st_some h]; exact o.step nls h

/-- the rests' lengths together -/
def size (rs : List (List Int)) : Nat := (rs.map List.length).sum
theorem pull1_le (x : Int) (r : List Int) : (pull1 x r).length ≤ r.length := by
  rcases pull1_cases (x := x) r with ⟨t, e, q⟩ | ⟨_, q⟩
  · rw [q, e]
    simp
  · rw [q]
    exact Nat.le_refl _
theorem size_pull_le (x : Int) : ∀ rs, size (pull x rs) ≤ size rs
  | [] => Nat.le_refl _
  | r :: rs => by
    have a := pull1_le x r
    have b := size_pull_le x rs
    show (pull1 x r).length + size (pull x rs) ≤ r.length + size rs
    omega
theorem size_pull_lt {x : Int} : ∀ {rs : List (List Int)}, x ∈ heads rs → size (pull x rs) < size rs
  | [], h => nomatch h
  | r :: rs, h => by
    show (pull1 x r).length + size (pull x rs) < r.length + size rs
    have a := pull1_le x r
    have b := size_pull_le x rs
    obtain ⟨r1, h1, e1⟩ := mem_heads.mp h
    rcases List.mem_cons.mp h1 with e | m
    · subst e
      rcases pull1_cases (x := x) r1 with ⟨t, e, q⟩ | ⟨n, _⟩
      · rw [q, e]
        simp only [List.length_cons]
        omega
      · exact absurd e1 n
    · have c := size_pull_lt (mem_heads.mpr ⟨r1, m, e1⟩)
      omega
theorem size_step {rs : List (List Int)} {x : Int} (h : firstFree rs = some x) : size (pull x rs) < size rs := size_pull_lt (firstFree_some h).1

/-- at the end each list stands in the order -/
theorem end_inside {ls : List (List Int)} {s : List Int × List (List Int)} (o : Ok ls s) (e : ∀ r ∈ s.2, r = []) {l : List Int} (hl : l ∈ ls) : s.1.filter (fun y => l.contains y) = l := by
  obtain ⟨i, hi⟩ := List.getElem?_of_mem hl
  have hlt : i < s.2.length := by rw [o.len]; exact (List.getElem?_eq_some_iff.mp hi).1
  have p := o.parts i l s.2[i] hi (List.getElem?_eq_getElem hlt)
  rw [e _ (List.getElem_mem hlt), List.append_nil] at p
  exact p.symm
/-- every item of the order is of the lists -/
theorem st_items (ls : List (List Int)) : ∀ n, (∀ y ∈ (st ls n).1, ∃ l ∈ ls, y ∈ l) ∧ (∀ r ∈ (st ls n).2, ∀ y ∈ r, ∃ l ∈ ls, y ∈ l)
  | 0 => ⟨fun y h => (nomatch h), fun r hr y hy => ⟨r, hr, hy⟩⟩
  | n + 1 => by
    obtain ⟨a, b⟩ := st_items ls n
    cases h : firstFree (st ls n).2 with
    | none => rw [st_none h]; exact ⟨a, b⟩
    | some x =>
      rw [st_some h]
      obtain ⟨r0, hr0, h0⟩ := mem_heads.mp (firstFree_some h).1
      refine ⟨fun y hy => ?_, fun r hr y hy => ?_⟩
      · rcases List.mem_append.mp hy with k | k
        · exact a y k
        · rw [List.mem_singleton.mp k]
          exact b r0 hr0 x (List.mem_of_mem_head? h0)
      · obtain ⟨r1, h1, e1⟩ := List.mem_map.mp (show r ∈ (st ls n).2.map (pull1 x) from hr)
        subst e1
        exact b r1 h1 y (pull1_sub hy)

/-! ### rings -/
def Ahead (l : List Int) (a b : Int) : Prop := ∃ u v, l = u ++ a :: v ∧ b ∈ v
structure IsRing (ls : List (List Int)) (ring : List (Int × Nat)) : Prop where
  two : 2 ≤ ring.length
  nd : (ring.map (·.1)).Nodup
  link : ∀ k, k < ring.length → ∃ a i b j l, ring[k]? = some (a, i) ∧ ring[(k + 1) % ring.length]? = some (b, j) ∧ ls[i]? = some l ∧ Ahead l a b

/-- a way from x: each tuple's item is the first of the rest beside it, in which the item ahead of it in the way stands behind -/
def Way (rs : List (List Int)) (x : Int) (way : List (Int × Nat)) : Prop :=
  ∀ k, k < way.length → ∃ a i y t, way[k]? = some (a, i) ∧ (x :: way.map (·.1))[k]? = some y ∧ rs[i]? = some (a :: t) ∧ y ∈ t
theorem Way.nil {rs : List (List Int)} {x : Int} : Way rs x [] := fun k h => nomatch h
theorem Way.snoc {rs : List (List Int)} {x y a : Int} {i : Nat} {t : List Int} {way : List (Int × Nat)} (w : Way rs x way) (hy : (x :: way.map (·.1))[way.length]? = some y) (hr : rs[i]? = some (a :: t)) (ht : y ∈ t) : Way rs x (way ++ [(a, i)]) := by
  intro k hk
  rw [List.length_append, List.length_singleton] at hk
  by_cases h : k < way.length
  · obtain ⟨a', i', y', t', h1, h2, h3, h4⟩ := w k h
    refine ⟨a', i', y', t', by rw [List.getElem?_append_left h]; exact h1, ?_, h3, h4⟩
    rw [List.map_append, ← List.cons_append, List.getElem?_append_left (by simp; omega)]
    exact h2
  · have e : k = way.length := by omega
    subst e
    refine ⟨a, i, y, t, by simp, ?_, hr, ht⟩
    rw [List.map_append, ← List.cons_append, List.getElem?_append_left (by simp)]
    exact hy
theorem way_items_last {x a : Int} {i : Nat} (way : List (Int × Nat)) : (x :: (way ++ [(a, i)]).map (·.1))[(way ++ [(a, i)]).length]? = some a := by
  simp
end Mg

set_option autoImplicit false
namespace Mg
theorem way_item {x : Int} {way : List (Int × Nat)} {k : Nat} {a : Int} {i : Nat} (h : way[k]? = some (a, i)) : (x :: way.map (·.1))[k + 1]? = some a := by
  rw [List.getElem?_cons_succ, List.getElem?_map, h]
  rfl
theorem ring_at {way : List (Int × Nat)} {p k : Nat} (hp : p ≤ way.length) (hk : k < way.length - p) : (way.drop p).reverse[k]? = way[way.length - 1 - k]? := by
  rw [List.getElem?_reverse (by rw [List.length_drop]; exact hk), List.length_drop, List.getElem?_drop]
  congr 1
  omega
theorem nodup_rev {l : List Int} (h : l.Nodup) : l.reverse.Nodup := by
  have q : l.Pairwise (fun a b => b ≠ a) := List.Pairwise.imp (fun k e => k e.symm) h
  exact List.pairwise_reverse.mpr q
theorem ring_of_way {ls rs : List (List Int)} {x : Int} {way : List (Int × Nat)} {p : Nat} (w : Way rs x way) (suf : ∀ (i : Nat) (r : List Int), rs[i]? = some r → ∃ u, ls[i]? = some (u ++ r)) (nd : ∀ r ∈ rs, r.Nodup)
    (keys : ((x :: way.map (·.1)).take way.length).Nodup) (hp : p < way.length) (hx : (x :: way.map (·.1))[p]? = (x :: way.map (·.1))[way.length]?) : IsRing ls (way.drop p).reverse := by
  generalize hm : way.length = m at *
  have len : ((way.drop p).reverse).length = m - p := by rw [List.length_reverse, List.length_drop, hm]
  have two : 2 ≤ m - p := by
    refine Decidable.byContradiction fun n => ?_
    have e : m = p + 1 := by omega
    obtain ⟨a, i, y, t, h1, h2, h3, h4⟩ := w p (by omega)
    have h5 := way_item (x := x) h1
    rw [hx, e, h5] at h2
    cases h2
    have q := nd _ (List.mem_of_getElem? h3)
    exact (List.nodup_cons.mp q).1 h4
  refine ⟨by rw [len]; exact two, ?_, fun k hk => ?_⟩
  · rw [List.map_reverse]
    refine nodup_rev ?_
    rw [List.map_drop]
    have hl : (x :: way.map (·.1)).length = m + 1 := by simp [hm]
    obtain ⟨z, hz⟩ : ∃ z, (x :: way.map (·.1))[p]? = some z := ⟨_, List.getElem?_eq_getElem (by omega)⟩
    have hz2 := hx.symm.trans hz
    have e1 : (way.map (·.1)).drop p = (x :: way.map (·.1)).drop (p + 1) := rfl
    rw [e1]
    generalize x :: way.map (·.1) = xs at *
    have e2 : xs.drop (p + 1) = (xs.take m).drop (p + 1) ++ [z] := by
      have t : xs = xs.take m ++ [z] := by
        conv => lhs; rw [← List.take_append_drop m xs]
        congr 1
        obtain ⟨hlt, hv⟩ := List.getElem?_eq_some_iff.mp hz2
        rw [List.drop_eq_getElem_cons hlt, hv, List.drop_eq_nil_of_le (by omega)]
      have q := congrArg (List.drop (p + 1)) t
      rw [List.drop_append_of_le_length (by rw [List.length_take]; omega)] at q
      exact q
    rw [e2]
    refine List.nodup_append.mpr ⟨keys.sublist (List.drop_sublist _ _), by simp, fun a ha b hb => ?_⟩
    rw [List.mem_singleton.mp hb]
    rintro rfl
    have q : (xs.take m)[p]? = some a := by rw [List.getElem?_take_of_lt hp]; exact hz
    obtain ⟨hlt, hv⟩ := List.getElem?_eq_some_iff.mp q
    have k2 : (xs.take m).drop p = a :: (xs.take m).drop (p + 1) := by rw [List.drop_eq_getElem_cons hlt, hv]
    have k3 : ((xs.take m).drop p).Nodup := keys.sublist (List.drop_sublist _ _)
    rw [k2] at k3
    exact (List.nodup_cons.mp k3).1 ha
  · rw [len] at hk ⊢
    obtain ⟨a, i, y, t, h1, h2, h3, h4⟩ := w (m - 1 - k) (by omega)
    obtain ⟨u, hu⟩ := suf i _ h3
    have at0 : (way.drop p).reverse[k]? = some (a, i) := by rw [ring_at (by omega) (by omega), hm]; exact h1
    by_cases last : k + 1 < m - p
    · obtain ⟨b, j, y2, t2, g1, g2, g3, g4⟩ := w (m - 1 - (k + 1)) (by omega)
      have g5 := way_item (x := x) g1
      have e : m - 1 - (k + 1) + 1 = m - 1 - k := by omega
      rw [e, h2] at g5
      cases g5
      refine ⟨a, i, y, j, u ++ a :: t, at0, ?_, hu, ⟨u, t, rfl, h4⟩⟩
      rw [Nat.mod_eq_of_lt last, ring_at (by omega) (by omega), hm]
      exact g1
    · have e : k + 1 = m - p := by omega
      obtain ⟨b, j, y2, t2, g1, g2, g3, g4⟩ := w (m - 1) (by omega)
      have g5 := way_item (x := x) g1
      have e2 : m - 1 + 1 = m := by omega
      rw [e2, ← hx] at g5
      have e3 : m - 1 - k = p := by omega
      rw [e3, g5] at h2
      have eb : b = y := Option.some.inj h2
      subst eb
      refine ⟨a, i, b, j, u ++ a :: t, at0, ?_, hu, ⟨u, t, rfl, h4⟩⟩
      rw [e, Nat.mod_self, ring_at (by omega) (by omega), hm]
      exact g1

/-- the rests are ends of the lists -/
theorem Ok.suf {ls : List (List Int)} {s : List Int × List (List Int)} (o : Ok ls s) (i : Nat) (r : List Int) (h : s.2[i]? = some r) : ∃ u, ls[i]? = some (u ++ r) := by
  have lt : i < ls.length := by rw [← o.len]; exact (List.getElem?_eq_some_iff.mp h).1
  have q := o.parts i ls[i] r (List.getElem?_eq_getElem lt) h
  exact ⟨_, by rw [List.getElem?_eq_getElem lt]; exact congrArg some q⟩
theorem Ok.nodups {ls : List (List Int)} {s : List Int × List (List Int)} (o : Ok ls s) (nls : ∀ l ∈ ls, l.Nodup) : ∀ r ∈ s.2, r.Nodup := by
  intro r hr
  obtain ⟨i, hi⟩ := List.getElem?_of_mem hr
  obtain ⟨u, hu⟩ := o.suf i r hi
  exact (nls _ (List.mem_of_getElem? hu)).sublist (List.sublist_append_right _ _)

theorem nodup_at : ∀ {l : List Int} {i j : Nat} (nd : l.Nodup) (hi : i < l.length) (hj : j < l.length), l[i] = l[j] → i = j
  | a :: l, 0, 0, _, _, _, _ => rfl
  | a :: l, 0, j + 1, nd, _, hj, e => absurd (show a ∈ l from (show a = l[j]'(Nat.lt_of_succ_lt_succ hj) from e) ▸ List.getElem_mem _) (List.nodup_cons.mp nd).1
  | a :: l, i + 1, 0, nd, hi, _, e => absurd (show a ∈ l from (show l[i]'(Nat.lt_of_succ_lt_succ hi) = a from e) ▸ List.getElem_mem _) (List.nodup_cons.mp nd).1
  | a :: l, i + 1, j + 1, nd, hi, hj, e => congrArg (· + 1) (nodup_at (List.nodup_cons.mp nd).2 (Nat.lt_of_succ_lt_succ hi) (Nat.lt_of_succ_lt_succ hj) e)
/-- where an item that stands ahead is found -/
theorem Ahead.at {l : List Int} {a b : Int} (h : Ahead l a b) (nd : l.Nodup) : ∃ i j : Nat, l[i]? = some a ∧ l[j]? = some b ∧ i < j ∧ (∀ m, m < i → l[m]? ≠ some a) ∧ (∀ m, m < j → l[m]? ≠ some b) := by
  obtain ⟨u, v, rfl, hb⟩ := h
  obtain ⟨n, hn⟩ := List.getElem?_of_mem hb
  have ha : (u ++ a :: v)[u.length]? = some a := by simp
  have hb2 : (u ++ a :: v)[u.length + 1 + n]? = some b := by
    rw [List.getElem?_append_right (by omega)]
    have e : u.length + 1 + n - u.length = n + 1 := by omega
    rw [e, List.getElem?_cons_succ]
    exact hn
  have un : ∀ {i j : Nat} {c : Int}, (u ++ a :: v)[i]? = some c → (u ++ a :: v)[j]? = some c → i = j := fun {i j c} h1 h2 => by
    obtain ⟨l1, e1⟩ := List.getElem?_eq_some_iff.mp h1
    obtain ⟨l2, e2⟩ := List.getElem?_eq_some_iff.mp h2
    exact nodup_at nd l1 l2 (e1.trans e2.symm)
  exact ⟨_, _, ha, hb2, by omega, fun m hm k => by have := un k ha; omega, fun m hm k => by have := un k hb2; omega⟩
end Mg

set_option Elab.async false
set_option linter.all false
set_option maxRecDepth 100000
set_option maxHeartbeats 4000000
namespace Pr
open PySem L2 Two
/-! ### the text by places -/
def top (i : Nat) : Stmt := PySem.Challenge.pw_layoutline_k03_invalid_lists.main.body.getD i (.Pass ⟨0, 0, 0, 0⟩)
abbrev sIsInt : Stmt := top 20
abbrev sUnlike : Stmt := top 22
abbrev sMerge : Stmt := top 25
abbrev sShows : Stmt := top 26
abbrev sIsRing : Stmt := top 27
abbrev sCheck : Stmt := top 28
abbrev sIsList : Stmt := top 29
abbrev sTimes : Stmt := top 30
abbrev sFree : Stmt := top 31
abbrev sTake : Stmt := top 32
abbrev sRingOf : Stmt := top 33
abbrev sIsPart : Stmt := top 34
abbrev sAhead : Stmt := top 35

/-- what the module's names hold -/
structure Txt (mg : Str → Option Value) : Prop where
  isinstance : mg "isinstance" = none
  int : mg "int" = none
  bool : mg "bool" = none
  str : mg "str" = none
  list : mg "list" = none
  tuple : mg "tuple" = none
  set : mg "set" = none
  len : mg "len" = none
  all : mg "all" = none
  any : mg "any" = none
  zip : mg "zip" = none
  enum : mg "enumerate" = none
  range : mg "range" = none
  most : ∃ t, mg "MOST_ITEMS" = some (.int 30 t)

/-! ### words about heaps -/
theorem tyx_list {K : PySem.W.Frag} {H : Hp} {a : Addr} {xs : List V} (h : SqL K H a xs) : TyX K H (.ref a) (.type "list") := by
  rcases h with (h | ⟨o, h⟩) | ⟨o, its, n, h, c, _⟩
  · exact .base (.lst h)
  · exact .base (.frz h)
  · exact .kList h c
theorem same_upd {H H' : Hp} {p : Addr} {o : HO} (s : Same H H') (n : H p = none) : Same H (upd H' p o) := fun b u e => by
  rw [upd_ne (ne_of_none e n)]
  exact s b u e
theorem same_new {H : Hp} {p : Addr} {o : HO} (n : H p = none) : Same H (upd H p o) := same_upd (Same.refl H) n
theorem none_of_same {H H' : Hp} (s : Same H H') {p : Addr} (n : H' p = none) : H p = none := s.free n
theorem get_map {α β : Type} {f : α → β} {l : List α} {i : Nat} {y : β} (h : (l.map f)[i]? = some y) : ∃ x, l[i]? = some x ∧ y = f x := by
  rw [List.getElem?_map] at h
  obtain ⟨x, h1, h2⟩ := Option.map_eq_some_iff.mp h
  exact ⟨x, h1, h2.symm⟩
theorem take_snoc {α : Type} : ∀ {l : List α} {i : Nat} {x : α}, l[i]? = some x → l.take (i + 1) = l.take i ++ [x]
  | [], i, x, h => by simp at h
  | a :: l, 0, x, h => by
    have e : a = x := Option.some.inj h
    rw [e]
    rfl
  | a :: l, i + 1, x, h => by
    have q := take_snoc (l := l) (i := i) (x := x) h
    show a :: l.take (i + 1) = a :: l.take i ++ [x]
    rw [q]
    rfl
theorem map_take_snoc {α β : Type} (f : α → β) {l : List α} {i : Nat} {x : α} (h : l[i]? = some x) : (l.take (i + 1)).map f = (l.take i).map f ++ [f x] := by
  rw [take_snoc h, List.map_append]
  rfl

/-- [e for x in xs] whose element is f x and makes nothing that stands in the way -/
theorem lc_pure {K : PySem.W.Frag} {a : Addr} {xs : List V} {te : TE} {vs : List Nat} {σ : L2.St} {H1 : Hp} {D : Addr} {Qd : Hp → Prop} (i : Nat) (f : V → V) (hS : SqL K H1 a xs) (hz : xs.length ≤ sizeLine) (hD : H1 D = none)
    (hw : ∀ x, wipe ((wipe σ vs).set i (some x)) vs = wipe σ vs)
    (step : ∀ (j : Nat) (x : V) (H : Hp) (Q : VK), xs[j]? = some x → Same H1 H → (∀ H', Same H H' → Q (f x) H') → te ((wipe σ vs).set i (some x)) H Q)
    (done : ∀ H, Same H1 H → H D = some (.lst (xs.map f)) → Qd H) :
    ∃ W : Nat → Nat → Hp → Prop, (∃ m, W 0 m (upd H1 D (.lst []))) ∧ ∀ i' m H, W i' m H →
      ((Itl K a).stop i' H ∧ Qd H) ∨ ((Itl K a).go i' H ∧ ∃ Nx : Hp → Prop, (∀ H', Nx H' → ∃ m', m' < m ∧ W (i' + 1) m' H') ∧ ∀ x H', (Itl K a).yld i' H x H' → gName i x (wipe σ vs) H' fun σ2 H2 => wipe σ2 vs = wipe σ vs ∧ tYes σ2 H2 fun b H3 =>
        if b = true then te σ2 H3 fun y H4 => ∃ acc, H4 D = some (.lst acc) ∧ acc.length < sizeLine ∧ Nx (upd H4 D (.lst (acc ++ [y]))) else Nx H3) := by
  refine lc_list (xs := xs) (fun j H => Same H1 H ∧ H D = some (.lst ((xs.take j).map f))) ⟨same_new hD, upd_same⟩ (fun j H _ p => p.1.seq hS) (fun j x H hx p => ?_) fun H p => done H p.1 (by rw [List.take_length] at p; exact p.2)
  refine ⟨hw x, ?_⟩
  unfold tYes
  simp only [if_true]
  refine step j x H _ hx p.1 fun H' s => ⟨_, s _ _ p.2, ?_, same_upd (p.1.trans s) hD, ?_⟩
  · have := (List.getElem?_eq_some_iff.mp hx).1
    rw [List.length_map, List.length_take]
    omega
  · rw [upd_same, map_take_snoc f hx]

/-! ### is_int -/
def spIsInt (K : PySem.W.Frag) : Sp := fun vs H Q _ => ∃ (x : V) (t : Value) (b1 b2 : Bool), vs = [x] ∧ TyX K H x t ∧ PySem.W.kitOne K t (.type "int") = some b1 ∧ PySem.W.kitOne K t (.type "bool") = some b2 ∧ Q (.bl (b1 && !b2)) H
section
variable {P : Program} {w : World} {K : PySem.W.Frag} {mg : Str → Option Value} {base : Heap}
theorem scIsInt : FnScope ["thing"] ["thing"] (defScope sIsInt) := ⟨rfl, rfl, rfl, by decide +kernel, rfl, by decide +kernel, by decide +kernel⟩
theorem ok_isInt {f : Addr} {fd : FuncData} (F : Fun K "is_int" "is_int" sIsInt f fd) (T : Txt mg) : FnOk P w K mg base CX0 1 f fd ["thing"] (spIsInt K) := by
  refine F.ok scIsInt (fun vs H Q E h => ?_) (fun cdv A outer s H vs Q E hr h => ?_)
  · obtain ⟨x, _, _, _, rfl, _⟩ := h
    rfl
  · obtain ⟨x, t, b1, b2, rfl, ty, h1, h2, k⟩ := h
    refine ⟨_, pss_one (ps_ret (pe_and (pe_callB call_isi (by rfl) T.isinstance (by decide +kernel) (pa_cons (pv 0) (pa_cons (pe_bltn (v := .ty "int") (by rfl) T.int (by decide +kernel) rfl) pa_nil)))
      (pe_one (pe_not (pe_callB call_isi (by rfl) T.isinstance (by decide +kernel) (pa_cons (pv 0) (pa_cons (pe_bltn (v := .ty "bool") (by rfl) T.bool (by decide +kernel) rfl) pa_nil))))))), ?_⟩
    refine ⟨x, rfl, x, .ty "int", t, .type "int", b1, rfl, .ty _, ty, h1, b1, rfl, ?_⟩
    cases b1 with
    | false => exact iteF k
    | true => exact iteT ⟨x, rfl, x, .ty "bool", t, .type "bool", b2, rfl, .ty _, ty, h2, b2, rfl, k⟩
theorem isInt_int (i : Int) (H : Hp) (Q : VK) (E : XK) (k : Q (.bl true) H) : spIsInt K [.int i] H Q E := ⟨.int i, .type "int", true, false, rfl, .base (.int i), kit_ty (by decide +kernel), kit_ty (by decide +kernel), k⟩

/-! ### check_unlike, where nothing stands twice -/
def spUnlike (K : PySem.W.Frag) : Sp := fun vs H Q _ => ∃ (a : Addr) (ns : List Int), vs = [.ref a] ∧ SqL K H a (ns.map V.int) ∧ ns.Nodup ∧ ns.length ≤ 1000 ∧ ∀ H', Same H H' → Q .non H'
theorem scUnlike : FnScope ["things", "seen", "thing"] ["things"] (defScope sUnlike) := ⟨rfl, rfl, rfl, by decide +kernel, rfl, by decide +kernel, by decide +kernel⟩
theorem ok_unlike {f : Addr} {fd : FuncData} (F : Fun K "check_unlike" "check_unlike" sUnlike f fd) (T : Txt mg) : FnOk P w K mg base CX0 1 f fd ["things"] (spUnlike K) := by
  refine F.ok scUnlike (fun vs H Q E h => ?_) (fun cdv A outer s H vs Q E hr h => ?_)
  · obtain ⟨a, ns, rfl, _⟩ := h
    rfl
  · obtain ⟨a, ns, rfl, hS, nd, hl, k⟩ := h
    refine ⟨_, pss_cons (ps_set (i := 1) scUnlike.nd rfl (Or.inl rfl) (pe_callTy0 cr_set0 (by rfl) T.set (by decide +kernel)))
      (pss_one (ps_for PassesOwn.never rfl (pi_list (pv 0)) (pg_name (i := 2) scUnlike.nd rfl (Or.inl rfl))
        (pss_cons (ps_if (pt_cmpR or_sin (pv 2) (pv 1) (by rfl)) (pss_never) pss_nil) (pss_one (ps_expr (pe_sadd (pv 1) (pa_cons (pv 2) pa_nil))))))), ?_⟩
    refine ⟨rfl, fun p hp => ?_⟩
    refine ⟨_, rfl, a, rfl, ⟨_, (same_new hp).seq hS⟩, for_list (K := K) (a := a) (xs := ns.map V.int) (fun i σ H' => ∃ (v : Option V) (S : Int → Bool) (n : Nat), σ = [some (.ref a), some (.ref p), v] ∧ Same H H' ∧ H' p = some (SetO w p S n) ∧ n ≤ i ∧ ∀ z, S z = true → z ∈ ns.take i)
      ⟨none, fun _ => false, 0, rfl, same_new hp, upd_same, Nat.le_refl _, fun z h => by cases h⟩ (fun i σ H' _ ⟨_, _, _, _, s1, _⟩ => s1.seq hS) ?_ ?_⟩
    · rintro i y σ H' hi ⟨v, S, n, rfl, s1, hp1, hn, hz⟩
      obtain ⟨z, hz1, rfl⟩ := get_map hi
      have hlt := (List.getElem?_eq_some_iff.mp hz1).1
      have new : S z = false := by
        cases e : S z with
        | false => rfl
        | true =>
          exfalso
          obtain ⟨m, hm⟩ := List.getElem?_of_mem (hz z e)
          have mi : m < i := by
            have := (List.getElem?_eq_some_iff.mp hm).1
            rw [List.length_take] at this
            omega
          rw [List.getElem?_take_of_lt mi] at hm
          obtain ⟨l1, e1⟩ := List.getElem?_eq_some_iff.mp hm
          obtain ⟨l2, e2⟩ := List.getElem?_eq_some_iff.mp hz1
          have := Mg.nodup_at nd l1 l2 (e1.trans e2.symm)
          omega
      refine ⟨_, rfl, _, rfl, z, p, S, n, rfl, rfl, hp1, _, rfl, ?_⟩
      rw [new]
      refine iteF ?_
      refine ⟨_, rfl, ⟨p, S, n, rfl, hp1⟩, _, rfl, p, z, S, n, rfl, rfl, hp1, by unfold scanBound; omega, ?_⟩
      refine ⟨_, _, _, rfl, same_upd s1 hp, upd_same, by rw [new]; simp; omega, fun z2 h2 => ?_⟩
      rw [take_snoc hz1]
      rcases Bool.or_eq_true_iff.mp h2 with h2 | h2
      · exact List.mem_append_left _ (hz z2 h2)
      · rw [of_decide_eq_true h2]
        simp
    · rintro σ H' ⟨v, S, n, rfl, s1, _⟩
      exact k _ s1

/-! ### _is_list_of_ints -/
def spIsList (K : PySem.W.Frag) : Sp := fun vs H Q _ => ∃ (a : Addr) (ns : List Int), vs = [.ref a] ∧ SqL K H a (ns.map V.int) ∧ ns.length ≤ 1000 ∧ ∀ H', Same H H' → Q (.bl true) H'
theorem scIsList : FnScope ["items", "item"] ["items"] (defScope sIsList) := ⟨rfl, rfl, rfl, by decide +kernel, rfl, by decide +kernel, by decide +kernel⟩
theorem all_true (f : V → V) : ∀ l : List V, (∀ x ∈ l, f x = .bl true) → l.map f = (l.map fun _ => true).map V.bl
  | [], _ => rfl
  | x :: l, h => by
    simp only [List.map_cons]
    rw [h x List.mem_cons_self, all_true f l fun y hy => h y (List.mem_cons_of_mem _ hy)]
theorem all_id : ∀ l : List V, (l.map fun _ => true).all id = true
  | [] => rfl
  | _ :: l => all_id l
theorem ok_isList {f fI : Addr} {fd fdI : FuncData} (F : Fun K "_is_list_of_ints" "_is_list_of_ints" sIsList f fd) (T : Txt mg) (gI : mg "is_int" = some (.ref fI)) (kI : PySem.W.keepIn K (.ref fI) = true) (bI : Binds K fdI ["thing"] []) (GI : FnOk P w K mg base CX0 1 fI fdI ["thing"] (spIsInt K)) :
    FnOk P w K mg base CX0 2 f fd ["items"] (spIsList K) := by
  refine F.ok scIsList (fun vs H Q E h => ?_) (fun cdv A outer s H vs Q E hr h => ?_)
  · obtain ⟨a, ns, rfl, _⟩ := h
    rfl
  · obtain ⟨a, ns, rfl, hS, hl, k⟩ := h
    refine ⟨_, pss_one (ps_ret (pe_and (pe_callB call_isi (by rfl) T.isinstance (by decide +kernel) (pa_cons (pv 0) (pa_cons (pe_bltn (v := .ty "list") (by rfl) T.list (by decide +kernel) rfl) pa_nil)))
      (pe_one (pe_callB (cr_all rfl) (by rfl) T.all (by decide +kernel) (pa_cons (pe_lc (own := [("item", 1)]) (g := gName 1) (tt := tYes) rfl scIsList.nd (pi_list (pv 0)) (blkOk_by (N := ["items", "item"]) (sc := defScope sIsList) (by decide +kernel))
        (fun _ _ _ _ _ => pg_name (i := 1) scIsList.nd rfl (Or.inl rfl)) (fun _ _ _ _ _ => pts_nil) (fun _ _ _ _ _ => pe_call GI hr rfl gI kI bI .nil pass0 (pa_cons (pv 1) pa_nil))) pa_nil))))), ?_⟩
    refine ⟨_, rfl, _, .ty "list", .type "list", .type "list", true, rfl, .ty _, tyx_list hS, kit_ty (by decide +kernel), true, rfl, iteT ?_⟩
    refine ⟨_, rfl, a, rfl, ⟨_, hS⟩, fun D hD => lc_pure (xs := ns.map V.int) 1 (fun _ => .bl true) hS (by rw [List.length_map]; exact Nat.le_of_lt (small1000 hl)) hD (fun _ => rfl) (fun j x H1 Q1 hx s1 q1 => ?_) fun H1 s1 h1 => ?_⟩
    · obtain ⟨z, _, rfl⟩ := get_map hx
      exact ⟨_, rfl, isInt_int z _ _ E0 (q1 _ (Same.refl _))⟩
    · refine ⟨D, _, rfl, SqL.of (by rw [h1, all_true _ _ fun _ _ => rfl]), ?_⟩
      rw [all_id]
      exact k _ s1
end
end Pr

set_option Elab.async false
set_option linter.all false
set_option maxRecDepth 100000
set_option maxHeartbeats 1000000
/-! C.m(e, ..): a def of a class called by the class, as Base.__init__(self, ..). -/
namespace Two
open PySem PySem.Spec PyProof.Rows L2 ClX
/-- the def at g stands at C.m -/
structure CFn (K : PySem.W.Frag) (C : Addr) (mc : Value) (m : Str) (g : Addr) : Prop where
  at_ : PySem.W.findCls K (.ref C) mc m = some (.val (.ref g))
  keep : PySem.W.keepIn K (.ref g) = true
def tCFn (C : Addr) (sp : Sp) (dvs : List V) (E : XK) (ta : TE) (t : TA) : TE := fun σ H Q => ta σ H fun x H1 => x = .ref C ∧ t σ H1 fun vs H2 => sp (vs ++ dvs) H2 Q E
section
variable {X : Cx} {CX : CXT} {k : Nat} {C g : Addr} {mc : Value} {fd : FuncData} {ps : List Str} {sp : Sp} {E : XK} {o e : Expr} {es : List Expr} {m : Str} {pos apos : Pos} {ta : TE} {t : TA} {pl : Sem Bool} {ds : List Value} {dvs : List V}
theorem pe_cfn (he : PE X o ta) (r : CRead X.K C mc) (c : CFn X.K C mc m g) (F : FnOk X.prog X.w X.K X.mg X.base CX k g fd ps sp) (hr : Room k X.A) (hb : Binds X.K fd ps ds) (hd : Vals dvs ds) (hx : Passes CX X E) (ha : PA X (e :: es) t)
    (hst : starEach (e :: es) X.env = (false, eval e X.env) :: starEach es X.env := by rfl) (hpl : (backTo pos (starEach es X.env)).any (·.1) = false := by rfl)
    (ht : eval (.Call (.Attribute o m apos) (e :: es) [] pos) X.env = (do
      let ov ← eval o X.env
      standAt apos.atName
      let (f, first) ← holding [ov] (getMethod ov m pl)
      callWith pos f first (backTo pos (starEach (e :: es) X.env)) (backToKw pos (keywordEach [] X.env))) := by rfl) :
    PE X (.Call (.Attribute o m apos) (e :: es) [] pos) (tCFn C sp dvs E ta t) := by
  refine ⟨fun pins s σ H Q I h => ?_⟩
  refine PySem.W.methodCall_KW (pl := pl) (thn (he.run pins s σ H _ I h) fun u s1 ⟨x, H1, I1, rx, ex, q⟩ => ?_) ht
  subst ex
  obtain rfl : u = Value.ref C := rx
  refine PySem.W.method_cls I1.kIn r.ga (PySem.W.cls_value I1.kIn r.rd c.at_ rfl ?_)
  refine PySem.W.callWith_K (h₀ := X.base) I1.ok.mod.kin c.keep (thn (ha.run pos pins _ σ H1 _ (I1.tok _) q) fun us s3 ⟨vs, H2, I3, rv, q2⟩ => ⟨I3.kIn, ?_⟩) hst hpl
  exact run_fn F hr hb hd hx I3 rv q2
end
end Two

set_option Elab.async false
set_option linter.all false
set_option maxRecDepth 100000
set_option maxHeartbeats 1000000
/-! The errors' own __init__. -/
namespace Pr
open PySem L2 Two ClX
/-- the i-th statement of a class -/
def within (st : Stmt) (i : Nat) : Stmt := match st with
  | .ClassDef _ _ _ body _ _ _ _ _ _ _ => body.getD i (.Pass ⟨0, 0, 0, 0⟩)
  | _ => .Pass ⟨0, 0, 0, 0⟩
abbrev sLineInit : Stmt := within (top 1) 0
abbrev sDupInit : Stmt := within (top 8) 0
abbrev sManyInit : Stmt := within (top 9) 0
/-- what is left of an error that is being made: its dict has these -/
structure Made (H H' : Hp) (a C dx : Addr) (fs : List (Str × V)) : Prop where
  obj : H' a = some (exo a C (some dx))
  dict : H' dx = some (exd dx fs)
  new : H dx = none
  ne : dx ≠ a
  else_ : ∀ b, b ≠ a → b ≠ dx → H' b = H b
def spInit (K : PySem.W.Frag) (names : List Str) (fs : V → List (Str × V)) : Sp := fun vs H Q _ => ∃ (a C : Addr) (y : V), vs = [.ref a, y] ∧ OexC K C ∧ (∀ f ∈ names, PySem.W.findIn K (.ref C) f = some none) ∧ H a = some (exo a C none) ∧
  ∀ (H' : Hp) (dx : Addr), Made H H' a C dx (fs y) → Q .non H'
section
variable {P : Program} {w : World} {K : PySem.W.Frag} {mg : Str → Option Value} {base : Heap}
theorem scLineInit : FnScope ["self", "why"] ["self", "why"] (defScope sLineInit) := ⟨rfl, rfl, rfl, by decide +kernel, rfl, by decide +kernel, by decide +kernel⟩
theorem ok_lineInit {f : Addr} {fd : FuncData} (F : Fun K "__init__" "LineError.__init__" sLineInit f fd) : FnOk P w K mg base CX0 1 f fd ["self", "why"] (spInit K ["why"] fun y => [("why", y)]) := by
  refine F.ok scLineInit (fun vs H Q E h => ?_) (fun cdv A outer s H vs Q E hr h => ?_)
  · obtain ⟨a, C, y, rfl, _⟩ := h
    rfl
  · obtain ⟨a, C, y, rfl, T, hn, hH, k⟩ := h
    refine ⟨_, pss_one (ps_ost (pv 0) (pv 1)), ?_⟩
    refine ⟨_, rfl, _, rfl, a, C, rfl, T, hn _ List.mem_cons_self, .inl ⟨hH, fun dx hdx ne => k _ dx ⟨upd_same, by rw [upd_ne ne]; exact upd_same, hdx, ne, fun b h1 h2 => by rw [upd_ne h1, upd_ne h2]⟩⟩⟩
theorem ok_init1 {st : Stmt} {fld tag x qual : Str} {f cL : Addr} {fd : FuncData}
    (F : Fun K "__init__" qual st f fd) (S : FnScope ["self", x] ["self", x] (defScope st))
    (body : ∀ (cdv : Value) (A : Around) (outer : List Env) (s : Shared) (H : Hp) (E : XK), Room 1 (A.deeper (PyProof.Rows.envOfC qual (defScope st) s.heap.objs.size f cdv)) →
      PSs (cxOf CX0 P w K mg base ["self", x] qual (defScope st) f cdv A outer s H E).nox (defBody st) (tSeq (tDrop (tCFn cL (spInit K ["why"] fun y => [("why", y)]) [] E0 (tC (.ref cL)) (tCons (tVar 0) (tCons (tC (.str tag)) tNil)))) (tOst K fld (tVar 0) (tVar 1)))) :
    FnOk P w K mg base CX0 2 f fd ["self", x] (spInit K ["why", fld] fun y => [(fld, y), ("why", .str tag)]) := by
  refine F.ok S (fun vs H Q E h => ?_) (fun cdv A outer s H vs Q E hr h => ?_)
  · obtain ⟨a, C, y, rfl, _⟩ := h
    rfl
  · obtain ⟨a, C, y, rfl, T, hn, hH, k⟩ := h
    refine ⟨_, body cdv A outer s H E hr, ?_⟩
    refine ⟨rfl, _, rfl, a, C, .str tag, rfl, T, fun g hg => hn g (by rw [List.mem_singleton.mp hg]; exact List.mem_cons_self), hH, fun H' dx m => ?_⟩
    refine ⟨_, rfl, _, rfl, a, C, rfl, T, hn _ (List.mem_cons_of_mem _ List.mem_cons_self), .inr ⟨dx, _, m.obj, m.dict, by show 1 ≤ 900; decide, k _ dx ⟨by rw [upd_ne m.ne.symm]; exact m.obj, upd_same, m.new, m.ne, fun b h1 h2 => by rw [upd_ne h2]; exact m.else_ b h1 h2⟩⟩⟩
theorem scDupInit : FnScope ["self", "thing"] ["self", "thing"] (defScope sDupInit) := ⟨rfl, rfl, rfl, by decide +kernel, rfl, by decide +kernel, by decide +kernel⟩
theorem ok_dupInit {f fL cL : Addr} {fd dL : FuncData} {mc : Value} (F : Fun K "__init__" "Duplicate.__init__" sDupInit f fd) (gL : mg "LineError" = some (.ref cL)) (kL : PySem.W.keepIn K (.ref cL) = true) (r : CRead K cL mc) (c : CFn K cL mc "__init__" fL) (bL : Binds K dL ["self", "why"] [])
    (GL : FnOk P w K mg base CX0 1 fL dL ["self", "why"] (spInit K ["why"] fun y => [("why", y)])) : FnOk P w K mg base CX0 2 f fd ["self", "thing"] (spInit K ["why", "thing"] fun y => [("thing", y), ("why", .str "duplicate")]) :=
  ok_init1 (cL := cL) F scDupInit fun cdv A outer s H E hr => pss_cons (ps_expr (pe_cfn (pe_glob rfl gL rfl) r c GL hr bL .nil pass0 (pa_cons (pv 0) (pa_cons pe_str pa_nil)))) (pss_one (ps_ost (pv 0) (pv 1)))
theorem scManyInit : FnScope ["self", "limit"] ["self", "limit"] (defScope sManyInit) := ⟨rfl, rfl, rfl, by decide +kernel, rfl, by decide +kernel, by decide +kernel⟩
theorem ok_manyInit {f fL cL : Addr} {fd dL : FuncData} {mc : Value} (F : Fun K "__init__" "TooMany.__init__" sManyInit f fd) (gL : mg "LineError" = some (.ref cL)) (r : CRead K cL mc) (c : CFn K cL mc "__init__" fL) (bL : Binds K dL ["self", "why"] [])
    (GL : FnOk P w K mg base CX0 1 fL dL ["self", "why"] (spInit K ["why"] fun y => [("why", y)])) : FnOk P w K mg base CX0 2 f fd ["self", "limit"] (spInit K ["why", "limit"] fun y => [("limit", y), ("why", .str "too many")]) :=
  ok_init1 (cL := cL) F scManyInit fun cdv A outer s H E hr => pss_cons (ps_expr (pe_cfn (pe_glob rfl gL rfl) r c GL hr bL .nil pass0 (pa_cons (pv 0) (pa_cons pe_str pa_nil)))) (pss_one (ps_ost (pv 0) (pv 1)))
end
end Pr

set_option Elab.async false
set_option linter.all false
set_option maxRecDepth 100000
set_option maxHeartbeats 1000000
/-! check_unlike, raising too. -/
namespace Pr
open PySem L2 Two ClX
/-- what is known of an error's class with an __init__ of one field -/
structure ErrTxt (P : Program) (w : World) (K : PySem.W.Frag) (mg : Str → Option Value) (base : Heap) (x fld tag : Str) (C fI : Addr) (dI : FuncData) : Prop where
  gC : mg x = some (.ref C)
  T : OexC K C
  iC : PySem.W.findIn K (.ref C) "__init__" = some (some (.ref fI))
  tI : PySem.W.typeIn K (.ref fI) = some (.type "function")
  bI : Binds K dI ["self", fld] []
  GI : FnOk P w K mg base CX0 2 fI dI ["self", fld] (spInit K ["why", fld] fun y => [(fld, y), ("why", .str tag)])
  nw : PySem.W.findIn K (.ref C) "why" = some none
  nf : PySem.W.findIn K (.ref C) fld = some none
/-- the error that is raised -/
def Thrown (H : Hp) (E : XK) (C : Addr) (fs : List (Str × V)) : Prop := ∀ (d : Addr) (H' : Hp), Same H H' → H d = none → H' d = some (.xd fs) → E (.ref C) (some d) H'
section
variable {P : Program} {w : World} {K : PySem.W.Frag} {mg : Str → Option Value} {base : Heap}
/-- what the making of such an error asks -/
theorem mk_err {x fld tag : Str} {C fI : Addr} {dI : FuncData} {ta : TA} {σ : L2.St} {H : Hp} {E : XK} (T : ErrTxt P w K mg base x fld tag C fI dI) {y : V}
    (h : ta σ H fun vs H1 => vs = [y] ∧ Same H H1 ∧ Thrown H1 E C [(fld, y), ("why", .str tag)]) (mono : ∀ {A B : List V → Hp → Prop}, (∀ v G, A v G → B v G) → ta σ H A → ta σ H B) :
    tMkO C (spInit K ["why", fld] fun y => [(fld, y), ("why", .str tag)]) [] ta σ H E := by
  refine mono (fun vs H1 q => ?_) h
  obtain ⟨rfl, s, th⟩ := q
  refine ⟨by show 1 ≤ 1000; decide, fun a ha => ⟨a, C, y, rfl, T.T, fun f hf => ?_, upd_same, fun H' dx m => ⟨rfl, dx, _, m.obj, m.dict, ?_, ?_⟩⟩⟩
  · rcases List.mem_cons.mp hf with rfl | hf
    · exact T.nw
    · rw [List.mem_singleton.mp hf]; exact T.nf
  · have := m.new
    rw [upd_ne m.ne] at this
    exact this
  · have n0 : H1 dx = none := by
      have := m.new
      rw [upd_ne m.ne] at this
      exact this
    refine th dx _ (fun b o e => ?_) n0 upd_same
    have b1 : b ≠ a := fun q => by rw [q, ha] at e; cases e
    have b2 : b ≠ dx := fun q => by rw [q, n0] at e; cases e
    rw [upd_ne b2, del_ne b1, m.else_ b b1 b2, upd_ne b1]
    exact e
/-- the first item that stands earlier -/
def Twice (ns : List Int) (z : Int) : Prop := ∃ i, ns[i]? = some z ∧ z ∈ ns.take i ∧ (ns.take i).Nodup
def spUnlikeX (K : PySem.W.Frag) (C : Addr) : Sp := fun vs H Q E => ∃ (a : Addr) (ns : List Int), vs = [.ref a] ∧ SqL K H a (ns.map V.int) ∧ ns.length ≤ 1000 ∧ (ns.Nodup → ∀ H', Same H H' → Q .non H') ∧
  ∀ z, Twice ns z → ∀ H', Same H H' → Thrown H' E C [("thing", .int z), ("why", .str "duplicate")]
theorem ok_unlikeX {f C fI : Addr} {fd dI : FuncData} (F : Fun K "check_unlike" "check_unlike" sUnlike f fd) (T : Txt mg) (TD : ErrTxt P w K mg base "Duplicate" "thing" "duplicate" C fI dI) : FnOk P w K mg base (L2.CX P w) 4 f fd ["things"] (spUnlikeX K C) := by
  refine F.okX scUnlike (fun vs H Q E h => ?_) (fun cdv A outer s H vs Q E hr h => ?_)
  · obtain ⟨a, ns, rfl, _⟩ := h
    rfl
  · obtain ⟨a, ns, rfl, hS, hl, k, th⟩ := h
    refine ⟨_, pss_cons (ps_set (i := 1) scUnlike.nd rfl (Or.inl rfl) (pe_callTy0 cr_set0 (by rfl) T.set (by decide +kernel)))
      (pss_one (ps_for (passes_of rfl) rfl (pi_list (pv 0)) (pg_name (i := 2) scUnlike.nd rfl (Or.inl rfl))
        (pss_cons (ps_if (pt_cmpR or_sin (pv 2) (pv 1) (by rfl)) (pss_one (ps_raise rfl (takes_of rfl rfl rfl rfl) (pmk_oex TD.T TD.iC TD.tI TD.GI hr TD.bI .nil pass0 rfl TD.gC (pa_cons (pv 2) pa_nil)))) pss_nil) (pss_one (ps_expr (pe_sadd (pv 1) (pa_cons (pv 2) pa_nil))))))), ?_⟩
    refine ⟨rfl, fun p hp => ?_⟩
    refine ⟨_, rfl, a, rfl, ⟨_, (same_new hp).seq hS⟩, for_list (K := K) (a := a) (xs := ns.map V.int) (fun i σ H' => ∃ (v : Option V) (S : Int → Bool) (n : Nat), σ = [some (.ref a), some (.ref p), v] ∧ Same H H' ∧ H' p = some (SetO w p S n) ∧ n ≤ i ∧ (∀ z, S z = true ↔ z ∈ ns.take i) ∧ (ns.take i).Nodup)
      ⟨none, fun _ => false, 0, rfl, same_new hp, upd_same, Nat.le_refl _, (fun z => by simp), by simp⟩ (fun i σ H' _ ⟨_, _, _, _, s1, _⟩ => s1.seq hS) ?_ ?_⟩
    · rintro i y σ H' hi ⟨v, S, n, rfl, s1, hp1, hn, hz, nd⟩
      obtain ⟨z, hz1, rfl⟩ := get_map hi
      have hlt := (List.getElem?_eq_some_iff.mp hz1).1
      refine ⟨_, rfl, _, rfl, z, p, S, n, rfl, rfl, hp1, _, rfl, ?_⟩
      cases e : S z with
      | true =>
        refine iteT (mk_err (y := .int z) TD ⟨_, rfl, rfl, Same.refl _, th z ⟨i, hz1, (hz z).mp e, nd⟩ H' s1⟩ ?_)
        rintro A B imp ⟨x, hx, q⟩
        exact ⟨x, hx, imp _ _ q⟩
      | false =>
        refine iteF ?_
        refine ⟨_, rfl, ⟨p, S, n, rfl, hp1⟩, _, rfl, p, z, S, n, rfl, rfl, hp1, by unfold scanBound; omega, ?_⟩
        have zn : z ∉ ns.take i := fun m => by rw [(hz z).mpr m] at e; cases e
        refine ⟨_, _, _, rfl, same_upd s1 hp, upd_same, by rw [e]; simp; omega, fun z2 => ?_, ?_⟩
        · rw [take_snoc hz1, Bool.or_eq_true_iff, hz z2, List.mem_append, List.mem_singleton, decide_eq_true_iff]
        · rw [take_snoc hz1]
          exact List.nodup_append.mpr ⟨nd, by simp, fun x hx y hy => by rw [List.mem_singleton.mp hy]; rintro rfl; exact zn hx⟩
    · rintro σ H' ⟨v, S, n, rfl, s1, _, _, _, nd⟩
      rw [List.length_map, List.take_length] at nd
      exact k nd _ s1
end
end Pr

set_option Elab.async false
set_option linter.all false
set_option maxRecDepth 100000
set_option maxHeartbeats 1000000
/-! _is_list_of_ints of any value. -/
namespace Pr
open PySem L2 Two ClX
/-- x is an integer: b -/
def IntK (K : PySem.W.Frag) (H : Hp) (x : V) (b : Bool) : Prop := ∃ (t : Value) (b1 b2 : Bool), TyX K H x t ∧ PySem.W.kitOne K t (.type "int") = some b1 ∧ PySem.W.kitOne K t (.type "bool") = some b2 ∧ b = (b1 && !b2)
def IntS (K : PySem.W.Frag) (H : Hp) (x : V) (b : Bool) : Prop := ∀ H', Same H H' → IntK K H' x b
theorem IntS.keep {K : PySem.W.Frag} {H H' : Hp} {x : V} {b : Bool} (h : IntS K H x b) (s : Same H H') : IntS K H' x b := fun G s2 => h G (s.trans s2)
def spIsListX (K : PySem.W.Frag) : Sp := fun vs H Q _ => ∃ x, vs = [x] ∧ ((∃ t, TyX K H x t ∧ PySem.W.kitOne K t (.type "list") = some false ∧ Q (.bl false) H) ∨
  ∃ (a : Addr) (items : List V) (f : V → Bool), x = .ref a ∧ SqL K H a items ∧ items.length ≤ 1000 ∧ (∀ y ∈ items, IntS K H y (f y)) ∧ ∀ H', Same H H' → Q (.bl (items.all f)) H')
section
variable {P : Program} {w : World} {K : PySem.W.Frag} {mg : Str → Option Value} {base : Heap}
theorem ok_isListX {f fI : Addr} {fd fdI : FuncData} (F : Fun K "_is_list_of_ints" "_is_list_of_ints" sIsList f fd) (T : Txt mg) (gI : mg "is_int" = some (.ref fI)) (kI : PySem.W.keepIn K (.ref fI) = true) (bI : Binds K fdI ["thing"] []) (GI : FnOk P w K mg base CX0 1 fI fdI ["thing"] (spIsInt K)) :
    FnOk P w K mg base CX0 2 f fd ["items"] (spIsListX K) := by
  refine F.ok scIsList (fun vs H Q E h => ?_) (fun cdv A outer s H vs Q E hr h => ?_)
  · obtain ⟨x, rfl, _⟩ := h
    rfl
  · obtain ⟨x, rfl, h⟩ := h
    refine ⟨_, pss_one (ps_ret (pe_and (pe_callB call_isi (by rfl) T.isinstance (by decide +kernel) (pa_cons (pv 0) (pa_cons (pe_bltn (v := .ty "list") (by rfl) T.list (by decide +kernel) rfl) pa_nil)))
      (pe_one (pe_callB (cr_all rfl) (by rfl) T.all (by decide +kernel) (pa_cons (pe_lc (own := [("item", 1)]) (g := gName 1) (tt := tYes) rfl scIsList.nd (pi_list (pv 0)) (blkOk_by (N := ["items", "item"]) (sc := defScope sIsList) (by decide +kernel))
        (fun _ _ _ _ _ => pg_name (i := 1) scIsList.nd rfl (Or.inl rfl)) (fun _ _ _ _ _ => pts_nil) (fun _ _ _ _ _ => pe_call GI hr rfl gI kI bI .nil pass0 (pa_cons (pv 1) pa_nil))) pa_nil))))), ?_⟩
    rcases h with ⟨t, ty, hk, q⟩ | ⟨a, items, g, rfl, hS, hl, hi, k⟩
    · exact ⟨_, rfl, _, .ty "list", t, .type "list", false, rfl, .ty _, ty, hk, false, rfl, iteF q⟩
    · refine ⟨_, rfl, _, .ty "list", .type "list", .type "list", true, rfl, .ty _, tyx_list hS, kit_ty (by decide +kernel), true, rfl, iteT ?_⟩
      refine ⟨_, rfl, a, rfl, ⟨_, hS⟩, fun D hD => lc_pure (xs := items) 1 (fun y => .bl (g y)) hS (Nat.le_of_lt (small1000 hl)) hD (fun _ => rfl) (fun j x H1 Q1 hx s1 q1 => ?_) fun H1 s1 h1 => ?_⟩
      · obtain ⟨t, b1, b2, ty, k1, k2, e⟩ := hi x (List.mem_of_getElem? hx) H1 s1
        refine ⟨_, rfl, x, t, b1, b2, rfl, ty, k1, k2, ?_⟩
        rw [← e]
        exact q1 _ (Same.refl _)
      · have e1 : items.map (fun y => V.bl (g y)) = (items.map g).map V.bl := by rw [List.map_map]; rfl
        refine ⟨D, items.map g, rfl, SqL.of (by rw [h1, e1]), ?_⟩
        have e2 : (items.map g).all id = items.all g := by rw [List.all_map]; rfl
        rw [e2]
        exact k _ s1
end
end Pr

set_option autoImplicit false
namespace Mg
/-! ### in how many lists an item stands behind the first one -/
def cnt (rs : List (List Int)) (y : Int) : Nat := (rs.filter fun r => r.tail.contains y).length
def one (r : List Int) (y : Int) : Nat := if y ∈ r then 1 else 0
theorem cnt_nil (y : Int) : cnt [] y = 0 := rfl
theorem cnt_append (a b : List (List Int)) (y : Int) : cnt (a ++ b) y = cnt a y + cnt b y := by
  unfold cnt
  rw [List.filter_append, List.length_append]
theorem cnt_one (r : List Int) (y : Int) : cnt [r] y = one r.tail y := by
  unfold cnt one
  by_cases h : y ∈ r.tail
  · rw [if_pos h, List.filter_cons_of_pos (by exact List.contains_iff_mem.mpr h)]
    rfl
  · rw [if_neg h, List.filter_cons_of_neg (by rw [List.contains_iff_mem]; exact h)]
    rfl
theorem cnt_zero {rs : List (List Int)} {y : Int} : cnt rs y = 0 ↔ clear rs y = true := by
  rw [clear_iff]
  unfold cnt
  rw [List.length_eq_zero_iff, List.filter_eq_nil_iff]
  simp [List.contains_iff_mem]
theorem clear_dec {rs : List (List Int)} {y : Int} : clear rs y = decide ((cnt rs y : Int) = 0) := by
  cases h : clear rs y with
  | true => exact (decide_eq_true (by have := cnt_zero.mpr h; omega)).symm
  | false =>
    refine (decide_eq_false fun e => ?_).symm
    have : cnt rs y = 0 := by omega
    rw [cnt_zero.mp this] at h
    cases h
theorem one_take_succ {l : List Int} {j : Nat} {z : Int} (nd : l.Nodup) (h : l[j]? = some z) (y : Int) : one (l.take (j + 1)) y = if y = z then one (l.take j) z + 1 else one (l.take j) y := by
  have e : l.take (j + 1) = l.take j ++ [z] := by
    obtain ⟨hlt, hv⟩ := List.getElem?_eq_some_iff.mp h
    rw [← hv]
    simp
  have nz : z ∉ l.take j := by
    have q : (l.take (j + 1)).Nodup := nd.sublist (List.take_sublist _ _)
    rw [e] at q
    exact fun k => (List.nodup_append.mp q).2.2 z k z (by simp) rfl
  unfold one
  rw [e, if_neg nz]
  by_cases hy : y = z
  · subst hy
    simp
  · rw [if_neg hy]
    simp [List.mem_append, hy]
/-- behind i pulls -/
def mix (x : Int) (rs : List (List Int)) (i : Nat) : List (List Int) := (rs.take i).map (pull1 x) ++ rs.drop i
theorem mix_zero (x : Int) (rs : List (List Int)) : mix x rs 0 = rs := rfl
theorem mix_all (x : Int) (rs : List (List Int)) : mix x rs rs.length = pull x rs := by
  unfold mix
  rw [List.take_length, List.drop_length, List.append_nil]
  rfl
theorem mix_at {x : Int} {rs : List (List Int)} {i : Nat} {r : List Int} (h : rs[i]? = some r) :
    mix x rs i = (rs.take i).map (pull1 x) ++ r :: rs.drop (i + 1) ∧ mix x rs (i + 1) = (rs.take i).map (pull1 x) ++ pull1 x r :: rs.drop (i + 1) := by
  obtain ⟨hlt, hv⟩ := List.getElem?_eq_some_iff.mp h
  have e1 : rs.drop i = r :: rs.drop (i + 1) := by rw [List.drop_eq_getElem_cons hlt, hv]
  have e2 : rs.take (i + 1) = rs.take i ++ [r] := by rw [← hv]; simp
  unfold mix
  rw [e1, e2]
  refine ⟨rfl, ?_⟩
  rw [List.map_append, List.append_assoc]
  rfl
theorem mix_none {x : Int} {rs : List (List Int)} {i : Nat} {r : List Int} (h : rs[i]? = some r) (n : r.head? ≠ some x) : mix x rs (i + 1) = mix x rs i := by
  obtain ⟨e1, e2⟩ := mix_at (x := x) h
  have q : pull1 x r = r := by unfold pull1; rw [if_neg n]
  rw [e1, e2, q]
theorem mix_nil {x : Int} {rs : List (List Int)} {i : Nat} (h : rs[i]? = some [x]) (y : Int) : cnt (mix x rs (i + 1)) y = cnt (mix x rs i) y := by
  obtain ⟨e1, e2⟩ := mix_at (x := x) h
  have q : pull1 x [x] = [] := by unfold pull1; simp
  rw [e1, e2, q, cnt_append, cnt_append]
  show _ + cnt ([[]] ++ rs.drop (i + 1)) y = _ + cnt ([[x]] ++ rs.drop (i + 1)) y
  rw [cnt_append, cnt_append, cnt_one, cnt_one]
  rfl
theorem mix_cons {x h' : Int} {t : List Int} {rs : List (List Int)} {i : Nat} (h : rs[i]? = some (x :: h' :: t)) (nd : (x :: h' :: t).Nodup) (y : Int) :
    (cnt (mix x rs (i + 1)) y : Int) = if y = h' then (cnt (mix x rs i) h' : Int) - 1 else cnt (mix x rs i) y := by
  obtain ⟨e1, e2⟩ := mix_at (x := x) h
  have q : pull1 x (x :: h' :: t) = h' :: t := by unfold pull1; simp
  have nt : h' ∉ t := (List.nodup_cons.mp (List.nodup_cons.mp nd).2).1
  have key : ∀ z, cnt (mix x rs i) z = cnt ((rs.take i).map (pull1 x)) z + (one (h' :: t) z + cnt (rs.drop (i + 1)) z) := fun z => by
    rw [e1, cnt_append]
    show _ + cnt ([x :: h' :: t] ++ rs.drop (i + 1)) z = _
    rw [cnt_append, cnt_one]
    rfl
  have key2 : cnt (mix x rs (i + 1)) y = cnt ((rs.take i).map (pull1 x)) y + (one t y + cnt (rs.drop (i + 1)) y) := by
    rw [e2, q, cnt_append]
    show _ + cnt ([h' :: t] ++ rs.drop (i + 1)) y = _
    rw [cnt_append, cnt_one]
    rfl
  rw [key2]
  by_cases hy : y = h'
  · subst hy
    rw [if_pos rfl, key]
    have a : one t y = 0 := by unfold one; rw [if_neg nt]
    have b : one (y :: t) y = 1 := by unfold one; rw [if_pos (by simp)]
    rw [a, b]
    omega
  · rw [if_neg hy, key]
    have a : one (h' :: t) y = one t y := by unfold one; simp [hy]
    rw [a]
theorem mix_mem {x : Int} {rs : List (List Int)} {i : Nat} {r : List Int} (h : r ∈ mix x rs i) : ∃ r0 ∈ rs, ∀ y ∈ r, y ∈ r0 := by
  unfold mix at h
  rcases List.mem_append.mp h with k | k
  · obtain ⟨r0, h0, e⟩ := List.mem_map.mp k
    exact ⟨r0, List.mem_of_mem_take h0, fun y hy => pull1_sub (by rw [e]; exact hy)⟩
  · exact ⟨r, List.mem_of_mem_drop k, fun y hy => hy⟩
/-- the first free item, list by list -/
theorem heads_append (a b : List (List Int)) : heads (a ++ b) = heads a ++ heads b := by
  unfold heads
  rw [List.filterMap_append]
end Mg

set_option Elab.async false
set_option linter.all false
set_option maxRecDepth 100000
set_option maxHeartbeats 4000000
namespace Pr
open PySem L2 Two
/-! ### dict comprehensions over lists -/
theorem outer_list {K : PySem.W.Frag} {a : Addr} {xs : List V} {g : TG} {wi1 : TI} {g1 : TG} {tk tv : TE} {vs vs1 : List Nat} {D : Addr} {σ : L2.St} {Qd : Hp → Prop} {G : Hp} (Pv : Nat → Hp → Prop) (h0 : Pv 0 G)
    (hl : ∀ i H, i ≤ xs.length → Pv i H → SqL K H a xs)
    (hs : ∀ i x H, xs[i]? = some x → Pv i H → g x (wipe σ vs) H fun σ2 H2 => wipe σ2 vs = wipe σ vs ∧ wi1 σ2 H2 fun J1 H3 => inner J1 g1 tk tv vs1 D σ2 (Pv (i + 1)) H3)
    (hd : ∀ H, Pv xs.length H → Qd H) : outer (Itl K a) g wi1 g1 tk tv vs vs1 D σ Qd G := by
  refine ⟨fun i m H => m = xs.length - i ∧ i ≤ xs.length ∧ Pv i H, ⟨xs.length, by simp, Nat.zero_le _, h0⟩, ?_⟩
  rintro i m H ⟨rfl, hi, p⟩
  have q := hl i H hi p
  by_cases lt : i < xs.length
  · refine .inr ⟨⟨xs, xs[i], q, by simp [lt]⟩, Pv (i + 1), fun H2 p2 => ⟨xs.length - (i + 1), by omega, rfl, lt, p2⟩, fun x H2 y => ?_⟩
    obtain ⟨e, y⟩ := y
    subst e
    exact hs i x _ (y xs q) p
  · have e : i = xs.length := by omega
    subst e
    exact .inl ⟨⟨xs, q, Nat.le_refl _⟩, hd H p⟩
theorem inner_list {K : PySem.W.Frag} {a : Addr} {xs : List V} {g1 : TG} {tk tv : TE} {vs1 : List Nat} {D : Addr} {σ2 : L2.St} {Nx : Hp → Prop} {G : Hp} (Pv : Nat → Hp → Prop) (h0 : Pv 0 G)
    (hl : ∀ i H, i ≤ xs.length → Pv i H → SqL K H a xs)
    (hs : ∀ j x H, xs[j]? = some x → Pv j H → g1 x (wipe σ2 vs1) H fun σ3 H3 => wipe σ3 vs1 = wipe σ2 vs1 ∧ tk σ3 H3 fun y H4 => tv σ3 H4 fun z H5 => ∃ kvs k0, y = kV k0 ∧ H5 D = some (.dK kvs) ∧ kvs.length < sizeLine ∧ Pv (j + 1) (upd H5 D (.dK (putK kvs k0 z))))
    (hd : ∀ H, Pv xs.length H → Nx H) : inner (Itl K a) g1 tk tv vs1 D σ2 Nx G := by
  refine ⟨fun i m H => m = xs.length - i ∧ i ≤ xs.length ∧ Pv i H, ⟨xs.length, by simp, Nat.zero_le _, h0⟩, ?_⟩
  rintro i m H ⟨rfl, hi, p⟩
  have q := hl i H hi p
  by_cases lt : i < xs.length
  · refine .inr ⟨⟨xs, xs[i], q, by simp [lt]⟩, Pv (i + 1), fun H2 p2 => ⟨xs.length - (i + 1), by omega, rfl, lt, p2⟩, fun x H2 y => ?_⟩
    obtain ⟨e, y⟩ := y
    subst e
    exact hs i x _ (y xs q) p
  · have e : i = xs.length := by omega
    subst e
    exact .inl ⟨⟨xs, q, Nat.le_refl _⟩, hd H p⟩
theorem cut_tail (xs : List V) : cutV xs (some 1) none = xs.tail := by
  unfold cutV
  have e : HT.sIx xs.length 0 (some 1) = min 1 xs.length := HT.sIx_nat xs.length 0 1
  rw [e, HT.sIx_none]
  cases xs with
  | nil => rfl
  | cons x xs =>
    have e2 : min 1 (x :: xs).length = 1 := by simp
    rw [e2]
    show xs.take ((x :: xs).length - 1) = xs
    simp

/-- a list of lists of ints, at the addresses beside them -/
def LofL (K : PySem.W.Frag) (H : Hp) (a : Addr) (ps : List (Addr × List Int)) : Prop := SqL K H a (ps.map fun p => V.ref p.1) ∧ ∀ p ∈ ps, SqL K H p.1 (p.2.map V.int)
abbrev lsOf (ps : List (Addr × List Int)) : List (List Int) := ps.map (·.2)
abbrev refsOf (ps : List (Addr × List Int)) : List V := ps.map fun p => V.ref p.1
theorem LofL.keep {K : PySem.W.Frag} {H H' : Hp} {a : Addr} {ps : List (Addr × List Int)} (h : LofL K H a ps) (s : Same H H') : LofL K H' a ps := ⟨s.seq h.1, fun p hp => s.seq (h.2 p hp)⟩
/-- as many as merge takes, nothing twice -/
structure Fit (ps : List (Addr × List Int)) : Prop where
  few : ps.length ≤ 30
  short : ∀ p ∈ ps, p.2.length ≤ 30
  nd : ∀ p ∈ ps, p.2.Nodup

/-- len, where the reading is to be said -/
def rLenQ (K : PySem.W.Frag) : List V → Hp → VK → Prop := fun xs H Q => ∃ p ys, xs = [V.ref p] ∧ (SqL K H p ys ∨ SqT K H p ys) ∧ Q (.int ys.length) H
theorem call_lenQ {X : Cx} : CallR X (.builtin "len") (rLenQ X.K) := call_len_seq
def rGt : R2 := rI0 fun i j => .bl (decide (j < i))
section
variable {P : Program} {w : World} {K : PySem.W.Frag} {mg : Str → Option Value} {base : Heap}
/-! ### _check_lists -/
def spCheck (K : PySem.W.Frag) : Sp := fun vs H Q _ => ∃ (a : Addr) (ps : List (Addr × List Int)), vs = [.ref a] ∧ LofL K H a ps ∧ Fit ps ∧ ∀ H', Same H H' → Q .non H'
theorem scCheck : FnScope ["lists", "items"] ["lists"] (defScope sCheck) := ⟨rfl, rfl, rfl, by decide +kernel, rfl, by decide +kernel, by decide +kernel⟩
theorem any_id : ∀ l : List V, (l.map fun _ => false).any id = false
  | [] => rfl
  | _ :: l => any_id l
theorem all_false (f : V → V) : ∀ l : List V, (∀ x ∈ l, f x = .bl false) → l.map f = (l.map fun _ => false).map V.bl
  | [], _ => rfl
  | x :: l, h => by
    simp only [List.map_cons]
    rw [h x List.mem_cons_self, all_false f l fun y hy => h y (List.mem_cons_of_mem _ hy)]
theorem ok_check {f fL fU : Addr} {fd fdL fdU : FuncData} (F : Fun K "_check_lists" "_check_lists" sCheck f fd) (T : Txt mg)
    (gL : mg "_is_list_of_ints" = some (.ref fL)) (kL : PySem.W.keepIn K (.ref fL) = true) (bL : Binds K fdL ["items"] []) (GL : FnOk P w K mg base CX0 2 fL fdL ["items"] (spIsList K))
    (gU : mg "check_unlike" = some (.ref fU)) (kU : PySem.W.keepIn K (.ref fU) = true) (bU : Binds K fdU ["things"] []) (GU : FnOk P w K mg base CX0 1 fU fdU ["things"] (spUnlike K)) :
    FnOk P w K mg base CX0 3 f fd ["lists"] (spCheck K) := by
  refine F.ok scCheck (fun vs H Q E h => ?_) (fun cdv A outer s H vs Q E hr h => ?_)
  · obtain ⟨a, ps, rfl, _⟩ := h
    rfl
  · obtain ⟨a, ps, rfl, hL, fit, k⟩ := h
    obtain ⟨tm, hm⟩ := T.most
    refine ⟨_, pss_cons (ps_if (PW.pt (pw_or (pt_not (pt_val (pe_callB call_isi (by rfl) T.isinstance (by decide +kernel) (pa_cons (pv 0) (pa_cons (pe_bltn (v := .ty "list") (by rfl) T.list (by decide +kernel) rfl) pa_nil)))))
        (pw_or1 (pt_not (pt_val (pe_callB (cr_all rfl) (by rfl) T.all (by decide +kernel) (pa_cons (pe_lc (own := [("items", 1)]) (g := gName 1) (tt := tYes) rfl scCheck.nd (pi_list (pv 0)) (blkOk_by (N := ["lists", "items"]) (sc := defScope sCheck) (by decide +kernel))
          (fun _ _ _ _ _ => pg_name (i := 1) scCheck.nd rfl (Or.inl rfl)) (fun _ _ _ _ _ => pts_nil) (fun _ _ _ _ _ => pe_call GL hr rfl gL kL bL .nil pass0 (pa_cons (pv 1) pa_nil))) pa_nil))))))) pss_never pss_nil)
      (pss_cons (ps_if (PW.pt (pw_or (pt_cmpR op_gt (pe_callB call_len_seq (by rfl) T.len PySem.boot_len (pa_cons (pv 0) pa_nil)) (pe_glob (v := .int 30) rfl hm ⟨_, rfl⟩) (nomark _))
        (pw_or1 (pt_val (pe_callB (cr_any rfl) (by rfl) T.any (by decide +kernel) (pa_cons (pe_lc (own := [("items", 1)]) (g := gName 1) (tt := tYes) (te := tOp rGt (tCB (rLenQ K) (tCons (tVar 1) tNil)) (tC (.int 30))) rfl scCheck.nd (pi_list (pv 0)) (blkOk_by (N := ["lists", "items"]) (sc := defScope sCheck) (by decide +kernel))
          (fun _ _ _ _ _ => pg_name (i := 1) scCheck.nd rfl (Or.inl rfl)) (fun _ _ _ _ _ => pts_nil) (fun _ _ _ _ _ => pe_cmpR op_gt (pe_callB call_lenQ (by rfl) T.len PySem.boot_len (pa_cons (pv 1) pa_nil)) (pe_glob (v := .int 30) rfl hm ⟨_, rfl⟩) (nomark _))) pa_nil)))))) pss_never pss_nil)
      (pss_one (ps_for PassesOwn.never rfl (pi_list (pv 0)) (pg_name (i := 1) scCheck.nd rfl (Or.inl rfl)) (pss_one (ps_expr (pe_call GU (hr.mono (by decide)) rfl gU kU bU .nil pass0 (pa_cons (pv 1) pa_nil))))))), ?_⟩
    have sz : (ps.map fun p => V.ref p.1).length ≤ sizeLine := by rw [List.length_map]; exact Nat.le_of_lt (small1000 (Nat.le_trans fit.few (by decide)))
    refine ⟨_, rfl, _, .ty "list", .type "list", .type "list", true, rfl, .ty _, tyx_list hL.1, kit_ty (by decide +kernel), true, rfl, ?_⟩
    refine iteF ?_
    refine ⟨_, rfl, a, rfl, ⟨_, hL.1⟩, fun D hD => lc_pure (K := K) (xs := refsOf ps) 1 (fun _ => .bl true) hL.1 sz hD (fun _ => rfl) (fun j x H1 Q1 hx s1 q1 => ?_) fun H1 s1 h1 => ?_⟩
    · obtain ⟨p, hp, rfl⟩ := get_map hx
      have mp := List.mem_of_getElem? hp
      exact ⟨_, rfl, p.1, p.2, rfl, s1.seq (hL.2 p mp), Nat.le_trans (fit.short p mp) (by decide), fun H' s' => q1 H' s'⟩
    refine ⟨D, _, rfl, SqL.of (by rw [h1, all_true _ _ fun _ _ => rfl]), ?_⟩
    rw [all_id]
    refine ⟨true, rfl, iteF ?_⟩
    have hL1 := hL.keep s1
    refine ⟨_, rfl, a, _, rfl, .inl hL1.1, _, _, rfl, rfl, _, rfl, ?_⟩
    have c1 : decide ((30 : Int) < ((ps.map fun p => V.ref p.1).length : Nat)) = false := decide_eq_false (by rw [List.length_map]; have := fit.few; omega)
    rw [c1]
    refine iteF ?_
    refine ⟨_, rfl, a, rfl, ⟨_, hL1.1⟩, fun D2 hD2 => lc_pure (K := K) (xs := refsOf ps) 1 (fun _ => .bl false) hL1.1 sz hD2 (fun _ => rfl) (fun j x H2 Q1 hx s2 q1 => ?_) fun H2 s2 h2 => ?_⟩
    · obtain ⟨p, hp, rfl⟩ := get_map hx
      have mp := List.mem_of_getElem? hp
      refine ⟨_, rfl, p.1, _, rfl, .inl (s2.seq (hL1.2 p mp)), _, _, rfl, rfl, ?_⟩
      have c2 : decide ((30 : Int) < ((p.2.map V.int).length : Nat)) = false := decide_eq_false (by rw [List.length_map]; have := fit.short p mp; omega)
      show Q1 (.bl (decide ((30 : Int) < ((p.2.map V.int).length : Nat)))) H2
      rw [c2]
      exact q1 _ (Same.refl _)
    refine ⟨D2, _, rfl, SqL.of (by rw [h2, all_false _ _ fun _ _ => rfl]), ?_⟩
    rw [any_id]
    refine ⟨false, rfl, iteF ?_⟩
    have hL2 := hL1.keep s2
    refine ⟨_, rfl, a, rfl, ⟨_, hL2.1⟩, for_list (K := K) (a := a) (xs := refsOf ps) (fun i σ H' => ∃ v : Option V, σ = [some (.ref a), v] ∧ Same H H')
      ⟨_, rfl, s1.trans s2⟩ (fun i σ H' _ ⟨_, _, s3⟩ => s3.seq hL.1) ?_ ?_⟩
    · rintro i y σ H' hi ⟨v, rfl, s3⟩
      obtain ⟨p, hp, rfl⟩ := get_map hi
      have mp := List.mem_of_getElem? hp
      exact ⟨_, rfl, p.1, p.2, rfl, s3.seq (hL.2 p mp), fit.nd p mp, Nat.le_trans (fit.short p mp) (by decide), fun H4 s4 => ⟨_, rfl, s3.trans s4⟩⟩
    · rintro σ H' ⟨v, rfl, s3⟩
      exact k _ s3
end
end Pr

set_option Elab.async false
set_option linter.all false
set_option maxRecDepth 100000
set_option maxHeartbeats 1000000
/-! _check_lists of any value, raising too. -/
namespace Pr
open PySem L2 Two ClX
structure BadTxt (P : Program) (w : World) (K : PySem.W.Frag) (mg : Str → Option Value) (base : Heap) (C fI : Addr) (dI : FuncData) : Prop where
  gC : mg "BadList" = some (.ref C)
  T : OexC K C
  iC : PySem.W.findIn K (.ref C) "__init__" = some (some (.ref fI))
  tI : PySem.W.typeIn K (.ref fI) = some (.type "function")
  bI : Binds K dI ["self", "why"] []
  GI : FnOk P w K mg base CX0 1 fI dI ["self", "why"] (spInit K ["why"] fun y => [("why", y)])
  nw : PySem.W.findIn K (.ref C) "why" = some none
/-- [f of x for x in xs if c of x], nothing made that stands in the way -/
theorem lc_selX {α : Type} {K : PySem.W.Frag} {a : Addr} {ps : List α} {gv : α → V} {te : TE} {tt : TT} {vs : List Nat} {σ : L2.St} {H1 : Hp} {D : Addr} {Qd : Hp → Prop} (i : Nat) (f : α → V) (c : α → Bool) (hS : SqL K H1 a (ps.map gv)) (hz : ps.length < sizeLine) (hD : H1 D = none)
    (hw : ∀ x, wipe ((wipe σ vs).set i (some x)) vs = wipe σ vs)
    (tstep : ∀ (j : Nat) (x : α) (H : Hp) (Q : Bool → Hp → Prop), ps[j]? = some x → Same H1 H → (∀ H', Same H H' → Q (c x) H') → tt ((wipe σ vs).set i (some (gv x))) H Q)
    (estep : ∀ (j : Nat) (x : α) (H : Hp) (Q : VK), ps[j]? = some x → c x = true → Same H1 H → (∀ H', Same H H' → Q (f x) H') → te ((wipe σ vs).set i (some (gv x))) H Q)
    (done : ∀ H, Same H1 H → H D = some (.lst ((ps.filter c).map f)) → Qd H) :
    ∃ W : Nat → Nat → Hp → Prop, (∃ m, W 0 m (upd H1 D (.lst []))) ∧ ∀ i' m H, W i' m H →
      ((Itl K a).stop i' H ∧ Qd H) ∨ ((Itl K a).go i' H ∧ ∃ Nx : Hp → Prop, (∀ H', Nx H' → ∃ m', m' < m ∧ W (i' + 1) m' H') ∧ ∀ x H', (Itl K a).yld i' H x H' → gName i x (wipe σ vs) H' fun σ2 H2 => wipe σ2 vs = wipe σ vs ∧ tt σ2 H2 fun b H3 =>
        if b = true then te σ2 H3 fun y H4 => ∃ acc, H4 D = some (.lst acc) ∧ acc.length < sizeLine ∧ Nx (upd H4 D (.lst (acc ++ [y]))) else Nx H3) := by
  refine lc_list (xs := ps.map gv) (fun j H => Same H1 H ∧ H D = some (.lst (((ps.take j).filter c).map f))) ⟨same_new hD, upd_same⟩ (fun j H _ p => p.1.seq hS) (fun j x H hx p => ?_)
    fun H p => done H p.1 (by rw [List.length_map, List.take_length] at p; exact p.2)
  obtain ⟨x, hx1, rfl⟩ := get_map hx
  refine ⟨hw _, tstep j x H _ hx1 p.1 fun H' s => ?_⟩
  have s1 := p.1.trans s
  have d1 := s _ _ p.2
  cases hc : c x with
  | false =>
    refine iteF ⟨s1, ?_⟩
    rw [d1, take_snoc hx1, List.filter_append, List.filter_cons_of_neg (by rw [hc]; decide)]
    simp
  | true =>
    refine iteT (estep j x H' _ hx1 hc s1 fun H2 s2 => ⟨_, s2 _ _ d1, ?_, same_upd (s1.trans s2) hD, ?_⟩)
    · have a1 := List.length_filter_le c (ps.take j)
      have a2 := (List.getElem?_eq_some_iff.mp hx1).1
      rw [List.length_take] at a1
      rw [List.length_map]
      omega
    · rw [upd_same, take_snoc hx1, List.filter_append, List.filter_cons_of_pos hc, List.map_append]
      rfl
section
variable {P : Program} {w : World} {K : PySem.W.Frag} {mg : Str → Option Value} {base : Heap}
theorem mk_bad {C fI : Addr} {dI : FuncData} {ta : TA} {σ : L2.St} {H : Hp} {E : XK} (T : BadTxt P w K mg base C fI dI) {y : V}
    (h : ta σ H fun vs H1 => vs = [y] ∧ Same H H1 ∧ Thrown H1 E C [("why", y)]) (mono : ∀ {A B : List V → Hp → Prop}, (∀ v G, A v G → B v G) → ta σ H A → ta σ H B) :
    tMkO C (spInit K ["why"] fun y => [("why", y)]) [] ta σ H E := by
  refine mono (fun vs H1 q => ?_) h
  obtain ⟨rfl, s, th⟩ := q
  refine ⟨by show 1 ≤ 1000; decide, fun a ha => ⟨a, C, y, rfl, T.T, fun f hf => by rw [List.mem_singleton.mp hf]; exact T.nw, upd_same, fun H' dx m => ⟨rfl, dx, _, m.obj, m.dict, ?_, ?_⟩⟩⟩
  · have := m.new
    rw [upd_ne m.ne] at this
    exact this
  · have n0 : H1 dx = none := by
      have := m.new
      rw [upd_ne m.ne] at this
      exact this
    refine th dx _ (fun b o e => ?_) n0 upd_same
    have b1 : b ≠ a := fun q => by rw [q, ha] at e; cases e
    have b2 : b ≠ dx := fun q => by rw [q, n0] at e; cases e
    rw [upd_ne b2, del_ne b1, m.else_ b b1 b2, upd_ne b1]
    exact e
/-- y is a list of ints: b -/
def LstK (K : PySem.W.Frag) (H : Hp) (y : V) (b : Bool) : Prop := (∃ t, TyX K H y t ∧ PySem.W.kitOne K t (.type "list") = some false ∧ b = false) ∨
  ∃ (a : Addr) (items : List V) (f : V → Bool), y = .ref a ∧ SqL K H a items ∧ items.length ≤ 1000 ∧ (∀ z ∈ items, IntS K H z (f z)) ∧ b = items.all f
def LstS (K : PySem.W.Frag) (H : Hp) (y : V) (b : Bool) : Prop := ∀ H', Same H H' → LstK K H' y b
theorem int_int {H : Hp} (z : Int) : IntS K H (.int z) true := fun _ _ => ⟨.type "int", true, false, .base (.int _), kit_ty (by decide +kernel), kit_ty (by decide +kernel), rfl⟩
theorem lst_ints {H : Hp} {a : Addr} {ns : List Int} (h : SqL K H a (ns.map V.int)) (hl : ns.length ≤ 1000) : LstS K H (.ref a) true := fun H' s =>
  .inr ⟨a, ns.map V.int, fun _ => true, rfl, s.seq h, by rw [List.length_map]; exact hl, fun z hz => by obtain ⟨y, _, rfl⟩ := List.mem_map.mp hz; exact int_int y, by rw [List.all_eq_true.mpr fun _ _ => rfl]⟩
/-- what the check of lists of ints does -/
structure CheckEnd (H : Hp) (ps : List (Addr × List Int)) (Q : VK) (E : XK) (CT CD : Addr) : Prop where
  fit : Fit ps → ∀ H', Same H H' → Q .non H'
  many : (30 < ps.length ∨ ∃ p ∈ ps, 30 < p.2.length) → ∀ H', Same H H' → Thrown H' E CT [("limit", .int 30), ("why", .str "too many")]
  twice : ps.length ≤ 30 → (∀ p ∈ ps, p.2.length ≤ 30) → ∀ i p z, ps[i]? = some p → (∀ q ∈ ps.take i, q.2.Nodup) → Twice p.2 z → ∀ H', Same H H' → Thrown H' E CD [("thing", .int z), ("why", .str "duplicate")]
def spCheckX (K : PySem.W.Frag) (CB CT CD : Addr) : Sp := fun vs H Q E => ∃ x, vs = [x] ∧
  ((∃ t, TyX K H x t ∧ PySem.W.kitOne K t (.type "list") = some false ∧ Thrown H E CB [("why", .str "lists")]) ∨
   (∃ (a : Addr) (items : List V) (g : V → Bool), x = .ref a ∧ SqL K H a items ∧ items.length ≤ 1000 ∧ (∀ y ∈ items, LstS K H y (g y)) ∧ items.all g = false ∧ ∀ H', Same H H' → Thrown H' E CB [("why", .str "lists")]) ∨
   ∃ (a : Addr) (ps : List (Addr × List Int)), x = .ref a ∧ LofL K H a ps ∧ ps.length ≤ 1000 ∧ (∀ p ∈ ps, p.2.length ≤ 1000) ∧ CheckEnd H ps Q E CT CD)
theorem twice_of : ∀ {l : List Int}, ¬ l.Nodup → ∃ z, Twice l z := by
  have key : ∀ (l m : List Int), m.Nodup → ¬ (m ++ l).Nodup → ∃ z, Twice (m ++ l) z := by
    intro l
    induction l with
    | nil => intro m h n; rw [List.append_nil] at n; exact absurd h n
    | cons x l ih =>
      intro m h n
      by_cases hx : x ∈ m
      · refine ⟨x, m.length, by rw [List.getElem?_append_right (Nat.le_refl _), Nat.sub_self]; rfl, ?_, ?_⟩
        · rw [List.take_left' rfl]; exact hx
        · rw [List.take_left' rfl]; exact h
      · have e : m ++ x :: l = (m ++ [x]) ++ l := by simp
        rw [e] at n ⊢
        exact ih (m ++ [x]) (List.nodup_append.mpr ⟨h, by simp, fun a ha b hb => by rw [List.mem_singleton.mp hb]; rintro rfl; exact hx ha⟩) n
  exact fun {l} n => by have := key l [] List.nodup_nil (by simpa using n); simpa using this
theorem ok_checkX {f fL fU CB CT CD fB fT fD : Addr} {fd fdL fdU dB dT dD : FuncData} (F : Fun K "_check_lists" "_check_lists" sCheck f fd) (T : Txt mg)
    (gL : mg "_is_list_of_ints" = some (.ref fL)) (kL : PySem.W.keepIn K (.ref fL) = true) (bL : Binds K fdL ["items"] []) (GL : FnOk P w K mg base CX0 2 fL fdL ["items"] (spIsListX K))
    (gU : mg "check_unlike" = some (.ref fU)) (kU : PySem.W.keepIn K (.ref fU) = true) (bU : Binds K fdU ["things"] []) (GU : FnOk P w K mg base (L2.CX P w) 4 fU fdU ["things"] (spUnlikeX K CD))
    (TB : BadTxt P w K mg base CB fB dB) (TT : ErrTxt P w K mg base "TooMany" "limit" "too many" CT fT dT) :
    FnOk P w K mg base (L2.CX P w) 5 f fd ["lists"] (spCheckX K CB CT CD) := by
  refine F.okX scCheck (fun vs H Q E h => ?_) (fun cdv A outer s H vs Q E hr h => ?_)
  · obtain ⟨x, rfl, _⟩ := h
    rfl
  · obtain ⟨x, rfl, h⟩ := h
    obtain ⟨tm, hm⟩ := T.most
    have hr2 : Room 2 _ := hr.mono (by decide)
    have hr3 : Room 3 _ := hr.mono (by decide)
    refine ⟨_, pss_cons (ps_if (PW.pt (pw_or (pt_not (pt_val (pe_callB call_isi (by rfl) T.isinstance (by decide +kernel) (pa_cons (pv 0) (pa_cons (pe_bltn (v := .ty "list") (by rfl) T.list (by decide +kernel) rfl) pa_nil)))))
        (pw_or1 (pt_not (pt_val (pe_callB (cr_all rfl) (by rfl) T.all (by decide +kernel) (pa_cons (pe_lc (own := [("items", 1)]) (g := gName 1) (tt := tYes) rfl scCheck.nd (pi_list (pv 0)) (blkOk_by (N := ["lists", "items"]) (sc := defScope sCheck) (by decide +kernel))
          (fun _ _ _ _ _ => pg_name (i := 1) scCheck.nd rfl (Or.inl rfl)) (fun _ _ _ _ _ => pts_nil) (fun _ _ _ _ _ => pe_call GL hr2 rfl gL kL bL .nil pass0 (pa_cons (pv 1) pa_nil))) pa_nil)))))))
          (pss_one (ps_raise rfl (takes_of rfl rfl rfl rfl) (pmk_oex TB.T TB.iC TB.tI TB.GI hr2 TB.bI .nil pass0 rfl TB.gC (pa_cons pe_str pa_nil)))) pss_nil)
      (pss_cons (ps_if (PW.pt (pw_or (pt_cmpR op_gt (pe_callB call_len_seq (by rfl) T.len PySem.boot_len (pa_cons (pv 0) pa_nil)) (pe_glob (v := .int 30) rfl hm ⟨_, rfl⟩) (nomark _))
        (pw_or1 (pt_val (pe_callB (cr_any rfl) (by rfl) T.any (by decide +kernel) (pa_cons (pe_lc (own := [("items", 1)]) (g := gName 1) (tt := tYes) (te := tOp rGt (tCB (rLenQ K) (tCons (tVar 1) tNil)) (tC (.int 30))) rfl scCheck.nd (pi_list (pv 0)) (blkOk_by (N := ["lists", "items"]) (sc := defScope sCheck) (by decide +kernel))
          (fun _ _ _ _ _ => pg_name (i := 1) scCheck.nd rfl (Or.inl rfl)) (fun _ _ _ _ _ => pts_nil) (fun _ _ _ _ _ => pe_cmpR op_gt (pe_callB call_lenQ (by rfl) T.len PySem.boot_len (pa_cons (pv 1) pa_nil)) (pe_glob (v := .int 30) rfl hm ⟨_, rfl⟩) (nomark _))) pa_nil))))))
          (pss_one (ps_raise rfl (takes_of rfl rfl rfl rfl) (pmk_oex TT.T TT.iC TT.tI TT.GI hr3 TT.bI .nil pass0 rfl TT.gC (pa_cons (pe_glob (v := .int 30) rfl hm ⟨_, rfl⟩) pa_nil)))) pss_nil)
      (pss_one (ps_for (passes_of rfl) rfl (pi_list (pv 0)) (pg_name (i := 1) scCheck.nd rfl (Or.inl rfl)) (pss_one (ps_expr (pe_callS GU hr rfl gU kU bU (fun σ => passAt (takes_of rfl rfl rfl rfl) σ) (pa_cons (pv 1) pa_nil))))))), ?_⟩
    rcases h with ⟨t, ty, hk, th⟩ | ⟨a, items, g, rfl, hS, hl, hi, hall, th⟩ | ⟨a, ps, rfl, hL, few, short, CE⟩
    · refine ⟨_, rfl, _, .ty "list", t, .type "list", false, rfl, .ty _, ty, hk, false, rfl, iteT (iteT ?_)⟩
      exact mk_bad (y := .str "lists") TB ⟨rfl, Same.refl _, th⟩ fun imp q => imp _ _ q
    · refine ⟨_, rfl, _, .ty "list", .type "list", .type "list", true, rfl, .ty _, tyx_list hS, kit_ty (by decide +kernel), true, rfl, iteF ?_⟩
      refine ⟨_, rfl, a, rfl, ⟨_, hS⟩, fun D hD => lc_pure (K := K) (xs := items) 1 (fun y => .bl (g y)) hS (Nat.le_of_lt (small1000 hl)) hD (fun _ => rfl) (fun j x H1 Q1 hx s1 q1 => ?_) fun H1 s1 h1 => ?_⟩
      · rcases hi x (List.mem_of_getElem? hx) H1 s1 with ⟨t, ty, hk, e⟩ | ⟨a', items', f', rfl, hS', hl', hi', e⟩
        · rw [e] at q1
          exact ⟨_, rfl, x, rfl, .inl ⟨t, ty, hk, q1 _ (Same.refl _)⟩⟩
        · rw [e] at q1
          exact ⟨_, rfl, _, rfl, .inr ⟨a', items', f', rfl, hS', hl', hi', fun H' s' => q1 H' s'⟩⟩
      · have e1 : items.map (fun y => V.bl (g y)) = (items.map g).map V.bl := by rw [List.map_map]; rfl
        refine ⟨D, items.map g, rfl, SqL.of (by rw [h1, e1]), ?_⟩
        have e2 : (items.map g).all id = items.all g := by rw [List.all_map]; rfl
        rw [e2, hall]
        refine ⟨false, rfl, iteT ?_⟩
        exact mk_bad (y := .str "lists") TB ⟨rfl, Same.refl _, th _ s1⟩ fun imp q => imp _ _ q
    · have sz : (ps.map fun p => V.ref p.1).length ≤ sizeLine := by rw [List.length_map]; exact Nat.le_of_lt (small1000 few)
      refine ⟨_, rfl, _, .ty "list", .type "list", .type "list", true, rfl, .ty _, tyx_list hL.1, kit_ty (by decide +kernel), true, rfl, iteF ?_⟩
      refine ⟨_, rfl, a, rfl, ⟨_, hL.1⟩, fun D hD => lc_pure (K := K) (xs := refsOf ps) 1 (fun _ => .bl true) hL.1 sz hD (fun _ => rfl) (fun j x H1 Q1 hx s1 q1 => ?_) fun H1 s1 h1 => ?_⟩
      · obtain ⟨p, hp, rfl⟩ := get_map hx
        have mp := List.mem_of_getElem? hp
        rcases lst_ints (hL.2 p mp) (short p mp) H1 s1 with ⟨t, ty, hk, e⟩ | ⟨a', items', f', e0, hS', hl', hi', e⟩
        · cases e
        · refine ⟨_, rfl, _, rfl, .inr ⟨a', items', f', e0, hS', hl', hi', fun H' s' => ?_⟩⟩
          rw [← e]
          exact q1 H' s'
      refine ⟨D, _, rfl, SqL.of (by rw [h1, all_true _ _ fun _ _ => rfl]), ?_⟩
      rw [all_id]
      refine ⟨true, rfl, iteF ?_⟩
      have hL1 := hL.keep s1
      refine ⟨_, rfl, a, _, rfl, .inl hL1.1, _, _, rfl, rfl, _, rfl, ?_⟩
      by_cases c1 : 30 < ps.length
      · rw [decide_eq_true (p := (30 : Int) < ((ps.map fun p => V.ref p.1).length : Nat)) (by rw [List.length_map]; omega)]
        refine iteT (iteT ?_)
        exact mk_err (y := .int 30) TT ⟨rfl, Same.refl _, CE.many (.inl c1) _ s1⟩ fun imp q => imp _ _ q
      · rw [decide_eq_false (p := (30 : Int) < ((ps.map fun p => V.ref p.1).length : Nat)) (by rw [List.length_map]; omega)]
        refine iteF ?_
        refine ⟨_, rfl, a, rfl, ⟨_, hL1.1⟩, fun D2 hD2 => lc_selX (K := K) (ps := ps) (gv := fun p => V.ref p.1) 1 (fun p => V.bl (decide (30 < p.2.length))) (fun _ => true) hL1.1 (small1000 few) hD2 (fun _ => rfl)
          (fun j p H2 Q1 _ s2 q1 => q1 _ (Same.refl _)) (fun j p H2 Q1 hp _ s2 q1 => ?_) fun H2 s2 h2 => ?_⟩
        · have mp := List.mem_of_getElem? hp
          refine ⟨_, rfl, p.1, _, rfl, .inl (s2.seq (hL1.2 p mp)), _, _, rfl, rfl, ?_⟩
          have c2 : decide ((30 : Int) < ((p.2.map V.int).length : Nat)) = decide (30 < p.2.length) := by
            rw [List.length_map]
            by_cases q : 30 < p.2.length
            · rw [decide_eq_true q, decide_eq_true (by omega)]
            · rw [decide_eq_false q, decide_eq_false (by omega)]
          show Q1 (.bl (decide ((30 : Int) < ((p.2.map V.int).length : Nat)))) H2
          rw [c2]
          exact q1 _ (Same.refl _)
        rw [List.filter_eq_self.mpr fun _ _ => rfl] at h2
        have e1 : ps.map (fun p => V.bl (decide (30 < p.2.length))) = (ps.map fun p => decide (30 < p.2.length)).map V.bl := by rw [List.map_map]; rfl
        refine ⟨D2, _, rfl, SqL.of (by rw [h2, e1]), ?_⟩
        have e2 : (ps.map fun p => decide (30 < p.2.length)).any id = ps.any fun p => decide (30 < p.2.length) := by rw [List.any_map]; rfl
        rw [e2]
        cases hany : ps.any fun p => decide (30 < p.2.length) with
        | true =>
          obtain ⟨p, hp, hp2⟩ := List.any_eq_true.mp hany
          refine ⟨true, rfl, iteT ?_⟩
          exact mk_err (y := .int 30) TT ⟨rfl, Same.refl _, CE.many (.inr ⟨p, hp, of_decide_eq_true hp2⟩) _ (s1.trans s2)⟩ fun imp q => imp _ _ q
        | false =>
          have sh : ∀ p ∈ ps, p.2.length ≤ 30 := fun p hp => by
            have := List.any_eq_false.mp hany p hp
            simp only [decide_eq_true_eq] at this
            omega
          refine ⟨false, rfl, iteF ?_⟩
          have hL2 := hL1.keep s2
          refine ⟨_, rfl, a, rfl, ⟨_, hL2.1⟩, for_list (K := K) (a := a) (xs := refsOf ps) (fun i σ H' => (∃ v : Option V, σ = [some (.ref a), v]) ∧ Same H H' ∧ ∀ q ∈ ps.take i, q.2.Nodup)
            ⟨⟨_, rfl⟩, s1.trans s2, fun q hq => by simp at hq⟩ (fun i σ H' _ ⟨_, s3, _⟩ => s3.seq hL.1) ?_ ?_⟩
          · rintro i y σ H' hi ⟨⟨v, rfl⟩, s3, nd⟩
            obtain ⟨p, hp, rfl⟩ := get_map hi
            have mp := List.mem_of_getElem? hp
            refine ⟨_, rfl, p.1, p.2, rfl, s3.seq (hL.2 p mp), short p mp, fun ndp H4 s4 => ⟨⟨_, rfl⟩, s3.trans s4, fun q hq => ?_⟩, fun z tw H4 s4 => CE.twice (by omega) sh i p z hp nd tw _ (s3.trans s4)⟩
            rw [take_snoc hp] at hq
            rcases List.mem_append.mp hq with m | m
            · exact nd q m
            · rw [List.mem_singleton.mp m]; exact ndp
          · rintro σ H' ⟨⟨v, rfl⟩, s3, nd⟩
            have e : ps.take (refsOf ps).length = ps := List.take_of_length_le (by rw [List.length_map]; exact Nat.le_refl _)
            rw [e] at nd
            exact CE.fit ⟨by omega, sh, nd⟩ _ s3
end
end Pr

set_option Elab.async false
set_option linter.all false
set_option maxRecDepth 100000
set_option maxHeartbeats 4000000
namespace Pr
open PySem L2 Two
theorem putK_len {kvs : List (Key × V)} {k : Key} {v y : V} (h : valV kvs k = some v) : (putK kvs k y).length = kvs.length := by
  unfold putK
  rw [valV_any, h]
  simp
/-- the dict that counts: of each item that is left, f of it -/
def Cts (kvs : List (Key × V)) (inn : Int → Prop) (f : Int → Int) : Prop := ∀ y, inn y → valV kvs (.inl y) = some (.int (f y))
def inL (rs : List (List Int)) (y : Int) : Prop := ∃ r ∈ rs, y ∈ r
theorem Cts.put {kvs : List (Key × V)} {inn inn' : Int → Prop} {f f' : Int → Int} {z : Int} {c : Int} (h : Cts kvs inn f) (sub : ∀ y, inn' y → y ≠ z → inn y) (hz : f' z = c) (he : ∀ y, inn' y → y ≠ z → f' y = f y) :
    Cts (putK kvs (.inl z) (.int c)) inn' f' := fun y hy => by
  rw [valV_put]
  by_cases e : y = z
  · subst e
    rw [if_pos rfl, hz]
  · rw [if_neg (fun q => e (Sum.inl.inj q)), h y (sub y hy e), he y hy e]
theorem Cts.imp {kvs : List (Key × V)} {inn inn' : Int → Prop} {f f' : Int → Int} (h : Cts kvs inn f) (sub : ∀ y, inn' y → inn y) (he : ∀ y, inn' y → f' y = f y) : Cts kvs inn' f' := fun y hy => by
  rw [h y (sub y hy), he y hy]
theorem inL_at {ps : List (Addr × List Int)} {p : Addr × List Int} {y : Int} (hp : p ∈ ps) (hy : y ∈ p.2) : inL (lsOf ps) y := ⟨p.2, List.mem_map.mpr ⟨p, hp, rfl⟩, hy⟩
theorem lsOf_at {ps : List (Addr × List Int)} {i : Nat} {p : Addr × List Int} (h : ps[i]? = some p) : (lsOf ps)[i]? = some p.2 := by
  rw [List.getElem?_map, h]
  rfl
section
variable {P : Program} {w : World} {K : PySem.W.Frag} {mg : Str → Option Value} {base : Heap}
/-! ### _times_behind -/
def spTimes (K : PySem.W.Frag) : Sp := fun vs H Q _ => ∃ (a : Addr) (ps : List (Addr × List Int)), vs = [.ref a] ∧ LofL K H a ps ∧ Fit ps ∧
  ∀ (H' : Hp) (B : Addr) (kvs : List (Key × V)), Same H H' → H B = none → H' B = some (.dK kvs) → kvs.length ≤ 900 → Cts kvs (inL (lsOf ps)) (fun y => Mg.cnt (lsOf ps) y) → Q (.ref B) H'
theorem scTimes : FnScope ["lists", "items", "item", "behind"] ["lists"] (defScope sTimes) := ⟨rfl, rfl, rfl, by decide +kernel, rfl, by decide +kernel, by decide +kernel⟩
theorem ok_times {f : Addr} {fd : FuncData} (F : Fun K "_times_behind" "_times_behind" sTimes f fd) (T : Txt mg) : FnOk P w K mg base CX0 1 f fd ["lists"] (spTimes K) := by
  refine F.ok scTimes (fun vs H Q E h => ?_) (fun cdv A outer s H vs Q E hr h => ?_)
  · obtain ⟨a, ps, rfl, _⟩ := h
    rfl
  · obtain ⟨a, ps, rfl, hL, fit, k⟩ := h
    have hu := hu_of hr
    refine ⟨_, pss_cons (ps_setDc2 (i := 3) (own := [("items", 1), ("item", 2)]) (vs1 := [2]) (wi1 := iList K (tVar 1)) (g := gName 1) (g1 := gName 2) (tk := tVar 2) (tv := tC (.int 0)) rfl scTimes.nd rfl rfl (swD rfl rfl rfl (by decide +kernel)) (pi_list (pv 0))
        (blkOk_by (N := ["lists", "items", "item", "behind"]) (sc := defScope sTimes) (by decide +kernel)) (by decide)
        (fun _ _ _ _ _ => pg_name (i := 1) scTimes.nd rfl (Or.inl rfl)) (fun _ _ _ _ _ => pi_list (pv 1)) (fun _ _ _ _ _ => pg_name (i := 2) scTimes.nd rfl (Or.inl rfl)) (fun _ _ _ _ _ => pv 2) (fun _ _ _ _ _ => pe_int))
      (pss_cons (ps_for PassesOwn.never rfl (pi_list (pv 0)) (pg_name (i := 1) scTimes.nd rfl (Or.inl rfl))
        (pss_one (ps_for PassesOwn.never rfl (pi_list (pe_slice sl_list (pv 1) (po_some pe_int) po_none)) (pg_name (i := 2) scTimes.nd rfl (Or.inl rfl))
          (pss_one (ps_daug hu (pv 3) (pv 2) pe_int in_add (fun _ _ _ => rfl))))))
      (pss_one (ps_ret (pv 3)))), ?_⟩
    refine ⟨_, rfl, a, rfl, ⟨_, hL.1⟩, fun B hB => ?_⟩
    refine outer_list (K := K) (xs := refsOf ps) (fun i G => Same H G ∧ ∃ kvs, G B = some (.dK kvs) ∧ kvs.length ≤ 30 * i ∧ Cts kvs (inL ((lsOf ps).take i)) (fun _ => 0))
      ⟨same_new hB, [], upd_same, Nat.le_refl _, fun y hy => by obtain ⟨r, hr, _⟩ := hy; cases hr⟩ (fun i G _ p => p.1.seq hL.1) (fun i x G hx p => ?_) (fun G p => ?_)
    · obtain ⟨q, hq, rfl⟩ := get_map hx
      obtain ⟨s1, kvs, hG, hk, hc⟩ := p
      have mq := List.mem_of_getElem? hq
      have short := fit.short q mq
      have few : i < 30 := by
        have := (List.getElem?_eq_some_iff.mp hq).1
        have := fit.few
        omega
      refine ⟨rfl, _, rfl, q.1, rfl, ⟨_, s1.seq (hL.2 q mq)⟩, ?_⟩
      refine inner_list (K := K) (xs := q.2.map V.int) (fun j G => Same H G ∧ ∃ kvs, G B = some (.dK kvs) ∧ kvs.length ≤ 30 * i + j ∧ Cts kvs (fun y => inL ((lsOf ps).take i) y ∨ y ∈ q.2.take j) (fun _ => 0))
        ⟨s1, kvs, hG, by omega, hc.imp (fun y hy => hy.elim id fun k => (nomatch k)) fun _ _ => rfl⟩ (fun j G _ p => p.1.seq (hL.2 q mq)) (fun j x G hx p => ?_) (fun G p => ?_)
      · obtain ⟨z, hz, rfl⟩ := get_map hx
        obtain ⟨s2, kvs, hG, hk, hc⟩ := p
        have hj := (List.getElem?_eq_some_iff.mp hz).1
        refine ⟨rfl, _, rfl, kvs, Sum.inl z, rfl, hG, small1000 (by omega), same_upd s2 hB, _, upd_same, ?_, ?_⟩
        · have := length_putK kvs (Sum.inl z) (V.int 0)
          omega
        · refine hc.put (fun y hy ne => hy.imp id fun k => ?_) rfl (fun _ _ _ => rfl)
          rw [take_snoc hz] at k
          rcases List.mem_append.mp k with k | k
          · exact k
          · exact absurd (List.mem_singleton.mp k) ne
      · obtain ⟨s2, kvs, hG, hk, hc⟩ := p
        rw [List.length_map] at hk hc
        refine ⟨s2, kvs, hG, by omega, hc.imp (fun y hy => ?_) fun _ _ => rfl⟩
        obtain ⟨r, hr, hy⟩ := hy
        rw [take_snoc (lsOf_at hq)] at hr
        rcases List.mem_append.mp hr with m | m
        · exact .inl ⟨r, m, hy⟩
        · rw [List.mem_singleton.mp m] at hy
          exact .inr (by rw [List.take_length]; exact hy)
    · obtain ⟨s1, kvs, hG, hk, hc⟩ := p
      rw [List.length_map] at hk hc
      have few := fit.few
      have hc : Cts kvs (inL (lsOf ps)) (fun _ => 0) := hc.imp (fun y hy => by
        have e : (lsOf ps).take ps.length = lsOf ps := List.take_of_length_le (by rw [List.length_map]; exact Nat.le_refl _)
        rw [e]
        exact hy) fun _ _ => rfl
      show tSeq _ _ _ ([some (.ref a), none, none, none].set 3 (some (.ref B))) G
      refine ⟨_, rfl, a, rfl, ⟨_, s1.seq hL.1⟩, for_list (K := K) (a := a) (xs := refsOf ps) (fun i σ G => ∃ (v1 v2 : Option V) (kvs : List (Key × V)), σ = [some (.ref a), v1, v2, some (.ref B)] ∧ Same H G ∧ G B = some (.dK kvs) ∧ kvs.length ≤ 900 ∧
          Cts kvs (inL (lsOf ps)) (fun y => Mg.cnt ((lsOf ps).take i) y))
        ⟨none, none, kvs, rfl, s1, hG, by omega, hc⟩ (fun i σ G _ ⟨_, _, _, _, s2, _⟩ => s2.seq hL.1) ?_ ?_⟩
      · rintro i x σ G2 hx ⟨v1, v2, kvs, rfl, s2, hG2, hk2, hc2⟩
        obtain ⟨q, hq, rfl⟩ := get_map hx
        have mq := List.mem_of_getElem? hq
        refine ⟨_, rfl, _, rfl, q.1, _, rfl, s2.seq (hL.2 q mq), fun L hLn => ?_⟩
        rw [cut_tail, ← List.map_tail]
        have ndt : q.2.tail.Nodup := (fit.nd q mq).sublist (List.tail_sublist _)
        refine ⟨L, rfl, ⟨_, SqL.of upd_same⟩, for_list (K := K) (a := L) (xs := q.2.tail.map V.int) (fun j σ G => ∃ (v2 : Option V) (kvs : List (Key × V)), σ = [some (.ref a), some (.ref q.1), v2, some (.ref B)] ∧ Same H G ∧ G L = some (.lst (q.2.tail.map V.int)) ∧ G B = some (.dK kvs) ∧ kvs.length ≤ 900 ∧
            Cts kvs (inL (lsOf ps)) (fun y => (Mg.cnt ((lsOf ps).take i) y : Int) + Mg.one (q.2.tail.take j) y))
          ⟨v2, kvs, rfl, same_upd s2 (none_of_same s2 hLn), upd_same, by rw [upd_ne (ne_of_none hG2 hLn)]; exact hG2, hk2, hc2.imp (fun _ h => h) fun y _ => by simp [Mg.one]⟩
          (fun j σ G _ ⟨_, _, _, _, h, _⟩ => SqL.of h) ?_ ?_⟩
        · rintro j x σ G3 hx ⟨v2, kvs, rfl, s3, hL3, hB3, hk3, hc3⟩
          obtain ⟨z, hz, rfl⟩ := get_map hx
          have zin : inL (lsOf ps) z := inL_at mq (List.mem_of_mem_tail (List.mem_of_getElem? hz))
          have hv := hc3 z zin
          refine ⟨_, rfl, _, rfl, B, _, rfl, by rw [← hv]; exact DGet.k (k := Sum.inl z) hB3, _, _, rfl, rfl, _, DPut.k (k := Sum.inl z) hB3 (small1000 (by omega)), ?_⟩
          refine ⟨_, _, rfl, same_upd s3 hB, by rw [upd_ne (ne_of hL3 hB3 (by intro e; cases e))]; exact hL3, upd_same, by rw [putK_len hv]; exact hk3, ?_⟩
          refine hc3.put (fun y hy _ => hy) ?_ (fun y _ ne => ?_)
          · show (Mg.cnt ((lsOf ps).take i) z : Int) + Mg.one (q.2.tail.take (j + 1)) z = (Mg.cnt ((lsOf ps).take i) z : Int) + Mg.one (q.2.tail.take j) z + 1
            rw [Mg.one_take_succ ndt hz, if_pos rfl]
            omega
          · show (Mg.cnt ((lsOf ps).take i) y : Int) + Mg.one (q.2.tail.take (j + 1)) y = _
            rw [Mg.one_take_succ ndt hz, if_neg ne]
        · rintro σ G3 ⟨v2, kvs, rfl, s3, hL3, hB3, hk3, hc3⟩
          rw [List.length_map] at hc3
          refine ⟨_, _, kvs, rfl, s3, hB3, hk3, hc3.imp (fun _ h => h) fun y _ => ?_⟩
          show (Mg.cnt ((lsOf ps).take (i + 1)) y : Int) = _
          rw [take_snoc (lsOf_at hq), Mg.cnt_append, Mg.cnt_one, List.take_length]
          omega
      · rintro σ G2 ⟨v1, v2, kvs, rfl, s2, hG2, hk2, hc2⟩
        refine ⟨_, rfl, k G2 B kvs s2 hB hG2 hk2 ?_⟩
        rw [List.length_map] at hc2
        have e : (lsOf ps).take ps.length = lsOf ps := List.take_of_length_le (by rw [List.length_map]; exact Nat.le_refl _)
        rw [e] at hc2
        exact hc2
end
end Pr

set_option Elab.async false
set_option linter.all false
set_option maxRecDepth 100000
set_option maxHeartbeats 4000000
namespace Pr
open PySem L2 Two
section
variable {P : Program} {w : World} {K : PySem.W.Frag} {mg : Str → Option Value} {base : Heap}
theorem at0 (z : Int) (t : List Int) : atI ((z :: t).map V.int) 0 = some (.int z) := atI_nat (xs := (z :: t).map V.int) (j := 0) rfl
theorem seq0 (z : Int) (t : List Int) : seqIndex? 0 ((z :: t).map V.int).length = some 0 := by
  unfold seqIndex?
  simp
/-! ### _first_free -/
def freeV : Option Int → V
  | some x => .int x
  | none => .non
def spFree (K : PySem.W.Frag) : Sp := fun vs H Q _ => ∃ (R B : Addr) (ps : List (Addr × List Int)) (kvs : List (Key × V)), vs = [.ref R, .ref B] ∧ LofL K H R ps ∧ H B = some (.dK kvs) ∧
  Cts kvs (inL (lsOf ps)) (fun y => Mg.cnt (lsOf ps) y) ∧ Q (freeV (Mg.firstFree (lsOf ps))) H
theorem scFree : FnScope ["rests", "behind", "rest"] ["rests", "behind"] (defScope sFree) := ⟨rfl, rfl, rfl, by decide +kernel, rfl, by decide +kernel, by decide +kernel⟩
theorem heads_snoc_nil {rs : List (List Int)} : Mg.heads (rs ++ [[]]) = Mg.heads rs := by
  rw [Mg.heads_append]
  exact List.append_nil _
theorem heads_snoc {rs : List (List Int)} {z : Int} {t : List Int} : Mg.heads (rs ++ [z :: t]) = Mg.heads rs ++ [z] := Mg.heads_append _ _
theorem find_split {rs : List (List Int)} {i : Nat} {c : Int → Bool} (h : (Mg.heads (rs.take i)).find? c = none) {z : Int} {t : List Int} (hz : rs[i]? = some (z :: t)) (hc : c z = true) : (Mg.heads rs).find? c = some z := by
  obtain ⟨hlt, hv⟩ := List.getElem?_eq_some_iff.mp hz
  have e : rs = rs.take i ++ (z :: t) :: rs.drop (i + 1) := by
    conv => lhs; rw [← List.take_append_drop i rs, List.drop_eq_getElem_cons hlt, hv]
  rw [e, Mg.heads_append, List.find?_append, h]
  show (Mg.heads ([z :: t] ++ rs.drop (i + 1))).find? c = some z
  rw [Mg.heads_append]
  show (z :: Mg.heads (rs.drop (i + 1))).find? c = some z
  rw [List.find?_cons_of_pos hc]
theorem ok_free {f : Addr} {fd : FuncData} (F : Fun K "_first_free" "_first_free" sFree f fd) (T : Txt mg) : FnOk P w K mg base CX0 1 f fd ["rests", "behind"] (spFree K) := by
  refine F.ok scFree (fun vs H Q E h => ?_) (fun cdv A outer s H vs Q E hr h => ?_)
  · obtain ⟨R, B, ps, kvs, rfl, _⟩ := h
    rfl
  · obtain ⟨R, B, ps, kvs, rfl, hL, hB, hc, k⟩ := h
    have hu := hu_of hr
    refine ⟨_, pss_cons (ps_for PassesOwn.never rfl (pi_list (pv 0)) (pg_name (i := 2) scFree.nd rfl (Or.inl rfl))
        (pss_one (ps_if (PW.pt (pw_and (pt_truth (pv 2) (by intro _; rfl)) (pw_and1 (pt_cmpR op_eq (pe_dget hu (pv 1) (pe_ix ix_list (pv 2) pe_int (fun _ _ => rfl)) (fun _ _ => rfl)) pe_int (nomark _)))))
          (pss_one (ps_ret (pe_ix ix_list (pv 2) pe_int (fun _ _ => rfl)))) pss_nil)))
      (pss_one (ps_ret pe_non)), ?_⟩
    refine ⟨_, rfl, R, rfl, ⟨_, hL.1⟩, for_list (K := K) (a := R) (xs := refsOf ps) (fun i σ G => G = H ∧ ∃ v : Option V, σ = [some (.ref R), some (.ref B), v] ∧ (Mg.heads ((lsOf ps).take i)).find? (Mg.clear (lsOf ps)) = none)
      ⟨rfl, none, rfl, rfl⟩ (fun i σ G _ p => by rw [p.1]; exact hL.1) ?_ ?_⟩
    · rintro i x σ G hx ⟨rfl, v, rfl, hf⟩
      obtain ⟨q, hq, rfl⟩ := get_map hx
      have mq := List.mem_of_getElem? hq
      have hS := hL.2 q mq
      have hl := lsOf_at hq
      rcases hqv : q.2 with _ | ⟨z, t⟩
      · rw [hqv] at hS hl
        refine ⟨_, rfl, false, .inl ⟨_, hS, rfl⟩, iteF (iteF ⟨rfl, _, rfl, ?_⟩)⟩
        rw [take_snoc hl, heads_snoc_nil]
        exact hf
      · rw [hqv] at hS hl
        have hv := hc z (inL_at mq (by rw [hqv]; exact List.mem_cons_self))
        refine ⟨_, rfl, true, .inl ⟨_, hS, rfl⟩, iteT ?_⟩
        refine ⟨_, rfl, _, rfl, q.1, _, 0, .int z, rfl, rfl, hS, at0 _ _, B, _, rfl, by rw [← hv]; exact DGet.k (k := Sum.inl z) hB, rfl, _, rfl, ?_⟩
        have e : decide (V.int (Mg.cnt (lsOf ps) z : Int) = V.int 0) = Mg.clear (lsOf ps) z := by
          rw [Mg.clear_dec]
          by_cases h0 : (Mg.cnt (lsOf ps) z : Int) = 0
          · rw [h0]
            rfl
          · rw [decide_eq_false h0, decide_eq_false fun e => h0 (V.int.inj e)]
        rw [e]
        cases hcl : Mg.clear (lsOf ps) z with
        | false =>
          refine iteF ⟨rfl, _, rfl, ?_⟩
          rw [take_snoc hl, heads_snoc, List.find?_append, hf]
          show [z].find? (Mg.clear (lsOf ps)) = none
          rw [List.find?_cons_of_neg (by rw [hcl]; decide)]
          rfl
        | true =>
          refine iteT ⟨_, rfl, q.1, _, 0, .int z, rfl, rfl, hS, at0 _ _, ?_⟩
          have ff : Mg.firstFree (lsOf ps) = some z := find_split hf hl hcl
          rw [ff] at k
          exact k
    · rintro σ G ⟨rfl, v, rfl, hf⟩
      have ff : Mg.firstFree (lsOf ps) = none := by
        have e : (lsOf ps).take (refsOf ps).length = lsOf ps := List.take_of_length_le (by rw [List.length_map, List.length_map]; exact Nat.le_refl _)
        rw [e] at hf
        exact hf
      rw [ff] at k
      exact k

/-! ### _take -/
/-- the rests: a list of lists of its own -/
structure Own (H : Hp) (R : Addr) (ps : List (Addr × List Int)) : Prop where
  at_ : H R = some (.lst (refsOf ps))
  each : ∀ p ∈ ps, H p.1 = some (.lst (p.2.map V.int))
  nd : (ps.map (·.1)).Nodup
theorem Own.lofl {K : PySem.W.Frag} {H : Hp} {R : Addr} {ps : List (Addr × List Int)} (o : Own H R ps) : LofL K H R ps := ⟨SqL.of o.at_, fun p hp => SqL.of (o.each p hp)⟩
theorem refs_ints {ps : List (Addr × List Int)} {p : Addr × List Int} (hp : p ∈ ps) : refsOf ps ≠ p.2.map V.int := by
  intro e
  cases ps with
  | nil => cases hp
  | cons q qs =>
    cases h : p.2 with
    | nil =>
      rw [h] at e
      cases e
    | cons z t =>
      rw [h] at e
      cases e
theorem Own.ne {H : Hp} {R : Addr} {ps : List (Addr × List Int)} (o : Own H R ps) {p : Addr × List Int} (hp : p ∈ ps) : p.1 ≠ R :=
  (ne_of o.at_ (o.each p hp) (fun e => refs_ints hp (HO.lst.inj e))).symm
/-- a list of pairs with one more item taken -/
def taken (x : Int) (ps : List (Addr × List Int)) : List (Addr × List Int) := ps.map fun p => (p.1, Mg.pull1 x p.2)
theorem taken_ls (x : Int) (ps : List (Addr × List Int)) : lsOf (taken x ps) = Mg.pull x (lsOf ps) := by
  unfold taken Mg.pull lsOf
  rw [List.map_map, List.map_map]
  rfl
theorem taken_refs (x : Int) (ps : List (Addr × List Int)) : refsOf (taken x ps) = refsOf ps := by
  unfold taken refsOf
  rw [List.map_map]
  rfl
theorem taken_fst (x : Int) (ps : List (Addr × List Int)) : (taken x ps).map (·.1) = ps.map (·.1) := by
  unfold taken
  rw [List.map_map]
  rfl
/-- nothing but these addresses has changed -/
def But (S : Addr → Prop) (H H' : Hp) : Prop := ∀ b o, ¬ S b → H b = some o → H' b = some o
def spTake : Sp := fun vs H Q _ => ∃ (x : Int) (R B : Addr) (ps : List (Addr × List Int)) (kvs : List (Key × V)), vs = [.int x, .ref R, .ref B] ∧ Own H R ps ∧ H B = some (.dK kvs) ∧ kvs.length ≤ 900 ∧
  Cts kvs (inL (lsOf ps)) (fun y => Mg.cnt (lsOf ps) y) ∧ (∀ p ∈ ps, p.2.Nodup ∧ p.2.length ≤ 30) ∧
  ∀ (H' : Hp) (kvs' : List (Key × V)), But (fun b => b = B ∨ b ∈ ps.map (·.1)) H H' → Own H' R (taken x ps) → H' B = some (.dK kvs') → kvs'.length ≤ 900 →
    Cts kvs' (inL (Mg.pull x (lsOf ps))) (fun y => Mg.cnt (Mg.pull x (lsOf ps)) y) → Q .non H'
theorem scTake : FnScope ["item", "rests", "behind", "rest"] ["item", "rests", "behind"] (defScope sTake) := ⟨rfl, rfl, rfl, by decide +kernel, rfl, by decide +kernel, by decide +kernel⟩
theorem nodup_fst {ps : List (Addr × List Int)} (nd : (ps.map (·.1)).Nodup) {i j : Nat} {p q : Addr × List Int} (hp : ps[i]? = some p) (hq : ps[j]? = some q) (e : p.1 = q.1) : i = j := by
  induction ps generalizing i j with
  | nil => simp at hp
  | cons a l ih =>
    have nd := List.nodup_cons.mp nd
    match i, j with
    | 0, 0 => rfl
    | 0, j + 1 =>
      have h1 : a = p := Option.some.inj hp
      have h2 : l[j]? = some q := hq
      exact absurd (List.mem_map.mpr ⟨q, List.mem_of_getElem? h2, by rw [← e, ← h1]⟩) nd.1
    | i + 1, 0 =>
      have h1 : a = q := Option.some.inj hq
      have h2 : l[i]? = some p := hp
      exact absurd (List.mem_map.mpr ⟨p, List.mem_of_getElem? h2, by rw [e, ← h1]⟩) nd.1
    | i + 1, j + 1 => exact congrArg (· + 1) (ih nd.2 (show l[i]? = some p from hp) (show l[j]? = some q from hq))
/-- what stands behind i turns -/
structure TakeI (H G : Hp) (x : Int) (R B : Addr) (ps : List (Addr × List Int)) (kvs : List (Key × V)) (i : Nat) : Prop where
  but : But (fun b => b = B ∨ b ∈ ps.map (·.1)) H G
  at_ : G R = some (.lst (refsOf ps))
  old : ∀ (k : Nat) (p : Addr × List Int), ps[k]? = some p → i ≤ k → G p.1 = some (.lst (p.2.map V.int))
  new : ∀ (k : Nat) (p : Addr × List Int), ps[k]? = some p → k < i → G p.1 = some (.lst ((Mg.pull1 x p.2).map V.int))
  dic : G B = some (.dK kvs)
  len : kvs.length ≤ 900
  cts : Cts kvs (inL (Mg.mix x (lsOf ps) i)) (fun y => Mg.cnt (Mg.mix x (lsOf ps) i) y)
theorem ok_take {f : Addr} {fd : FuncData} (F : Fun K "_take" "_take" sTake f fd) (T : Txt mg) : FnOk P w K mg base CX0 1 f fd ["item", "rests", "behind"] spTake := by
  refine F.ok scTake (fun vs H Q E h => ?_) (fun cdv A outer s H vs Q E hr h => ?_)
  · obtain ⟨x, R, B, ps, kvs, rfl, _⟩ := h
    rfl
  · obtain ⟨x, R, B, ps, kvs, rfl, own, hB, hlen, hc, small, k⟩ := h
    have hu := hu_of hr
    have BR : B ≠ R := ne_of hB own.at_ (by intro e; cases e)
    have Bp : ∀ p ∈ ps, B ≠ p.1 := fun p hp => ne_of hB (own.each p hp) (by intro e; cases e)
    refine ⟨_, pss_one (ps_for PassesOwn.never rfl (pi_list (pv 1)) (pg_name (i := 3) scTake.nd rfl (Or.inl rfl))
        (pss_one (ps_if (PW.pt (pw_and (pt_truth (pv 3) (by intro _; rfl)) (pw_and1 (pt_cmpR op_eq (pe_ix ix_list (pv 3) pe_int (fun _ _ => rfl)) (pv 0) (nomark _)))))
          (pss_cons (ps_delL (pv 3) pe_int) (pss_one (ps_if (pt_truth (pv 3) (by intro _; rfl)) (pss_one (ps_daug hu (pv 2) (pe_ix ix_list (pv 3) pe_int (fun _ _ => rfl)) pe_int in_sub (fun _ _ _ => rfl))) pss_nil))) pss_nil))), ?_⟩
    refine ⟨_, rfl, R, rfl, ⟨_, SqL.of own.at_⟩, for_list (K := K) (a := R) (xs := refsOf ps) (fun i σ G => ∃ (v : Option V) (kvs : List (Key × V)), σ = [some (.int x), some (.ref R), some (.ref B), v] ∧ TakeI H G x R B ps kvs i)
      ⟨none, kvs, rfl, ⟨fun b o _ e => e, own.at_, fun k p hp _ => own.each p (List.mem_of_getElem? hp), fun k p hp h => (Nat.not_lt_zero _ h).elim, hB, hlen, by rw [Mg.mix_zero]; exact hc⟩⟩
      (fun i σ G _ ⟨_, _, _, t⟩ => SqL.of t.at_) ?_ ?_⟩
    · rintro i y σ G hy ⟨v, kvs, rfl, t⟩
      obtain ⟨q, hq, rfl⟩ := get_map hy
      have mq := List.mem_of_getElem? hq
      have hS := t.old i q hq (Nat.le_refl _)
      have hl := lsOf_at hq
      obtain ⟨ndq, szq⟩ := small q mq
      -- a turn that changes nothing
      have idle : Mg.pull1 x q.2 = q.2 → Mg.mix x (lsOf ps) (i + 1) = Mg.mix x (lsOf ps) i → TakeI H G x R B ps kvs (i + 1) := fun e1 e2 =>
        ⟨t.but, t.at_, fun k p hp h => t.old k p hp (by omega), fun k p hp h => by
          by_cases e : k = i
          · subst e
            rw [hq] at hp
            cases hp
            rw [e1]
            exact hS
          · exact t.new k p hp (by omega), t.dic, t.len, by rw [e2]; exact t.cts⟩
      rcases hqv : q.2 with _ | ⟨z, r⟩
      · rw [hqv] at hS hl
        refine ⟨_, rfl, false, .inl ⟨_, SqL.of hS, rfl⟩, iteF (iteF ⟨_, kvs, rfl, idle (by rw [hqv]; rfl) (Mg.mix_none hl (fun e => nomatch e))⟩)⟩
      · rw [hqv] at hS hl
        refine ⟨_, rfl, true, .inl ⟨_, SqL.of hS, rfl⟩, iteT ?_⟩
        refine ⟨_, rfl, q.1, _, 0, .int z, rfl, rfl, SqL.of hS, at0 _ _, _, rfl, rfl, _, rfl, ?_⟩
        by_cases hzx : z = x
        · subst hzx
          rw [decide_eq_true rfl]
          refine iteT ?_
          refine ⟨_, rfl, q.1, _, 0, 0, rfl, rfl, hS, by decide, by decide, seq0 _ _, ?_⟩
          have pz : Mg.pull1 z (z :: r) = r := by unfold Mg.pull1; simp
          have hS2 : upd G q.1 (.lst (((z :: r).map V.int).eraseIdx 0)) q.1 = some (.lst (r.map V.int)) := upd_same
          -- what stands when the list is shorter
          have short : ∀ kvs2 : List (Key × V), ∀ G2 : Hp, (∀ b, b ≠ B → b ≠ q.1 → G2 b = G b) → G2 q.1 = some (.lst (r.map V.int)) → G2 B = some (.dK kvs2) → kvs2.length ≤ 900 → Cts kvs2 (inL (Mg.mix z (lsOf ps) (i + 1))) (fun y => Mg.cnt (Mg.mix z (lsOf ps) (i + 1)) y) →
              TakeI H G2 z R B ps kvs2 (i + 1) := fun kvs2 G2 same hq2 hB2 hl2 hc2 => by
            have other : ∀ (k : Nat) (p : Addr × List Int), ps[k]? = some p → k ≠ i → G2 p.1 = G p.1 := fun k p hp ne =>
              same p.1 (fun e => Bp p (List.mem_of_getElem? hp) e.symm) (fun e => ne (nodup_fst own.nd hp hq e))
            refine ⟨fun b o hb e => ?_, by rw [same R BR.symm (own.ne mq).symm]; exact t.at_, fun k p hp h => by rw [other k p hp (by omega)]; exact t.old k p hp (by omega), fun k p hp h => ?_, hB2, hl2, hc2⟩
            · rw [same b (fun e => hb (.inl e)) (fun e => hb (.inr (by rw [e]; exact List.mem_map.mpr ⟨q, mq, rfl⟩)))]
              exact t.but b o hb e
            · by_cases e : k = i
              · subst e
                rw [hq] at hp
                cases hp
                rw [hqv, pz]
                exact hq2
              · rw [other k p hp e]
                exact t.new k p hp (by omega)
          cases r with
          | nil =>
            refine ⟨_, rfl, false, .inl ⟨_, SqL.of hS2, rfl⟩, iteF ⟨_, kvs, rfl, short kvs _ (fun b h1 h2 => upd_ne h2) hS2 (by rw [upd_ne (Bp q mq)]; exact t.dic) t.len ?_⟩⟩
            refine t.cts.imp (fun y hy => ?_) fun y _ => by rw [Mg.mix_nil hl]
            obtain ⟨r1, hr1, hy⟩ := hy
            obtain ⟨e1, e2⟩ := Mg.mix_at (x := z) hl
            rw [e2] at hr1
            refine ⟨r1, ?_, hy⟩
            rw [e1]
            rcases List.mem_append.mp hr1 with m | m
            · exact List.mem_append_left _ m
            · rcases List.mem_cons.mp m with m | m
              · rw [m, pz] at hy
                cases hy
              · exact List.mem_append_right _ (List.mem_cons_of_mem _ m)
          | cons h' r' =>
            obtain ⟨e1, e2⟩ := Mg.mix_at (x := z) hl
            have inh : inL (Mg.mix z (lsOf ps) i) h' := ⟨z :: h' :: r', by rw [e1]; simp, by simp⟩
            have hv := t.cts h' inh
            have hBu : upd G q.1 (.lst (((z :: h' :: r').map V.int).eraseIdx 0)) B = some (.dK kvs) := by rw [upd_ne (Bp q mq)]; exact t.dic
            refine ⟨_, rfl, true, .inl ⟨_, SqL.of hS2, rfl⟩, iteT ?_⟩
            refine ⟨_, rfl, _, rfl, q.1, _, 0, .int h', rfl, rfl, SqL.of hS2, at0 _ _, B, _, rfl, by rw [← hv]; exact DGet.k (k := Sum.inl h') hBu, _, _, rfl, rfl, _, DPut.k (k := Sum.inl h') hBu (small1000 (by have := t.len; omega)), ?_⟩
            refine ⟨_, _, rfl, short _ _ (fun b h1 h2 => by rw [upd_ne h1, upd_ne h2]) (by rw [upd_ne (Bp q mq).symm]; exact hS2) upd_same (by rw [putK_len hv]; exact t.len) ?_⟩
            rw [hqv] at ndq
            refine t.cts.put (fun y hy ne => ?_) ?_ (fun y _ ne => ?_)
            · obtain ⟨r1, hr1, hy⟩ := hy
              rw [e2] at hr1
              rcases List.mem_append.mp hr1 with m | m
              · exact ⟨r1, by rw [e1]; exact List.mem_append_left _ m, hy⟩
              · rcases List.mem_cons.mp m with m | m
                · rw [m, pz] at hy
                  exact ⟨z :: h' :: r', by rw [e1]; simp, List.mem_cons_of_mem _ hy⟩
                · exact ⟨r1, by rw [e1]; exact List.mem_append_right _ (List.mem_cons_of_mem _ m), hy⟩
            · show (Mg.cnt (Mg.mix z (lsOf ps) (i + 1)) h' : Int) = _
              rw [Mg.mix_cons hl ndq, if_pos rfl]
            · show (Mg.cnt (Mg.mix z (lsOf ps) (i + 1)) y : Int) = _
              rw [Mg.mix_cons hl ndq, if_neg ne]
        · rw [decide_eq_false fun e => hzx (V.int.inj e)]
          have nh : (z :: r).head? ≠ some x := fun e => hzx (Option.some.inj e)
          exact iteF ⟨_, kvs, rfl, idle (by rw [hqv]; unfold Mg.pull1; rw [if_neg nh]) (Mg.mix_none hl nh)⟩
    · rintro σ G ⟨v, kvs, rfl, t⟩
      have e : (refsOf ps).length = (lsOf ps).length := by rw [List.length_map, List.length_map]
      have tc := t.cts
      rw [e, Mg.mix_all] at tc
      refine k G kvs t.but ⟨by rw [taken_refs]; exact t.at_, fun p hp => ?_, by rw [taken_fst]; exact own.nd⟩ t.dic t.len tc
      obtain ⟨q, hq, e2⟩ := List.mem_map.mp (show p ∈ ps.map _ from hp)
      subst e2
      obtain ⟨n, hn⟩ := List.getElem?_of_mem hq
      exact t.new n q hn (by have := (List.getElem?_eq_some_iff.mp hn).1; rw [List.length_map]; exact this)
end
end Pr

set_option autoImplicit false
namespace Mg
/-! ### the way that is gone -/
def hasIt (rs : List (List Int)) (x : Int) (i : Nat) : Bool := ((rs[i]?).getD []).tail.contains x
/-- the first rest in which x stands behind, and its first item -/
def nxt (rs : List (List Int)) (x : Int) : Int × Nat :=
  ((rs[((List.range rs.length).filter (hasIt rs x)).headD 0]?.getD []).headD 0, ((List.range rs.length).filter (hasIt rs x)).headD 0)
def wayOf (rs : List (List Int)) (x0 : Int) : Nat → List (Int × Nat)
  | 0 => []
  | m + 1 => wayOf rs x0 m ++ [nxt rs (((x0 :: (wayOf rs x0 m).map (·.1))[m]?).getD 0)]
theorem wayOf_len (rs : List (List Int)) (x0 : Int) : ∀ m, (wayOf rs x0 m).length = m
  | 0 => rfl
  | m + 1 => by
    show (wayOf rs x0 m ++ [_]).length = m + 1
    rw [List.length_append, wayOf_len rs x0 m]
    rfl
theorem wayOf_take (rs : List (List Int)) (x0 : Int) (m : Nat) : ∀ k, (wayOf rs x0 (m + k)).take m = wayOf rs x0 m
  | 0 => List.take_of_length_le (by rw [Nat.add_zero, wayOf_len]; exact Nat.le_refl _)
  | k + 1 => by
    show (wayOf rs x0 (m + k) ++ [_]).take m = _
    rw [List.take_append_of_le_length (by rw [wayOf_len]; omega)]
    exact wayOf_take rs x0 m k
abbrev xsW (rs : List (List Int)) (x0 : Int) (m : Nat) : List Int := x0 :: (wayOf rs x0 m).map (·.1)
theorem xsW_at (rs : List (List Int)) (x0 : Int) {m j : Nat} (h : j ≤ m) (k : Nat) : (xsW rs x0 (m + k))[j]? = (xsW rs x0 m)[j]? := by
  cases j with
  | zero => rfl
  | succ j =>
    show ((wayOf rs x0 (m + k)).map (·.1))[j]? = ((wayOf rs x0 m).map (·.1))[j]?
    rw [← wayOf_take rs x0 m k, List.map_take, List.getElem?_take_of_lt (by omega)]
/-- the ring that is found -/
def RingDet (rs : List (List Int)) (ring : List (Int × Nat)) : Prop := ∃ (x0 : Int) (m p : Nat), (heads rs).head? = some x0 ∧ ((xsW rs x0 m).take m).Nodup ∧ p < m ∧ (xsW rs x0 m)[p]? = (xsW rs x0 m)[m]? ∧ ring = ((wayOf rs x0 m).drop p).reverse
theorem nodup_get {l : List Int} {i j : Nat} {y : Int} (nd : l.Nodup) (hi : l[i]? = some y) (hj : l[j]? = some y) : i = j := by
  obtain ⟨l1, e1⟩ := List.getElem?_eq_some_iff.mp hi
  obtain ⟨l2, e2⟩ := List.getElem?_eq_some_iff.mp hj
  exact nodup_at nd l1 l2 (e1.trans e2.symm)
theorem ring_lt {rs : List (List Int)} {x0 : Int} {m k p : Nat} (nd : ((xsW rs x0 (m + (k + 1))).take (m + (k + 1))).Nodup) (hp : p < m) (hx : (xsW rs x0 m)[p]? = (xsW rs x0 m)[m]?) : False := by
  have lenm : (xsW rs x0 m).length = m + 1 := by simp [wayOf_len]
  obtain ⟨y, hy⟩ : ∃ y, (xsW rs x0 m)[m]? = some y := ⟨_, List.getElem?_eq_getElem (by omega)⟩
  have a : ((xsW rs x0 (m + (k + 1))).take (m + (k + 1)))[p]? = some y := by
    rw [List.getElem?_take_of_lt (by omega), xsW_at rs x0 (by omega), hx]; exact hy
  have b : ((xsW rs x0 (m + (k + 1))).take (m + (k + 1)))[m]? = some y := by
    rw [List.getElem?_take_of_lt (by omega), xsW_at rs x0 (by omega)]; exact hy
  have := nodup_get nd a b
  omega
theorem RingDet.unique {rs : List (List Int)} {r1 r2 : List (Int × Nat)} (h1 : RingDet rs r1) (h2 : RingDet rs r2) : r1 = r2 := by
  obtain ⟨x, m, p, a1, a2, a3, a4, a5⟩ := h1
  obtain ⟨x', m', p', b1, b2, b3, b4, b5⟩ := h2
  rw [a1] at b1
  cases b1
  have em : m = m' := by
    rcases Nat.lt_trichotomy m m' with h | h | h
    · obtain ⟨k, rfl⟩ := Nat.exists_eq_add_of_lt h
      exact (ring_lt (k := k) (by exact b2) a3 a4).elim
    · exact h
    · obtain ⟨k, rfl⟩ := Nat.exists_eq_add_of_lt h
      exact (ring_lt (k := k) (by exact a2) b3 b4).elim
  subst em
  have lenm : (xsW rs x m).length = m + 1 := by simp [wayOf_len]
  obtain ⟨y, hy⟩ : ∃ y, (xsW rs x m)[m]? = some y := ⟨_, List.getElem?_eq_getElem (by omega)⟩
  have ep : p = p' := nodup_get a2 (y := y) (by rw [List.getElem?_take_of_lt a3, a4]; exact hy) (by rw [List.getElem?_take_of_lt b3, b4]; exact hy)
  subst ep
  rw [a5, b5]
end Mg

set_option Elab.async false
set_option linter.all false
set_option maxRecDepth 100000
set_option maxHeartbeats 4000000
namespace Pr
open PySem L2 Two
def tTru (K : PySem.W.Frag) (ta : TE) : TT := fun σ H Q => ta σ H fun x H' => ∃ k, TruV K x H' k ∧ Q k H'
theorem pt_tru {X : Cx} {a : Expr} {ta : TE} (ha : PE X a ta) (he : ∀ whole, isTrue a X.env whole = (do let v ← whole; standAt a.pos; holding [v] (truthy v)) := by intro _; rfl) : PT X a (tTru X.K ta) := pt_truth ha he
theorem inV_ints (x : Int) : ∀ l : List Int, inV (.int x) (l.map V.int) = l.contains x
  | [] => rfl
  | y :: l => by
    have ih := inV_ints x l
    unfold inV at ih ⊢
    rw [List.map_cons, List.any_cons, ih, List.contains_cons]
    congr 1
    show (y == x) = (x == y)
    exact Bool.beq_comm
theorem flat_ints : ∀ l : List Int, (l.map V.int).all flatV = true
  | [] => rfl
  | _ :: l => flat_ints l
theorem nodup_len : ∀ {l m : List Int}, l.Nodup → (∀ x ∈ l, x ∈ m) → l.length ≤ m.length
  | [], _, _, _ => Nat.zero_le _
  | a :: l, m, nd, h => by
    have nd := List.nodup_cons.mp nd
    have ha := h a List.mem_cons_self
    have q := nodup_len (l := l) (m := m.erase a) nd.2 fun x hx => (List.mem_erase_of_ne (fun e : x = a => nd.1 (by rw [← e]; exact hx))).mpr (h x (List.mem_cons_of_mem _ hx))
    have e := List.length_erase_of_mem ha
    have := List.length_pos_of_mem ha
    simp only [List.length_cons]
    omega
theorem heads_len (rs : List (List Int)) : (Mg.heads rs).length ≤ rs.length := List.length_filterMap_le _ _
def hasB (rs : List (List Int)) (x : Int) (i : Nat) : Bool := ((rs[i]?).getD []).tail.contains x
theorem range_snoc (j : Nat) : List.range (j + 1) = List.range j ++ [j] := List.range_succ
theorem cut_drop (xs : List V) (p : Nat) (h : p ≤ xs.length) : cutV xs (some (p : Int)) none = xs.drop p := by
  unfold cutV
  rw [HT.sIx_nat, HT.sIx_none, Nat.min_eq_left h]
  exact List.take_of_length_le (by rw [List.length_drop]; exact Nat.le_refl _)

/-- tuples (item, index) at the addresses beside them -/
def TupsAt (H : Hp) (us : List (Addr × Int × Nat)) : Prop := ∀ u ∈ us, H u.1 = some (.tup [.int u.2.1, .int (u.2.2 : Nat)])
abbrev tupRefs (us : List (Addr × Int × Nat)) : List V := us.map fun u => V.ref u.1
abbrev xsOf (x0 : Int) (us : List (Addr × Int × Nat)) : List Int := x0 :: (us.map (·.2)).map (·.1)
structure RingI (H0 H : Hp) (Wy Pl : Addr) (rs : List (List Int)) (x0 : Int) (us : List (Addr × Int × Nat)) (kvs : List (Key × V)) (cur : Int) : Prop where
  same : Same H0 H
  wy : H Wy = some (.lst (tupRefs us))
  tup : TupsAt H us
  pl : H Pl = some (.dK kvs)
  len : kvs.length = us.length
  way : Mg.Way rs x0 (us.map (·.2))
  cur : (xsOf x0 us)[us.length]? = some cur
  keys : ∀ (k : Nat) (y : Int), k < us.length → (xsOf x0 us)[k]? = some y → valV kvs (.inl y) = some (.int k)
  no : ∀ y, (∀ k, k < us.length → (xsOf x0 us)[k]? ≠ some y) → valV kvs (.inl y) = none
  nd : ((xsOf x0 us).take us.length).Nodup
  mem : ∀ y ∈ xsOf x0 us, y ∈ Mg.heads rs
  det : us.map (·.2) = Mg.wayOf rs x0 us.length
theorem RingI.few {H0 H : Hp} {Wy Pl : Addr} {rs : List (List Int)} {x0 cur : Int} {us : List (Addr × Int × Nat)} {kvs : List (Key × V)} (r : RingI H0 H Wy Pl rs x0 us kvs cur) : us.length ≤ rs.length := by
  have a := nodup_len r.nd fun y hy => r.mem y (List.mem_of_mem_take hy)
  have b := heads_len rs
  rw [List.length_take] at a
  simp only [List.length_cons, List.length_map] at a
  omega
def spRingOf (K : PySem.W.Frag) : Sp := fun vs H Q _ => ∃ (R : Addr) (ps : List (Addr × List Int)), vs = [.ref R] ∧ LofL K H R ps ∧ ps.length ≤ 30 ∧ (∀ p ∈ ps, p.2.Nodup) ∧ Mg.firstFree (lsOf ps) = none ∧ (∃ r ∈ lsOf ps, r ≠ []) ∧
  ∀ (H' : Hp) (q : Addr) (us : List (Addr × Int × Nat)) (x0 : Int) (way : List (Int × Nat)) (p : Nat), Same H H' → H q = none → H' q = some (.lst (tupRefs us)) → TupsAt H' us → Mg.Way (lsOf ps) x0 way → ((x0 :: way.map (·.1)).take way.length).Nodup → p < way.length →
    (x0 :: way.map (·.1))[p]? = (x0 :: way.map (·.1))[way.length]? → us.map (·.2) = (way.drop p).reverse → us.length ≤ 30 → Mg.RingDet (lsOf ps) (us.map (·.2)) → Q (.ref q) H'
section
variable {P : Program} {w : World} {K : PySem.W.Frag} {mg : Str → Option Value} {base : Heap}
theorem scRingOf : FnScope ["rests", "way", "places", "item", "index", "rest", "at"] ["rests"] (defScope sRingOf) := ⟨rfl, rfl, rfl, by decide +kernel, rfl, by decide +kernel, by decide +kernel⟩
def tHeadOf (K : PySem.W.Frag) : TE := tOp (rIxL K) (tVar 5) (tC (.int 0))
def tHasIt (K : PySem.W.Frag) : TT := tTest (tOp (rIn K false) (tVar 3) (tSl (rSlL K) (tVar 5) (tPart (tC (.int 1))) tNoPart))
theorem ok_ringOf {f : Addr} {fd : FuncData} (F : Fun K "_ring_of" "_ring_of" sRingOf f fd) (T : Txt mg) : FnOk P w K mg base CX0 1 f fd ["rests"] (spRingOf K) := by
  refine F.ok scRingOf (fun vs H Q E h => ?_) (fun cdv A outer s H vs Q E hr h => ?_)
  · obtain ⟨R, ps, rfl, _⟩ := h
    rfl
  · obtain ⟨R, ps, rfl, hL, few, nds, stuck, ⟨r1, hr1, ne1⟩, k⟩ := h
    have hu := hu_of hr
    have szR : (refsOf ps).length ≤ 30 := by rw [List.length_map]; exact few
    refine ⟨_, pss_cons (ps_set (i := 1) scRingOf.nd rfl (Or.inl rfl) (pe_lst pa_nil)) (pss_cons (ps_set (i := 2) scRingOf.nd rfl (Or.inl rfl) pe_dnewK)
      (pss_cons (ps_set (i := 3) scRingOf.nd rfl (Or.inr rfl) (pe_ix ix_list (pe_lc (own := [("rest", 5)]) (g := gName 5) (tt := tTru K (tVar 5)) (te := tHeadOf K) rfl scRingOf.nd (pi_list (pv 0)) (blkOk_by (N := ["rests", "way", "places", "item", "index", "rest", "at"]) (sc := defScope sRingOf) (by decide +kernel))
          (fun _ _ _ _ _ => pg_name (i := 5) scRingOf.nd rfl (Or.inl rfl)) (fun _ _ _ _ _ => pts_one (pt_tru (pv 5))) (fun _ _ _ _ _ => pe_ix ix_list (pv 5) pe_int (fun _ _ => rfl))) pe_int (fun _ _ => rfl)))
      (pss_cons (ps_while PassesOwn.never (pt_cmp (pc_dnotin hu (pv 3) (pv 2)))
        (pss_cons (ps_dput hu (pv 2) (pv 3) (pe_callB call_len_seq (by rfl) T.len PySem.boot_len (pa_cons (pv 1) pa_nil)) rfl)
        (pss_cons (ps_set (i := 4) scRingOf.nd rfl (Or.inl rfl) (pe_ix ix_list (pe_lc (own := [("at", 6), ("rest", 5)]) (g := gTup K 2 (gCons (gName 6) (gCons (gName 5) gNil))) (tt := tHasIt K) (te := tVar 6) rfl scRingOf.nd (pi_enum (by rfl) T.enum (pa_cons (pv 0) pa_nil)) (blkOk_by (N := ["rests", "way", "places", "item", "index", "rest", "at"]) (sc := defScope sRingOf) (by decide +kernel))
            (fun _ _ _ _ _ => pg_tup rfl (pgs_cons (pg_name (i := 6) scRingOf.nd rfl (Or.inl rfl)) (pgs_cons (pg_name (i := 5) scRingOf.nd rfl (Or.inl rfl)) pgs_nil))) (fun _ _ _ _ _ => pts_one (pt_cmpR op_in_seq (pv 3) (pe_slice sl_list (pv 5) (po_some pe_int) po_none) (by rfl))) (fun _ _ _ _ _ => pv 6)) pe_int (fun _ _ => rfl)))
        (pss_cons (ps_set (i := 3) scRingOf.nd rfl (Or.inr rfl) (pe_ix ix_list (pe_ix ix_list (pv 0) (pv 4) (fun _ _ => rfl)) pe_int (fun _ _ => rfl)))
        (pss_one (ps_expr (pe_bm PySem.F.plainAttrs_list PySem.F.slot_list_append PySem.F.type_list_append mt_append (pv 1) (pa_cons (pe_tup (pa_cons (pv 3) (pa_cons (pv 4) pa_nil))) pa_nil))))))))
      (pss_one (ps_ret (pe_revL (pe_slice sl_list (pv 1) (po_some (pe_dget hu (pv 2) (pv 3) (fun _ _ => rfl))) po_none))))))), ?_⟩
    refine ⟨Nat.zero_le _, fun Wy nWy => fun Pl nPl0 => ?_⟩
    have nPl : H Pl = none := none_of_same (same_new nWy) nPl0
    have WP : Wy ≠ Pl := fun e => by rw [← e, upd_same] at nPl0; cases nPl0
    have s0 : Same H (upd (upd H Wy (.lst [])) Pl (.dK [])) := same_upd (same_new nWy) nPl
    refine ⟨_, rfl, R, rfl, ⟨_, s0.seq hL.1⟩, fun D1 hD1 => lc_list (K := K) (a := R) (xs := refsOf ps) (fun j G => Same (upd (upd H Wy (.lst [])) Pl (.dK [])) G ∧ G D1 = some (.lst ((Mg.heads ((lsOf ps).take j)).map V.int)))
      ⟨same_new hD1, upd_same⟩ (fun j G _ p => (s0.trans p.1).seq hL.1) (fun j x G hx p => ?_) (fun G p => ?_)⟩
    · obtain ⟨q, hq, rfl⟩ := get_map hx
      have mq := List.mem_of_getElem? hq
      have hS := (s0.trans p.1).seq (hL.2 q mq)
      have hl := lsOf_at hq
      refine ⟨rfl, ?_⟩
      rcases hqv : q.2 with _ | ⟨z, t⟩
      · rw [hqv] at hS hl
        refine ⟨_, rfl, false, .inl ⟨_, hS, rfl⟩, iteF ⟨p.1, ?_⟩⟩
        rw [take_snoc hl, heads_snoc_nil]
        exact p.2
      · rw [hqv] at hS hl
        refine ⟨_, rfl, true, .inl ⟨_, hS, rfl⟩, iteT ⟨_, rfl, q.1, _, 0, .int z, rfl, rfl, hS, at0 _ _, _, p.2, ?_, same_upd p.1 hD1, ?_⟩⟩
        · have a1 := heads_len ((lsOf ps).take j)
          rw [List.length_map]
          refine small1000 ?_
          rw [List.length_take, List.length_map] at a1
          omega
        · rw [upd_same, take_snoc hl, heads_snoc, List.map_append]
          rfl
    · obtain ⟨s1, hD⟩ := p
      have e : (lsOf ps).take (refsOf ps).length = lsOf ps := List.take_of_length_le (by rw [List.length_map, List.length_map]; exact Nat.le_refl _)
      rw [e] at hD
      obtain ⟨x0, xt, hx0⟩ : ∃ x0 xt, Mg.heads (lsOf ps) = x0 :: xt := by
        cases hh : Mg.heads (lsOf ps) with
        | cons x0 xt => exact ⟨x0, xt, rfl⟩
        | nil =>
          exfalso
          cases r1 with
          | nil => exact ne1 rfl
          | cons z t =>
            have q : z ∈ Mg.heads (lsOf ps) := Mg.mem_heads.mpr ⟨z :: t, hr1, rfl⟩
            rw [hh] at q
            cases q
      have hD2 := hD
      rw [hx0] at hD2
      refine ⟨D1, _, 0, .int x0, rfl, rfl, SqL.of hD2, at0 _ _, ?_⟩
      have start : RingI H G Wy Pl (lsOf ps) x0 [] [] x0 := ⟨s0.trans s1, s1 _ _ (by rw [upd_ne WP]; exact upd_same), (fun u hu => nomatch hu), s1 _ _ upd_same, rfl, Mg.Way.nil, rfl, (fun k y h => nomatch h), fun y _ => rfl, List.nodup_nil, fun y hy => by
        rw [List.mem_singleton.mp hy, hx0]
        exact List.mem_cons_self, rfl⟩
      show tSeq _ _ _ ([some (.ref R), some (.ref Wy), some (.ref Pl), none, none, none, none].set 3 (some (.int x0))) G
      refine while_by (fun σ G => ∃ (v4 : Option V) (us : List (Addr × Int × Nat)) (kvs : List (Key × V)) (cur : Int), σ = [some (.ref R), some (.ref Wy), some (.ref Pl), some (.int cur), v4, none, none] ∧ RingI H G Wy Pl (lsOf ps) x0 us kvs cur)
        (fun σ G => match G Pl with | some (.dK kvs) => 31 - kvs.length | _ => 0) ⟨none, [], [], x0, rfl, start⟩ ?_ ?_
      · rintro σ G ⟨v4, us, kvs, cur, rfl, I⟩
        have fewU : us.length ≤ 30 := by have := I.few; rw [List.length_map] at this; omega
        refine ⟨_, rfl, _, rfl, Pl, _, rfl, DGet.k (k := Sum.inl cur) I.pl, _, rfl, ?_⟩
        cases hv : valV kvs (Sum.inl cur) with
        | some v =>
          refine iteF ?_
          -- the end
          obtain ⟨p, hp, hpx⟩ : ∃ p, p < us.length ∧ (xsOf x0 us)[p]? = some cur := Decidable.byContradiction fun n => by
            rw [I.no cur fun k hk e => n ⟨k, hk, e⟩] at hv
            cases hv
          have hv2 := I.keys p cur hp hpx
          have dg : DGet G Pl (.int cur) (some (.int (p : Nat))) := by rw [← hv2]; exact DGet.k (k := Sum.inl cur) I.pl
          refine ⟨_, rfl, _, rfl, _, rfl, Pl, .int (p : Nat), rfl, dg, (p : Nat), rfl, Wy, _, rfl, SqL.of I.wy, fun L hL2 => ?_⟩
          rw [cut_drop _ _ (by rw [List.length_map]; omega)]
          refine ⟨L, _, rfl, SqL.of upd_same, fun q hq => ?_⟩
          have sL : Same G (upd (upd G L (.lst ((tupRefs us).drop p))) q (.lst ((tupRefs us).drop p).reverse)) := same_upd (same_new hL2) (none_of_same (same_new hL2) hq)
          refine k _ q (us.drop p).reverse x0 (us.map (·.2)) p (I.same.trans sL) (none_of_same (I.same.trans (same_new hL2)) hq) ?_ (fun u hu => sL _ _ (I.tup u (List.mem_of_mem_drop (List.mem_reverse.mp hu)))) I.way ?_ (by rw [List.length_map]; exact hp) ?_ ?_ ?_ ?_
          · unfold tupRefs; rw [upd_same, List.map_reverse, List.map_drop]
          · rw [List.length_map]; exact I.nd
          · rw [List.length_map, I.cur]; exact hpx
          · rw [List.map_reverse, List.map_drop]
          · rw [List.length_reverse, List.length_drop]; omega
          · have e := I.det
            refine ⟨x0, us.length, p, by rw [hx0]; rfl, ?_, hp, ?_, ?_⟩
            · unfold Mg.xsW; rw [← e]; exact I.nd
            · unfold Mg.xsW; rw [← e]; exact hpx.trans I.cur.symm
            · rw [← e, List.map_reverse, List.map_drop]
        | none =>
          refine iteT ?_
          have curIn : cur ∈ Mg.heads (lsOf ps) := I.mem cur (List.mem_of_getElem? I.cur)
          have szU : (tupRefs us).length = us.length := by rw [List.length_map]
          refine ⟨_, rfl, Wy, _, rfl, .inl (SqL.of I.wy), _, rfl, _, rfl, Pl, _, rfl, DPut.k (k := Sum.inl cur) I.pl (small1000 (by rw [I.len]; omega)), ?_⟩
          rw [szU]
          obtain ⟨kvs2, hkv⟩ : ∃ z, z = putK kvs (Sum.inl cur) (.int (us.length : Nat)) := ⟨_, rfl⟩
          rw [← hkv]
          have len2 : kvs2.length = us.length + 1 := by rw [hkv, putK_new _ hv, List.length_append, I.len]; rfl
          obtain ⟨G1, hG1⟩ : ∃ z, z = upd G Pl (.dK kvs2) := ⟨_, rfl⟩
          rw [← hG1]
          have s1 : Same H G1 := by rw [hG1]; exact same_upd I.same nPl
          have wy1 : G1 Wy = some (.lst (tupRefs us)) := by rw [hG1, upd_ne WP]; exact I.wy
          have pl1 : G1 Pl = some (.dK kvs2) := by rw [hG1]; exact upd_same
          have tup1 : TupsAt G1 us := fun u hu => by rw [hG1, upd_ne (ne_of (I.tup u hu) I.pl (by intro e; cases e))]; exact I.tup u hu
          refine ⟨_, rfl, R, _, rfl, s1.seq hL.1, fun D2 hD2 => lc_it (walk_enum (K := K) (a := R) (xs := refsOf ps)) (fun j G' => Same G1 G' ∧ G' D2 = some (.lst (((List.range j).filter (hasB (lsOf ps) cur)).map fun i => V.int (i : Nat))))
            ⟨same_new hD2, upd_same⟩ (fun j G' _ p => (s1.trans p.1).seq hL.1) (fun j x G2 G3 hj p y => ?_) (fun G2 p => ?_)⟩
          · obtain ⟨T1, a1, y1, rfl, nT, rfl, e1, e2⟩ := y
            cases e1
            obtain ⟨q, hq, rfl⟩ := get_map e2
            have mq := List.mem_of_getElem? hq
            have nTD : D2 ≠ T1 := ne_of_none p.2 nT
            have s2 : Same G1 (upd G2 T1 (.tup [.int (j : Nat), .ref q.1])) := same_upd p.1 (none_of_same p.1 nT)
            refine ⟨T1, _, rfl, SqT.of upd_same, rfl, _, _, rfl, _, _, rfl, rfl, rfl, ?_⟩
            refine ⟨_, rfl, _, rfl, 1, rfl, q.1, _, rfl, (s1.trans s2).seq (hL.2 q mq), fun L hL2 => ?_⟩
            rw [cut_tail, ← List.map_tail]
            refine ⟨L, _, rfl, .inl (SqL.of upd_same), rfl, flat_ints _, _, rfl, ?_⟩
            rw [inV_ints]
            have e3 : q.2.tail.contains cur = hasB (lsOf ps) cur j := by unfold hasB; rw [lsOf_at hq]; rfl
            have s3 : Same G1 (upd (upd G2 T1 (.tup [.int (j : Nat), .ref q.1])) L (.lst (q.2.tail.map V.int))) := same_upd s2 (none_of_same s2 hL2)
            have d3 : (upd (upd G2 T1 (.tup [.int (j : Nat), .ref q.1])) L (.lst (q.2.tail.map V.int))) D2 = some (.lst (((List.range j).filter (hasB (lsOf ps) cur)).map fun i => V.int (i : Nat))) := by
              rw [upd_ne (ne_of_none (show (upd G2 T1 (.tup [.int (j : Nat), .ref q.1])) D2 = _ by rw [upd_ne nTD]; exact p.2) hL2), upd_ne nTD]
              exact p.2
            show if (if false = true then !q.2.tail.contains cur else q.2.tail.contains cur) = true then _ else _
            rw [if_neg Bool.false_ne_true, e3]
            cases hb : hasB (lsOf ps) cur j with
            | false =>
              refine iteF ⟨s3, ?_⟩
              rw [range_snoc, List.filter_append, List.filter_cons_of_neg (by rw [hb]; decide), d3]
              simp
            | true =>
              refine iteT ⟨_, rfl, _, d3, ?_, same_upd s3 hD2, ?_⟩
              · refine small1000 ?_
                have := List.length_filter_le (hasB (lsOf ps) cur) (List.range j)
                rw [List.length_range] at this
                rw [List.length_map]
                omega
              · rw [upd_same, range_snoc, List.filter_append, List.filter_cons_of_pos hb, List.map_append]
                rfl
          · obtain ⟨s2, hD3⟩ := p
            obtain ⟨i0, F', hF⟩ : ∃ i0 F', (List.range (refsOf ps).length).filter (hasB (lsOf ps) cur) = i0 :: F' := by
              cases hh : (List.range (refsOf ps).length).filter (hasB (lsOf ps) cur) with
              | cons i0 F' => exact ⟨i0, F', rfl⟩
              | nil =>
                exfalso
                obtain ⟨r, hr, hc⟩ := Mg.firstFree_none stuck curIn
                obtain ⟨n, hn⟩ := List.getElem?_of_mem hr
                have lt := (List.getElem?_eq_some_iff.mp hn).1
                have q := List.filter_eq_nil_iff.mp hh n (List.mem_range.mpr (by rw [List.length_map] at lt ⊢; exact lt))
                unfold hasB at q
                rw [hn] at q
                exact q (List.contains_iff_mem.mpr hc)
            have mF : i0 ∈ (List.range (refsOf ps).length).filter (hasB (lsOf ps) cur) := by rw [hF]; exact List.mem_cons_self
            obtain ⟨m1, m2⟩ := List.mem_filter.mp mF
            have lt0 : i0 < ps.length := by have := List.mem_range.mp m1; rw [List.length_map] at this; exact this
            have hq : ps[i0]? = some ps[i0] := List.getElem?_eq_getElem lt0
            generalize ps[i0] = q at hq
            have mq := List.mem_of_getElem? hq
            have hl := lsOf_at hq
            have cq : cur ∈ q.2.tail := by unfold hasB at m2; rw [hl] at m2; exact List.contains_iff_mem.mp m2
            obtain ⟨a, t, hqv⟩ : ∃ a t, q.2 = a :: t := by
              cases hh : q.2 with
              | nil => rw [hh] at cq; cases cq
              | cons a t => exact ⟨a, t, rfl⟩
            rw [hqv] at cq hl
            rw [hF] at hD3
            have hS := (s1.trans s2).seq (hL.2 q mq)
            rw [hqv] at hS
            have ref0 : (refsOf ps)[i0]? = some (V.ref q.1) := by rw [List.getElem?_map, hq]; rfl
            refine ⟨D2, _, 0, .int (i0 : Nat), rfl, rfl, SqL.of hD3, atI_nat (xs := (i0 :: F').map fun i => V.int (i : Nat)) (j := 0) rfl, ?_⟩
            refine ⟨_, rfl, _, rfl, R, _, (i0 : Nat), .ref q.1, rfl, rfl, (s1.trans s2).seq hL.1, atI_nat ref0, q.1, _, 0, .int a, rfl, rfl, hS, at0 _ _, ?_⟩
            have wy2 := s2 _ _ wy1
            refine ⟨_, rfl, .inl ⟨rfl, _, SqL.of wy2⟩, _, rfl, _, rfl, by show 2 ≤ sizeLine; decide, fun t' ht' => ?_⟩
            have W' : Wy ≠ t' := ne_of_none wy2 ht'
            refine ⟨Wy, _, _, rfl, rfl, by rw [upd_ne W']; exact wy2, small1000 (by rw [szU]; omega), ?_⟩
            have s4 : Same H (upd (upd G2 t' (.tup [.int a, .int (i0 : Nat)])) Wy (.lst (tupRefs us ++ [.ref t']))) := same_upd (same_upd (s1.trans s2) (none_of_same (s1.trans s2) ht')) nWy
            have pl4 : (upd (upd G2 t' (.tup [.int a, .int (i0 : Nat)])) Wy (.lst (tupRefs us ++ [.ref t']))) Pl = some (.dK kvs2) := by
              have pl2 := s2 _ _ pl1
              rw [upd_ne WP.symm, upd_ne (ne_of_none pl2 ht')]
              exact pl2
            have xs' : xsOf x0 (us ++ [(t', a, i0)]) = xsOf x0 us ++ [a] := by simp
            have lx : (xsOf x0 us).length = us.length + 1 := by simp
            have curAt : ∀ k y, k < us.length → (xsOf x0 us)[k]? = some y → y ≠ cur := fun k y hk hy e => by
              have q := I.keys k y hk hy
              rw [e, hv] at q
              cases q
            have aIn : a ∈ Mg.heads (lsOf ps) := Mg.mem_heads.mpr ⟨a :: t, List.mem_of_getElem? hl, rfl⟩
            refine ⟨⟨_, us ++ [(t', a, i0)], kvs2, a, rfl, ⟨s4, by unfold tupRefs; rw [upd_same, List.map_append]; rfl, fun u hu => ?_, pl4, by rw [len2, List.length_append]; rfl, ?_, ?_, fun k y hk hy => ?_, fun y hy => ?_, ?_, fun y hy => ?_, ?_⟩⟩, ?_⟩
            · rcases List.mem_append.mp hu with m | m
              · have t2 := s2 _ _ (tup1 u m)
                rw [upd_ne (ne_of t2 wy2 (by intro e; cases e)), upd_ne (ne_of_none t2 ht')]
                exact t2
              · rw [List.mem_singleton.mp m, upd_ne W'.symm]
                exact upd_same
            · rw [List.map_append]
              exact I.way.snoc (by rw [List.length_map]; exact I.cur) hl cq
            · rw [xs', List.length_append]
              rw [List.getElem?_append_right (by rw [lx]; simp)]
              simp
            · rw [List.length_append] at hk
              have hk : k < us.length + 1 := hk
              rw [xs', List.getElem?_append_left (by rw [lx]; exact hk)] at hy
              rw [hkv, valV_put]
              by_cases e : k < us.length
              · rw [if_neg (fun q => curAt k y e hy (Sum.inl.inj q))]
                exact I.keys k y e hy
              · have e2 : k = us.length := by omega
                subst e2
                rw [I.cur] at hy
                cases hy
                rw [if_pos rfl]
            · have ny : y ≠ cur := fun e => hy us.length (by rw [List.length_append]; simp) (by rw [xs', List.getElem?_append_left (by rw [lx]; omega), e]; exact I.cur)
              rw [hkv, valV_put, if_neg (fun q => ny (Sum.inl.inj q))]
              refine I.no y fun k hk e => hy k (by rw [List.length_append]; omega) ?_
              rw [xs', List.getElem?_append_left (by rw [lx]; omega)]
              exact e
            · have e : (xsOf x0 (us ++ [(t', a, i0)])).take (us ++ [(t', a, i0)]).length = (xsOf x0 us).take us.length ++ [cur] := by
                rw [xs', List.length_append]
                show ((xsOf x0 us) ++ [a]).take (us.length + 1) = _
                rw [List.take_append_of_le_length (by rw [lx]; exact Nat.le_refl _), take_snoc I.cur]
              rw [e]
              refine List.nodup_append.mpr ⟨I.nd, by simp, fun b hb c hc => ?_⟩
              rw [List.mem_singleton.mp hc]
              obtain ⟨n, hn⟩ := List.getElem?_of_mem hb
              have ln : n < us.length := by
                have := (List.getElem?_eq_some_iff.mp hn).1
                rw [List.length_take] at this
                omega
              rw [List.getElem?_take_of_lt ln] at hn
              exact curAt n b ln hn
            · rw [xs'] at hy
              rcases List.mem_append.mp hy with m | m
              · exact I.mem y m
              · rw [List.mem_singleton.mp m]
                exact aIn
            · have e : (us ++ [(t', a, i0)]).length = us.length + 1 := by rw [List.length_append]; rfl
              rw [e]
              show (us ++ [(t', a, i0)]).map (·.2) = Mg.wayOf (lsOf ps) x0 us.length ++ [_]
              rw [List.map_append, I.det]
              show _ ++ [(a, i0)] = _
              congr 2
              have ec : ((x0 :: (Mg.wayOf (lsOf ps) x0 us.length).map (·.1))[us.length]?).getD 0 = cur := by
                rw [← I.det]
                have c := I.cur
                unfold xsOf at c
                rw [c]
                rfl
              rw [ec]
              unfold Mg.nxt
              have ef : (List.range (lsOf ps).length).filter (Mg.hasIt (lsOf ps) cur) = i0 :: F' := by
                have z : (lsOf ps).length = (refsOf ps).length := by rw [List.length_map, List.length_map]
                rw [z]
                exact hF
              rw [ef]
              show (a, i0) = ((((lsOf ps)[i0]?).getD []).headD 0, i0)
              rw [hl]
              rfl
            · show (match (upd (upd G2 t' (.tup [.int a, .int (i0 : Nat)])) Wy (.lst (tupRefs us ++ [.ref t']))) Pl with | some (.dK kvs) => 31 - kvs.length | _ => 0) < (match G Pl with | some (.dK kvs) => 31 - kvs.length | _ => 0)
              rw [pl4, I.pl]
              show 31 - kvs2.length < 31 - kvs.length
              rw [len2, I.len]
              omega
      · rintro σ G Q1 Q2 imp ⟨x, hx, y, hy, a, o, h1, h2, c, h3, h4⟩
        exact ⟨x, hx, y, hy, a, o, h1, h2, c, h3, imp _ _ h4⟩
end
end Pr

set_option Elab.async false
set_option linter.all false
set_option maxRecDepth 100000
set_option maxHeartbeats 4000000
namespace Pr
open PySem L2 Two
theorem while_m {c : TT} {tb : TS} {D : Ends} {σ : L2.St} {H : Hp} (W : Nat → L2.St → Hp → Prop) (h0 : ∃ m, W m σ H)
    (hs : ∀ m σ H, W m σ H → c σ H fun b H1 => if b = true then tb { D with nx := fun σ' H' => ∃ m', m' < m ∧ W m' σ' H', ct := fun σ' H' => ∃ m', m' < m ∧ W m' σ' H', bk := D.nx } σ H1 else D.nx σ H1)
    (mono : ∀ σ H Q Q', (∀ b H1, Q b H1 → Q' b H1) → c σ H Q → c σ H Q') : tWhile c tb D σ H := by
  refine ⟨W, h0, fun m σ H w => mono σ H _ _ (fun b H1 q => ?_) (hs m σ H w)⟩
  cases b with
  | true => exact ⟨_, fun σ' H' z => z, q⟩
  | false => exact q
def rListQ (K : PySem.W.Frag) : List V → Hp → VK → Prop := fun xs H Q => ∃ p ys, xs = [V.ref p] ∧ (SqL K H p ys ∨ SqT K H p ys) ∧ ∀ l, H l = none → Q (.ref l) (upd H l (.lst ys))
theorem call_listQ {X : Cx} : CallR X (.type "list") (rListQ X.K) := call_list_of
/-- lists of lists of ints as data -/
def intsD (l : List Int) : PyData := .list (l.map PyData.int)
def listsD (ls : List (List Int)) : PyData := .list (ls.map intsD)
theorem dp_ints {K : PySem.W.Frag} {H : Hp} : ∀ l : List Int, DpAll K H (l.map V.int) (l.map PyData.int)
  | [] => .nil
  | z :: l => .cons (.int z) (dp_ints l)
theorem dp_list {K : PySem.W.Frag} {H : Hp} {a : Addr} {l : List Int} (h : SqL K H a (l.map V.int)) : Dp K H (.ref a) (intsD l) := .lst h (dp_ints l)
theorem dp_lists {K : PySem.W.Frag} {H : Hp} {a : Addr} {ps : List (Addr × List Int)} (h : LofL K H a ps) : Dp K H (.ref a) (listsD (lsOf ps)) := by
  refine .lst h.1 ?_
  have q : ∀ qs : List (Addr × List Int), (∀ p ∈ qs, SqL K H p.1 (p.2.map V.int)) → DpAll K H (qs.map fun p => V.ref p.1) ((lsOf qs).map intsD) := by
    intro qs
    induction qs with
    | nil => intro _; exact .nil
    | cons p qs ih => intro hq; exact .cons (dp_list (hq p List.mem_cons_self)) (ih fun r hr => hq r (List.mem_cons_of_mem _ hr))
  exact q ps h.2
theorem plain_ints : ∀ l : List Int, PyData.plainAll (l.map PyData.int) = true
  | [] => rfl
  | _ :: l => by
    show (PyData.plain (.int _) && PyData.plainAll (l.map PyData.int)) = true
    rw [plain_ints l]
    rfl
theorem plain_lists : ∀ ls : List (List Int), PyData.plainAll (ls.map intsD) = true
  | [] => rfl
  | l :: ls => by
    show (PyData.plainAll (l.map PyData.int) && PyData.plainAll (ls.map intsD)) = true
    rw [plain_ints, plain_lists ls]
    rfl
theorem truthy_lists : ∀ ls : List (List Int), (ls.map intsD).any PyData.truthy = ls.any fun l => !l.isEmpty
  | [] => rfl
  | l :: ls => by
    rw [List.map_cons, List.any_cons, List.any_cons, truthy_lists ls]
    congr 1
    cases l <;> rfl

/-- what merge hands back -/
def MergeOut (H H' : Hp) (ls : List (List Int)) (v : V) : Prop := ∃ t q : Addr, v = .ref t ∧ H t = none ∧ H q = none ∧
  ((∃ n, (∀ r ∈ (Mg.st ls n).2, r = []) ∧ H' t = some (.tup [.str "order", .ref q]) ∧ H' q = some (.lst ((Mg.st ls n).1.map V.int))) ∨
   (∃ (n : Nat) (us : List (Addr × Int × Nat)), Mg.firstFree (Mg.st ls n).2 = none ∧ (∃ r ∈ (Mg.st ls n).2, r ≠ []) ∧ H' t = some (.tup [.str "ring", .ref q]) ∧ H' q = some (.lst (tupRefs us)) ∧ TupsAt H' us ∧ Mg.IsRing ls (us.map (·.2)) ∧ us.length ≤ 30 ∧ Mg.RingDet (Mg.st ls n).2 (us.map (·.2))))
def spMerge (K : PySem.W.Frag) : Sp := fun vs H Q _ => ∃ (a : Addr) (ps : List (Addr × List Int)), vs = [.ref a] ∧ LofL K H a ps ∧ Fit ps ∧ ∀ v H', Same H H' → MergeOut H H' (lsOf ps) v → Q v H'
theorem scMerge : FnScope ["lists", "rests", "behind", "order", "item", "items"] ["lists"] (defScope sMerge) := ⟨rfl, rfl, rfl, by decide +kernel, rfl, by decide +kernel, by decide +kernel⟩
/-- what holds between two turns of merge -/
structure MrgI (H G : Hp) (R B O : Addr) (ls : List (List Int)) (as : List Addr) (n : Nat) (qs : List (Addr × List Int)) (kvs : List (Key × V)) : Prop where
  same : Same H G
  own : Own G R qs
  fst : qs.map (·.1) = as
  snd : lsOf qs = (Mg.st ls n).2
  dic : G B = some (.dK kvs)
  len : kvs.length ≤ 900
  cts : Cts kvs (inL (lsOf qs)) (fun y => Mg.cnt (lsOf qs) y)
  ord : G O = some (.lst ((Mg.st ls n).1.map V.int))
theorem st_len_le (ls : List (List Int)) : ∀ n, ∀ (i : Nat) (r : List Int), (Mg.st ls n).2[i]? = some r → ∃ l ∈ ls, r.length ≤ l.length
  | 0, i, r, h => ⟨r, List.mem_of_getElem? h, Nat.le_refl _⟩
  | n + 1, i, r, h => by
    cases hf : Mg.firstFree (Mg.st ls n).2 with
    | none => rw [Mg.st_none hf] at h; exact st_len_le ls n i r h
    | some x =>
      rw [Mg.st_some hf] at h
      obtain ⟨r0, h0, rfl⟩ := get_map (f := Mg.pull1 x) h
      obtain ⟨l, hl, e⟩ := st_len_le ls n i r0 h0
      exact ⟨l, hl, Nat.le_trans (Mg.pull1_le x r0) e⟩
theorem st_short {ls : List (List Int)} (h : ∀ l ∈ ls, l.length ≤ 30) (n : Nat) : ∀ r ∈ (Mg.st ls n).2, r.length ≤ 30 := fun r hr => by
  obtain ⟨i, hi⟩ := List.getElem?_of_mem hr
  obtain ⟨l, hl, e⟩ := st_len_le ls n i r hi
  exact Nat.le_trans e (h l hl)
theorem sum_le (ls : List (List Int)) (h : ∀ l ∈ ls, l.length ≤ 30) : Mg.size ls ≤ 30 * ls.length := by
  induction ls with
  | nil => exact Nat.le_refl _
  | cons l ls ih =>
    have a := h l List.mem_cons_self
    have b := ih fun x hx => h x (List.mem_cons_of_mem _ hx)
    show l.length + Mg.size ls ≤ _
    rw [List.length_cons]
    omega
theorem st_ord_len (ls : List (List Int)) : ∀ n, (Mg.st ls n).1.length + Mg.size (Mg.st ls n).2 ≤ Mg.size ls
  | 0 => by show 0 + Mg.size ls ≤ _; omega
  | n + 1 => by
    have ih := st_ord_len ls n
    cases hf : Mg.firstFree (Mg.st ls n).2 with
    | none => rw [Mg.st_none hf]; exact ih
    | some x =>
      have q := Mg.size_step hf
      rw [Mg.st_some hf]
      simp only [List.length_append, List.length_singleton]
      omega
section
variable {P : Program} {w : World} {K : PySem.W.Frag} {mg : Str → Option Value} {base : Heap}
theorem ok_merge {f fC fT fF fK fR : Addr} {fd fdC fdT fdF fdK fdR : FuncData} (F : Fun K "merge" "merge" sMerge f fd) (T : Txt mg)
    (gC : mg "_check_lists" = some (.ref fC)) (kC : PySem.W.keepIn K (.ref fC) = true) (bC : Binds K fdC ["lists"] []) (GC : FnOk P w K mg base CX0 3 fC fdC ["lists"] (spCheck K))
    (gT : mg "_times_behind" = some (.ref fT)) (kT : PySem.W.keepIn K (.ref fT) = true) (bT : Binds K fdT ["lists"] []) (GT : FnOk P w K mg base CX0 1 fT fdT ["lists"] (spTimes K))
    (gF : mg "_first_free" = some (.ref fF)) (kF : PySem.W.keepIn K (.ref fF) = true) (bF : Binds K fdF ["rests", "behind"] []) (GF : FnOk P w K mg base CX0 1 fF fdF ["rests", "behind"] (spFree K))
    (gK : mg "_take" = some (.ref fK)) (kK : PySem.W.keepIn K (.ref fK) = true) (bK : Binds K fdK ["item", "rests", "behind"] []) (GK : FnOk P w K mg base CX0 1 fK fdK ["item", "rests", "behind"] spTake)
    (gR : mg "_ring_of" = some (.ref fR)) (kR : PySem.W.keepIn K (.ref fR) = true) (bR : Binds K fdR ["rests"] []) (GR : FnOk P w K mg base CX0 1 fR fdR ["rests"] (spRingOf K)) :
    FnOk P w K mg base CX0 4 f fd ["lists"] (spMerge K) := by
  refine F.ok scMerge (fun vs H Q E h => ?_) (fun cdv A outer s H vs Q E hr h => ?_)
  · obtain ⟨a, ps, rfl, _⟩ := h
    rfl
  · obtain ⟨a, ps, rfl, hL, fit, k⟩ := h
    have hu := hu_of hr
    have hr1 : Room 1 _ := hr.mono (by decide)
    refine ⟨_, pss_cons (ps_expr (pe_call GC hr rfl gC kC bC .nil pass0 (pa_cons (pv 0) pa_nil)))
      (pss_cons (ps_setLc (i := 1) (own := [("items", 5)]) (g := gName 5) (tt := tYes) (te := tCB (rListQ K) (tCons (tVar 5) tNil)) rfl scMerge.nd rfl rfl (sw_true rfl rfl rfl (by decide +kernel)) (pi_list (pv 0)) (blkOk_by (N := ["lists", "rests", "behind", "order", "item", "items"]) (sc := defScope sMerge) (by decide +kernel))
          (fun _ _ _ _ _ => pg_name (i := 5) scMerge.nd rfl (Or.inl rfl)) (fun _ _ _ _ _ => pts_nil) (fun _ _ _ _ _ => pe_callTy call_listQ (by rfl) T.list (by decide +kernel) (pa_cons (pv 5) pa_nil)))
      (pss_cons (ps_set (i := 2) scMerge.nd rfl (Or.inl rfl) (pe_call GT hr1 rfl gT kT bT .nil pass0 (pa_cons (pv 0) pa_nil)))
      (pss_cons (ps_set (i := 3) scMerge.nd rfl (Or.inl rfl) (pe_lst pa_nil))
      (pss_cons (ps_while PassesOwn.never (pt_val (pe_callB (cr_anyD rfl) (by rfl) T.any (by decide +kernel) (pa_cons (pv 1) pa_nil)))
        (pss_cons (ps_set (i := 4) scMerge.nd rfl (Or.inl rfl) (pe_call GF hr1 rfl gF kF bF .nil pass0 (pa_cons (pv 1) (pa_cons (pv 2) pa_nil))))
        (pss_cons (ps_if (pt_cmpR op_isN (pv 4) pe_non (nomark _)) (pss_one (ps_ret (pe_tup (pa_cons pe_str (pa_cons (pe_call GR hr1 rfl gR kR bR .nil pass0 (pa_cons (pv 1) pa_nil)) pa_nil))))) pss_nil)
        (pss_cons (ps_expr (pe_bm PySem.F.plainAttrs_list PySem.F.slot_list_append PySem.F.type_list_append mt_append (pv 3) (pa_cons (pv 4) pa_nil)))
        (pss_one (ps_expr (pe_call GK hr1 rfl gK kK bK .nil pass0 (pa_cons (pv 4) (pa_cons (pv 1) (pa_cons (pv 2) pa_nil))))))))))
      (pss_one (ps_ret (pe_tup (pa_cons pe_str (pa_cons (pv 3) pa_nil))))))))), ?_⟩
    have fewL : (lsOf ps).length ≤ 30 := by rw [List.length_map]; exact fit.few
    have shortL : ∀ l ∈ lsOf ps, l.length ≤ 30 := fun l hl => by obtain ⟨p, hp, rfl⟩ := List.mem_map.mp hl; exact fit.short p hp
    have ndL : ∀ l ∈ lsOf ps, l.Nodup := fun l hl => by obtain ⟨p, hp, rfl⟩ := List.mem_map.mp hl; exact fit.nd p hp
    have sumL := sum_le (lsOf ps) shortL
    refine ⟨_, rfl, a, ps, rfl, hL, fit, fun H1 s1 => ?_⟩
    refine ⟨_, rfl, a, rfl, ⟨_, s1.seq hL.1⟩, fun R hR => lc_list (K := K) (a := a) (xs := refsOf ps) (fun j G => ∃ qs : List (Addr × List Int), Same H1 G ∧ G R = some (.lst (refsOf qs)) ∧ (∀ q ∈ qs, G q.1 = some (.lst (q.2.map V.int)) ∧ H1 q.1 = none ∧ q.1 ≠ R) ∧ (qs.map (·.1)).Nodup ∧ lsOf qs = (lsOf ps).take j)
      ⟨[], same_new hR, upd_same, (fun q hq => nomatch hq), List.nodup_nil, rfl⟩ (fun j G _ ⟨_, p, _⟩ => (s1.trans p).seq hL.1) (fun j x G hx p => ?_) (fun G p => ?_)⟩
    · obtain ⟨p0, hp0, rfl⟩ := get_map hx
      have mp := List.mem_of_getElem? hp0
      obtain ⟨qs, s2, hGR, each, nd, lq⟩ := p
      have hS := (s1.trans s2).seq (hL.2 p0 mp)
      refine ⟨rfl, ?_⟩
      unfold tYes
      simp only [if_true]
      refine ⟨_, rfl, p0.1, _, rfl, .inl hS, fun l hl => ⟨_, by rw [upd_ne (ne_of_none hGR hl)]; exact hGR, ?_, qs ++ [(l, p0.2)], same_upd (same_upd s2 (none_of_same s2 hl)) hR, ?_, fun q hq => ?_, ?_, ?_⟩⟩
      · refine small1000 ?_
        have e := congrArg List.length lq
        rw [List.length_map, List.length_take, List.length_map] at e
        have := fit.few
        rw [List.length_map]
        omega
      · unfold refsOf
        rw [upd_same, List.map_append]
        rfl
      · rcases List.mem_append.mp hq with m | m
        · obtain ⟨e1, e2, e3⟩ := each q m
          exact ⟨by rw [upd_ne e3, upd_ne (ne_of_none e1 hl)]; exact e1, e2, e3⟩
        · rw [List.mem_singleton.mp m]
          exact ⟨by rw [upd_ne (ne_of_none hGR hl).symm]; exact upd_same, none_of_same s2 hl, (ne_of_none hGR hl).symm⟩
      · rw [List.map_append]
        refine List.nodup_append.mpr ⟨nd, by simp, fun b hb c hc => ?_⟩
        obtain ⟨q, hq, rfl⟩ := List.mem_map.mp hb
        rw [List.mem_singleton.mp hc]
        exact ne_of_none (each q hq).1 hl
      · unfold lsOf
        rw [List.map_append]
        show lsOf qs ++ [p0.2] = _
        rw [lq, take_snoc (lsOf_at hp0)]
    · obtain ⟨qs0, s2, hGR, each, nd, lq⟩ := p
      have e0 : (lsOf ps).take (refsOf ps).length = lsOf ps := List.take_of_length_le (by rw [List.length_map, List.length_map]; exact Nat.le_refl _)
      rw [e0] at lq
      have own0 : Own G R qs0 := ⟨hGR, fun q hq => (each q hq).1, nd⟩
      show tSeq _ _ _ ([some (.ref a), none, none, none, none, none].set 1 (some (.ref R))) G
      refine ⟨_, rfl, a, ps, rfl, hL.keep (s1.trans s2), fit, fun H3 B kvs s3 nB hB hlen hc => ?_⟩
      refine ⟨Nat.zero_le _, fun O hO => ?_⟩
      have s03 : Same H H3 := (s1.trans s2).trans s3
      have nBH : H B = none := none_of_same (s1.trans s2) nB
      have nOH : H O = none := none_of_same s03 hO
      have nR : H R = none := none_of_same s1 hR
      have nq : ∀ b ∈ qs0.map (·.1), H b = none := fun b hb => by
        obtain ⟨q, hq, rfl⟩ := List.mem_map.mp hb
        exact none_of_same s1 (each q hq).2.1
      have O3 : ∀ {b : Addr} {o : HO}, H3 b = some o → (upd H3 O (.lst [])) b = some o := fun {b o} e => by rw [upd_ne (ne_of_none e hO)]; exact e
      have start : MrgI H (upd H3 O (.lst [])) R B O (lsOf ps) (qs0.map (·.1)) 0 qs0 kvs :=
        ⟨same_upd s03 nOH, ⟨O3 (s3 _ _ own0.at_), fun q hq => O3 (s3 _ _ (own0.each q hq)), nd⟩, rfl, lq, O3 hB, hlen, by rw [lq]; exact hc, upd_same⟩
      have OR : O ≠ R := (ne_of_none (s3 _ _ hGR) hO).symm
      have OB : O ≠ B := (ne_of_none hB hO).symm
      have Oq : O ∉ qs0.map (·.1) := fun m => by
        obtain ⟨q, hq, e⟩ := List.mem_map.mp m
        exact ne_of_none (s3 _ _ (own0.each q hq)) hO e
      refine while_m (fun m σ G => ∃ (v4 : Option V) (n : Nat) (qs : List (Addr × List Int)) (kvs : List (Key × V)), m = Mg.size (lsOf qs) ∧ σ = [some (.ref a), some (.ref R), some (.ref B), some (.ref O), v4, none] ∧ MrgI H G R B O (lsOf ps) (qs0.map (·.1)) n qs kvs)
        ⟨_, none, 0, qs0, kvs, rfl, rfl, start⟩ ?_ ?_
      · rintro m σ G ⟨v4, n, qs, kvs, rfl, rfl, I⟩
        have ok := Mg.ok_st ndL n
        have okl : (lsOf qs).length = (lsOf ps).length := by rw [I.snd]; exact ok.len
        have shortQ : ∀ r ∈ lsOf qs, r.length ≤ 30 := by rw [I.snd]; exact st_short shortL n
        have ndQ : ∀ r ∈ lsOf qs, r.Nodup := by rw [I.snd]; exact ok.nodups ndL
        have lofl := I.own.lofl (K := K)
        refine ⟨_, rfl, R, _, rfl, dp_lists lofl, plain_lists _, fun d hd => ?_, _, rfl, ?_⟩
        · obtain ⟨r, hr', rfl⟩ := List.mem_map.mp hd
          show ((r.map PyData.int).length : Int) < 2 ^ 63
          have := shortQ r hr'
          rw [List.length_map]
          omega
        rw [truthy_lists]
        cases hany : (lsOf qs).any fun l => !l.isEmpty with
        | false =>
          refine iteF ?_
          have empty : ∀ r ∈ (Mg.st (lsOf ps) n).2, r = [] := fun r hr' => by
            rw [← I.snd] at hr'
            have q := List.any_eq_false.mp hany r hr'
            cases r with
            | nil => rfl
            | cons z t => exact absurd rfl q
          refine ⟨_, rfl, by show 2 ≤ sizeLine; decide, fun t ht => ?_⟩
          refine k _ _ (same_upd I.same (none_of_same I.same ht)) ⟨t, O, rfl, none_of_same I.same ht, nOH, .inl ⟨n, empty, upd_same, ?_⟩⟩
          rw [upd_ne (ne_of_none I.ord ht)]
          exact I.ord
        | true =>
          refine iteT ?_
          obtain ⟨r1, hr1', hne⟩ := List.any_eq_true.mp hany
          have ne1 : r1 ≠ [] := fun e => by rw [e] at hne; cases hne
          refine ⟨_, rfl, _, rfl, R, B, qs, kvs, rfl, lofl, I.dic, I.cts, ?_⟩
          cases hf : Mg.firstFree (lsOf qs) with
          | none =>
            refine ⟨_, rfl, rfl, _, rfl, ?_⟩
            refine iteT ?_
            have hf' := hf
            rw [I.snd] at hf'
            refine ⟨_, rfl, R, qs, rfl, lofl, by rw [List.length_map, List.length_map] at okl; rw [okl]; exact fit.few, fun p hp => ndQ _ (List.mem_map.mpr ⟨p, hp, rfl⟩), hf, ⟨r1, hr1', ne1⟩, fun H4 q us x0 way pp s4 nq4 hq4 tp hw hnd hp1 hp2 hus hsz det => ?_⟩
            refine ⟨by show 2 ≤ sizeLine; decide, fun t ht => ?_⟩
            have s5 : Same H H4 := I.same.trans s4
            refine k _ _ (same_upd s5 (none_of_same s5 ht)) ⟨t, q, rfl, none_of_same s5 ht, none_of_same I.same nq4, .inr ⟨n, us, hf', ⟨r1, by rw [← I.snd]; exact hr1', ne1⟩, upd_same, by rw [upd_ne (ne_of_none hq4 ht)]; exact hq4, fun u hu => by rw [upd_ne (ne_of_none (tp u hu) ht)]; exact tp u hu, ?_, hsz, by rw [← I.snd]; exact det⟩⟩
            rw [hus]
            refine Mg.ring_of_way (rs := lsOf qs) hw ?_ ndQ hnd hp1 hp2
            rw [I.snd]
            exact ok.suf
          | some x =>
            refine ⟨_, rfl, rfl, _, rfl, ?_⟩
            refine iteF ?_
            have hf' := hf
            rw [I.snd] at hf'
            have ordLen := st_ord_len (lsOf ps) n
            refine ⟨_, rfl, .inl ⟨rfl, _, SqL.of I.ord⟩, _, rfl, O, _, _, rfl, rfl, I.ord, small1000 (by rw [List.length_map]; omega), ?_⟩
            have OR2 : ∀ {b : Addr} {o : HO}, b ≠ O → G b = some o → (upd G O (.lst ((Mg.st (lsOf ps) n).1.map V.int ++ [.int x]))) b = some o := fun {b o} ne e => by rw [upd_ne ne]; exact e
            have qO : ∀ q ∈ qs, q.1 ≠ O := fun q hq e => Oq (by rw [← I.fst]; exact List.mem_map.mpr ⟨q, hq, e⟩)
            refine ⟨_, rfl, _, rfl, _, rfl, x, R, B, qs, kvs, rfl, ⟨OR2 OR.symm I.own.at_, fun q hq => OR2 (qO q hq) (I.own.each q hq), I.own.nd⟩, OR2 OB.symm I.dic, I.len, I.cts, fun p hp => ⟨ndQ _ (List.mem_map.mpr ⟨p, hp, rfl⟩), shortQ _ (List.mem_map.mpr ⟨p, hp, rfl⟩)⟩, fun H4 kvs4 but own4 hB4 hl4 hc4 => ?_⟩
            refine ⟨Mg.size (lsOf (taken x qs)), by rw [taken_ls]; exact Mg.size_step hf, _, n + 1, taken x qs, kvs4, rfl, rfl, fun b o e => ?_, own4, by rw [taken_fst]; exact I.fst, by rw [taken_ls, I.snd, Mg.st_some hf'], hB4, hl4, by rw [taken_ls]; exact hc4, ?_⟩
            · have bO : b ≠ O := ne_of_none e nOH
              refine but b o (fun z => z.elim (ne_of_none e nBH) fun m => ?_) (OR2 bO (I.same b o e))
              rw [I.fst] at m
              exact absurd (nq b m) (by rw [e]; exact fun z => nomatch z)
            · have hO4 := but O _ (fun z => z.elim OB fun m => Oq (by rw [← I.fst]; exact m)) (upd_same (H := G) (a := O) (o := .lst ((Mg.st (lsOf ps) n).1.map V.int ++ [.int x])))
              rw [hO4, Mg.st_some hf', List.map_append]
              rfl
      · rintro σ G Q1 Q2 imp ⟨x, hx, a1, ds, h1, h2, h3, h4, c, h5, h6⟩
        exact ⟨x, hx, a1, ds, h1, h2, h3, h4, c, h5, imp _ _ h6⟩
end
end Pr

set_option Elab.async false
set_option linter.all false
set_option maxRecDepth 100000
set_option maxHeartbeats 1000000
/-! merge, raising too. -/
namespace Pr
open PySem L2 Two ClX
section
variable {P : Program} {w : World} {K : PySem.W.Frag} {mg : Str → Option Value} {base : Heap}
theorem check_mono {CB CT CD : Addr} {vs : List V} {H : Hp} {Q Q' : VK} {E : XK} (imp : ∀ v H', Q v H' → Q' v H') (h : spCheckX K CB CT CD vs H Q E) : spCheckX K CB CT CD vs H Q' E := by
  obtain ⟨x, e, h⟩ := h
  refine ⟨x, e, ?_⟩
  rcases h with h | h | ⟨a, ps, e2, hL, few, short, CE⟩
  · exact .inl h
  · exact .inr (.inl h)
  · exact .inr (.inr ⟨a, ps, e2, hL, few, short, ⟨fun f H' s => imp _ _ (CE.fit f H' s), CE.many, CE.twice⟩⟩)
/-- the check, then the merge -/
def spMergeX (K : PySem.W.Frag) (CB CT CD : Addr) : Sp := fun vs H Q E => spCheckX K CB CT CD vs H (fun _ H1 => ∃ (a : Addr) (ps : List (Addr × List Int)), vs = [.ref a] ∧ LofL K H1 a ps ∧ Fit ps ∧ ∀ v H', Same H1 H' → MergeOut H1 H' (lsOf ps) v → Q v H') E
theorem ok_mergeX {f fC fT fF fK fR CB CT CD : Addr} {fd fdC fdT fdF fdK fdR : FuncData} (F : Fun K "merge" "merge" sMerge f fd) (T : Txt mg)
    (gC : mg "_check_lists" = some (.ref fC)) (kC : PySem.W.keepIn K (.ref fC) = true) (bC : Binds K fdC ["lists"] []) (GC : FnOk P w K mg base (L2.CX P w) 5 fC fdC ["lists"] (spCheckX K CB CT CD))
    (gT : mg "_times_behind" = some (.ref fT)) (kT : PySem.W.keepIn K (.ref fT) = true) (bT : Binds K fdT ["lists"] []) (GT : FnOk P w K mg base CX0 1 fT fdT ["lists"] (spTimes K))
    (gF : mg "_first_free" = some (.ref fF)) (kF : PySem.W.keepIn K (.ref fF) = true) (bF : Binds K fdF ["rests", "behind"] []) (GF : FnOk P w K mg base CX0 1 fF fdF ["rests", "behind"] (spFree K))
    (gK : mg "_take" = some (.ref fK)) (kK : PySem.W.keepIn K (.ref fK) = true) (bK : Binds K fdK ["item", "rests", "behind"] []) (GK : FnOk P w K mg base CX0 1 fK fdK ["item", "rests", "behind"] spTake)
    (gR : mg "_ring_of" = some (.ref fR)) (kR : PySem.W.keepIn K (.ref fR) = true) (bR : Binds K fdR ["rests"] []) (GR : FnOk P w K mg base CX0 1 fR fdR ["rests"] (spRingOf K)) :
    FnOk P w K mg base (L2.CX P w) 6 f fd ["lists"] (spMergeX K CB CT CD) := by
  refine F.okX scMerge (fun vs H Q E h => ?_) (fun cdv A outer s Hs vs Q E hr h => ?_)
  · obtain ⟨x, rfl, _⟩ := h
    rfl
  · obtain ⟨x, rfl⟩ : ∃ x, vs = [x] := ⟨h.choose, h.choose_spec.1⟩
    have hu := hu_of hr
    have hr1 : Room 1 _ := hr.mono (by decide)
    refine ⟨_, pss_cons (ps_expr (pe_callS GC hr rfl gC kC bC (fun σ => passAt (takes_of rfl rfl rfl rfl) σ) (pa_cons (pv 0) pa_nil)))
      (pss_cons (ps_setLc (i := 1) (own := [("items", 5)]) (g := gName 5) (tt := tYes) (te := tCB (rListQ K) (tCons (tVar 5) tNil)) rfl scMerge.nd rfl rfl (sw_true rfl rfl rfl (by decide +kernel)) (pi_list (pv 0)) (blkOk_by (N := ["lists", "rests", "behind", "order", "item", "items"]) (sc := defScope sMerge) (by decide +kernel))
          (fun _ _ _ _ _ => pg_name (i := 5) scMerge.nd rfl (Or.inl rfl)) (fun _ _ _ _ _ => pts_nil) (fun _ _ _ _ _ => pe_callTy call_listQ (by rfl) T.list (by decide +kernel) (pa_cons (pv 5) pa_nil)))
      (pss_cons (ps_set (i := 2) scMerge.nd rfl (Or.inl rfl) (pe_call GT hr1 rfl gT kT bT .nil pass0 (pa_cons (pv 0) pa_nil)))
      (pss_cons (ps_set (i := 3) scMerge.nd rfl (Or.inl rfl) (pe_lst pa_nil))
      (pss_cons (ps_while (passes_of rfl) (pt_val (pe_callB (cr_anyD rfl) (by rfl) T.any (by decide +kernel) (pa_cons (pv 1) pa_nil)))
        (pss_cons (ps_set (i := 4) scMerge.nd rfl (Or.inl rfl) (pe_call GF hr1 rfl gF kF bF .nil pass0 (pa_cons (pv 1) (pa_cons (pv 2) pa_nil))))
        (pss_cons (ps_if (pt_cmpR op_isN (pv 4) pe_non (nomark _)) (pss_one (ps_ret (pe_tup (pa_cons pe_str (pa_cons (pe_call GR hr1 rfl gR kR bR .nil pass0 (pa_cons (pv 1) pa_nil)) pa_nil))))) pss_nil)
        (pss_cons (ps_expr (pe_bm PySem.F.plainAttrs_list PySem.F.slot_list_append PySem.F.type_list_append mt_append (pv 3) (pa_cons (pv 4) pa_nil)))
        (pss_one (ps_expr (pe_call GK hr1 rfl gK kK bK .nil pass0 (pa_cons (pv 4) (pa_cons (pv 1) (pa_cons (pv 2) pa_nil))))))))))
      (pss_one (ps_ret (pe_tup (pa_cons pe_str (pa_cons (pv 3) pa_nil))))))))), ?_⟩
    refine ⟨_, rfl, check_mono (fun v H q => ?_) h⟩
    obtain ⟨a, ps, ev, hL, fit, k⟩ := q
    obtain rfl : x = .ref a := (List.cons.inj ev).1
    have s1 : Same H H := Same.refl H
    have fewL : (lsOf ps).length ≤ 30 := by rw [List.length_map]; exact fit.few
    have shortL : ∀ l ∈ lsOf ps, l.length ≤ 30 := fun l hl => by obtain ⟨p, hp, rfl⟩ := List.mem_map.mp hl; exact fit.short p hp
    have ndL : ∀ l ∈ lsOf ps, l.Nodup := fun l hl => by obtain ⟨p, hp, rfl⟩ := List.mem_map.mp hl; exact fit.nd p hp
    have sumL := sum_le (lsOf ps) shortL
    refine ⟨_, rfl, a, rfl, ⟨_, s1.seq hL.1⟩, fun R hR => lc_list (K := K) (a := a) (xs := refsOf ps) (fun j G => ∃ qs : List (Addr × List Int), Same H G ∧ G R = some (.lst (refsOf qs)) ∧ (∀ q ∈ qs, G q.1 = some (.lst (q.2.map V.int)) ∧ H q.1 = none ∧ q.1 ≠ R) ∧ (qs.map (·.1)).Nodup ∧ lsOf qs = (lsOf ps).take j)
      ⟨[], same_new hR, upd_same, (fun q hq => nomatch hq), List.nodup_nil, rfl⟩ (fun j G _ ⟨_, p, _⟩ => (s1.trans p).seq hL.1) (fun j x G hx p => ?_) (fun G p => ?_)⟩
    · obtain ⟨p0, hp0, rfl⟩ := get_map hx
      have mp := List.mem_of_getElem? hp0
      obtain ⟨qs, s2, hGR, each, nd, lq⟩ := p
      have hS := (s1.trans s2).seq (hL.2 p0 mp)
      refine ⟨rfl, ?_⟩
      unfold tYes
      simp only [if_true]
      refine ⟨_, rfl, p0.1, _, rfl, .inl hS, fun l hl => ⟨_, by rw [upd_ne (ne_of_none hGR hl)]; exact hGR, ?_, qs ++ [(l, p0.2)], same_upd (same_upd s2 (none_of_same s2 hl)) hR, ?_, fun q hq => ?_, ?_, ?_⟩⟩
      · refine small1000 ?_
        have e := congrArg List.length lq
        rw [List.length_map, List.length_take, List.length_map] at e
        have := fit.few
        rw [List.length_map]
        omega
      · unfold refsOf
        rw [upd_same, List.map_append]
        rfl
      · rcases List.mem_append.mp hq with m | m
        · obtain ⟨e1, e2, e3⟩ := each q m
          exact ⟨by rw [upd_ne e3, upd_ne (ne_of_none e1 hl)]; exact e1, e2, e3⟩
        · rw [List.mem_singleton.mp m]
          exact ⟨by rw [upd_ne (ne_of_none hGR hl).symm]; exact upd_same, none_of_same s2 hl, (ne_of_none hGR hl).symm⟩
      · rw [List.map_append]
        refine List.nodup_append.mpr ⟨nd, by simp, fun b hb c hc => ?_⟩
        obtain ⟨q, hq, rfl⟩ := List.mem_map.mp hb
        rw [List.mem_singleton.mp hc]
        exact ne_of_none (each q hq).1 hl
      · unfold lsOf
        rw [List.map_append]
        show lsOf qs ++ [p0.2] = _
        rw [lq, take_snoc (lsOf_at hp0)]
    · obtain ⟨qs0, s2, hGR, each, nd, lq⟩ := p
      have e0 : (lsOf ps).take (refsOf ps).length = lsOf ps := List.take_of_length_le (by rw [List.length_map, List.length_map]; exact Nat.le_refl _)
      rw [e0] at lq
      have own0 : Own G R qs0 := ⟨hGR, fun q hq => (each q hq).1, nd⟩
      show tSeq _ _ _ ([some (.ref a), none, none, none, none, none].set 1 (some (.ref R))) G
      refine ⟨_, rfl, a, ps, rfl, hL.keep (s1.trans s2), fit, fun H3 B kvs s3 nB hB hlen hc => ?_⟩
      refine ⟨Nat.zero_le _, fun O hO => ?_⟩
      have s03 : Same H H3 := (s1.trans s2).trans s3
      have nBH : H B = none := none_of_same (s1.trans s2) nB
      have nOH : H O = none := none_of_same s03 hO
      have nR : H R = none := none_of_same s1 hR
      have nq : ∀ b ∈ qs0.map (·.1), H b = none := fun b hb => by
        obtain ⟨q, hq, rfl⟩ := List.mem_map.mp hb
        exact none_of_same s1 (each q hq).2.1
      have O3 : ∀ {b : Addr} {o : HO}, H3 b = some o → (upd H3 O (.lst [])) b = some o := fun {b o} e => by rw [upd_ne (ne_of_none e hO)]; exact e
      have start : MrgI H (upd H3 O (.lst [])) R B O (lsOf ps) (qs0.map (·.1)) 0 qs0 kvs :=
        ⟨same_upd s03 nOH, ⟨O3 (s3 _ _ own0.at_), fun q hq => O3 (s3 _ _ (own0.each q hq)), nd⟩, rfl, lq, O3 hB, hlen, by rw [lq]; exact hc, upd_same⟩
      have OR : O ≠ R := (ne_of_none (s3 _ _ hGR) hO).symm
      have OB : O ≠ B := (ne_of_none hB hO).symm
      have Oq : O ∉ qs0.map (·.1) := fun m => by
        obtain ⟨q, hq, e⟩ := List.mem_map.mp m
        exact ne_of_none (s3 _ _ (own0.each q hq)) hO e
      refine while_m (fun m σ G => ∃ (v4 : Option V) (n : Nat) (qs : List (Addr × List Int)) (kvs : List (Key × V)), m = Mg.size (lsOf qs) ∧ σ = [some (.ref a), some (.ref R), some (.ref B), some (.ref O), v4, none] ∧ MrgI H G R B O (lsOf ps) (qs0.map (·.1)) n qs kvs)
        ⟨_, none, 0, qs0, kvs, rfl, rfl, start⟩ ?_ ?_
      · rintro m σ G ⟨v4, n, qs, kvs, rfl, rfl, I⟩
        have ok := Mg.ok_st ndL n
        have okl : (lsOf qs).length = (lsOf ps).length := by rw [I.snd]; exact ok.len
        have shortQ : ∀ r ∈ lsOf qs, r.length ≤ 30 := by rw [I.snd]; exact st_short shortL n
        have ndQ : ∀ r ∈ lsOf qs, r.Nodup := by rw [I.snd]; exact ok.nodups ndL
        have lofl := I.own.lofl (K := K)
        refine ⟨_, rfl, R, _, rfl, dp_lists lofl, plain_lists _, fun d hd => ?_, _, rfl, ?_⟩
        · obtain ⟨r, hr', rfl⟩ := List.mem_map.mp hd
          show ((r.map PyData.int).length : Int) < 2 ^ 63
          have := shortQ r hr'
          rw [List.length_map]
          omega
        rw [truthy_lists]
        cases hany : (lsOf qs).any fun l => !l.isEmpty with
        | false =>
          refine iteF ?_
          have empty : ∀ r ∈ (Mg.st (lsOf ps) n).2, r = [] := fun r hr' => by
            rw [← I.snd] at hr'
            have q := List.any_eq_false.mp hany r hr'
            cases r with
            | nil => rfl
            | cons z t => exact absurd rfl q
          refine ⟨_, rfl, by show 2 ≤ sizeLine; decide, fun t ht => ?_⟩
          refine k _ _ (same_upd I.same (none_of_same I.same ht)) ⟨t, O, rfl, none_of_same I.same ht, nOH, .inl ⟨n, empty, upd_same, ?_⟩⟩
          rw [upd_ne (ne_of_none I.ord ht)]
          exact I.ord
        | true =>
          refine iteT ?_
          obtain ⟨r1, hr1', hne⟩ := List.any_eq_true.mp hany
          have ne1 : r1 ≠ [] := fun e => by rw [e] at hne; cases hne
          refine ⟨_, rfl, _, rfl, R, B, qs, kvs, rfl, lofl, I.dic, I.cts, ?_⟩
          cases hf : Mg.firstFree (lsOf qs) with
          | none =>
            refine ⟨_, rfl, rfl, _, rfl, ?_⟩
            refine iteT ?_
            have hf' := hf
            rw [I.snd] at hf'
            refine ⟨_, rfl, R, qs, rfl, lofl, by rw [List.length_map, List.length_map] at okl; rw [okl]; exact fit.few, fun p hp => ndQ _ (List.mem_map.mpr ⟨p, hp, rfl⟩), hf, ⟨r1, hr1', ne1⟩, fun H4 q us x0 way pp s4 nq4 hq4 tp hw hnd hp1 hp2 hus hsz det => ?_⟩
            refine ⟨by show 2 ≤ sizeLine; decide, fun t ht => ?_⟩
            have s5 : Same H H4 := I.same.trans s4
            refine k _ _ (same_upd s5 (none_of_same s5 ht)) ⟨t, q, rfl, none_of_same s5 ht, none_of_same I.same nq4, .inr ⟨n, us, hf', ⟨r1, by rw [← I.snd]; exact hr1', ne1⟩, upd_same, by rw [upd_ne (ne_of_none hq4 ht)]; exact hq4, fun u hu => by rw [upd_ne (ne_of_none (tp u hu) ht)]; exact tp u hu, ?_, hsz, by rw [← I.snd]; exact det⟩⟩
            rw [hus]
            refine Mg.ring_of_way (rs := lsOf qs) hw ?_ ndQ hnd hp1 hp2
            rw [I.snd]
            exact ok.suf
          | some x =>
            refine ⟨_, rfl, rfl, _, rfl, ?_⟩
            refine iteF ?_
            have hf' := hf
            rw [I.snd] at hf'
            have ordLen := st_ord_len (lsOf ps) n
            refine ⟨_, rfl, .inl ⟨rfl, _, SqL.of I.ord⟩, _, rfl, O, _, _, rfl, rfl, I.ord, small1000 (by rw [List.length_map]; omega), ?_⟩
            have OR2 : ∀ {b : Addr} {o : HO}, b ≠ O → G b = some o → (upd G O (.lst ((Mg.st (lsOf ps) n).1.map V.int ++ [.int x]))) b = some o := fun {b o} ne e => by rw [upd_ne ne]; exact e
            have qO : ∀ q ∈ qs, q.1 ≠ O := fun q hq e => Oq (by rw [← I.fst]; exact List.mem_map.mpr ⟨q, hq, e⟩)
            refine ⟨_, rfl, _, rfl, _, rfl, x, R, B, qs, kvs, rfl, ⟨OR2 OR.symm I.own.at_, fun q hq => OR2 (qO q hq) (I.own.each q hq), I.own.nd⟩, OR2 OB.symm I.dic, I.len, I.cts, fun p hp => ⟨ndQ _ (List.mem_map.mpr ⟨p, hp, rfl⟩), shortQ _ (List.mem_map.mpr ⟨p, hp, rfl⟩)⟩, fun H4 kvs4 but own4 hB4 hl4 hc4 => ?_⟩
            refine ⟨Mg.size (lsOf (taken x qs)), by rw [taken_ls]; exact Mg.size_step hf, _, n + 1, taken x qs, kvs4, rfl, rfl, fun b o e => ?_, own4, by rw [taken_fst]; exact I.fst, by rw [taken_ls, I.snd, Mg.st_some hf'], hB4, hl4, by rw [taken_ls]; exact hc4, ?_⟩
            · have bO : b ≠ O := ne_of_none e nOH
              refine but b o (fun z => z.elim (ne_of_none e nBH) fun m => ?_) (OR2 bO (I.same b o e))
              rw [I.fst] at m
              exact absurd (nq b m) (by rw [e]; exact fun z => nomatch z)
            · have hO4 := but O _ (fun z => z.elim OB fun m => Oq (by rw [← I.fst]; exact m)) (upd_same (H := G) (a := O) (o := .lst ((Mg.st (lsOf ps) n).1.map V.int ++ [.int x])))
              rw [hO4, Mg.st_some hf', List.map_append]
              rfl
      · rintro σ G Q1 Q2 imp ⟨x, hx, a1, ds, h1, h2, h3, h4, c, h5, h6⟩
        exact ⟨x, hx, a1, ds, h1, h2, h3, h4, c, h5, imp _ _ h6⟩
end
end Pr

set_option Elab.async false
set_option linter.all false
set_option maxRecDepth 100000
set_option maxHeartbeats 4000000
namespace Pr
open PySem L2 Two
/-! ### data of ints -/
theorem canLay_ints : ∀ l : List Int, PyData.canLayAll0 (l.map PyData.int) = true
  | [] => rfl
  | _ :: l => by
    show (PyData.canLay0 (.int _) && PyData.canLayAll0 (l.map PyData.int)) = true
    rw [canLay_ints l]
    rfl
theorem depth_ints : ∀ l : List Int, PyData.depthAll (l.map PyData.int) = 0
  | [] => rfl
  | _ :: l => by
    show max 0 (PyData.depthAll (l.map PyData.int)) = 0
    rw [depth_ints l]
    rfl
theorem shaped_ints (l : List Int) : SeqAt.shaped (intsD l) = true := by
  unfold SeqAt.shaped
  have a : (intsD l).canLay0 = true := canLay_ints l
  have b : (intsD l).depth = 1 := by show PyData.depthAll (l.map PyData.int) + 1 = 1; rw [depth_ints]
  rw [a, b]
  rfl
/-- a word and a list of ints, as a pair -/
def pairD (x : Str) (l : List Int) : PyData := .tuple [.str x, intsD l]
theorem shaped_pair {x : Str} (hx : PyData.canLay0 (.str x) = true) (l : List Int) : SeqAt.shaped (pairD x l) = true := by
  unfold SeqAt.shaped
  have a : (pairD x l).canLay0 = true := by
    show (PyData.canLay0 (.str x) && ((intsD l).canLay0 && true)) = true
    rw [hx, show (intsD l).canLay0 = true from canLay_ints l]
    rfl
  have b : (pairD x l).depth = 2 := by
    show max 0 (max (intsD l).depth 0) + 1 = 2
    have c : (intsD l).depth = 1 := by show PyData.depthAll (l.map PyData.int) + 1 = 1; rw [depth_ints]
    rw [c]
    rfl
  rw [a, b]
  rfl
theorem dp_pair {K : PySem.W.Frag} {H : Hp} {t q : Addr} {x : Str} {l : List Int} (h : H t = some (.tup [.str x, .ref q])) (hq : SqL K H q (l.map V.int)) : Dp K H (.ref t) (pairD x l) :=
  .tup (SqT.of h) (.cons (.str x) (.cons (dp_list hq) .nil))
theorem tyx_tup {K : PySem.W.Frag} {H : Hp} {a : Addr} {xs : List V} (h : H a = some (.tup xs)) : TyX K H (.ref a) (.type "tuple") := .base (.tup h)

section
variable {P : Program} {w : World} {K : PySem.W.Frag} {mg : Str → Option Value} {base : Heap}
/-! ### is_ring -/
theorem oneS_list {w : World} {K : PySem.W.Frag} {a : Addr} {xs : List V} {g : TG} {te : TE} {vs : List Nat} {D : Addr} {σ : L2.St} {Qd : Hp → Prop} {G : Hp} (Pv : Nat → Hp → Prop) (h0 : Pv 0 G) (hl : ∀ i H, i ≤ xs.length → Pv i H → SqL K H a xs)
    (hs : ∀ i x H, xs[i]? = some x → Pv i H → g x (wipe σ vs) H fun σ2 H2 => wipe σ2 vs = wipe σ vs ∧ te σ2 H2 fun y H4 => ∃ (k : Int) (S : Int → Bool) (n : Nat), y = .int k ∧ H4 D = some (SetO w D S n) ∧ n + 1 < scanBound ∧
      Pv (i + 1) (upd H4 D (SetO w D (fun j => S j || decide (j = k)) (if S k = true then n else n + 1)))) (hd : ∀ H, Pv xs.length H → Qd H) : oneS w (Itl K a) g te vs D σ Qd G := by
  refine ⟨fun i m H => m = xs.length - i ∧ i ≤ xs.length ∧ Pv i H, ⟨xs.length, by simp, Nat.zero_le _, h0⟩, ?_⟩
  rintro i m H ⟨rfl, hi, p⟩
  have q := hl i H hi p
  by_cases lt : i < xs.length
  · refine .inr ⟨⟨xs, xs[i], q, by simp [lt]⟩, Pv (i + 1), fun H2 p2 => ⟨xs.length - (i + 1), by omega, rfl, lt, p2⟩, fun x H2 y => ?_⟩
    obtain ⟨e, y⟩ := y
    subst e
    exact hs i x _ (y xs q) p
  · have e : i = xs.length := by omega
    subst e
    exact .inl ⟨⟨xs, q, Nat.le_refl _⟩, hd H p⟩
def spIsRing (K : PySem.W.Frag) : Sp := fun vs H Q _ => ∃ (a q : Addr) (ps : List (Addr × List Int)) (us : List (Addr × Int × Nat)), vs = [.ref a, .ref q] ∧ LofL K H a ps ∧ Fit ps ∧ H q = some (.lst (tupRefs us)) ∧ TupsAt H us ∧ Mg.IsRing (lsOf ps) (us.map (·.2)) ∧ us.length ≤ 30 ∧
  ∀ H', Same H H' → Q (.bl true) H'
theorem cut_one (xs : List V) : cutV xs none (some 1) = xs.take 1 := by
  unfold cutV
  have e : HT.sIx xs.length xs.length (some 1) = min 1 xs.length := HT.sIx_nat xs.length xs.length 1
  rw [e, HT.sIx_none]
  cases xs with
  | nil => rfl
  | cons x xs => simp
theorem turn_get {α : Type} {xs : List α} {k : Nat} (h : k < xs.length) : (xs.tail ++ xs.take 1)[k]? = xs[(k + 1) % xs.length]? := by
  cases xs with
  | nil => simp at h
  | cons x l =>
    simp only [List.length_cons] at h
    by_cases e : k + 1 < (x :: l).length
    · rw [Nat.mod_eq_of_lt e]
      simp only [List.length_cons] at e
      show (l ++ [x])[k]? = (x :: l)[k + 1]?
      rw [List.getElem?_append_left (by omega), List.getElem?_cons_succ]
    · simp only [List.length_cons] at e
      have e2 : k = l.length := by omega
      subst e2
      show (l ++ [x])[l.length]? = (x :: l)[(l.length + 1) % (l.length + 1)]?
      rw [Nat.mod_self]
      simp
def tItem0 (K : PySem.W.Frag) (i : Nat) : TE := tOp (rIxT K) (tVar i) (tC (.int 0))
def tItem1 (K : PySem.W.Frag) (i : Nat) : TE := tOp (rIxT K) (tVar i) (tC (.int 1))
end
end Pr

set_option Elab.async false
set_option linter.all false
set_option maxRecDepth 100000
set_option maxHeartbeats 1000000
/-! shows_merge, raising too, of the two papers that the law shows. -/
namespace Pr
open PySem L2 Two ClX
abbrev sShowsM : Stmt := top 26
def linkD (u : Int × Nat) : PyData := .tuple [.int u.1, .int (u.2 : Nat)]
def linksD (us : List (Int × Nat)) : PyData := .list (us.map linkD)
def ringD (us : List (Int × Nat)) : PyData := .tuple [.str "ring", linksD us]
theorem dp_link {K : PySem.W.Frag} {H : Hp} {a : Addr} {u : Int × Nat} (h : H a = some (.tup [.int u.1, .int (u.2 : Nat)])) : Dp K H (.ref a) (linkD u) := .tup (SqT.of h) (.cons (.int _) (.cons (.int _) .nil))
theorem dp_ring {K : PySem.W.Frag} {H : Hp} {t q : Addr} {us : List (Addr × Int × Nat)} (ht : H t = some (.tup [.str "ring", .ref q])) (hq : H q = some (.lst (tupRefs us))) (tp : TupsAt H us) : Dp K H (.ref t) (ringD (us.map (·.2))) := by
  have all : ∀ vs : List (Addr × Int × Nat), (∀ u ∈ vs, H u.1 = some (.tup [.int u.2.1, .int (u.2.2 : Nat)])) → DpAll K H (tupRefs vs) ((vs.map (·.2)).map linkD) := by
    intro vs
    induction vs with
    | nil => intro _; exact .nil
    | cons u vs ih => intro h; exact .cons (dp_link (h u List.mem_cons_self)) (ih fun v hv => h v (List.mem_cons_of_mem _ hv))
  exact .tup (SqT.of ht) (.cons (.str _) (.cons (.lst (SqL.of hq) (all us tp)) .nil))
theorem canLay_links : ∀ us : List (Int × Nat), PyData.canLayAll0 (us.map linkD) = true
  | [] => rfl
  | u :: us => by
    show ((linkD u).canLay0 && PyData.canLayAll0 (us.map linkD)) = true
    rw [canLay_links us]
    rfl
theorem depth_links : ∀ us : List (Int × Nat), PyData.depthAll (us.map linkD) ≤ 1
  | [] => Nat.zero_le _
  | u :: us => by
    show max (max 0 (max 0 0) + 1) (PyData.depthAll (us.map linkD)) ≤ 1
    have := depth_links us
    omega
theorem shaped_ring (us : List (Int × Nat)) : SeqAt.shaped (ringD us) = true := by
  unfold SeqAt.shaped
  have a : (ringD us).canLay0 = true := by
    show (PyData.canLay0 (.str "ring") && (PyData.canLayAll0 (us.map linkD) && true)) = true
    rw [canLay_links us, show PyData.canLay0 (.str "ring") = true from by decide +kernel]
    rfl
  have b : (ringD us).depth ≤ 64 := by
    show max 0 (max (PyData.depthAll (us.map linkD) + 1) 0) + 1 ≤ 64
    have := depth_links us
    omega
  rw [a, decide_eq_true b]
  rfl
/-- merge's result is some data that may be compared -/
theorem out_data {K : PySem.W.Frag} {H H' H2 : Hp} {ls : List (List Int)} {v : V} (m : MergeOut H H' ls v) (s : Same H' H2) : ∃ d, Dp K H2 v d ∧ SeqAt.shaped d = true := by
  obtain ⟨t, q, rfl, _, _, r⟩ := m
  rcases r with ⟨n, _, ht, hq⟩ | ⟨n, us, _, _, ht, hq, tp, _⟩
  · exact ⟨pairD "order" (Mg.st ls n).1, dp_pair (s _ _ ht) (SqL.of (s _ _ hq)), shaped_pair (by decide +kernel) _⟩
  · exact ⟨ringD (us.map (·.2)), dp_ring (s _ _ ht) (s _ _ hq) (fun u hu => s _ _ (tp u hu)), shaped_ring _⟩
/-- a paper that the law shows -/
def LawPaper (K : PySem.W.Frag) (H : Hp) (y : V) : Prop := (∀ H', Same H H' → ∃ t, TyX K H' y t ∧ PySem.W.kitOne K t (.type "tuple") = some false) ∨ ∃ t q : Addr, y = .ref t ∧ H t = some (.tup [.str "order", .ref q]) ∧ H q = some (.lst [])
theorem LawPaper.keep {K : PySem.W.Frag} {H H' : Hp} {y : V} (p : LawPaper K H y) (s : Same H H') : LawPaper K H' y :=
  p.imp (fun k G s2 => k G (s.trans s2)) fun ⟨t, q, e, h1, h2⟩ => ⟨t, q, e, s _ _ h1, s _ _ h2⟩
section
variable {P : Program} {w : World} {K : PySem.W.Frag} {mg : Str → Option Value} {base : Heap}
def spShowsX (K : PySem.W.Frag) (CB CT CD : Addr) : Sp := fun vs H Q E => ∃ x y, vs = [x, y] ∧ spCheckX K CB CT CD [x] H (fun _ H1 => ∃ (a : Addr) (ps : List (Addr × List Int)), x = .ref a ∧ LofL K H1 a ps ∧ Fit ps ∧ LawPaper K H1 y ∧ ∀ b H', Same H1 H' → Q (.bl b) H') E
theorem scShowsM : FnScope ["lists", "paper", "merged", "word", "thing"] ["lists", "paper"] (defScope sShowsM) := ⟨rfl, rfl, rfl, by decide +kernel, rfl, by decide +kernel, by decide +kernel⟩
theorem ok_showsX {f fM fL CB CT CD : Addr} {fd fdM fdL : FuncData} (F : Fun K "shows_merge" "shows_merge" sShowsM f fd) (T : Txt mg)
    (gM : mg "merge" = some (.ref fM)) (kM : PySem.W.keepIn K (.ref fM) = true) (bM : Binds K fdM ["lists"] []) (GM : FnOk P w K mg base (L2.CX P w) 6 fM fdM ["lists"] (spMergeX K CB CT CD))
    (gL : mg "_is_list_of_ints" = some (.ref fL)) (kL : PySem.W.keepIn K (.ref fL) = true) (bL : Binds K fdL ["items"] []) (GL : FnOk P w K mg base CX0 2 fL fdL ["items"] (spIsListX K)) :
    FnOk P w K mg base (L2.CX P w) 7 f fd ["lists", "paper"] (spShowsX K CB CT CD) := by
  refine F.okX scShowsM (fun vs H Q E h => ?_) (fun cdv A outer s H vs Q E hr h => ?_)
  · obtain ⟨x, y, rfl, _⟩ := h
    rfl
  · obtain ⟨x, y, rfl, h⟩ := h
    refine ⟨_, pss_cons (ps_set (i := 2) scShowsM.nd rfl (Or.inl rfl) (pe_callS GM hr rfl gM kM bM (fun σ => passAt (takes_of rfl rfl rfl rfl) σ) (pa_cons (pv 0) pa_nil)))
      (pss_cons (ps_if (PW.pt (pw_or (pt_not (pt_val (pe_callB call_isi (by rfl) T.isinstance (by decide +kernel) (pa_cons (pv 1) (pa_cons (pe_bltn (v := .ty "tuple") (by rfl) T.tuple (by decide +kernel) rfl) pa_nil)))))
        (pw_or1 (pt_cmpR op_ne (pe_callB call_len_seq (by rfl) T.len PySem.boot_len (pa_cons (pv 1) pa_nil)) pe_int (nomark _))))) (pss_one (ps_ret pe_bl)) pss_nil)
      (pss_cons (ps_asg (pv 1) (pg_tup rfl (pgs_cons (pg_name (i := 3) scShowsM.nd rfl (Or.inl rfl)) (pgs_cons (pg_name (i := 4) scShowsM.nd rfl (Or.inl rfl)) pgs_nil))))
      (pss_cons (ps_if (pt_not (pt_val (pe_callB call_isi (by rfl) T.isinstance (by decide +kernel) (pa_cons (pv 3) (pa_cons (pe_bltn (v := .ty "str") (by rfl) T.str (by decide +kernel) rfl) pa_nil))))) pss_never pss_nil)
      (pss_cons (ps_if (pt_cmpR op_eq (pv 3) pe_str (nomark _)) (pss_one (ps_ret (pe_and (pe_call GL (hr.mono (by decide)) rfl gL kL bL .nil pass0 (pa_cons (pv 4) pa_nil))
          (pe_one (pe_cmpR (op_eqD hr.units) (pv 2) (pe_tup (pa_cons pe_str (pa_cons (pv 4) pa_nil))) (nomark _)))))) pss_nil)
      (pss_one ps_never))))), ?_⟩
    refine ⟨_, rfl, check_mono (fun v H0 q => ?_) h⟩
    obtain ⟨a, ps, rfl, hL, fit, pap, k⟩ := q
    refine ⟨a, ps, rfl, hL, fit, fun v1 H1 s1 out => ?_⟩
    rcases pap.keep s1 with hd | ⟨t, q, rfl, ht, hq⟩
    · obtain ⟨ty, h1, h2⟩ := hd H1 (Same.refl _)
      exact ⟨_, rfl, _, .ty "tuple", ty, .type "tuple", false, rfl, .ty _, h1, h2, false, rfl, iteT (iteT (k false _ s1))⟩
    · refine ⟨_, rfl, _, .ty "tuple", .type "tuple", .type "tuple", true, rfl, .ty _, tyx_tup ht, kit_ty (by decide +kernel), true, rfl, iteF ?_⟩
      refine ⟨_, rfl, t, _, rfl, .inr (SqT.of ht), rfl, _, rfl, iteF ?_⟩
      refine ⟨_, rfl, t, _, rfl, SqT.of ht, rfl, _, _, rfl, _, _, rfl, rfl, ?_⟩
      refine ⟨_, rfl, _, .ty "str", .type "str", .type "str", true, rfl, .ty _, .base (.str "order"), kit_ty (by decide +kernel), true, rfl, iteF ?_⟩
      refine ⟨_, rfl, rfl, _, rfl, ?_⟩
      rw [decide_eq_true rfl]
      refine iteT ?_
      refine ⟨_, rfl, _, rfl, .inr ⟨q, [], fun _ => true, rfl, SqL.of hq, by decide, (fun y hy => nomatch hy), fun H2 s2 => ⟨true, rfl, iteT ?_⟩⟩⟩
      refine ⟨_, rfl, _, rfl, by show 2 ≤ sizeLine; decide, fun p hp => ?_⟩
      have s3 : Same H2 (upd H2 p (.tup [.str "order", .ref q])) := same_new hp
      obtain ⟨d, dp, sh⟩ := out_data (K := K) out (s2.trans s3)
      exact ⟨d, pairD "order" [], dp, dp_pair upd_same (SqL.of (s3 _ _ (s2 _ _ hq))), sh, shaped_pair (by decide +kernel) _, k _ _ (s1.trans (s2.trans s3))⟩
end
end Pr

set_option Elab.async false
set_option linter.all false
set_option maxRecDepth 100000
set_option maxHeartbeats 1000000
/-! A caught error: isinstance, its fields. -/
namespace Two
open PySem PySem.Spec PyProof.Rows L2
/-- isinstance(e, c), e the error that the suite holds, with a dict -/
def rIsC (K : PySem.W.Frag) (cls : Value) (d : Option Addr) (a : Addr) : List V → Hp → VK → Prop := fun xs H Q => ∃ (D dd : Addr) (fs : List (Str × V)) (c : V) (cv : Value) (b : Bool), xs = [.ref a, c] ∧ cls = .ref D ∧ d = some dd ∧ H dd = some (.xd fs) ∧ ExcC K D ∧
  (∀ u, RelV c u → u = cv) ∧ PySem.W.kitOne K (.ref D) cv = some b ∧ Q (.bl b) H
theorem call_isC {X : Cx} {a : Addr} {oe : Obj} {cls : Value} {d : Option Addr} {pn : List (Addr × Obj)} (hz : Zc cls d oe) (hf : ∃ vs, oe.data = .fields vs) : CallR (X.suite a ((a, oe) :: pn)) (.builtin "isinstance") (rIsC X.K cls d a) := by
  intro pins s σ H xs us Q I r h
  obtain ⟨D, dd, fs, c, cv, b, rfl, rfl, rfl, hdd, C, hcv, e, q⟩ := h
  cases r with
  | cons rx rr =>
    cases rr with
    | cons rt rr =>
      cases rr
      cases rx
      have ec := hcv _ rt
      subst ec
      obtain ⟨hget, _⟩ := I.pin (a, oe) (List.mem_append.mpr (.inl List.mem_cons_self))
      obtain ⟨vs, hv⟩ := hf
      have hx : ObjOk X.prog X.w H s.heap dd (.xd fs) := I.hok dd _ hdd
      obtain ⟨mA, hns, hr⟩ := hx
      obtain ⟨od, ho, hl⟩ := lookIn_ns hns
      have J : PySem.W.InstAt s.heap a oe D (some od) := ⟨hget, hz.1, by unfold PySem.W.notCls; rw [hv] <;> rfl, by rw [hz.2]; exact ho⟩
      have hcl : (PySem.W.clsIn X.K D).isSome = true := by
        obtain ⟨cd, hc, _⟩ := PySem.W.any_some C.hd
        rw [hc]; rfl
      exact PySem.W.kia_one (PySem.W.kitx_exc hcl C.hg C.hk C.hs C.ha C.hn C.ht C.hm) I.kIn J e (fun z => nomatch z) fun tk => ⟨.bl b, H, I.kept (t' := tk) fun _ _ z => z, rfl, q⟩
/-- e.f, whatever own class e is of -/
def tXfG (K : PySem.W.Frag) (a : Addr) (cls : Value) (d : Option Addr) (f : Str) (te : TE) : TE := fun σ H Q => te σ H fun x H1 => x = .ref a ∧ ∃ (C dd : Addr) (fs : List (Str × V)) (v : V), cls = .ref C ∧ d = some dd ∧ XfC K C ∧ PySem.W.findIn K (.ref C) f = some none ∧
  H1 dd = some (.xd fs) ∧ fs.lookup f = some v ∧ Q v H1
theorem pe_xfG {X : Cx} {a : Addr} {oe : Obj} {cls : Value} {d : Option Addr} {pn : List (Addr × Obj)} {e : Expr} {te : TE} {pos : Pos} {n : Str}
    (hz : Zc cls d oe) (hf : ∃ vs, oe.data = .fields vs) (he : PE (X.suite a ((a, oe) :: pn)) e te) (hb : attributeBase e n X.env (eval e X.env) = eval e X.env := by rfl) :
    PE (X.suite a ((a, oe) :: pn)) (.Attribute e n pos) (tXfG X.K a cls d n te) := by
  refine ⟨fun pins s σ H Q I h => ?_⟩
  refine attr_of hb (thn (he.run pins s σ H _ I h) fun u s1 hh => ?_)
  obtain ⟨x, H1, I1, rx, ex, C, dd, fs, v, rfl, rfl, T, hno, ea, l, q⟩ := hh
  subst ex
  obtain rfl : u = Value.ref a := rx
  obtain ⟨ha, _⟩ := I1.pin (a, oe) (List.mem_append_left _ List.mem_cons_self)
  obtain ⟨vs, hd⟩ := hf
  have hx : ObjOk X.prog X.w H1 s1.heap dd (.xd fs) := I1.hok dd _ ea
  obtain ⟨mA, hns, hr⟩ := hx
  obtain ⟨od, ho, hl⟩ := lookIn_ns hns
  obtain ⟨u, hu, ru⟩ := RelO.some_of (v := v) (o := mA n) (by rw [← l]; exact hr n)
  have J : PySem.W.InstAt s1.heap a oe C (some od) := ⟨ha, hz.1, by unfold PySem.W.notCls; rw [hd] <;> rfl, by rw [hz.2]; exact ho⟩
  exact HandSPX.exc_get I1.kIn J T.ga T.gg T.exC (PySem.W.findObj_own T.hdC hno rfl (by rw [hl, hu])) (handed_of ru) ⟨v, H1, I1.tok _, ru, q⟩
end Two

set_option Elab.async false
set_option linter.all false
set_option maxRecDepth 100000
set_option maxHeartbeats 1000000
/-! _law_refused. -/
namespace Lw
open PySem L2 Two Pr ClX LamX
abbrev sRefused : Stmt := top 48
theorem scRefused : FnScope ["_law_call", "e", "_law_marks", "_law_found"] ["_law_call"] (defScope sRefused) := ⟨rfl, rfl, rfl, by decide +kernel, rfl, by decide +kernel, by decide +kernel⟩
/-- an error of the three kinds -/
inductive ErrK
  | list (why : Str)
  | many (n : Int)
  | twice (z : Int)
namespace ErrK
def cls (CB CT CD : Addr) : ErrK → Addr
  | list _ => CB
  | many _ => CT
  | twice _ => CD
def isB : ErrK → Bool
  | list _ => true
  | _ => false
def isT : ErrK → Bool
  | many _ => true
  | _ => false
def isD : ErrK → Bool
  | twice _ => true
  | _ => false
def data : ErrK → PyData
  | list w => .tuple [.str "list", .str w]
  | many n => .tuple [.str "many", .int n]
  | twice z => .tuple [.str "twice", .str (toString z)]
def has (fs : List (Str × V)) : ErrK → Prop
  | list w => fs.lookup ("why" : Str) = some (.str w)
  | many n => (∃ w, fs.lookup ("why" : Str) = some (.str w)) ∧ fs.lookup ("limit" : Str) = some (.int n)
  | twice z => (∃ w, fs.lookup ("why" : Str) = some (.str w)) ∧ fs.lookup ("thing" : Str) = some (.int z) ∧ z.natAbs.log2 < 1920
theorem why {fs : List (Str × V)} {k : ErrK} (h : k.has fs) : ∃ w, fs.lookup ("why" : Str) = some (.str w) := by
  cases k with
  | list w => exact ⟨w, h⟩
  | many n => exact h.1
  | twice z => exact h.1
end ErrK
structure RefTxt (K : PySem.W.Frag) (mg : Str → Option Value) (CL CB CT CD : Addr) (c : List Addr) : Prop where
  T : Txt mg
  repr : mg "repr" = none
  vale : mg "ValueError" = none
  gL : mg "LineError" = some (.ref CL)
  gB : mg "BadList" = some (.ref CB)
  gT : mg "TooMany" = some (.ref CT)
  gD : mg "Duplicate" = some (.ref CD)
  g0 : mg "BadName" = some (.ref (c.getD 0 0))
  g1 : mg "BadOffset" = some (.ref (c.getD 1 0))
  g2 : mg "BadStep" = some (.ref (c.getD 2 0))
  g3 : mg "BadValue" = some (.ref (c.getD 3 0))
  g4 : mg "BelowItself" = some (.ref (c.getD 4 0))
  g5 : mg "Collision" = some (.ref (c.getD 5 0))
  g6 : mg "HasRoom" = some (.ref (c.getD 6 0))
  g7 : mg "LayoutMoves" = some (.ref (c.getD 7 0))
  g8 : mg "NoClass" = some (.ref (c.getD 8 0))
  g9 : mg "NoName" = some (.ref (c.getD 9 0))
  g10 : mg "NoObject" = some (.ref (c.getD 10 0))
  g11 : mg "NoOrder" = some (.ref (c.getD 11 0))
  g12 : mg "NotSet" = some (.ref (c.getD 12 0))
  g13 : mg "OtherLayout" = some (.ref (c.getD 13 0))
  ex : ∀ D, D = CB ∨ D = CT ∨ D = CD → ExcC K D ∧ XfC K D ∧ PySem.W.exmOne K (.ref D) (.ref CL) = some true ∧ PySem.W.kitOne K (.ref D) (.type "ValueError") = some true
  no : ∀ D, D = CB ∨ D = CT ∨ D = CD → ∀ i, i < 14 → PySem.W.kitOne K (.ref D) (.ref (c.getD i 0)) = some false
  fw : ∀ D, D = CB ∨ D = CT ∨ D = CD → PySem.W.findIn K (.ref D) "why" = some none
  fl : PySem.W.findIn K (.ref CT) "limit" = some none
  ft : PySem.W.findIn K (.ref CD) "thing" = some none
  kB : ∀ k : ErrK, PySem.W.kitOne K (.ref (k.cls CB CT CD)) (.ref CB) = some k.isB
  kT : ∀ k : ErrK, PySem.W.kitOne K (.ref (k.cls CB CT CD)) (.ref CT) = some k.isT
  kD : ∀ k : ErrK, PySem.W.kitOne K (.ref (k.cls CB CT CD)) (.ref CD) = some k.isD
theorem ErrK.one (CB CT CD : Addr) (k : ErrK) : k.cls CB CT CD = CB ∨ k.cls CB CT CD = CT ∨ k.cls CB CT CD = CD := by
  cases k with
  | list w => exact .inl rfl
  | many n => exact .inr (.inl rfl)
  | twice z => exact .inr (.inr rfl)
/-- what the law's def makes of a call that tells tl -/
def TRef (K : PySem.W.Frag) (CB CT CD : Addr) : (XK → Hp → VK → Prop) → Hp → VK → Prop := fun tl H Q =>
  tl (fun cls d H' => ∃ (k : ErrK) (dd : Addr) (fs : List (Str × V)), cls = .ref (k.cls CB CT CD) ∧ d = some dd ∧ H' dd = some (.xd fs) ∧ k.has fs ∧ ∀ v H2, Same H' H2 → Dp K H2 v k.data → Q v H2) H (fun _ H' => Q (.str "ok") H')
abbrev SX (X : Cx) (g : Addr) (cdg : Value) (s : Shared) (H : Hp) (a : Addr) (oe : Obj) (pn : List (Addr × Obj)) : Cx := (cxOf C8.CX0 X.prog X.w X.K X.mg X.base ["_law_call", "e", "_law_marks", "_law_found"] "_law_refused" (defScope sRefused) g cdg X.A X.stack s H C8.E0).nox.suite a ((a, oe) :: pn)
def suiteOf : List Stmt → List Stmt
  | .Try _ (.ExceptHandler _ _ ss _ :: _) _ _ _ :: _ => ss
  | _ => []
def tSuite (K : PySem.W.Frag) (CB CT CD : Addr) (a : Addr) (cls : Value) (d : Option Addr) : TS := fun D σ H => ∃ (k : ErrK) (dd : Addr) (fs : List (Str × V)) (v0 v2 v3 : Option V), cls = .ref (k.cls CB CT CD) ∧ d = some dd ∧ H dd = some (.xd fs) ∧ k.has fs ∧ σ = [v0, some (.ref a), v2, v3] ∧
  ∀ v H2, Same H H2 → Dp K H2 v k.data → D.rt v H2
theorem is_no {K : PySem.W.Frag} {D dd a C : Addr} {fs : List (Str × V)} {b : Bool} {σ : L2.St} {H : Hp} {Q : VK} (hσ : σ[1]? = some (some (.ref a))) (hdd : H dd = some (.xd fs)) (ex : ExcC K D) (kit : PySem.W.kitOne K (.ref D) (.ref C) = some b) (q : Q (.bl b) H) :
    tCB (rIsC K (.ref D) (some dd) a) (tCons (tVar 1) (tCons (tC (.ref C)) tNil)) σ H Q := ⟨_, hσ, D, dd, fs, _, _, b, rfl, rfl, rfl, hdd, ex, fun u h => h, kit, q⟩
theorem app {H : Hp} {p q : Addr} {o u : HO} (h : H q = some u) (n : H p = none) : (upd H p o) q = some u := by rw [upd_ne (ne_of_none h n)]; exact h
section
variable {X : Cx}
theorem suite_ok {g CL CB CT CD : Addr} {cdg : Value} {c : List Addr} {s : Shared} {H : Hp} {a : Addr} {oe : Obj} {cls : Value} {d : Option Addr} {pn : List (Addr × Obj)} (R : RefTxt X.K X.mg CL CB CT CD c) (hz : Zc cls d oe) (hf : ∃ vs, oe.data = .fields vs) :
    PSs (SX X g cdg s H a oe pn) (suiteOf (defBody sRefused)) (tSuite X.K CB CT CD a cls d) := by
  refine ⟨fun pins s1 σ H1 D I h => ?_⟩
  have key : ∃ t, PSs (SX X g cdg s H a oe pn) (suiteOf (defBody sRefused)) t ∧ t D σ H1 := by
    have is : ∀ {x : Str} {px : Pos} {t : TE} {pos : Pos} {p p0 : Pos}, PE (SX X g cdg s H a oe pn) (.Name x px) t → PE (SX X g cdg s H a oe pn) (.Call (.Name "isinstance" p0) [.Name "e" p, .Name x px] [] pos) (tCB (rIsC X.K cls d a) (tCons (tVar 1) (tCons t tNil))) :=
          fun he => pe_callB (call_isC hz hf) (by rfl) R.T.isinstance (by decide +kernel) (pa_cons (pv 1) (pa_cons he pa_nil))
    have gl : ∀ {x : Str} {C : Addr} {pos : Pos}, Gl (SX X g cdg s H a oe pn) x → X.mg x = some (.ref C) → (x == ("__debug__" : Str)) = false → PE (SX X g cdg s H a oe pn) (.Name x pos) (tC (.ref C)) := fun hg hm hd => pe_glob hg hm rfl hd
    have s5 : PS (SX X g cdg s H a oe pn) ((suiteOf (defBody sRefused)).getD 4 (.Pass ⟨0, 0, 0, 0⟩)) _ := ps_expr (pe_bm PySem.F.plainAttrs_list PySem.F.slot_list_append PySem.F.type_list_append mt_append (pv 2) (pa_cons (is (gl rfl R.g13 (by decide))) pa_nil))
    have s6 : PS (SX X g cdg s H a oe pn) ((suiteOf (defBody sRefused)).getD 5 (.Pass ⟨0, 0, 0, 0⟩)) _ := ps_if (PW.pt (pw_or (pt_cmpR op_in_seq pe_bl (pv 2) (by rfl)) (pw_or (pt_not (pt_val (is (pe_bltn (v := .ty "ValueError") (by rfl) R.vale (by decide +kernel) rfl))))
            (pw_or1 (pt_not (pt_val (pe_callB call_isi (by rfl) R.T.isinstance (by decide +kernel) (pa_cons (pe_xfG hz hf (pv 1)) (pa_cons (pe_bltn (v := .ty "str") (by rfl) R.T.str (by decide +kernel) rfl) pa_nil))))))))) (pss_one (ps_ret pe_str)) pss_nil
    have s8 : PS (SX X g cdg s H a oe pn) ((suiteOf (defBody sRefused)).getD 7 (.Pass ⟨0, 0, 0, 0⟩)) _ := ps_if (pt_val (is (gl rfl R.gB (by decide)))) (pss_one (ps_expr (pe_bm PySem.F.plainAttrs_list PySem.F.slot_list_append PySem.F.type_list_append mt_append (pv 3) (pa_cons (pe_tup (pa_cons pe_str (pa_cons (pe_xfG hz hf (pv 1)) pa_nil))) pa_nil)))) pss_nil
    have s9 : PS (SX X g cdg s H a oe pn) ((suiteOf (defBody sRefused)).getD 8 (.Pass ⟨0, 0, 0, 0⟩)) _ := ps_if (pt_val (is (gl rfl R.gT (by decide)))) (pss_one (ps_expr (pe_bm PySem.F.plainAttrs_list PySem.F.slot_list_append PySem.F.type_list_append mt_append (pv 3) (pa_cons (pe_tup (pa_cons pe_str (pa_cons (pe_xfG hz hf (pv 1)) pa_nil))) pa_nil)))) pss_nil
    have s10 : PS (SX X g cdg s H a oe pn) ((suiteOf (defBody sRefused)).getD 9 (.Pass ⟨0, 0, 0, 0⟩)) _ := ps_if (pt_val (is (gl rfl R.gD (by decide)))) (pss_one (ps_expr (pe_bm PySem.F.plainAttrs_list PySem.F.slot_list_append PySem.F.type_list_append mt_append (pv 3) (pa_cons (pe_tup (pa_cons pe_str (pa_cons (pe_callB SkE.call_repr_int (by rfl) R.repr (by decide +kernel) (pa_cons (pe_xfG hz hf (pv 1)) pa_nil)) pa_nil))) pa_nil)))) pss_nil
    have s11 : PS (SX X g cdg s H a oe pn) ((suiteOf (defBody sRefused)).getD 10 (.Pass ⟨0, 0, 0, 0⟩)) _ := ps_ret (pe_ifExp (pt_cmpR op_lt (pe_callB call_len_seq (by rfl) R.T.len PySem.boot_len (pa_cons (pv 3) pa_nil)) pe_int (nomark _)) (pe_ix ix_list (pe_op op_cat (pv 3) (pe_lst (pa_cons pe_str pa_nil))) pe_int (fun _ _ => rfl)) pe_str)
    refine ⟨_, pss_cons (ps_set (i := 2) scRefused.nd rfl (Or.inl rfl) (pe_lst (pa_cons (is (gl rfl R.g0 (by decide))) (pa_cons (is (gl rfl R.g1 (by decide))) (pa_cons (is (gl rfl R.g2 (by decide))) (pa_cons (is (gl rfl R.g3 (by decide))) pa_nil))))))
        (pss_cons (ps_set (i := 2) scRefused.nd rfl (Or.inl rfl) (pe_op op_cat (pv 2) (pe_lst (pa_cons (is (gl rfl R.g4 (by decide))) (pa_cons (is (gl rfl R.g5 (by decide))) (pa_cons (is (gl rfl R.g6 (by decide))) pa_nil))))))
        (pss_cons (ps_set (i := 2) scRefused.nd rfl (Or.inl rfl) (pe_op op_cat (pv 2) (pe_lst (pa_cons (is (gl rfl R.g7 (by decide))) (pa_cons (is (gl rfl R.g8 (by decide))) (pa_cons (is (gl rfl R.g9 (by decide))) pa_nil))))))
        (pss_cons (ps_set (i := 2) scRefused.nd rfl (Or.inl rfl) (pe_op op_cat (pv 2) (pe_lst (pa_cons (is (gl rfl R.g10 (by decide))) (pa_cons (is (gl rfl R.g11 (by decide))) (pa_cons (is (gl rfl R.g12 (by decide))) pa_nil))))))
        (pss_cons s5
        (pss_cons s6
        (pss_cons (ps_set (i := 3) scRefused.nd rfl (Or.inl rfl) (pe_lst pa_nil))
        (pss_cons s8
        (pss_cons s9
        (pss_cons s10
        (pss_one s11)))))))))), ?_⟩
    obtain ⟨k, dd, fs, v0, v2, v3, rfl, rfl, hdd, has, rfl, q⟩ := h
    have one := k.one CB CT CD
    obtain ⟨ex, xf, eL, eV⟩ := R.ex _ one
    have no := R.no _ one
    have fw := R.fw _ one
    have kB := R.kB k
    have kT := R.kT k
    have kD := R.kD k
    refine is_no (b := false) rfl hdd ex (no 0 (by decide)) (is_no (b := false) rfl hdd ex (no 1 (by decide)) (is_no (b := false) rfl hdd ex (no 2 (by decide)) (is_no (b := false) rfl hdd ex (no 3 (by decide)) ?_)))
    refine ⟨by show 4 ≤ sizeLine; decide, fun l1 n1 => ?_⟩
    have d1 := app (o := .lst [.bl false, .bl false, .bl false, .bl false]) hdd n1
    refine ⟨_, rfl, is_no (b := false) rfl d1 ex (no 4 (by decide)) (is_no (b := false) rfl d1 ex (no 5 (by decide)) (is_no (b := false) rfl d1 ex (no 6 (by decide)) ?_))⟩
    refine ⟨by show 3 ≤ sizeLine; decide, fun l2 n2 => ?_⟩
    have d2 := app (o := .lst [.bl false, .bl false, .bl false]) d1 n2
    refine ⟨l1, l2, _, _, rfl, rfl, app upd_same n2, upd_same, by show 4 + 3 ≤ sizeLine; decide, fun l3 n3 => ?_⟩
    have d3 := app (o := .lst [.bl false, .bl false, .bl false, .bl false, .bl false, .bl false, .bl false]) d2 n3
    refine ⟨_, rfl, is_no (b := false) rfl d3 ex (no 7 (by decide)) (is_no (b := false) rfl d3 ex (no 8 (by decide)) (is_no (b := false) rfl d3 ex (no 9 (by decide)) ?_))⟩
    refine ⟨by show 3 ≤ sizeLine; decide, fun l4 n4 => ?_⟩
    have d4 := app (o := .lst [.bl false, .bl false, .bl false]) d3 n4
    refine ⟨l3, l4, _, _, rfl, rfl, app upd_same n4, upd_same, by show 7 + 3 ≤ sizeLine; decide, fun l5 n5 => ?_⟩
    have d5 := app (o := .lst [.bl false, .bl false, .bl false, .bl false, .bl false, .bl false, .bl false, .bl false, .bl false, .bl false]) d4 n5
    refine ⟨_, rfl, is_no (b := false) rfl d5 ex (no 10 (by decide)) (is_no (b := false) rfl d5 ex (no 11 (by decide)) (is_no (b := false) rfl d5 ex (no 12 (by decide)) ?_))⟩
    refine ⟨by show 3 ≤ sizeLine; decide, fun l6 n6 => ?_⟩
    have d6 := app (o := .lst [.bl false, .bl false, .bl false]) d5 n6
    refine ⟨l5, l6, _, _, rfl, rfl, app upd_same n6, upd_same, by show 10 + 3 ≤ sizeLine; decide, fun l7 n7 => ?_⟩
    have d7 := app (o := .lst [.bl false, .bl false, .bl false, .bl false, .bl false, .bl false, .bl false, .bl false, .bl false, .bl false, .bl false, .bl false, .bl false]) d6 n7
    refine ⟨_, rfl, .inl ⟨rfl, _, SqL.of upd_same⟩, is_no (b := false) rfl d7 ex (no 13 (by decide)) ?_⟩
    refine ⟨l7, _, _, rfl, rfl, upd_same, by show 13 < sizeLine; decide, ?_⟩
    obtain ⟨G, eG⟩ : ∃ G, G = upd (upd (upd (upd (upd (upd (upd (upd H1 l1 (.lst [.bl false, .bl false, .bl false, .bl false])) l2 (.lst [.bl false, .bl false, .bl false])) l3 (.lst [.bl false, .bl false, .bl false, .bl false, .bl false, .bl false, .bl false])) l4 (.lst [.bl false, .bl false, .bl false])) l5 (.lst [.bl false, .bl false, .bl false, .bl false, .bl false, .bl false, .bl false, .bl false, .bl false, .bl false])) l6 (.lst [.bl false, .bl false, .bl false])) l7 (.lst [.bl false, .bl false, .bl false, .bl false, .bl false, .bl false, .bl false, .bl false, .bl false, .bl false, .bl false, .bl false, .bl false])) l7 (.lst [.bl false, .bl false, .bl false, .bl false, .bl false, .bl false, .bl false, .bl false, .bl false, .bl false, .bl false, .bl false, .bl false, .bl false]) := ⟨_, rfl⟩
    have sG : Same H1 G := fun b o e => by
      have a7 : ∀ {F : Hp} {p : Addr} {u u2 : HO} (h : F b = some o) (n : F p = none), (upd (upd F p u) p u2) b = some o := fun h n => by
        rw [upd_ne (ne_of_none h n)]; exact app h n
      rw [eG]
      exact a7 (app (app (app (app (app (app e n1) n2) n3) n4) n5) n6) n7
    have dG := sG _ _ hdd
    have lG : G l7 = some (.lst [.bl false, .bl false, .bl false, .bl false, .bl false, .bl false, .bl false, .bl false, .bl false, .bl false, .bl false, .bl false, .bl false, .bl false]) := by rw [eG]; exact upd_same
    refine Eq.mp (congrArg (fun Z => tSeq _ _ D [v0, some (.ref a), some (.ref l7), v3] Z) eG) ?_
    clear eG
    obtain ⟨w, hw⟩ := ErrK.why (k := k) has
    refine ⟨_, rfl, l7, _, rfl, .inl (SqL.of lG), rfl, rfl, _, rfl, ?_⟩
    refine iteF ?_
    refine ⟨_, rfl, _, dd, fs, _, _, true, rfl, rfl, rfl, dG, ex, (fun u h => h), eV, _, rfl, ?_⟩
    refine iteF ?_
    refine ⟨_, rfl, rfl, _, dd, fs, _, rfl, rfl, xf, fw, dG, hw, _, .ty "str", .type "str", .type "str", true, rfl, .ty _, .base (.str _), kit_ty (by decide +kernel), _, rfl, ?_⟩
    refine iteF ?_
    refine ⟨by show 0 ≤ sizeLine; decide, fun l8 n8 => ?_⟩
    have d8 := app (o := .lst []) dG n8
    cases k with
    | list w0 =>
      refine is_no (b := true) rfl d8 ex kB ⟨_, rfl, ?_⟩
      refine iteT ?_
      refine ⟨_, rfl, .inl ⟨rfl, _, SqL.of upd_same⟩, ⟨_, rfl, rfl, _, dd, fs, _, rfl, rfl, xf, fw, d8, has, by show 2 ≤ sizeLine; decide, fun t nt => ?_⟩⟩
      have n8t : l8 ≠ t := ne_of_none upd_same nt
      refine ⟨l8, _, _, rfl, rfl, app upd_same nt, by show 0 < sizeLine; decide, ?_⟩
      have s9 : ∀ {u o}, (upd (upd (upd G l8 (.lst [])) t u) l8 o) dd = some (.xd fs) := fun {u o} => by rw [upd_ne (ne_of_none dG n8)]; exact app d8 nt
      have d9 := s9 (u := .tup [.str "list", .str w0]) (o := .lst ([] ++ [.ref t]))
      refine is_no (b := false) rfl d9 ex kT ⟨_, rfl, ?_⟩
      refine iteF ?_
      refine is_no (b := false) rfl d9 ex kD ⟨_, rfl, ?_⟩
      refine iteF ?_
      refine ⟨_, rfl, l8, _, rfl, .inl (SqL.of upd_same), _, _, rfl, rfl, _, rfl, ?_⟩
      refine iteT ?_
      refine ⟨_, rfl, by show 1 ≤ sizeLine; decide, fun l9 n9 => ⟨l8, l9, _, _, rfl, rfl, app upd_same n9, upd_same, by show 1 + 1 ≤ sizeLine; decide, fun l10 n10 => ?_⟩⟩
      refine ⟨_, _, _, _, rfl, rfl, SqL.of upd_same, rfl, ?_⟩
      refine q _ _ (fun b o e => ?_) (.tup (SqT.of (app (app (by rw [upd_ne n8t.symm]; exact upd_same) n9) n10)) (.cons (.str _) (.cons (.str _) .nil)))
      refine app (app ?_ n9) n10
      have eG := sG _ _ e
      rw [upd_ne (ne_of_none eG n8)]
      exact app (app eG n8) nt
    | many n0 =>
      refine is_no (b := false) rfl d8 ex kB ⟨_, rfl, ?_⟩
      refine iteF ?_
      refine is_no (b := true) rfl d8 ex kT ⟨_, rfl, ?_⟩
      refine iteT ?_
      refine ⟨_, rfl, .inl ⟨rfl, _, SqL.of upd_same⟩, ⟨_, rfl, rfl, _, dd, fs, _, rfl, rfl, xf, R.fl, d8, has.2, by show 2 ≤ sizeLine; decide, fun t nt => ?_⟩⟩
      have n8t : l8 ≠ t := ne_of_none upd_same nt
      refine ⟨l8, _, _, rfl, rfl, app upd_same nt, by show 0 < sizeLine; decide, ?_⟩
      have s9 : ∀ {u o}, (upd (upd (upd G l8 (.lst [])) t u) l8 o) dd = some (.xd fs) := fun {u o} => by rw [upd_ne (ne_of_none dG n8)]; exact app d8 nt
      have d9 := s9 (u := .tup [.str "many", .int n0]) (o := .lst ([] ++ [.ref t]))
      refine is_no (b := false) rfl d9 ex kD ⟨_, rfl, ?_⟩
      refine iteF ?_
      refine ⟨_, rfl, l8, _, rfl, .inl (SqL.of upd_same), _, _, rfl, rfl, _, rfl, ?_⟩
      refine iteT ?_
      refine ⟨_, rfl, by show 1 ≤ sizeLine; decide, fun l9 n9 => ⟨l8, l9, _, _, rfl, rfl, app upd_same n9, upd_same, by show 1 + 1 ≤ sizeLine; decide, fun l10 n10 => ?_⟩⟩
      refine ⟨_, _, _, _, rfl, rfl, SqL.of upd_same, rfl, ?_⟩
      refine q _ _ (fun b o e => ?_) (.tup (SqT.of (app (app (by rw [upd_ne n8t.symm]; exact upd_same) n9) n10)) (.cons (.str _) (.cons (.int _) .nil)))
      refine app (app ?_ n9) n10
      have eG := sG _ _ e
      rw [upd_ne (ne_of_none eG n8)]
      exact app (app eG n8) nt
    | twice z0 =>
      refine is_no (b := false) rfl d8 ex kB ⟨_, rfl, ?_⟩
      refine iteF ?_
      refine is_no (b := false) rfl d8 ex kT ⟨_, rfl, ?_⟩
      refine iteF ?_
      refine is_no (b := true) rfl d8 ex kD ⟨_, rfl, ?_⟩
      refine iteT ?_
      refine ⟨_, rfl, .inl ⟨rfl, _, SqL.of upd_same⟩, ⟨_, rfl, rfl, _, dd, fs, _, rfl, rfl, xf, R.ft, d8, has.2.1, z0, rfl, has.2.2, by show 2 ≤ sizeLine; decide, fun t nt => ?_⟩⟩
      have n8t : l8 ≠ t := ne_of_none upd_same nt
      refine ⟨l8, _, _, rfl, rfl, app upd_same nt, by show 0 < sizeLine; decide, ?_⟩
      have s9 : ∀ {u o}, (upd (upd (upd G l8 (.lst [])) t u) l8 o) dd = some (.xd fs) := fun {u o} => by rw [upd_ne (ne_of_none dG n8)]; exact app d8 nt
      have d9 := s9 (u := .tup [.str "twice", .str (toString z0)]) (o := .lst ([] ++ [.ref t]))
      refine ⟨_, rfl, l8, _, rfl, .inl (SqL.of upd_same), _, _, rfl, rfl, _, rfl, ?_⟩
      refine iteT ?_
      refine ⟨_, rfl, by show 1 ≤ sizeLine; decide, fun l9 n9 => ⟨l8, l9, _, _, rfl, rfl, app upd_same n9, upd_same, by show 1 + 1 ≤ sizeLine; decide, fun l10 n10 => ?_⟩⟩
      refine ⟨_, _, _, _, rfl, rfl, SqL.of upd_same, rfl, ?_⟩
      refine q _ _ (fun b o e => ?_) (.tup (SqT.of (app (app (by rw [upd_ne n8t.symm]; exact upd_same) n9) n10)) (.cons (.str _) (.cons (.str _) .nil)))
      refine app (app ?_ n9) n10
      have eG := sG _ _ e
      rw [upd_ne (ne_of_none eG n8)]
      exact app (app eG n8) nt
  obtain ⟨t, ht, hq⟩ := key
  exact ht.run pins s1 σ H1 D I hq
end
end Lw

set_option Elab.async false
set_option linter.all false
set_option maxRecDepth 100000
set_option maxHeartbeats 1000000
/-! _law_refused given a call. -/
namespace Lw
open PySem L2 Two Pr ClX LamX
theorem takes_len {X : Cx} {W : WX} (t : Takes X W) : Takes X (fun c d σ H => σ.length = X.N.length → W c d σ H) := fun u s' ⟨a, B, sI, pins, σ, H, cls, d, e, I, nb, up, sky, na, os, ag, w⟩ =>
  t u s' ⟨a, B, sI, pins, σ, H, cls, d, e, I, nb, up, sky, na, os, ag, w I.len⟩
section
variable {X : Cx}
theorem refused_gives {g CL CB CT CD : Addr} {cdg : Value} {c : List Addr} (R : RefTxt X.K X.mg CL CB CT CD c) (q : Str) :
    GivesTo X ["_law_call", "e", "_law_marks", "_law_found"] "_law_refused" (defScope sRefused) g cdg (defBody sRefused) "_law_call" q (TRef X.K CB CT CD) := by
  intro f c' s H Q tl act hc h
  refine ⟨_, pss_cons (ps_try_as (i := 1) (X := (cxOf C8.CX0 X.prog X.w X.K X.mg X.base ["_law_call", "e", "_law_marks", "_law_found"] "_law_refused" (defScope sRefused) g cdg X.A X.stack s H C8.E0).nox) (c := .ref CL) (ts := tSuite X.K CB CT CD)
      (tb := fun W D σ H => ∃ Ech : XK, (∀ cls d (σ' : L2.St) H', Ech cls d H' → σ'.length = 4 → W cls d σ' H') ∧ σ[0]? = some (some (.ref f)) ∧ H c' = some (CodeO c' q) ∧ tl Ech H (fun _ H' => D.nx σ H'))
      rfl rfl scRefused.nd rfl rfl ⟨rfl, by decide, .inl R.gL⟩ L2.takes0 (fun W pn xe tk _ => ?_) (fun a oe cls d pn hz hf => suite_ok R hz hf))
      (pss_one (ps_ret pe_str)), ?_⟩
  · refine pss_one ⟨fun pins s' σ H' D I h' => ?_⟩
    obtain ⟨Ech, hW, h1, h2, h3⟩ := h'
    exact (ps_expr (act (fun c d σ H => σ.length = 4 → W c d σ H) pn xe Ech _ _ (takes_len tk) hW)).run pins s' σ H' D I ⟨h1, h2, h3⟩
  · refine ⟨_, fun cls d σ' H' hE hl => ?_, rfl, hc, h⟩
    obtain ⟨k, dd, fs, rfl, rfl, hdd, has, q⟩ := hE
    refine ⟨true, (R.ex _ (k.one CB CT CD)).2.2.1, fun _ a _ => ?_, fun z => nomatch z⟩
    obtain ⟨v0, v1, v2, v3, rfl⟩ : ∃ v0 v1 v2 v3, σ' = [v0, v1, v2, v3] := by
      match σ', hl with
      | [v0, v1, v2, v3], _ => exact ⟨v0, v1, v2, v3, rfl⟩
    exact ⟨k, dd, fs, v0, v2, v3, rfl, rfl, hdd, has, rfl, q⟩
end
end Lw

set_option Elab.async false
set_option linter.all false
set_option maxRecDepth 100000
set_option maxHeartbeats 1000000
/-! _law_both. -/
namespace Lw
open PySem L2 Two Pr ClX LamX
abbrev sBoth : Stmt := top 49
theorem scBoth : FnScope ["_law_lists_here", "_law_due"] ["_law_lists_here", "_law_due"] (defScope sBoth) := ⟨rfl, rfl, rfl, by decide +kernel, rfl, by decide +kernel, by decide +kernel⟩
theorem extN {H H' : Hp} (s : Same H H') : ExtN H H' := fun b o h _ => s b o h
theorem sqlN {K : PySem.W.Frag} {H H' : Hp} {a : Addr} {xs : List V} (e : ExtN H H') (h : SqL K H a xs) : SqL K H' a xs := by
  rcases h with (h | ⟨o, h⟩) | h
  · exact .inl (.inl (e _ _ h (fun ps z => nomatch z)))
  · exact .inl (.inr ⟨o, e _ _ h (fun ps z => nomatch z)⟩)
  · exact .inr h
theorem sqtN {K : PySem.W.Frag} {H H' : Hp} {a : Addr} {xs : List V} (e : ExtN H H') (h : SqT K H a xs) : SqT K H' a xs := by
  rcases h with (h | ⟨o, h⟩) | h
  · exact .inl (.inl (e _ _ h (fun ps z => nomatch z)))
  · exact .inl (.inr ⟨o, e _ _ h (fun ps z => nomatch z)⟩)
  · exact .inr h
def Refuses (K : PySem.W.Frag) (CB CT CD : Addr) (x : V) (r : Option ErrK) (H : Hp) : Prop := ∀ H1, ExtN H H1 → ∀ (Q : VK) (E : XK),
  (r = none → ∀ H2 a ps, Same H1 H2 → x = .ref a → LofL K H2 a ps → Fit ps → Q .non H2) →
  (∀ k, r = some k → ∀ d fs H2, Same H1 H2 → H2 d = some (.xd fs) → k.has fs → E (.ref (k.cls CB CT CD)) (some d) H2) → spCheckX K CB CT CD [x] H1 Q E
def dueD : Option ErrK → PyData
  | none => .str "ok"
  | some k => k.data
theorem strOk_of (x : String) : PyData.strOk (Str.ofString x) = true := by
  rw [Str.ofString_eq_toList]
  show (x.toList.map Char.toNat).toArray.all (fun c => decide (c < 0x110000)) = true
  rw [List.all_toArray, List.all_eq_true]
  intro c hc
  obtain ⟨d, _, rfl⟩ := List.mem_map.mp hc
  have := d.valid
  unfold UInt32.isValidChar Nat.isValidChar at this
  have h2 : d.toNat < 1114112 := by
    show d.val.toNat < 1114112
    omega
  exact decide_eq_true h2
theorem dueD_shaped (r : Option ErrK) (h : ∀ w, r = some (.list w) → PyData.strOk w = true) : SeqAt.shaped (dueD r) = true := by
  cases r with
  | none => decide +kernel
  | some k => cases k with
    | list w =>
      unfold SeqAt.shaped
      have a : (dueD (some (.list w))).canLay0 = true := by
        show (PyData.canLay0 (.str "list") && (PyData.strOk w && true)) = true
        rw [h w rfl]; decide +kernel
      rw [a]; rfl
    | many n =>
      unfold SeqAt.shaped
      have a : (dueD (some (.many n))).canLay0 = true := by
        show (PyData.canLay0 (.str "many") && (true && true)) = true
        decide +kernel
      rw [a]; rfl
    | twice z =>
      unfold SeqAt.shaped
      have a : (dueD (some (.twice z))).canLay0 = true := by
        show (PyData.canLay0 (.str "twice") && (PyData.strOk (toString z) && true)) = true
        rw [strOk_of]; decide +kernel
      rw [a]; rfl
def spBoth (K : PySem.W.Frag) (CB CT CD : Addr) (T : List (Addr × Str)) : Sp := fun vs H Q _ => ∃ x due r, vs = [x, due] ∧ Refuses K CB CT CD x r H ∧ (∀ H', ExtN H H' → Dp K H' due (dueD r)) ∧ (∀ w, r = some (.list w) → PyData.strOk w = true) ∧ Tabs T H ∧ ∀ H', ExtN H H' → Tabs T H' → Q (.bl true) H'
section
variable {P : Program} {w : World} {K : PySem.W.Frag} {mg : Str → Option Value} {base : Heap}
theorem okC {x qual : Str} {st : Stmt} {f c : Addr} {N ps : List Str} {k : Nat} {sp : Sp} {oc kV doc pm ct : Value} {od an : Option Addr} {osl : Array (Option Value)}
    (lk : K.lookup f = some ⟨oc, od, .func (PySem.W.fnOf x qual (defArgs st) (defBody st) (defScope st) .none kV doc pm an (.ref c) ct), osl⟩) (hcd : PySem.W.codeIn K (.ref c) qual = true) (S : FnScope N ps (defScope st)) (len : ∀ vs H Q E, sp vs H Q E → vs.length = ps.length)
    (hbody : ∀ (A : Around) (outer : List Env) (s : Shared) (H : Hp) (vs : List V) (Q : VK) (E : XK), Room k (A.deeper (PyProof.Rows.envOfC qual (defScope st) s.heap.objs.size f (.ref c))) → sp vs H Q E →
      ∃ t, PSs (cxOf L2.CX0 P w K mg base N qual (defScope st) f (.ref c) A outer s H E).nox (defBody st) t ∧ t { nx := fun _ H' => Q .non H', rt := Q } (start N vs) H) :
    FnOk P w K mg base L2.CX0 (k + 1) f (PySem.W.fnOf x qual (defArgs st) (defBody st) (defScope st) .none kV doc pm an (.ref c) ct) ps sp := by
  refine fn_of lk hcd S len fun A outer s H vs Q E hr hsp => ?_
  obtain ⟨t, h, q⟩ := hbody A outer s H vs Q E hr hsp
  exact ⟨t, h.nox, q⟩
theorem passL {X : Cx} {A : Around} {outer : List Env} {s : Shared} {H : Hp} {E : XK} {scope : Scope} {f c' : Addr} : Passes (L2.CX X.prog X.w) (lamCx X A outer s H E scope f c') E := passes_call (takes_of rfl rfl rfl rfl) fun _ _ _ _ h => h
end
end Lw

set_option Elab.async false
set_option linter.all false
set_option maxRecDepth 100000
set_option maxHeartbeats 1000000
/-! _law_both. -/
namespace Lw
open PySem L2 Two Pr ClX LamX
def qL : Str := (PyProof.Rows.envOfC "_law_both" (defScope sBoth) 0 0 .none).qual ++ "<lambda>"
theorem scMaker1 : True := trivial
theorem ask {K : PySem.W.Frag} {CB CT CD : Addr} {H1 : Hp} {Qn : VK} {tl : XK → Hp → VK → Prop} {r : Option ErrK}
    (tell : ∀ (E : XK) (Q : VK), (r = none → ∀ v H2, Same H1 H2 → Q v H2) → (∀ k, r = some k → ∀ d fs H2, Same H1 H2 → H2 d = some (.xd fs) → k.has fs → E (.ref (k.cls CB CT CD)) (some d) H2) → tl E H1 Q)
    (next : ∀ v H2, Same H1 H2 → Dp K H2 v (dueD r) → Qn v H2) : TRef K CB CT CD tl H1 Qn :=
  tell _ _ (fun hr v H2 s => next _ _ s (by rw [hr]; exact .str _)) (fun k hk d fs H2 s hd has => ⟨k, d, fs, rfl, rfl, hd, has, fun v H3 s3 dp => next v H3 (s.trans s3) (by rw [hk]; exact dp)⟩)
section
variable {P : Program} {w : World} {K : PySem.W.Frag} {mg : Str → Option Value} {base : Heap}
theorem ok_both {f g c Pt fM fS CL CB CT CD : Addr} {fdM fdS : FuncData} {cs : List Addr} {oc kV doc pm ct oc2 kV2 doc2 pm2 cdv2 ct2 : Value} {od an od2 an2 : Option Addr} {osl osl2 : Array (Option Value)}
    (lk : K.lookup f = some ⟨oc, od, .func (PySem.W.fnOf "_law_both" "_law_both" (defArgs sBoth) (defBody sBoth) (defScope sBoth) .none kV doc pm an (.ref c) ct), osl⟩) (hcd : PySem.W.codeIn K (.ref c) "_law_both" = true)
    (R : RefTxt K mg CL CB CT CD cs)
    (gR : mg "_law_refused" = some (.ref g)) (kR : PySem.W.keepIn K (.ref g) = true)
    (lk2 : K.lookup g = some ⟨oc2, od2, .func (PySem.W.fnOf "_law_refused" "_law_refused" (defArgs sRefused) (defBody sRefused) (defScope sRefused) .none kV2 doc2 pm2 an2 cdv2 ct2), osl2⟩) (hcd2 : PySem.W.codeIn K cdv2 "_law_refused" = true)
    (bR : Binds K (PySem.W.fnOf "_law_refused" "_law_refused" (defArgs sRefused) (defBody sRefused) (defScope sRefused) .none kV2 doc2 pm2 an2 cdv2 ct2) ["_law_call"] [])
    (TB : TabB base mg c Pt)
    (gM : mg "merge" = some (.ref fM)) (kM : PySem.W.keepIn K (.ref fM) = true) (bM : Binds K fdM ["lists"] []) (GM : FnOk P w K mg base (L2.CX P w) 6 fM fdM ["lists"] (spMergeX K CB CT CD))
    (gS : mg "shows_merge" = some (.ref fS)) (kS : PySem.W.keepIn K (.ref fS) = true) (bS : Binds K fdS ["lists", "paper"] []) (GS : FnOk P w K mg base (L2.CX P w) 7 fS fdS ["lists", "paper"] (spShowsX K CB CT CD)) :
    FnOk P w K mg base L2.CX0 10 f (PySem.W.fnOf "_law_both" "_law_both" (defArgs sBoth) (defBody sBoth) (defScope sBoth) .none kV doc pm an (.ref c) ct) ["_law_lists_here", "_law_due"] (spBoth K CB CT CD [(Pt, qL)]) := by
  refine okC lk hcd scBoth (fun vs H Q E h => ?_) (fun A outer s H vs Q E hr h => ?_)
  · obtain ⟨x, due, r, rfl, _⟩ := h
    rfl
  · obtain ⟨x, due, r, rfl, hx, hdue, hw, hT, k⟩ := h
    have hu : ∀ p ∈ [(Pt, qL)], p.1 = Pt → p.2 = qL := fun p hp _ => by rw [List.mem_singleton.mp hp]
    have hm : (Pt, qL) ∈ [(Pt, qL)] := List.mem_singleton.mpr rfl
    refine ⟨_, pss_cons (ps_if (pt_cmpR (op_neD hr.units) (pe_lamcall (k := 7) (t := fun E => tCall (spMergeX K CB CT CD) [] E (tCons (tVar 0) tNil)) (by rfl) gR kR lk2 hcd2 bR scRefused rfl (Or.inl rfl) (refused_gives R _) TB rfl hm hu hr (lamS_by (sc := defScope sBoth) (by decide +kernel)) rfl (fun _ _ _ _ _ => rfl)
        (fun A' outer' s' H' E' f' c' hr' => pe_call GM (hr'.mono (by decide)) (by rfl) gM kM bM .nil passL (pa_cons (pv 0) pa_nil))) (pv 1) (nomark _)) (pss_one (ps_ret pe_bl)) pss_nil)
      (pss_cons (ps_if (pt_cmpR (op_neD hr.units) (pe_lamcall (k := 7) (t := fun E => tCall (spShowsX K CB CT CD) [] E (tCons (tVar 0) (tCons (tTup (tCons (tC (.str "order")) (tCons (tLst tNil) tNil))) tNil))) (by rfl) gR kR lk2 hcd2 bR scRefused rfl (Or.inl rfl) (refused_gives R _) TB rfl hm hu hr (lamS_by (sc := defScope sBoth) (by decide +kernel)) rfl (fun _ _ _ _ _ => rfl)
        (fun A' outer' s' H' E' f' c' hr' => pe_call GS hr' (by rfl) gS kS bS .nil passL (pa_cons (pv 0) (pa_cons (pe_tup (pa_cons pe_str (pa_cons (pe_lst pa_nil) pa_nil))) pa_nil)))) (pv 1) (nomark _)) (pss_one (ps_ret pe_bl)) pss_nil)
      (pss_one (ps_ret (pe_cmpR (op_eqD hr.units) (pe_lamcall (k := 7) (t := fun E => tCall (spShowsX K CB CT CD) [] E (tCons (tVar 0) (tCons tDNewK tNil))) (by rfl) gR kR lk2 hcd2 bR scRefused rfl (Or.inl rfl) (refused_gives R _) TB rfl hm hu hr (lamS_by (sc := defScope sBoth) (by decide +kernel)) rfl (fun _ _ _ _ _ => rfl)
        (fun A' outer' s' H' E' f' c' hr' => pe_call GS hr' (by rfl) gS kS bS .nil passL (pa_cons (pv 0) (pa_cons pe_dnewK pa_nil)))) (pv 1) (nomark _))))), ?_⟩
    have sh := dueD_shaped r hw
    have cl : (dueD r).canLay0 = true := by
      have z := sh
      unfold SeqAt.shaped at z
      rw [Bool.and_eq_true] at z
      exact z.1
    refine ⟨hT, fun H1 e1 T1 => ask (r := r) (fun E0 Q0 hn hs => ⟨_, rfl, hx H1 e1 _ _ (fun hr0 H2 a ps s2 ea hL fit => ⟨a, ps, by rw [ea]; rfl, hL, fit, fun v H3 s3 _ => hn hr0 v H3 (s2.trans s3)⟩) hs⟩) (fun v H2 s2 dp => ?_)⟩
    have e2 := e1.trans (extN s2)
    have T2 := T1.ext s2
    refine ⟨_, rfl, _, _, dp, hdue H2 e2, sh, sh, _, rfl, ?_⟩
    rw [SeqAt.eqv_refl _ cl]
    refine iteF ?_
    refine ⟨T2, fun H3 e3 T3 => ask (r := r) (fun E0 Q0 hn hs => ?_) (fun v H4 s4 dp => ?_)⟩
    · refine ⟨_, rfl, Nat.zero_le _, fun l hl => ⟨by show 2 ≤ sizeLine; decide, fun t ht => ?_⟩⟩
      have s4 : Same H3 (upd (upd H3 l (.lst [])) t (.tup [.str "order", .ref l])) := fun b o e => app (app e hl) ht
      refine ⟨x, .ref t, rfl, hx _ ((e2.trans e3).trans (extN s4)) _ _ (fun hr0 H5 a ps s5 ea hL fit => ⟨a, ps, ea, hL, fit, .inr ⟨t, l, rfl, s5 _ _ upd_same, s5 _ _ (app upd_same ht)⟩, fun b H6 s6 => hn hr0 _ _ ((s4.trans s5).trans s6)⟩) (fun k hk d fs H5 s5 => hs k hk d fs H5 (s4.trans s5))⟩
    have e4 := (e2.trans e3).trans (extN s4)
    have T4 := T3.ext s4
    refine ⟨_, rfl, _, _, dp, hdue H4 e4, sh, sh, _, rfl, ?_⟩
    rw [SeqAt.eqv_refl _ cl]
    refine iteF ?_
    refine ⟨T4, fun H5 e5 T5 => ask (r := r) (fun E0 Q0 hn hs => ?_) (fun v H6 s6 dp => ?_)⟩
    · refine ⟨_, rfl, fun p hp => ?_⟩
      have s6 : Same H5 (upd H5 p (.dK [])) := same_new hp
      refine ⟨x, .ref p, rfl, hx _ ((e4.trans e5).trans (extN s6)) _ _ (fun hr0 H7 a ps s7 ea hL fit => ⟨a, ps, ea, hL, fit, .inl fun G sg => ⟨_, .base (.dK (sg _ _ (s7 _ _ upd_same))), kit_ty (by decide +kernel)⟩, fun b H8 s8 => hn hr0 _ _ ((s6.trans s7).trans s8)⟩) (fun k hk d fs H7 s7 => hs k hk d fs H7 (s6.trans s7))⟩
    have e6 := (e4.trans e5).trans (extN s6)
    refine ⟨_, rfl, _, _, dp, hdue H6 e6, sh, sh, ?_⟩
    rw [SeqAt.eqv_refl _ cl]
    exact k _ e6 (T5.ext s6)
end
end Lw

set_option Elab.async false
set_option linter.all false
set_option maxRecDepth 100000
set_option maxHeartbeats 4000000
/-! The helpers that the laws of merges share: cells, sources, draws. -/
namespace Lw
open PySem L2 Two Pr
abbrev sCell : Stmt := top 37
abbrev sSource : Stmt := top 38
abbrev sDraw : Stmt := top 39
abbrev sPick : Stmt := top 40
/-- a source of draws -/
def Src (H : Hp) (l : Addr) (n : Nat) : Prop := ∃ x y c : Int, H l = some (.lst [.int x, .int y, .int c]) ∧ 0 ≤ x ∧ 0 ≤ y ∧ y < 2147483647 ∧ 0 ≤ c ∧ c ≤ (n : Int)
theorem Src.more {H : Hp} {l : Addr} {n m : Nat} (s : Src H l n) (h : n ≤ m) : Src H l m := by
  obtain ⟨x, y, c, e, a1, a2, a3, a4, a5⟩ := s
  exact ⟨x, y, c, e, a1, a2, a3, a4, by omega⟩
theorem Src.keep {H H' : Hp} {l : Addr} {n : Nat} (s : Src H l n) (k : Same H H') : Src H' l n := by
  obtain ⟨x, y, c, e, r⟩ := s
  exact ⟨x, y, c, k _ _ e, r⟩
section
variable {P : Program} {w : World} {K : PySem.W.Frag} {mg : Str → Option Value} {base : Heap}
/-! ### _law_cell_at -/
def spCell (K : PySem.W.Frag) : Sp := fun vs H Q _ => ∃ (a : Addr) (ns : List Int) (k : Nat), vs = [.ref a, .int k] ∧ SqL K H a (ns.map V.int) ∧ ns.length ≤ 1000 ∧ ∀ z : Int, Q (.int z) H
theorem scCell : FnScope ["_law_script", "_law_k"] ["_law_script", "_law_k"] (defScope sCell) := ⟨rfl, rfl, rfl, by decide +kernel, rfl, by decide +kernel, by decide +kernel⟩
theorem ok_cell {f : Addr} {fd : FuncData} (F : Fun K "_law_cell_at" "_law_cell_at" sCell f fd) (T : Txt mg) : FnOk P w K mg base CX0 1 f fd ["_law_script", "_law_k"] (spCell K) := by
  refine F.ok scCell (fun vs H Q E h => ?_) (fun cdv A outer s H vs Q E hr h => ?_)
  · obtain ⟨a, ns, k, rfl, _⟩ := h
    rfl
  · obtain ⟨a, ns, j, rfl, hS, hl, k⟩ := h
    refine ⟨_, pss_cons (ps_if (pt_cmpR op_lt (pv 1) (pe_callB call_len_seq (by rfl) T.len PySem.boot_len (pa_cons (pv 0) pa_nil)) (nomark _)) (pss_one (ps_ret (pe_ix ix_list (pv 0) (pv 1) (fun _ _ => rfl)))) pss_nil) (pss_one (ps_ret pe_int)), ?_⟩
    refine ⟨_, rfl, _, rfl, a, _, rfl, .inl hS, _, _, rfl, rfl, _, rfl, ?_⟩
    by_cases h : j < ns.length
    · rw [decide_eq_true (by rw [List.length_map]; omega)]
      refine iteT ⟨_, rfl, _, rfl, a, _, (j : Nat), .int ns[j], rfl, rfl, hS, atI_nat (by rw [List.getElem?_map, List.getElem?_eq_getElem h]; rfl), k _⟩
    · rw [decide_eq_false (by rw [List.length_map]; omega)]
      exact iteF (k 0)
/-! ### _law_source -/
def spSource : Sp := fun vs H Q _ => ∃ z : Int, vs = [.int z] ∧ ∀ (H' : Hp) (l : Addr), Same H H' → H l = none → Src H' l 0 → Q (.ref l) H'
theorem scSource : FnScope ["_law_cell"] ["_law_cell"] (defScope sSource) := ⟨rfl, rfl, rfl, by decide +kernel, rfl, by decide +kernel, by decide +kernel⟩
theorem ok_source {f : Addr} {fd : FuncData} (F : Fun K "_law_source" "_law_source" sSource f fd) (T : Txt mg) : FnOk P w K mg base CX0 1 f fd ["_law_cell"] spSource := by
  refine F.ok scSource (fun vs H Q E h => ?_) (fun cdv A outer s H vs Q E hr h => ?_)
  · obtain ⟨z, rfl, _⟩ := h
    rfl
  · obtain ⟨z, rfl, k⟩ := h
    refine ⟨_, pss_one (ps_ret (pe_lst (pa_cons (pe_op op_mul (pv 0) (pe_callTy call_int1 (by rfl) T.int (by decide +kernel) (pa_cons (pe_cmpR op_ge (pv 0) (pe_op op_pow pe_int pe_int) (nomark _)) pa_nil)))
      (pa_cons (pe_op op_mod (pv 0) pe_int) (pa_cons pe_int pa_nil))))), ?_⟩
    refine ⟨_, rfl, _, rfl, _, _, rfl, rfl, by unfold CPow; decide, _, _, rfl, rfl, .inr ⟨_, rfl, ?_⟩⟩
    have pos : 0 ≤ z * (if decide ((10 : Int) ^ (18 : Int).toNat ≤ z) = true then 1 else 0) := by
      by_cases h : (10 : Int) ^ (18 : Int).toNat ≤ z
      · rw [decide_eq_true h, if_pos rfl]
        have : (0 : Int) ≤ 10 ^ (18 : Int).toNat := by decide
        omega
      · rw [decide_eq_false h, if_neg Bool.false_ne_true]
        omega
    refine ⟨_, _, rfl, rfl, .inr ?_, ?_⟩
    · split <;> decide
    refine ⟨_, rfl, _, _, rfl, rfl, (by show (0 : Int) < 2147483647; decide), by show 3 ≤ sizeLine; decide, fun l hl => ?_⟩
    exact k _ l (same_new hl) hl ⟨_, _, _, upd_same, pos, by omega, by omega, by omega, by omega⟩
/-! ### _law_draw -/
def spDraw : Sp := fun vs H Q _ => ∃ (l : Addr) (m : Int) (n : Nat), vs = [.ref l, .int m] ∧ 0 < m ∧ m < 1000000 ∧ Src H l n ∧ n ≤ 1000000 ∧
  ∀ (H' : Hp) (d : Int), But (· = l) H H' → Src H' l (n + 1) → 0 ≤ d → d < m → Q (.int d) H'
theorem scDraw : FnScope ["_law_source_here", "_law_size", "_law_digit", "_law_number"] ["_law_source_here", "_law_size"] (defScope sDraw) := ⟨rfl, rfl, rfl, by decide +kernel, rfl, by decide +kernel, by decide +kernel⟩
theorem but_upd {H : Hp} {l : Addr} {o : HO} : But (· = l) H (upd H l o) := fun b u h e => by rw [upd_ne h]; exact e
theorem ok_draw {f : Addr} {fd : FuncData} (F : Fun K "_law_draw" "_law_draw" sDraw f fd) (T : Txt mg) : FnOk P w K mg base CX0 1 f fd ["_law_source_here", "_law_size"] spDraw := by
  refine F.ok scDraw (fun vs H Q E h => ?_) (fun cdv A outer s H vs Q E hr h => ?_)
  · obtain ⟨l, m, n, rfl, _⟩ := h
    rfl
  · obtain ⟨l, m, n, rfl, hm0, hm1, ⟨x, y, c, hl, hx, hy0, hy1, hc0, hc1⟩, hn, k⟩ := h
    have at0 : atI [V.int x, .int y, .int c] 0 = some (.int x) := rfl
    refine ⟨_, pss_cons (ps_if (pt_cmpR op_gt (pe_ix ix_list (pv 0) pe_int (fun _ _ => rfl)) pe_int (nomark _))
        (pss_cons (ps_set (i := 2) scDraw.nd rfl (Or.inl rfl) (pe_op op_mod (pe_ix ix_list (pv 0) pe_int (fun _ _ => rfl)) (pv 1)))
        (pss_cons (ps_asg (pe_op op_fdiv (pe_ix ix_list (pv 0) pe_int (fun _ _ => rfl)) (pv 1)) (pg_sub (pv 0) pe_int set_list))
        (pss_one (ps_ret (pv 2))))) pss_nil)
      (pss_cons (ps_asg (pe_op op_add (pe_ix ix_list (pv 0) pe_int (fun _ _ => rfl)) pe_int) (pg_sub (pv 0) pe_int set_list))
      (pss_cons (ps_set (i := 3) scDraw.nd rfl (Or.inl rfl) (pe_op op_mod (pe_op op_pow (pe_op op_add (pe_op op_add (pe_ix ix_list (pv 0) pe_int (fun _ _ => rfl)) (pe_op op_mul pe_int (pe_ix ix_list (pv 0) pe_int (fun _ _ => rfl)))) pe_int) pe_int) pe_int))
      (pss_cons (ps_set (i := 3) scDraw.nd rfl (Or.inl rfl) (pe_op op_mod (pe_op op_mul (pv 3) (pe_op op_add (pe_op op_add (pe_op op_fdiv (pv 3) pe_int) pe_int) (pe_ix ix_list (pv 0) pe_int (fun _ _ => rfl)))) pe_int))
      (pss_one (ps_ret (pe_op op_mod (pe_op op_fdiv (pe_op op_mod (pe_op op_mul (pv 3) (pe_op op_add (pe_op op_fdiv (pv 3) pe_int) pe_int)) pe_int) pe_int) (pv 1))))))), ?_⟩
    refine ⟨_, rfl, l, _, 0, .int x, rfl, rfl, SqL.of hl, at0, _, _, rfl, rfl, _, rfl, ?_⟩
    by_cases hx1 : 0 < x
    · rw [decide_eq_true hx1]
      refine iteT ?_
      refine ⟨_, rfl, l, _, 0, .int x, rfl, rfl, SqL.of hl, at0, _, rfl, _, _, rfl, rfl, hm0, ?_⟩
      refine ⟨_, rfl, l, _, 0, .int x, rfl, rfl, SqL.of hl, at0, _, rfl, _, _, rfl, rfl, ⟨hm0, by omega⟩, ?_⟩
      refine ⟨_, rfl, l, _, 0, 0, rfl, rfl, hl, rfl, ?_⟩
      refine ⟨_, rfl, ?_⟩
      refine k _ _ but_upd ⟨_, _, _, upd_same, Int.ediv_nonneg hx (by omega), hy0, hy1, hc0, by omega⟩ (Int.emod_nonneg _ (by omega)) (Int.emod_lt_of_pos _ hm0)
    · rw [decide_eq_false hx1]
      refine iteF ?_
      refine ⟨_, rfl, l, _, 2, .int c, rfl, rfl, SqL.of hl, rfl, _, _, rfl, rfl, ?_⟩
      refine ⟨_, rfl, l, _, 2, 2, rfl, rfl, hl, rfl, ?_⟩
      have hl2 : upd H l (.lst ([V.int x, .int y, .int c].set 2 (.int (c + 1)))) l = some (.lst [.int x, .int y, .int (c + 1)]) := upd_same
      have b2 : But (· = l) H (upd H l (.lst ([V.int x, .int y, .int c].set 2 (.int (c + 1))))) := but_upd
      generalize upd H l (.lst ([V.int x, .int y, .int c].set 2 (.int (c + 1)))) = H2 at hl2 b2
      have sq := SqL.of (K := K) hl2
      refine ⟨_, rfl, l, _, 1, .int y, rfl, rfl, sq, rfl, _, rfl, l, _, 2, .int (c + 1), rfl, rfl, sq, rfl, _, _, rfl, rfl, .inl (by decide), _, _, rfl, rfl, _, _, rfl, rfl, _, _, rfl, rfl, ?_, _, _, rfl, rfl, (by show (0 : Int) < 2147483629; decide), ?_⟩
      · show (0 : Int) ≤ 5 ∧ (5 : Int) ≤ 1000000 ∧ (y + 7919 * (c + 1) + 1).natAbs < 2 ^ 64
        refine ⟨by decide, by decide, ?_⟩
        omega
      obtain ⟨n1, e1⟩ : ∃ z, z = (y + 7919 * (c + 1) + 1) ^ (5 : Int).toNat % 2147483629 := ⟨_, rfl⟩
      have p1 : 0 ≤ n1 := by rw [e1]; exact Int.emod_nonneg _ (by decide)
      have q1 : n1 < 2147483629 := by rw [e1]; exact Int.emod_lt_of_pos _ (by decide)
      show tSeq _ _ _ ([some (.ref l), some (.int m), none, none].set 3 (some (.int ((y + 7919 * (c + 1) + 1) ^ (5 : Int).toNat % 2147483629)))) H2
      rw [← e1]
      refine ⟨_, rfl, _, rfl, _, _, rfl, rfl, ⟨by decide, by decide⟩, _, _, rfl, rfl, _, rfl, l, _, 2, .int (c + 1), rfl, rfl, sq, rfl, _, _, rfl, rfl, _, _, rfl, rfl, .inl (by omega), _, _, rfl, rfl, (by show (0 : Int) < 2147483587; decide), ?_⟩
      obtain ⟨n2, e2⟩ : ∃ z, z = n1 * (n1 / 1009 + 69621 + (c + 1)) % 2147483587 := ⟨_, rfl⟩
      have p2 : 0 ≤ n2 := by rw [e2]; exact Int.emod_nonneg _ (by decide)
      have q2 : n2 < 2147483587 := by rw [e2]; exact Int.emod_lt_of_pos _ (by decide)
      show gName 3 (V.int (n1 * (n1 / 1009 + 69621 + (c + 1)) % 2147483587)) _ _ _
      rw [← e2]
      refine ⟨_, rfl, _, rfl, _, _, rfl, rfl, ⟨by decide, by decide⟩, _, _, rfl, rfl, _, _, rfl, rfl, .inl (by omega), _, _, rfl, rfl, (by show (0 : Int) < 2147483579; decide), _, _, rfl, rfl, ⟨by decide, by decide⟩, _, rfl, _, _, rfl, rfl, hm0, ?_⟩
      exact k H2 _ b2 ⟨_, _, _, hl2, hx, hy0, hy1, by omega, by omega⟩ (Int.emod_nonneg _ (by omega)) (Int.emod_lt_of_pos _ hm0)
/-! ### _law_pick -/
def spPick (K : PySem.W.Frag) : Sp := fun vs H Q _ => ∃ (l b : Addr) (n : Nat) (xs : List V), vs = [.ref l, .ref b] ∧ Src H l n ∧ n ≤ 1000000 ∧ SqL K H b xs ∧ b ≠ l ∧ xs ≠ [] ∧ xs.length ≤ 1000 ∧
  ∀ (H' : Hp) (x : V), But (· = l) H H' → Src H' l (n + 1) → x ∈ xs → Q x H'
theorem scPick : FnScope ["_law_source_here", "_law_items_here"] ["_law_source_here", "_law_items_here"] (defScope sPick) := ⟨rfl, rfl, rfl, by decide +kernel, rfl, by decide +kernel, by decide +kernel⟩
theorem but_seq {H H' : Hp} {l b : Addr} {xs : List V} (k : But (· = l) H H') (ne : b ≠ l) (h : SqL K H b xs) : SqL K H' b xs := by
  rcases h with (h | ⟨o, h⟩) | h
  · exact .inl (.inl (k _ _ ne h))
  · exact .inl (.inr ⟨o, k _ _ ne h⟩)
  · exact .inr h
theorem ok_pick {f fD : Addr} {fd fdD : FuncData} (F : Fun K "_law_pick" "_law_pick" sPick f fd) (T : Txt mg) (gD : mg "_law_draw" = some (.ref fD)) (kD : PySem.W.keepIn K (.ref fD) = true) (bD : Binds K fdD ["_law_source_here", "_law_size"] [])
    (GD : FnOk P w K mg base CX0 1 fD fdD ["_law_source_here", "_law_size"] spDraw) : FnOk P w K mg base CX0 2 f fd ["_law_source_here", "_law_items_here"] (spPick K) := by
  refine F.ok scPick (fun vs H Q E h => ?_) (fun cdv A outer s H vs Q E hr h => ?_)
  · obtain ⟨l, b, n, xs, rfl, _⟩ := h
    rfl
  · obtain ⟨l, b, n, xs, rfl, src, hn, hS, ne, hx, hz, k⟩ := h
    have pos : 0 < xs.length := List.length_pos_iff.mpr hx
    refine ⟨_, pss_one (ps_ret (pe_ix ix_list (pv 1) (pe_call GD hr rfl gD kD bD .nil pass0 (pa_cons (pv 0) (pa_cons (pe_callB call_len_seq (by rfl) T.len PySem.boot_len (pa_cons (pv 1) pa_nil)) pa_nil))) (fun _ _ => rfl))), ?_⟩
    refine ⟨_, rfl, _, rfl, _, rfl, b, _, rfl, .inl hS, l, _, n, rfl, by omega, by omega, src, hn, fun H' d but src' h0 h1 => ?_⟩
    obtain ⟨d', rfl⟩ := Int.eq_ofNat_of_zero_le h0
    have hd : d' < xs.length := by omega
    exact ⟨b, xs, (d' : Nat), xs[d'], rfl, rfl, but_seq but ne hS, atI_nat (by simp [hd]), k H' _ but src' (List.getElem_mem hd)⟩
end
end Lw

set_option autoImplicit false
namespace Mg
def ne (r : List Int) : Bool := !r.isEmpty
def nonE (rs : List (List Int)) : List (List Int) := rs.filter ne
theorem ne_iff {r : List Int} : ne r = true ↔ r ≠ [] := by cases r <;> simp [ne]
theorem heads_nonE : ∀ rs : List (List Int), heads (nonE rs) = heads rs
  | [] => rfl
  | [] :: rs => by
    show heads (nonE rs) = heads ([[]] ++ rs)
    rw [heads_append, heads_nonE rs]
    rfl
  | (z :: t) :: rs => by
    show heads ([z :: t] ++ nonE rs) = heads ([z :: t] ++ rs)
    rw [heads_append, heads_append, heads_nonE rs]
theorem clear_nonE (rs : List (List Int)) (x : Int) : clear (nonE rs) x = clear rs x := by
  have h : (clear (nonE rs) x = true) ↔ (clear rs x = true) := by
    rw [clear_iff, clear_iff]
    refine ⟨fun h r hr => ?_, fun h r hr => h r (List.mem_filter.mp hr).1⟩
    by_cases e : r = []
    · rw [e]
      simp
    · exact h r (List.mem_filter.mpr ⟨hr, ne_iff.mpr e⟩)
  cases h1 : clear (nonE rs) x <;> cases h2 : clear rs x
  · rfl
  · rw [h.mpr h2] at h1; cases h1
  · rw [h.mp h1] at h2; cases h2
  · rfl
theorem free_nonE (rs : List (List Int)) : firstFree (nonE rs) = firstFree rs := by
  unfold firstFree
  rw [heads_nonE]
  congr 1
  funext x
  exact clear_nonE rs x
theorem free_head (rs : List (List Int)) : firstFree rs = ((heads rs).filter (clear rs)).head? := by
  unfold firstFree
  rw [List.head?_filter]
def drop1 (x : Int) (r : List Int) : List Int := r.filter fun y => decide (y ≠ x)
theorem drop1_pull {x : Int} {r : List Int} (nd : r.Nodup) (h : x ∉ r.tail) : drop1 x r = pull1 x r := by
  unfold drop1
  rcases pull1_cases (x := x) r with ⟨t, e, q⟩ | ⟨n, q⟩
  · rw [q, e, List.filter_cons_of_neg (by simp)]
    have nt : x ∉ t := by rw [e] at nd; exact (List.nodup_cons.mp nd).1
    exact List.filter_eq_self.mpr fun y hy => decide_eq_true fun k => nt (k ▸ hy)
  · rw [q]
    have nr := not_mem_of n h
    exact List.filter_eq_self.mpr fun y hy => decide_eq_true fun k => nr (k ▸ hy)
theorem nonE_pull {x : Int} : ∀ {rs : List (List Int)}, (∀ r ∈ rs, r.Nodup ∧ x ∉ r.tail) → nonE ((nonE rs).map (drop1 x)) = nonE (pull x rs)
  | [], _ => rfl
  | r :: rs, h => by
    have ih := nonE_pull (rs := rs) fun q hq => h q (List.mem_cons_of_mem _ hq)
    obtain ⟨a, b⟩ := h r List.mem_cons_self
    have e := drop1_pull a b
    cases r with
    | nil => exact ih
    | cons z t =>
      show (drop1 x (z :: t) :: (nonE rs).map (drop1 x)).filter ne = (pull1 x (z :: t) :: pull x rs).filter ne
      rw [e]
      have ih : ((nonE rs).map (drop1 x)).filter ne = (pull x rs).filter ne := ih
      by_cases c : ne (pull1 x (z :: t)) = true
      · rw [List.filter_cons_of_pos c, List.filter_cons_of_pos c, ih]
      · rw [List.filter_cons_of_neg c, List.filter_cons_of_neg c, ih]
theorem nonE_empty {rs : List (List Int)} : nonE rs = [] ↔ ∀ r ∈ rs, r = [] := by
  unfold nonE
  rw [List.filter_eq_nil_iff]
  refine ⟨fun h r hr => Decidable.byContradiction fun k => h r hr (ne_iff.mpr k), fun h r hr k => ne_iff.mp k (h r hr)⟩
end Mg

set_option Elab.async false
set_option linter.all false
set_option maxRecDepth 100000
set_option maxHeartbeats 4000000
namespace Lw
open PySem L2 Two Pr
/-- [f of x for x in xs if c of x], nothing made that stands in the way -/
theorem lc_sel {α : Type} {K : PySem.W.Frag} {a : Addr} {ps : List α} {gv : α → V} {te : TE} {tt : TT} {vs : List Nat} {σ : L2.St} {H1 : Hp} {D : Addr} {Qd : Hp → Prop} (i : Nat) (f : α → V) (c : α → Bool) (hS : SqL K H1 a (ps.map gv)) (hz : ps.length < sizeLine) (hD : H1 D = none)
    (hw : ∀ x, wipe ((wipe σ vs).set i (some x)) vs = wipe σ vs)
    (tstep : ∀ (j : Nat) (x : α) (H : Hp) (Q : Bool → Hp → Prop), ps[j]? = some x → Same H1 H → (∀ H', Same H H' → Q (c x) H') → tt ((wipe σ vs).set i (some (gv x))) H Q)
    (estep : ∀ (j : Nat) (x : α) (H : Hp) (Q : VK), ps[j]? = some x → c x = true → Same H1 H → (∀ H', Same H H' → Q (f x) H') → te ((wipe σ vs).set i (some (gv x))) H Q)
    (done : ∀ H, Same H1 H → H D = some (.lst ((ps.filter c).map f)) → Qd H) :
    ∃ W : Nat → Nat → Hp → Prop, (∃ m, W 0 m (upd H1 D (.lst []))) ∧ ∀ i' m H, W i' m H →
      ((Itl K a).stop i' H ∧ Qd H) ∨ ((Itl K a).go i' H ∧ ∃ Nx : Hp → Prop, (∀ H', Nx H' → ∃ m', m' < m ∧ W (i' + 1) m' H') ∧ ∀ x H', (Itl K a).yld i' H x H' → gName i x (wipe σ vs) H' fun σ2 H2 => wipe σ2 vs = wipe σ vs ∧ tt σ2 H2 fun b H3 =>
        if b = true then te σ2 H3 fun y H4 => ∃ acc, H4 D = some (.lst acc) ∧ acc.length < sizeLine ∧ Nx (upd H4 D (.lst (acc ++ [y]))) else Nx H3) := by
  refine lc_list (xs := ps.map gv) (fun j H => Same H1 H ∧ H D = some (.lst (((ps.take j).filter c).map f))) ⟨same_new hD, upd_same⟩ (fun j H _ p => p.1.seq hS) (fun j x H hx p => ?_)
    fun H p => done H p.1 (by rw [List.length_map, List.take_length] at p; exact p.2)
  obtain ⟨x, hx1, rfl⟩ := get_map hx
  refine ⟨hw _, tstep j x H _ hx1 p.1 fun H' s => ?_⟩
  have s1 := p.1.trans s
  have d1 := s _ _ p.2
  cases hc : c x with
  | false =>
    refine iteF ⟨s1, ?_⟩
    rw [d1, take_snoc hx1, List.filter_append, List.filter_cons_of_neg (by rw [hc]; decide)]
    simp
  | true =>
    refine iteT (estep j x H' _ hx1 hc s1 fun H2 s2 => ⟨_, s2 _ _ d1, ?_, same_upd (s1.trans s2) hD, ?_⟩)
    · have a1 := List.length_filter_le c (ps.take j)
      have a2 := (List.getElem?_eq_some_iff.mp hx1).1
      rw [List.length_take] at a1
      rw [List.length_map]
      omega
    · rw [upd_same, take_snoc hx1, List.filter_append, List.filter_cons_of_pos hc, List.map_append]
      rfl
theorem eqv_nil (l : List Int) : PyData.eqv (intsD l) (.list []) = l.isEmpty := by
  cases l <;> rfl
theorem eqvs_nil (ls : List (List Int)) : PyData.eqv (listsD ls) (.list []) = ls.isEmpty := by
  cases ls <;> rfl
theorem canLay_lists : ∀ ls : List (List Int), PyData.canLayAll0 (ls.map intsD) = true
  | [] => rfl
  | l :: ls => by
    show ((intsD l).canLay0 && PyData.canLayAll0 (ls.map intsD)) = true
    rw [canLay_lists ls, show (intsD l).canLay0 = true from canLay_ints l]
    rfl
theorem depth_lists : ∀ ls : List (List Int), PyData.depthAll (ls.map intsD) ≤ 1
  | [] => Nat.zero_le _
  | l :: ls => by
    show max (intsD l).depth (PyData.depthAll (ls.map intsD)) ≤ 1
    have a := depth_lists ls
    have b : (intsD l).depth = 1 := by show PyData.depthAll (l.map PyData.int) + 1 = 1; rw [depth_ints]
    omega
theorem shaped_lists (ls : List (List Int)) : SeqAt.shaped (listsD ls) = true := by
  unfold SeqAt.shaped
  have a : (listsD ls).canLay0 = true := canLay_lists ls
  have b : (listsD ls).depth ≤ 64 := by
    have := depth_lists ls
    show PyData.depthAll (ls.map intsD) + 1 ≤ 64
    omega
  rw [a, decide_eq_true b]
  rfl
theorem dp_nil {K : PySem.W.Frag} {H : Hp} {a : Addr} (h : H a = some (.lst [])) : Dp K H (.ref a) (.list []) := .lst (SqL.of h) .nil
theorem shaped_nil : SeqAt.shaped (.list []) = true := rfl
/-- an object at a that stands apart from l, or is of the written part -/
def Off (K : PySem.W.Frag) (l a : Addr) (xs : List V) : Prop := a ≠ l ∨ ∀ H', SqL K H' a xs
theorem Off.of {K : PySem.W.Frag} {H : Hp} {l a : Addr} {xs : List V} (h : SqL K H a xs) (n : H l = none) : Off K l a xs := by
  rcases h with (h | ⟨o, h⟩) | h
  · exact .inl (ne_of_none h n)
  · exact .inl (ne_of_none h n)
  · exact .inr fun H' => .inr h
theorem Off.seq {K : PySem.W.Frag} {H H' : Hp} {l a : Addr} {xs : List V} (o : Off K l a xs) (b : But (· = l) H H') (h : SqL K H a xs) : SqL K H' a xs := o.elim (fun ne => but_seq b ne h) fun k => k H'
abbrev sMerged : Stmt := top 45
/-- the test x != [] of a list of ints -/
def tNe (K : PySem.W.Frag) (i : Nat) : TT := tTest (tOp (rNeD K) (tVar i) (tLst tNil))
theorem tNe_step {K : PySem.W.Frag} {i : Nat} {σ : L2.St} {H : Hp} {a : Addr} {l : List Int} {Q : Bool → Hp → Prop} (hi : σ[i]? = some (some (.ref a))) (h : SqL K H a (l.map V.int)) (q : ∀ H', Same H H' → Q (Mg.ne l) H') : tNe K i σ H Q := by
  refine ⟨_, hi, Nat.zero_le _, fun p hp => ⟨intsD l, .list [], dp_list ((same_new hp).seq h), dp_nil upd_same, shaped_ints l, shaped_nil, _, rfl, ?_⟩⟩
  rw [eqv_nil]
  exact q _ (same_new hp)
def tFirst (K : PySem.W.Frag) (i : Nat) : TE := tOp (rIxL K) (tVar i) (tC (.int 0))
/-- one[0] in other[1:] -/
def tBeh (K : PySem.W.Frag) : TT := tTest (tOp (rIn K false) (tFirst K 4) (tSl (rSlL K) (tVar 5) (tPart (tC (.int 1))) tNoPart))
/-- [other for other in left if one[0] in other[1:]] == [] -/
def tFreeT (K : PySem.W.Frag) : TT := tTest (tOp (rEqD K) (tLc (iList K (tVar 1)) (gName 5) (tBeh K) (tVar 5) [5]) (tLst tNil))
/-- [item for item in one if item != free[0]] -/
def tDropE (K : PySem.W.Frag) : TE := tLc (iList K (tVar 4)) (gName 6) (tTest (tOp rNe (tVar 6) (tFirst K 3))) (tVar 6) [6]
/-- what the law's own merge hands back -/
def LMOut (H H' : Hp) (ls : List (List Int)) (v : V) : Prop :=
  (∃ n q, (∀ r ∈ (Mg.st ls n).2, r = []) ∧ v = .ref q ∧ H q = none ∧ H' q = some (.lst ((Mg.st ls n).1.map V.int))) ∨ (∃ n, Mg.firstFree (Mg.st ls n).2 = none ∧ (∃ r ∈ (Mg.st ls n).2, r ≠ []) ∧ v = .non)
def spLMerged (K : PySem.W.Frag) : Sp := fun vs H Q _ => ∃ (a : Addr) (ps : List (Addr × List Int)), vs = [.ref a] ∧ LofL K H a ps ∧ Fit ps ∧ ∀ v H', Same H H' → LMOut H H' (lsOf ps) v → Q v H'
abbrev nMerged : List Str := ["_law_lists_here", "_law_left", "_law_found", "_law_free", "_law_one", "_law_other", "_law_item"]
theorem scMerged : FnScope nMerged ["_law_lists_here"] (defScope sMerged) := ⟨rfl, rfl, rfl, by decide +kernel, rfl, by decide +kernel, by decide +kernel⟩
section
variable {P : Program} {w : World} {K : PySem.W.Frag} {mg : Str → Option Value} {base : Heap}
theorem ok_merged {f : Addr} {fd : FuncData} (F : Fun K "_law_merged" "_law_merged" sMerged f fd) (T : Txt mg) : FnOk P w K mg base CX0 1 f fd ["_law_lists_here"] (spLMerged K) := by
  refine F.ok scMerged (fun vs H Q E h => ?_) (fun cdv A outer s H vs Q E hr h => ?_)
  · obtain ⟨a, ps, rfl, _⟩ := h
    rfl
  · obtain ⟨a, ps, rfl, hL, fit, k⟩ := h
    refine ⟨_, pss_cons (ps_set (i := 1) scMerged.nd rfl (Or.inr rfl) (pe_lc (own := [("_law_one", 4)]) (g := gName 4) (tt := tNe K 4) (te := tVar 4) rfl scMerged.nd (pi_list (pv 0)) (blkOk_by (N := nMerged) (sc := defScope sMerged) (by decide +kernel))
          (fun _ _ _ _ _ => pg_name (i := 4) scMerged.nd rfl (Or.inl rfl)) (fun _ _ _ _ _ => pts_one (pt_cmpR (op_neD hr.units) (pv 4) (pe_lst pa_nil) (nomark _))) (fun _ _ _ _ _ => pv 4)))
      (pss_cons (ps_set (i := 2) scMerged.nd rfl (Or.inl rfl) (pe_lst pa_nil))
      (pss_cons (ps_while PassesOwn.never (pt_cmpR (op_neD hr.units) (pv 1) (pe_lst pa_nil) (nomark _))
        (pss_cons (ps_set (i := 3) scMerged.nd rfl (Or.inr rfl) (pe_lc (own := [("_law_one", 4)]) (g := gName 4) (tt := tFreeT K) (te := tFirst K 4) rfl scMerged.nd (pi_list (pv 1)) (blkOk_by (N := nMerged) (sc := defScope sMerged) (by decide +kernel))
            (fun _ _ _ _ _ => pg_name (i := 4) scMerged.nd rfl (Or.inr rfl)) (fun _ _ _ _ _ => pts_one (pt_cmpR (op_eqD hr.units) (pe_lc (own := [("_law_other", 5)]) (g := gName 5) (tt := tBeh K) (te := tVar 5) rfl scMerged.nd (pi_list (pv 1)) (show BlkOk nMerged (relS _ (defScope sMerged)) _ _ from blkOk_by (by decide +kernel))
                (fun _ _ _ _ _ => pg_name (i := 5) scMerged.nd rfl (Or.inl rfl)) (fun _ _ _ _ _ => pts_one (pt_cmpR op_in_seq (pe_ix ix_list (pv 4) pe_int (fun _ _ => rfl)) (pe_slice sl_list (pv 5) (po_some pe_int) po_none) (by rfl))) (fun _ _ _ _ _ => pv 5)) (pe_lst pa_nil) (nomark _)))
            (fun _ _ _ _ _ => pe_ix ix_list (pv 4) pe_int (fun _ _ => rfl))))
        (pss_cons (ps_if (pt_cmpR (op_eqD hr.units) (pv 3) (pe_lst pa_nil) (nomark _)) (pss_one (ps_ret pe_non)) pss_nil)
        (pss_cons (ps_expr (pe_bm PySem.F.plainAttrs_list PySem.F.slot_list_append PySem.F.type_list_append mt_append (pv 2) (pa_cons (pe_ix ix_list (pv 3) pe_int (fun _ _ => rfl)) pa_nil)))
        (pss_cons (ps_set (i := 1) scMerged.nd rfl (Or.inr rfl) (pe_lc (own := [("_law_one", 4)]) (g := gName 4) (tt := tYes) (te := tDropE K) rfl scMerged.nd (pi_list (pv 1)) (blkOk_by (N := nMerged) (sc := defScope sMerged) (by decide +kernel))
            (fun _ _ _ _ _ => pg_name (i := 4) scMerged.nd rfl (Or.inl rfl)) (fun _ _ _ _ _ => pts_nil) (fun _ _ _ _ _ => pe_lc (own := [("_law_item", 6)]) (g := gName 6) (tt := tTest (tOp rNe (tVar 6) (tFirst K 3))) (te := tVar 6) rfl scMerged.nd (pi_list (pv 4)) (show BlkOk nMerged (relS _ (defScope sMerged)) _ _ from blkOk_by (by decide +kernel))
              (fun _ _ _ _ _ => pg_name (i := 6) scMerged.nd rfl (Or.inl rfl)) (fun _ _ _ _ _ => pts_one (pt_cmpR op_ne (pv 6) (pe_ix ix_list (pv 3) pe_int (fun _ _ => rfl)) (nomark _))) (fun _ _ _ _ _ => pv 6))))
        (pss_one (ps_set (i := 1) scMerged.nd rfl (Or.inr rfl) (pe_lc (own := [("_law_one", 4)]) (g := gName 4) (tt := tNe K 4) (te := tVar 4) rfl scMerged.nd (pi_list (pv 1)) (blkOk_by (N := nMerged) (sc := defScope sMerged) (by decide +kernel))
            (fun _ _ _ _ _ => pg_name (i := 4) scMerged.nd rfl (Or.inl rfl)) (fun _ _ _ _ _ => pts_one (pt_cmpR (op_neD hr.units) (pv 4) (pe_lst pa_nil) (nomark _))) (fun _ _ _ _ _ => pv 4)))))))))
      (pss_one (ps_ret (pv 2))))), ?_⟩
    have fewP : ps.length ≤ 30 := fit.few
    have ndL : ∀ l ∈ lsOf ps, l.Nodup := fun l hl => by obtain ⟨p, hp, rfl⟩ := List.mem_map.mp hl; exact fit.nd p hp
    have shortL : ∀ l ∈ lsOf ps, l.length ≤ 30 := fun l hl => by obtain ⟨p, hp, rfl⟩ := List.mem_map.mp hl; exact fit.short p hp
    have sumL := sum_le (lsOf ps) shortL
    have fewL : (lsOf ps).length ≤ 30 := by rw [List.length_map]; exact fit.few
    refine ⟨_, rfl, a, rfl, ⟨_, hL.1⟩, fun L0 hL0 => lc_sel (K := K) (ps := ps) (gv := fun p => V.ref p.1) 4 (fun p => V.ref p.1) (fun p => Mg.ne p.2) hL.1 (small1000 (by omega)) hL0 (fun _ => rfl)
      (fun j p G Q1 hp s q => tNe_step rfl (s.seq (hL.2 p (List.mem_of_getElem? hp))) q) (fun j p G Q1 hp _ s q => ⟨_, rfl, q _ (Same.refl _)⟩) fun G s1 hG => ?_⟩
    refine ⟨Nat.zero_le _, fun Fd hFd => ?_⟩
    have nFd : H Fd = none := none_of_same s1 hFd
    have s2 : Same H (upd G Fd (.lst [])) := same_upd s1 nFd
    have LF : L0 ≠ Fd := ne_of_none hG hFd
    have lq0 : lsOf (ps.filter fun p => Mg.ne p.2) = Mg.nonE (lsOf ps) := by
      unfold Mg.nonE lsOf
      rw [List.filter_map]
      rfl
    refine while_m (fun m σ G => ∃ (L : Addr) (v3 : Option V) (n : Nat) (qs : List (Addr × List Int)), m = Mg.size (Mg.st (lsOf ps) n).2 ∧ σ = [some (.ref a), some (.ref L), some (.ref Fd), v3, none, none, none] ∧
        Same H G ∧ LofL K G L qs ∧ lsOf qs = Mg.nonE (Mg.st (lsOf ps) n).2 ∧ G Fd = some (.lst ((Mg.st (lsOf ps) n).1.map V.int)) ∧
        L ≠ Fd ∧ ∀ p ∈ qs, Off K Fd p.1 (p.2.map V.int))
      ⟨_, L0, none, 0, ps.filter fun p => Mg.ne p.2, rfl, rfl, s2, ⟨SqL.of (by rw [upd_ne LF]; exact hG), fun p hp => s2.seq (hL.2 p (List.mem_filter.mp hp).1)⟩, lq0, upd_same, LF, fun p hp => Off.of (hL.2 p (List.mem_filter.mp hp).1) nFd⟩ ?_ ?_
    · rintro m σ G ⟨L, v3, n, qs, rfl, rfl, s3, hQ, lq, hOrd, LFd, off⟩
      have ok := Mg.ok_st ndL n
      have fewQ : qs.length ≤ 30 := by
        have e := congrArg List.length lq
        have e2 := List.length_filter_le Mg.ne (Mg.st (lsOf ps) n).2
        have e3 := ok.len
        unfold Mg.nonE at e
        rw [List.length_map] at e
        omega
      have neQ : ∀ p ∈ qs, ∃ z t, p.2 = z :: t := fun p hp => by
        have m : p.2 ∈ Mg.nonE (Mg.st (lsOf ps) n).2 := by rw [← lq]; exact List.mem_map.mpr ⟨p, hp, rfl⟩
        have e := Mg.ne_iff.mp (List.mem_filter.mp m).2
        cases h : p.2 with
        | nil => exact absurd h e
        | cons z t => exact ⟨z, t, rfl⟩
      refine ⟨_, rfl, Nat.zero_le _, fun p1 hp1 => ⟨listsD (lsOf qs), .list [], dp_lists (hQ.keep (same_new hp1)), dp_nil upd_same, shaped_lists _, shaped_nil, _, rfl, ?_⟩⟩
      rw [eqvs_nil]
      have s4 : Same G (upd G p1 (.lst [])) := same_new hp1
      generalize upd G p1 (.lst []) = G1 at s4
      cases hem : (lsOf qs).isEmpty with
      | true =>
        refine iteF ?_
        have e : lsOf qs = [] := List.isEmpty_iff.mp hem
        rw [lq] at e
        exact ⟨_, rfl, k _ _ (s3.trans s4) (.inl ⟨n, Fd, Mg.nonE_empty.mp e, rfl, nFd, s4 _ _ hOrd⟩)⟩
      | false =>
        refine iteT ?_
        have hQ1 := hQ.keep s4
        refine ⟨_, rfl, L, rfl, ⟨_, hQ1.1⟩, fun D hD => lc_sel (K := K) (ps := qs) (gv := fun p => V.ref p.1) 4 (fun p => V.int (p.2.headD 0)) (fun p => Mg.clear (lsOf qs) (p.2.headD 0)) hQ1.1 (small1000 (by omega)) hD (fun _ => rfl)
          (fun j p G2 Q1 hp s q => ?_) (fun j p G2 Q1 hp _ s q => ?_) fun G2 s5 hF => ?_⟩
        · obtain ⟨z, t, hz⟩ := neQ p (List.mem_of_getElem? hp)
          have hQ2 := hQ1.keep s
          have hS := hQ2.2 p (List.mem_of_getElem? hp)
          rw [hz] at q hS
          refine ⟨_, rfl, L, rfl, ⟨_, hQ2.1⟩, fun D2 hD2 => lc_sel (K := K) (ps := qs) (gv := fun p => V.ref p.1) 5 (fun o => V.ref o.1) (fun o => o.2.tail.contains z) hQ2.1 (small1000 (by omega)) hD2 (fun _ => rfl)
            (fun i o G3 Q2 ho s' q' => ?_) (fun i o G3 Q2 ho _ s' q' => ⟨_, rfl, q' _ (Same.refl _)⟩) fun G3 s' h3 => ?_⟩
          · refine ⟨_, rfl, p.1, _, 0, .int z, rfl, rfl, s'.seq hS, at0 _ _, _, rfl, 1, rfl, o.1, _, rfl, (hQ2.keep s').2 o (List.mem_of_getElem? ho), fun L3 hL3 => ⟨L3, _, rfl, .inl (SqL.of upd_same), rfl, ?_, _, rfl, ?_⟩⟩
            · rw [cut_tail, ← List.map_tail]; exact flat_ints _
            · rw [cut_tail, ← List.map_tail, inV_ints]
              exact q' _ (same_new hL3)
          · refine ⟨Nat.zero_le _, fun p2 hp2 => ⟨listsD (lsOf (qs.filter fun o => o.2.tail.contains z)), .list [], dp_lists ⟨SqL.of (by rw [upd_ne (ne_of_none h3 hp2)]; exact h3), fun o ho => ((hQ2.keep s').keep (same_new hp2)).2 o (List.mem_filter.mp ho).1⟩, dp_nil upd_same, shaped_lists _, shaped_nil, _, rfl, ?_⟩⟩
            rw [eqvs_nil]
            have e : (lsOf (qs.filter fun o => o.2.tail.contains z)).isEmpty = Mg.clear (lsOf qs) z := by
              have h : (lsOf (qs.filter fun o => o.2.tail.contains z)).isEmpty = true ↔ Mg.clear (lsOf qs) z = true := by
                rw [List.isEmpty_iff, List.map_eq_nil_iff, List.filter_eq_nil_iff, Mg.clear_iff]
                refine ⟨fun h r hr => ?_, fun h o ho hc => h o.2 (List.mem_map.mpr ⟨o, ho, rfl⟩) (List.contains_iff_mem.mp hc)⟩
                obtain ⟨o, ho, rfl⟩ := List.mem_map.mp hr
                exact fun c => h o ho (List.contains_iff_mem.mpr c)
              cases h1 : (lsOf (qs.filter fun o => o.2.tail.contains z)).isEmpty <;> cases h2 : Mg.clear (lsOf qs) z
              · rfl
              · rw [h.mpr h2] at h1; cases h1
              · rw [h.mp h1] at h2; cases h2
              · rfl
            rw [e]
            exact q _ (s'.trans (same_new hp2))
        · obtain ⟨z, t, hz⟩ := neQ p (List.mem_of_getElem? hp)
          have hS := (hQ1.keep s).2 p (List.mem_of_getElem? hp)
          rw [hz] at q hS
          exact ⟨_, rfl, p.1, _, 0, .int z, rfl, rfl, hS, at0 _ _, q _ (Same.refl _)⟩
        · -- the free items
          have fr : ((qs.filter fun p => Mg.clear (lsOf qs) (p.2.headD 0)).map fun p => V.int (p.2.headD 0)) = ((Mg.heads (lsOf qs)).filter (Mg.clear (lsOf qs))).map V.int := by
            have g : ∀ (c : Int → Bool) (l : List (Addr × List Int)), (∀ p ∈ l, ∃ z t, p.2 = z :: t) → ((l.filter fun p => c (p.2.headD 0)).map fun p => V.int (p.2.headD 0)) = ((Mg.heads (lsOf l)).filter c).map V.int := by
              intro c l
              induction l with
              | nil => intro _; rfl
              | cons p l ih =>
                intro h
                obtain ⟨z, t, hz⟩ := h p List.mem_cons_self
                have ih := ih fun q hq => h q (List.mem_cons_of_mem _ hq)
                have e : Mg.heads (lsOf (p :: l)) = z :: Mg.heads (lsOf l) := by
                  show Mg.heads (p.2 :: lsOf l) = _
                  rw [hz]
                  rfl
                have e0 : p.2.headD 0 = z := by rw [hz]; rfl
                rw [e]
                by_cases hc : c z = true
                · rw [List.filter_cons_of_pos (by rw [e0]; exact hc), List.filter_cons_of_pos hc, List.map_cons, List.map_cons, ih, e0]
                · rw [List.filter_cons_of_neg (by rw [e0]; exact hc), List.filter_cons_of_neg hc, ih]
            exact g _ qs neQ
          rw [fr] at hF
          have hd := Mg.free_head (lsOf qs)
          have same : Mg.firstFree (lsOf qs) = Mg.firstFree (Mg.st (lsOf ps) n).2 := by rw [lq, Mg.free_nonE]
          generalize (Mg.heads (lsOf qs)).filter (Mg.clear (lsOf qs)) = frees at hF hd
          refine ⟨_, rfl, Nat.zero_le _, fun p3 hp3 => ⟨intsD frees, .list [], dp_list (SqL.of (by rw [upd_ne (ne_of_none hF hp3)]; exact hF)), dp_nil upd_same, shaped_ints _, shaped_nil, _, rfl, ?_⟩⟩
          rw [eqv_nil]
          have s6 : Same G2 (upd G2 p3 (.lst [])) := same_new hp3
          have hF3 := s6 _ _ hF
          generalize upd G2 p3 (.lst []) = G3 at s6 hF3
          have s7 : Same G G3 := s4.trans (s5.trans s6)
          cases frees with
          | nil =>
            refine iteT (k _ _ (s3.trans s7) (.inr ⟨n, by rw [← same, hd]; rfl, ?_, rfl⟩))
            cases hq : lsOf qs with
            | nil => rw [hq] at hem; cases hem
            | cons r rs =>
              have m : r ∈ Mg.nonE (Mg.st (lsOf ps) n).2 := by rw [← lq, hq]; exact List.mem_cons_self
              exact ⟨r, (List.mem_filter.mp m).1, Mg.ne_iff.mp (List.mem_filter.mp m).2⟩
          | cons x fr' =>
            have ff : Mg.firstFree (Mg.st (lsOf ps) n).2 = some x := by rw [← same, hd]; rfl
            have ordLen := st_ord_len (lsOf ps) n
            refine iteF ?_
            refine ⟨_, rfl, .inl ⟨rfl, _, SqL.of (s7 _ _ hOrd)⟩, _, rfl, D, _, 0, .int x, rfl, rfl, SqL.of hF3, at0 _ _, Fd, _, _, rfl, rfl, s7 _ _ hOrd, small1000 (by rw [List.length_map]; omega), ?_⟩
            have DF : D ≠ Fd := (ne_of_none (s4 _ _ hOrd) hD).symm
            have s8 : Same H (upd G3 Fd (.lst ((Mg.st (lsOf ps) n).1.map V.int ++ [.int x]))) := same_upd (s3.trans s7) nFd
            have hF4 : (upd G3 Fd (.lst ((Mg.st (lsOf ps) n).1.map V.int ++ [.int x]))) D = some (.lst ((x :: fr').map V.int)) := by rw [upd_ne DF]; exact hF3
            have hO4 : (upd G3 Fd (.lst ((Mg.st (lsOf ps) n).1.map V.int ++ [.int x]))) Fd = some (.lst ((Mg.st (lsOf ps) n).1.map V.int ++ [.int x])) := upd_same
            have b4 : But (· = Fd) G3 (upd G3 Fd (.lst ((Mg.st (lsOf ps) n).1.map V.int ++ [.int x]))) := but_upd
            have hQ3 := hQ.keep s7
            have hQ4 : LofL K (upd G3 Fd (.lst ((Mg.st (lsOf ps) n).1.map V.int ++ [.int x]))) L qs := ⟨but_seq b4 LFd hQ3.1, fun p hp => (off p hp).seq b4 (hQ3.2 p hp)⟩
            generalize upd G3 Fd (.lst ((Mg.st (lsOf ps) n).1.map V.int ++ [.int x])) = G4 at s8 hF4 hO4 hQ4
            refine ⟨_, rfl, L, rfl, ⟨_, hQ4.1⟩, fun E1 hE1 => lc_list (K := K) (a := L) (xs := refsOf qs) (fun j G' => ∃ ts : List (Addr × List Int), Same G4 G' ∧ G' E1 = some (.lst (refsOf ts)) ∧ (∀ t ∈ ts, G' t.1 = some (.lst (t.2.map V.int))) ∧ (∀ t ∈ ts, G4 t.1 = none) ∧ lsOf ts = ((lsOf qs).take j).map (Mg.drop1 x))
              ⟨[], same_new hE1, upd_same, (fun t ht => nomatch ht), (fun t ht => nomatch ht), rfl⟩ (fun j G' _ ⟨_, s, _⟩ => s.seq hQ4.1) (fun j y G' hy p => ?_) fun G' p => ?_⟩
            · obtain ⟨q, hq, rfl⟩ := get_map hy
              obtain ⟨ts, s9, hE, each, fresh, lt⟩ := p
              have mq := List.mem_of_getElem? hq
              refine ⟨rfl, ?_⟩
              unfold tYes
              simp only [if_true]
              have hS := (hQ4.keep s9).2 q mq
              have shortq : q.2.length ≤ 30 := by
                have m : q.2 ∈ Mg.nonE (Mg.st (lsOf ps) n).2 := by rw [← lq]; exact List.mem_map.mpr ⟨q, mq, rfl⟩
                exact st_short shortL n _ (List.mem_filter.mp m).1
              refine ⟨_, rfl, q.1, rfl, ⟨_, hS⟩, fun D3 hD3 => lc_sel (K := K) (ps := q.2) (gv := V.int) 6 V.int (fun y => decide (y ≠ x)) hS (small1000 (by omega)) hD3 (fun _ => rfl)
                (fun i y G5 Q2 _ s' q' => ?_) (fun i y G5 Q2 _ _ s' q' => ⟨_, rfl, q' _ (Same.refl _)⟩) fun G5 s' h5 => ?_⟩
              · refine ⟨_, rfl, _, rfl, D, _, 0, .int x, rfl, rfl, SqL.of (s' _ _ (s9 _ _ hF4)), at0 _ _, rfl, _, rfl, ?_⟩
                have e : (!decide (V.int y = V.int x)) = decide (y ≠ x) := by
                  by_cases h : y = x
                  · rw [h]; simp
                  · rw [decide_eq_false (fun e => h (V.int.inj e)), decide_eq_true h]; rfl
                rw [e]
                exact q' _ (Same.refl _)
              · have E5 := s' _ _ hE
                have DE : D3 ≠ E1 := (ne_of_none hE hD3).symm
                refine ⟨_, E5, ?_, ts ++ [(D3, Mg.drop1 x q.2)], same_upd (s9.trans s') hE1, ?_, fun t ht => ?_, fun t ht => ?_, ?_⟩
                · have e := congrArg List.length lt
                  rw [List.length_map, List.length_map, List.length_take, List.length_map] at e
                  rw [List.length_map]
                  exact small1000 (by omega)
                · unfold refsOf
                  rw [upd_same, List.map_append]
                  rfl
                · rcases List.mem_append.mp ht with m | m
                  · have e1 := s' _ _ (each t m)
                    have ne1 : t.1 ≠ E1 := fun e => by
                      have f := fresh t m
                      have e2 := each t m
                      rw [e, hE] at e2
                      cases hts : ts with
                      | nil => rw [hts] at m; cases m
                      | cons t0 ts' =>
                        rw [hts] at e2
                        have e3 := HO.lst.inj (Option.some.inj e2)
                        cases h2 : t.2 with
                        | nil => rw [h2] at e3; cases e3
                        | cons z r => rw [h2] at e3; cases e3
                    rw [upd_ne ne1]
                    exact e1
                  · rw [List.mem_singleton.mp m, upd_ne DE]
                    exact h5
                · rcases List.mem_append.mp ht with m | m
                  · exact fresh t m
                  · rw [List.mem_singleton.mp m]
                    exact none_of_same s9 hD3
                · unfold lsOf
                  rw [List.map_append]
                  show lsOf ts ++ [Mg.drop1 x q.2] = _
                  rw [lt, take_snoc (lsOf_at hq), List.map_append]
                  rfl
            · obtain ⟨ts, s9, hE, each, fresh, lt⟩ := p
              have e0 : (lsOf qs).take (refsOf qs).length = lsOf qs := List.take_of_length_le (by rw [List.length_map, List.length_map]; exact Nat.le_refl _)
              rw [e0] at lt
              have lenT : ts.length = qs.length := by
                have e := congrArg List.length lt
                rw [List.length_map, List.length_map, List.length_map] at e
                exact e
              refine ⟨_, rfl, E1, rfl, ⟨_, SqL.of hE⟩, fun E2 hE2 => lc_sel (K := K) (ps := ts) (gv := fun p => V.ref p.1) 4 (fun p => V.ref p.1) (fun p => Mg.ne p.2) (SqL.of hE) (small1000 (by omega)) hE2 (fun _ => rfl)
                (fun j p G5 Q1 hp s q => tNe_step rfl (SqL.of (s _ _ (each p (List.mem_of_getElem? hp)))) q) (fun j p G5 Q1 hp _ s q => ⟨_, rfl, q _ (Same.refl _)⟩) fun G5 s10 h5 => ?_⟩
              have clearX := (Mg.firstFree_some ff).2
              refine ⟨Mg.size (Mg.st (lsOf ps) (n + 1)).2, by rw [Mg.st_some ff]; exact Mg.size_step ff, E2, _, n + 1, ts.filter fun p => Mg.ne p.2, rfl, rfl, s8.trans (s9.trans s10), ⟨SqL.of h5, fun p hp => SqL.of (s10 _ _ (each p (List.mem_filter.mp hp).1))⟩, ?_, ?_, ?_, fun p hp => .inl ?_⟩
              · have e : lsOf (ts.filter fun p => Mg.ne p.2) = Mg.nonE (lsOf ts) := by
                  unfold Mg.nonE lsOf
                  rw [List.filter_map]
                  rfl
                rw [e, lt, lq, Mg.nonE_pull (fun r hr => ⟨ok.nodups ndL r hr, Mg.clear_iff.mp clearX r hr⟩), Mg.st_some ff]
              · rw [s10 _ _ (s9 _ _ hO4), Mg.st_some ff, List.map_append]
                rfl
              · exact (ne_of_none (s9 _ _ hO4) hE2).symm
              · exact fun e => by
                  have f := fresh p (List.mem_filter.mp hp).1
                  rw [e, hO4] at f
                  cases f
    · rintro σ G Q1 Q2 imp ⟨x, hx, z, h⟩
      exact ⟨x, hx, z, fun p hp => let ⟨d, e, h1, h2, h3, h4, c, h5, h6⟩ := h p hp; ⟨d, e, h1, h2, h3, h4, c, h5, imp _ _ h6⟩⟩
end
end Lw

set_option Elab.async false
set_option linter.all false
set_option maxRecDepth 100000
set_option maxHeartbeats 4000000
namespace Lw
open PySem L2 Two Pr
abbrev sLInt : Stmt := top 46
abbrev sLRing : Stmt := top 47
section
variable {P : Program} {w : World} {K : PySem.W.Frag} {mg : Str → Option Value} {base : Heap}
theorem scLInt : FnScope ["_law_value"] ["_law_value"] (defScope sLInt) := ⟨rfl, rfl, rfl, by decide +kernel, rfl, by decide +kernel, by decide +kernel⟩
theorem ok_lInt {f : Addr} {fd : FuncData} (F : Fun K "_law_is_integer" "_law_is_integer" sLInt f fd) (T : Txt mg) : FnOk P w K mg base CX0 1 f fd ["_law_value"] (spIsInt K) := by
  refine F.ok scLInt (fun vs H Q E h => ?_) (fun cdv A outer s H vs Q E hr h => ?_)
  · obtain ⟨x, _, _, _, rfl, _⟩ := h
    rfl
  · obtain ⟨x, t, b1, b2, rfl, ty, h1, h2, k⟩ := h
    refine ⟨_, pss_one (ps_ret (pe_and (pe_callB call_isi (by rfl) T.isinstance (by decide +kernel) (pa_cons (pv 0) (pa_cons (pe_bltn (v := .ty "int") (by rfl) T.int (by decide +kernel) rfl) pa_nil)))
      (pe_one (pe_not (pe_callB call_isi (by rfl) T.isinstance (by decide +kernel) (pa_cons (pv 0) (pa_cons (pe_bltn (v := .ty "bool") (by rfl) T.bool (by decide +kernel) rfl) pa_nil))))))), ?_⟩
    refine ⟨x, rfl, x, .ty "int", t, .type "int", b1, rfl, .ty _, ty, h1, b1, rfl, ?_⟩
    cases b1 with
    | false => exact iteF k
    | true => exact iteT ⟨x, rfl, x, .ty "bool", t, .type "bool", b2, rfl, .ty _, ty, h2, b2, rfl, k⟩

/-! ### _law_is_ring, where it is one -/
abbrev nLRing : List Str := ["_law_lists_here", "_law_ring", "_law_link", "_law_items_here", "_law_k", "_law_one", "_law_ahead", "_law_behind"]
theorem scLRing : FnScope nLRing ["_law_lists_here", "_law_ring"] (defScope sLRing) := ⟨rfl, rfl, rfl, by decide +kernel, rfl, by decide +kernel, by decide +kernel⟩
theorem ok_lRing {f fI : Addr} {fd fdI : FuncData} (F : Fun K "_law_is_ring" "_law_is_ring" sLRing f fd) (T : Txt mg) (gI : mg "_law_is_integer" = some (.ref fI)) (kI : PySem.W.keepIn K (.ref fI) = true) (bI : Binds K fdI ["_law_value"] [])
    (GI : FnOk P w K mg base CX0 1 fI fdI ["_law_value"] (spIsInt K)) : FnOk P w K mg base CX0 2 f fd ["_law_lists_here", "_law_ring"] (spIsRing K) := by
  refine F.ok scLRing (fun vs H Q E h => ?_) (fun cdv A outer s H vs Q E hr h => ?_)
  · obtain ⟨a, q, ps, us, rfl, _⟩ := h
    rfl
  · obtain ⟨a, q, ps, us, rfl, hL, fit, hq, tp, ring, hsz, k⟩ := h
    refine ⟨_, pss_cons (ps_if (PW.pt (pw_or (pt_not (pt_val (pe_callB call_isi (by rfl) T.isinstance (by decide +kernel) (pa_cons (pv 1) (pa_cons (pe_bltn (v := .ty "list") (by rfl) T.list (by decide +kernel) rfl) pa_nil)))))
        (pw_or1 (pt_cmpR op_lt (pe_callB call_len_seq (by rfl) T.len PySem.boot_len (pa_cons (pv 1) pa_nil)) pe_int (nomark _))))) pss_never pss_nil)
      (pss_cons (ps_for PassesOwn.never rfl (pi_list (pv 1)) (pg_name (i := 2) scLRing.nd rfl (Or.inl rfl))
        (pss_cons (ps_if (PW.pt (pw_or (pt_not (pt_val (pe_callB call_isi (by rfl) T.isinstance (by decide +kernel) (pa_cons (pv 2) (pa_cons (pe_bltn (v := .ty "tuple") (by rfl) T.tuple (by decide +kernel) rfl) pa_nil)))))
            (pw_or1 (pt_cmpR op_ne (pe_callB call_len_seq (by rfl) T.len PySem.boot_len (pa_cons (pv 2) pa_nil)) pe_int (nomark _))))) pss_never pss_nil)
        (pss_cons (ps_if (PW.pt (pw_or (pt_not (pt_val (pe_call GI hr rfl gI kI bI .nil pass0 (pa_cons (pe_ix ix_tup (pv 2) pe_int (fun _ _ => rfl)) pa_nil))))
            (pw_or1 (pt_not (pt_val (pe_call GI hr rfl gI kI bI .nil pass0 (pa_cons (pe_ix ix_tup (pv 2) pe_int (fun _ _ => rfl)) pa_nil))))))) pss_never pss_nil)
        (pss_one (ps_if (pt_not (pt_chain op_le op_lt pe_int (pe_ix ix_tup (pv 2) pe_int (fun _ _ => rfl)) (pe_callB call_len_seq (by rfl) T.len PySem.boot_len (pa_cons (pv 0) pa_nil)))) pss_never pss_nil)))))
      (pss_cons (ps_setLc (i := 3) (own := [("_law_link", 2)]) (g := gName 2) (tt := tYes) (te := tItem0 K 2) rfl scLRing.nd rfl rfl (sw_true rfl rfl rfl (by decide +kernel)) (pi_list (pv 1)) (blkOk_by (N := nLRing) (sc := defScope sLRing) (by decide +kernel))
          (fun _ _ _ _ _ => pg_name (i := 2) scLRing.nd rfl (Or.inl rfl)) (fun _ _ _ _ _ => pts_nil) (fun _ _ _ _ _ => pe_ix ix_tup (pv 2) pe_int (fun _ _ => rfl)))
      (pss_cons (ps_if (pt_cmpR op_lt (RZ.pe_lenSetI (by rfl) T.len (by rfl) T.set (pv 3)) (pe_callB call_len_seq (by rfl) T.len PySem.boot_len (pa_cons (pv 3) pa_nil)) (nomark _)) pss_never pss_nil)
      (pss_cons (ps_for PassesOwn.never rfl (pi_range1 rfl T.range (pa_cons (pe_callB call_len_seq (by rfl) T.len PySem.boot_len (pa_cons (pv 1) pa_nil)) pa_nil)) (pg_name (i := 4) scLRing.nd rfl (Or.inl rfl))
        (pss_cons (ps_set (i := 5) scLRing.nd rfl (Or.inl rfl) (pe_ix ix_list (pv 0) (pe_ix ix_tup (pe_ix ix_list (pv 1) (pv 4) (fun _ _ => rfl)) pe_int (fun _ _ => rfl)) (fun _ _ => rfl)))
        (pss_cons (ps_par (i := 6) (j := 7) rfl scLRing.nd rfl rfl (by decide) rfl rfl (pa_cons (pe_ix ix_list (pv 3) (pv 4) (fun _ _ => rfl)) (pa_cons (pe_ix ix_list (pv 3) (pe_op op_mod (pe_op op_add (pv 4) pe_int) (pe_callB call_len_seq (by rfl) T.len PySem.boot_len (pa_cons (pv 1) pa_nil))) (fun _ _ => rfl)) pa_nil)) (by rfl))
        (pss_one (ps_if (PW.pt (pw_or (pt_cmpR op_notIn_seq (pv 6) (pv 5) (by rfl)) (pw_or (pt_cmpR op_notIn_seq (pv 7) (pv 5) (by rfl))
          (pw_or1 (pt_cmpR op_ge (pe_bm PySem.F.plainAttrs_list PySem.F.slot_list_index PySem.F.type_list_index mt_index (pv 5) (pa_cons (pv 6) pa_nil)) (pe_bm PySem.F.plainAttrs_list PySem.F.slot_list_index PySem.F.type_list_index mt_index (pv 5) (pa_cons (pv 7) pa_nil)) (nomark _)))))) pss_never pss_nil)))))
      (pss_one (ps_ret pe_bl)))))), ?_⟩
    have szq : (tupRefs us).length = us.length := by rw [List.length_map]
    have two : 2 ≤ us.length := by have := ring.two; rw [List.length_map] at this; exact this
    refine ⟨_, rfl, _, .ty "list", .type "list", .type "list", true, rfl, .ty _, tyx_list (SqL.of hq), kit_ty (by decide +kernel), true, rfl, iteF ?_⟩
    refine ⟨_, rfl, q, _, rfl, .inl (SqL.of hq), _, _, rfl, rfl, _, rfl, ?_⟩
    rw [decide_eq_false (by rw [szq]; omega)]
    refine iteF ?_
    have link : ∀ (j : Nat) (u : Addr × Int × Nat), us[j]? = some u → u.2.2 < ps.length := fun j u hu => by
      obtain ⟨a1, i1, b1, j1, l1, e1, e2, e3, e4⟩ := ring.link j (by rw [List.length_map]; exact (List.getElem?_eq_some_iff.mp hu).1)
      rw [List.getElem?_map, hu] at e1
      have e1 : some u.2 = some (a1, i1) := e1
      have e5 : u.2.2 = i1 := by rw [Option.some.inj e1]
      rw [e5]
      have := (List.getElem?_eq_some_iff.mp e3).1
      rw [List.length_map] at this
      exact this
    refine ⟨_, rfl, q, rfl, ⟨_, SqL.of hq⟩, for_list (K := K) (a := q) (xs := tupRefs us) (fun i σ G => G = H ∧ ∃ v : Option V, σ = [some (.ref a), some (.ref q), v, none, none, none, none, none]) ⟨rfl, none, rfl⟩ (fun i σ G _ p => by rw [p.1]; exact SqL.of hq) ?_ ?_⟩
    · rintro j x σ G hx ⟨rfl, v, rfl⟩
      obtain ⟨u, hu, rfl⟩ := get_map hx
      have ht := tp u (List.mem_of_getElem? hu)
      have hlk := link j u hu
      refine ⟨_, rfl, _, .ty "tuple", .type "tuple", .type "tuple", true, rfl, .ty _, tyx_tup ht, kit_ty (by decide +kernel), true, rfl, iteF ?_⟩
      refine ⟨_, rfl, u.1, _, rfl, .inr (SqT.of ht), rfl, _, rfl, iteF ?_⟩
      refine ⟨_, rfl, u.1, _, 0, .int u.2.1, rfl, rfl, SqT.of ht, rfl, .int u.2.1, .type "int", true, false, rfl, .base (.int _), kit_ty (by decide +kernel), kit_ty (by decide +kernel), true, rfl, iteF ?_⟩
      refine ⟨_, rfl, u.1, _, 1, .int (u.2.2 : Nat), rfl, rfl, SqT.of ht, rfl, .int (u.2.2 : Nat), .type "int", true, false, rfl, .base (.int _), kit_ty (by decide +kernel), kit_ty (by decide +kernel), true, rfl, iteF ?_⟩
      refine ⟨_, rfl, u.1, _, 1, .int (u.2.2 : Nat), rfl, rfl, SqT.of ht, rfl, 0, _, rfl, rfl, _, rfl, ?_⟩
      rw [decide_eq_true (by omega)]
      refine iteT ⟨_, rfl, a, _, rfl, .inl hL.1, _, _, rfl, rfl, _, rfl, ?_⟩
      rw [decide_eq_true (by rw [List.length_map]; omega)]
      exact iteF ⟨rfl, _, rfl⟩
    · rintro σ G ⟨rfl, v, rfl⟩
      refine ⟨_, rfl, q, rfl, ⟨_, SqL.of hq⟩, fun D hD => lc_sel (K := K) (ps := us) (gv := fun u => V.ref u.1) 2 (fun u => V.int u.2.1) (fun _ => true) (SqL.of hq) (small1000 (by omega)) hD (fun _ => rfl)
        (fun j u G1 Q1 _ s q' => q' _ (Same.refl _)) (fun j u G1 Q1 hu _ s q' => ⟨_, rfl, u.1, _, 0, .int u.2.1, rfl, rfl, SqT.of (s _ _ (tp u (List.mem_of_getElem? hu))), rfl, q' _ (Same.refl _)⟩) fun G1 s1 h1 => ?_⟩
      rw [List.filter_eq_self.mpr fun _ _ => rfl] at h1
      have items : us.map (fun u => V.int u.2.1) = (((us.map (·.2)).map (·.1))).map V.int := by
        rw [List.map_map, List.map_map]
        rfl
      rw [items] at h1
      generalize hits : (us.map (·.2)).map (·.1) = its at h1
      have lenI : its.length = us.length := by rw [← hits, List.length_map, List.length_map]
      have ndI : its.Nodup := by rw [← hits]; exact ring.nd
      refine ⟨_, rfl, D, its, rfl, SqL.of h1, ndI, by omega, _, rfl, D, _, rfl, .inl (SqL.of h1), _, _, rfl, rfl, _, rfl, ?_⟩
      rw [decide_eq_false (by rw [List.length_map]; omega)]
      refine iteF ?_
      have hq1 := s1 _ _ hq
      refine ⟨_, rfl, q, _, rfl, .inl (SqL.of hq1), _, rfl, by omega, by rw [szq]; omega, for_range (lo := 0) (n := (((tupRefs us).length : Nat) : Int).toNat) (fun i σ G => G = G1 ∧ ∃ (v2 v4 v5 v6 v7 : Option V), σ = [some (.ref a), some (.ref q), v2, some (.ref D), v4, v5, v6, v7]) ⟨rfl, _, _, _, _, _, rfl⟩ ?_ ?_⟩
      · rintro j σ G hj ⟨rfl, v2, v4, v5, v6, v7, rfl⟩
        rw [szq] at hj
        have hj : j < us.length := by omega
        obtain ⟨a1, i1, b1, j1, l1, g1, g2, g3, g4⟩ := ring.link j (by rw [List.length_map]; exact hj)
        rw [List.length_map] at g2
        obtain ⟨u, hu, e1⟩ := get_map g1
        obtain ⟨p0, hp0, e0⟩ := get_map g3
        have mp := List.mem_of_getElem? hp0
        have ht := s1 _ _ (tp u (List.mem_of_getElem? hu))
        rw [← e1] at ht
        have hS := s1.seq (hL.2 p0 mp)
        rw [← e0] at hS
        have short1 : l1.length ≤ 30 := by rw [e0]; exact fit.short p0 mp
        obtain ⟨ia, ib, ha, hb, hab, na, nb⟩ := g4.at (by rw [e0]; exact fit.nd p0 mp)
        have rp : (refsOf ps)[i1]? = some (V.ref p0.1) := by rw [List.getElem?_map, hp0]; rfl
        have ru : (tupRefs us)[j]? = some (V.ref u.1) := by rw [List.getElem?_map, hu]; rfl
        have z0 : (0 : Int) + (j : Nat) = ((j : Nat) : Int) := by omega
        have itA : its[j]? = some a1 := by rw [← hits, List.getElem?_map, g1]; rfl
        have itB : its[(j + 1) % us.length]? = some b1 := by rw [← hits, List.getElem?_map, g2]; rfl
        have z1 : ((j : Nat) + 1 : Int) % (((tupRefs us).length : Nat) : Int) = (((j + 1) % us.length : Nat) : Int) := by rw [szq]; exact (Int.natCast_emod (j + 1) us.length).symm
        rw [z0]
        refine ⟨_, rfl, _, rfl, _, rfl, q, _, (j : Nat), .ref u.1, rfl, rfl, SqL.of hq1, atI_nat ru, u.1, _, 1, .int (i1 : Nat), rfl, rfl, SqT.of ht, rfl, a, _, (i1 : Nat), .ref p0.1, rfl, rfl, s1.seq hL.1, atI_nat rp, ?_⟩
        refine ⟨_, rfl, _, rfl, D, _, (j : Nat), .int a1, rfl, rfl, SqL.of h1, atI_nat (by rw [List.getElem?_map, itA]; rfl), _, rfl, _, rfl, _, _, rfl, rfl, _, rfl, q, _, rfl, .inl (SqL.of hq1), _, _, rfl, rfl, (by show (0 : Int) < (((tupRefs us).length : Nat) : Int); rw [szq]; omega), D, _, _, .int b1, rfl, rfl, SqL.of h1, ?_, _, _, rfl, ?_⟩
        · rw [z1]
          exact atI_nat (by rw [List.getElem?_map, itB]; rfl)
        refine ⟨_, rfl, _, rfl, p0.1, _, rfl, .inl hS, rfl, flat_ints _, _, rfl, ?_⟩
        show if (!inV (.int a1) (l1.map V.int)) = true then _ else _
        rw [inV_ints, List.contains_iff_mem.mpr (List.mem_of_getElem? ha)]
        refine iteF ?_
        refine ⟨_, rfl, _, rfl, p0.1, _, rfl, .inl hS, rfl, flat_ints _, _, rfl, ?_⟩
        show if (!inV (.int b1) (l1.map V.int)) = true then _ else _
        rw [inV_ints, List.contains_iff_mem.mpr (List.mem_of_getElem? hb)]
        refine iteF ?_
        have idx : ∀ (z : Int) (n : Nat), l1[n]? = some z → (∀ m, m < n → l1[m]? ≠ some z) → ∀ (m : Nat) (z' : V), m < n → (l1.map V.int)[m]? = some z' → eqV z' (.int z) = false := fun z n _ no m z' hm hz => by
          obtain ⟨y, hy, rfl⟩ := get_map hz
          show (y == z) = false
          exact beq_eq_false_iff_ne.mpr fun e => no m hm (by rw [hy, e])
        refine ⟨_, rfl, .inl ⟨rfl, _, hS⟩, _, rfl, p0.1, _, .int a1, ia, .int a1, rfl, rfl, hS, rfl, flat_ints _, by rw [List.getElem?_map, ha]; rfl, beq_self_eq_true a1, idx a1 ia ha na, ?_⟩
        refine ⟨_, rfl, .inl ⟨rfl, _, hS⟩, _, rfl, p0.1, _, .int b1, ib, .int b1, rfl, rfl, hS, rfl, flat_ints _, by rw [List.getElem?_map, hb]; rfl, beq_self_eq_true b1, idx b1 ib hb nb, _, _, rfl, rfl, _, rfl, ?_⟩
        rw [decide_eq_false (by omega)]
        exact iteF ⟨rfl, _, _, _, _, _, rfl⟩
      · rintro σ G ⟨rfl, _⟩
        exact k _ s1
end
end Lw

set_option Elab.async false
set_option linter.all false
set_option maxRecDepth 100000
set_option maxHeartbeats 8000000
/-! set(xs) of a list of ints. -/
namespace Two
open PySem PySem.Spec PyProof.Rows L2
section
variable {P : Program} {w : World} {A : Around} {E : Value → Shared → Prop} {s : Shared}
/-- the object of an empty set -/
abbrev setOb (w : World) : Obj := { cls := .type "set", dict := none, data := .set #[] 0 (.fresh 0 0 (!w.params.followText "set-order")) }
theorem call_set_lstI {l : Addr} {its : Array Value} (ns : List Int) {Q : Value → Shared → Prop} (hh : A.handled = none) (hl : s.heap.IsList l its) (hi : IntsAre its.toList ns) (hb : ns.length + 1 < scanBound)
    (h : ∀ (h' : Heap) (tk c : Nat), SetR w h' s.heap.objs.size (fun j => decide (j ∈ ns)) c → (∀ b o, s.heap.get? b = some o → h'.get? b = some o) → Q (.ref s.heap.objs.size) { s with heap := h', toks := tk }) :
    wpAny (model P w) A (call (.type "set") [.ref l]) Q E s := by
  have size : its.size = ns.length := by have q := hi.length; rwa [Array.length_toList] at q
  obtain ⟨c, tl, hmro⟩ := F.called_set.mro
  have hmade := F.called_set.made
  have hsub := F.called_set.sub
  refine wpAny_call (codeAny_of_tree ?_)
  show wpAny _ _ (callAny (.type "set") _) _ _ _
  refine wpAny_pure ⟨Code.quiet_builtin _ (by decide +kernel), codeAny_builtin F.entry_type_call ?_⟩
  rw [Around.under_plain (weight_type_call_type "set" [.ref l] []) rfl]
  have h1 := F.called_set.notType
  have h2 := F.called_set.canCreate
  have h3 := F.typeCall_set_1 (.ref l)
  repeat (any_goals (first | assumption | wp_step))
  refine codeAny_mono (code_set_led1 (.ref l) (E := E) (Q₁ := fun ob z => ob = .ref s.heap.objs.size ∧ z = { s with heap := s.heap.push (setOb w) }) ⟨rfl, rfl⟩) fun r z hr => ?_
  match r, hr with
  | .error e, hr => exact hr
  | .ok .next, hr => exact hr.elim
  | .ok .brk, hr => exact hr.elim
  | .ok .cont, hr => exact hr.elim
  | .ok (.ret ob), hr =>
    obtain ⟨rfl, rfl⟩ := hr
    have new : (s.heap.push (setOb w)).get? s.heap.objs.size = some (setOb w) := Heap.get?_push_size _ rfl
    have hT : Shared.TypeIs { s with heap := s.heap.push (setOb w) } (.ref s.heap.objs.size) "set" := ⟨_, new, rfl⟩
    have i1 := F.called_set.init.lookup
    have i2 := F.called_set.init.bind (.ref s.heap.objs.size)
    repeat (any_goals (first | assumption | wp_step))
    refine codeAny_mono (codeAny_call_builtin (R := wants (fun r y => r = .none ∧ ∃ h' tk c, y = { s with heap := h', toks := tk } ∧ SetR w h' s.heap.objs.size (fun j => decide (j ∈ ns)) c ∧ (∀ b o, s.heap.get? b = some o → h'.get? b = some o)) E)
      F.called_set.init.plain F.entry_set_init (check_set_init_1 hT ?_)) fun r y hr => ?_
    · obtain ⟨⟨ocls, odict, odata, oslots⟩, hol, hcl, nl, hdl⟩ := hl
      have hcl : ocls = .type "list" := hcl
      have hdl : odata = .seq its nl := hdl
      subst hcl hdl
      have kept : (s.heap.push (setOb w)).get? l = some { cls := .type "list", dict := odict, data := .seq its nl, slots := oslots } := Heap.get?_push_of_some _ hol
      have t1 := F.sub_list_set
      have t2 := F.sub_list_frozenset
      have t3 : (Value.type "list" == Value.type "dict") = false := by decide
      have isL : (s.heap.push (setOb w)).IsList l its := ⟨_, kept, rfl, nl, rfl⟩
      unfold Builtin.«set.__init__» noKeywords Builtin.Frozenset.updateFrom
      generalize hPI : pyIter = PI
      wp_walk
      subst hPI
      refine wpAny_pyIter_list isL ?_
      refine wpAny_bind (wpAny_runValue ?_)
      have lS : l < s.heap.objs.size := Heap.lt_size hol
      have hh3 : A.in1.in1.in1.handled = none := by simp [hh]
      have ne1 : l ≠ (s.heap.push (setOb w)).objs.size := by rw [Heap.size_push]; exact Nat.ne_of_lt (Nat.lt_succ_of_lt lS)
      have out : s.heap.objs.size ∉ [(s.heap.push (setOb w)).objs.size, l] := by
        rw [Heap.size_push]
        simp only [List.mem_cons, List.not_mem_nil, or_false, not_or]
        exact ⟨Nat.ne_of_lt (Nat.lt_succ_self _), Nat.ne_of_gt lS⟩
      have val : ∀ (i : Nat) (v : Value), its[i]? = some v → ∃ k t, ns[i]? = some k ∧ v = .int k t := fun i v hv => by
        have lt : i < ns.length := by rw [← size]; exact (Array.getElem?_eq_some_iff.mp hv).1
        obtain ⟨t, e⟩ := hi.int_at i v (by rw [Array.getElem?_toList]; exact hv)
        exact ⟨ns[i], t, List.getElem?_eq_getElem lt, by rw [e, List.getD_eq_getElem?_getD, List.getElem?_eq_getElem lt] <;> rfl⟩
      refine set_update_ints ((Walks.list hh3 _ l ne1 its).toS) s.heap.objs.size out ns size hb val (its.size - 0) 0 _ (by omega) (Nat.zero_le _) ⟨⟨_, Heap.get?_push_size _ rfl, rfl, rfl⟩, isL.push _⟩
        ⟨0, Nat.le_refl 0, setR_new_at (Heap.get?_push_of_some _ new)⟩ ?_
      intro y c' hm hc' hS
      obtain ⟨h', g2, d', tk', os'⟩ := y
      obtain rfl : g2 = s.gens := hm.gens
      obtain rfl : d' = s.drawn := hm.drawn
      obtain rfl : os' = s.os := hm.os
      show wpAny _ _ _ _ _ _
      refine wpAny_pure ?_
      show wpAny _ _ (ret Value.none) _ _ _
      refine wpAny_pure ⟨rfl, h', tk', c', rfl, hS, fun b o e => ?_⟩
      have lt0 : b < s.heap.objs.size := Heap.lt_size e
      refine hm.heap b o ?_ (Heap.get?_push_of_some _ (Heap.get?_push_of_some _ e))
      simp only [List.mem_cons, List.not_mem_nil, or_false, not_or]
      exact ⟨Nat.ne_of_lt lt0, by rw [Heap.size_push]; exact Nat.ne_of_lt (Nat.lt_succ_of_lt lt0)⟩
    · match r, hr with
      | .error e, hr => exact hr
      | .ok .next, hr => exact hr.elim
      | .ok .brk, hr => exact hr.elim
      | .ok .cont, hr => exact hr.elim
      | .ok (.ret r), hr =>
        obtain ⟨rfl, h', tk, c', rfl, hS, hk⟩ := hr
        repeat (any_goals (first | assumption | wp_step))
        exact h _ _ _ hS hk
end
theorem nodup_le_len : ∀ {l m : List Int}, l.Nodup → (∀ x ∈ l, x ∈ m) → l.length ≤ m.length
  | [], _, _, _ => Nat.zero_le _
  | a :: l, m, nd, h => by
    have nd := List.nodup_cons.mp nd
    have ha := h a List.mem_cons_self
    have q := nodup_le_len (l := l) (m := m.erase a) nd.2 fun x hx => (List.mem_erase_of_ne (fun e : x = a => nd.1 (by rw [← e]; exact hx))).mpr (h x (List.mem_cons_of_mem _ hx))
    have e := List.length_erase_of_mem ha
    have := List.length_pos_of_mem ha
    simp only [List.length_cons]
    omega
section
variable {X : Cx}
/-- set(xs), xs a list of ints that are all of U -/
def rSetL (K : PySem.W.Frag) (w : World) : List V → Hp → VK → Prop := fun vs H Q => ∃ (a : Addr) (ns U : List Int), vs = [V.ref a] ∧ SqL K H a (ns.map V.int) ∧ ns.length ≤ 1000 ∧ (∀ z ∈ ns, z ∈ U) ∧
  ∀ (p : Addr) (c : Nat), H p = none → c ≤ U.length → Q (.ref p) (upd H p (SetO w p (fun j => decide (j ∈ ns)) c))
theorem cr_setL (hc : X.calm = true) : CallR X (.type "set") (rSetL X.K X.w) := by
  intro pins s σ H vs us Q I r h
  obtain ⟨a, ns, U, rfl, hs, hz, hU, q⟩ := h
  rw [Vals.ref1 r]
  obtain ⟨its, rv, pl, _⟩ := I.list hs
  refine call_set_lstI ns (I.ok.hd hc) pl.isList (by simpa using RZ.intsAre_vals rv) (by unfold scanBound; omega) fun h' tk c R k => ?_
  have few : c ≤ U.length := by
    obtain ⟨o, es, ep, t, _, _, _, _, nd, mem, _, _, hn, _⟩ := R
    have e : (es.toList.map keyOf).length = c := by rw [List.length_map, Array.length_toList, hn]
    rw [← e]
    exact nodup_le_len nd fun x hx => hU x (of_decide_eq_true ((mem x).mpr hx))
  exact ⟨.ref _, _, I.laid (t' := tk) k (Nat.le_refl _) (setO_new R), rfl, q _ c (I.hok.fresh (Nat.le_refl _)) few⟩
end
end Two

set_option Elab.async false
set_option linter.all false
set_option maxRecDepth 100000
set_option maxHeartbeats 4000000
namespace Lw
open PySem L2 Two Pr
abbrev sItems : Stmt := top 41
abbrev sSome : Stmt := top 42
abbrev sTurned : Stmt := top 43
abbrev sLists : Stmt := top 44
structure TxtL (mg : Str → Option Value) : Prop where
  base : Txt mg
  sorted : mg "sorted" = none
  repr : mg "repr" = none
def Big (z : Int) : Prop := z.natAbs ≤ 10 ^ 30
def rMul : R2 := rI CMul fun i j => .int (i * j)
def rSub : R2 := rI0 fun i j => .int (i - j)
def rLt : R2 := rI0 fun i j => .bl (decide (i < j))
theorem but_trans {l : Addr} {H H1 H2 : Hp} (a : But (· = l) H H1) (b : But (· = l) H1 H2) : But (· = l) H H2 := fun p o n e => b p o n (a p o n e)
theorem but_same {l : Addr} {H H1 : Hp} (a : Same H H1) : But (· = l) H H1 := fun p o _ e => a p o e
theorem but_new {l p : Addr} {H H1 : Hp} {o : HO} (a : But (· = l) H H1) (n : H p = none) : But (· = l) H (upd H1 p o) := fun b u nb e => by
  rw [upd_ne (ne_of_none e n)]
  exact a b u nb e
theorem but_none {l p : Addr} {H H1 : Hp} (a : But (· = l) H H1) (n : H1 p = none) (ne : p ≠ l) : H p = none := by
  cases h : H p with
  | none => rfl
  | some o => rw [a p o ne h] at n; cases n
theorem src_none {H : Hp} {l p : Addr} {n : Nat} (s : Src H l n) (h : H p = none) : p ≠ l := fun e => by
  obtain ⟨x, y, c, e2, _⟩ := s
  rw [e, e2] at h
  cases h
theorem Src.upd {H : Hp} {l p : Addr} {n : Nat} {o : HO} (s : Src H l n) (h : p ≠ l) : Src (upd H p o) l n := by
  obtain ⟨x, y, c, e2, r⟩ := s
  exact ⟨x, y, c, by rw [upd_ne h.symm]; exact e2, r⟩
section
variable {P : Program} {w : World} {K : PySem.W.Frag} {mg : Str → Option Value} {base : Heap}
/-! ### _law_items -/
def spItems : Sp := fun vs H Q _ => ∃ (l : Addr) (m n : Nat), vs = [.ref l, .int m] ∧ m ≤ 20 ∧ Src H l n ∧ n ≤ 900000 ∧
  ∀ (H' : Hp) (r : Addr) (its : List Int), But (· = l) H H' → Src H' l (n + 64) → H r = none → H' r = some (.lst (its.map V.int)) → its.Nodup → its.length ≤ m + 2 → (∀ z ∈ its, Big z) → Q (.ref r) H'
abbrev nItems : List Str := ["_law_source_here", "_law_count", "_law_left", "_law_found", "_law_k"]
theorem scItems : FnScope nItems ["_law_source_here", "_law_count"] (defScope sItems) := ⟨rfl, rfl, rfl, by decide +kernel, rfl, by decide +kernel, by decide +kernel⟩
/-- k * pick(source, [1, 7]) - draw(source, 3) * 100 -/
def tDrawn (K : PySem.W.Frag) : TE := tOp rSub (tOp rMul (tVar 4) (tCall (spPick K) [] E0 (tCons (tVar 0) (tCons (tLst (tCons (tC (.int 1)) (tCons (tC (.int 7)) tNil))) tNil)))) (tOp rMul (tCall spDraw [] E0 (tCons (tVar 0) (tCons (tC (.int 3)) tNil))) (tC (.int 100)))
theorem pair_lt_nodup {l : List Int} (h : l.Pairwise (· < ·)) : l.Nodup := List.Pairwise.imp (fun {a b} (k : a < b) => by omega) h
theorem erase_perm' : ∀ {l : List Int} {k : Nat} {y : Int}, l[k]? = some y → (y :: l.eraseIdx k).Perm l
  | [], k, y, h => by simp at h
  | a :: l, 0, y, h => by
    have e : a = y := Option.some.inj h
    rw [e]
    exact List.Perm.refl _
  | a :: l, k + 1, y, h => (List.Perm.swap a y _).trans ((erase_perm' (l := l) (k := k) (y := y) h).cons a)
theorem map_erase' {α β : Type} (f : α → β) : ∀ (l : List α) (k : Nat), (l.map f).eraseIdx k = (l.eraseIdx k).map f
  | [], _ => rfl
  | _ :: _, 0 => rfl
  | a :: l, k + 1 => congrArg (f a :: ·) (map_erase' f l k)
theorem seq_nat' {n k : Nat} (h : k < n) : seqIndex? (k : Int) n = some k := by
  unfold seqIndex?
  have a : ¬ (k : Int) < 0 := by omega
  simp only [a, if_false]
  have b : (0 ≤ (k : Int)) := by omega
  have c : ((k : Int) < n) := by omega
  rw [decide_eq_true b, decide_eq_true c]
  rfl
theorem ok_items {f fD fP : Addr} {fd dD dP : FuncData} (F : Fun K "_law_items" "_law_items" sItems f fd) (T : TxtL mg)
    (gD : mg "_law_draw" = some (.ref fD)) (kD : PySem.W.keepIn K (.ref fD) = true) (bD : Binds K dD ["_law_source_here", "_law_size"] []) (GD : FnOk P w K mg base CX0 1 fD dD ["_law_source_here", "_law_size"] spDraw)
    (gP : mg "_law_pick" = some (.ref fP)) (kP : PySem.W.keepIn K (.ref fP) = true) (bP : Binds K dP ["_law_source_here", "_law_items_here"] []) (GP : FnOk P w K mg base CX0 2 fP dP ["_law_source_here", "_law_items_here"] (spPick K)) :
    FnOk P w K mg base CX0 3 f fd ["_law_source_here", "_law_count"] spItems := by
  refine F.ok scItems (fun vs H Q E h => ?_) (fun cdv A outer s H vs Q E hr h => ?_)
  · obtain ⟨l, m, n, rfl, _⟩ := h
    rfl
  · obtain ⟨l, m, n, rfl, hm, src, hn, k⟩ := h
    have hr1 : Room 1 _ := hr.mono (by decide)
    refine ⟨_, pss_cons (ps_setLc (i := 2) (own := [("_law_k", 4)]) (g := gName 4) (tt := tYes) (te := tDrawn K) rfl scItems.nd rfl rfl (sw_true rfl rfl rfl (by decide +kernel)) (pi_range1 rfl T.base.range (pa_cons (pv 1) pa_nil)) (blkOk_by (N := nItems) (sc := defScope sItems) (by decide +kernel))
          (fun _ _ _ _ _ => pg_name (i := 4) scItems.nd rfl (Or.inl rfl)) (fun _ _ _ _ _ => pts_nil) (fun _ _ _ _ _ => pe_op op_sub (pe_op op_mul (pv 4) (pe_call GP hr rfl gP kP bP .nil pass0 (pa_cons (pv 0) (pa_cons (pe_lst (pa_cons pe_int (pa_cons pe_int pa_nil))) pa_nil))))
            (pe_op op_mul (pe_call GD hr1 rfl gD kD bD .nil pass0 (pa_cons (pv 0) (pa_cons pe_int pa_nil))) pe_int)))
      (pss_cons (ps_set (i := 2) scItems.nd rfl (Or.inl rfl) (pe_callB (cr_sortedSet rfl) (by rfl) T.sorted (by decide +kernel) (pa_cons (pe_callTy (cr_setL rfl) (by rfl) T.base.set (by decide +kernel) (pa_cons (pe_op op_cat (pv 2) (pe_lst (pa_cons (pe_op op_pow pe_int pe_int) (pa_cons (pe_op op_sub pe_int (pe_op op_pow pe_int pe_int)) pa_nil)))) pa_nil)) pa_nil)))
      (pss_cons (ps_set (i := 3) scItems.nd rfl (Or.inl rfl) (pe_lst pa_nil))
      (pss_cons (ps_while PassesOwn.never (pt_cmpR (op_neD hr.units) (pv 2) (pe_lst pa_nil) (nomark _))
        (pss_one (ps_expr (pe_bm PySem.F.plainAttrs_list PySem.F.slot_list_append PySem.F.type_list_append mt_append (pv 3) (pa_cons (pe_bm PySem.F.plainAttrs_list PySem.F.slot_list_pop PySem.F.type_list_pop mt_popAt (pv 2)
          (pa_cons (pe_call GD hr1 rfl gD kD bD .nil pass0 (pa_cons (pv 0) (pa_cons (pe_callB call_len_seq (by rfl) T.base.len PySem.boot_len (pa_cons (pv 2) pa_nil)) pa_nil))) pa_nil)) pa_nil)))))
      (pss_one (ps_ret (pv 3)))))), ?_⟩
    have tn : ((m : Nat) : Int).toNat = m := rfl
    refine ⟨_, rfl, _, rfl, by omega, by omega, ?_⟩
    rw [tn]
    refine fun D hD => lc_range (lo := 0) (n := m) (fun j G => ∃ zs : List Int, But (· = l) H G ∧ Src G l (n + 2 * j) ∧ G D = some (.lst (zs.map V.int)) ∧ zs.length = j ∧ ∀ z ∈ zs, z.natAbs ≤ 1000)
      ⟨[], but_new (but_same (Same.refl H)) hD, src.upd (src_none src hD), upd_same, rfl, fun z hz => nomatch hz⟩ (fun j G hj p => ?_) (fun G p => ?_)
    · obtain ⟨zs, b1, src1, hG, lz, hz⟩ := p
      refine ⟨rfl, ?_⟩
      unfold tYes
      simp only [if_true]
      refine ⟨_, rfl, _, rfl, by show 2 ≤ sizeLine; decide, fun p hp => ?_⟩
      have pl := src_none src1 hp
      refine ⟨l, p, n + 2 * j, _, rfl, src1.upd pl, by omega, SqL.of upd_same, pl, by simp, by show 2 ≤ 1000; decide, fun G2 x b2 src2 hx => ?_⟩
      obtain ⟨xi, rfl, x0, x1⟩ : ∃ xi : Int, x = .int xi ∧ 0 ≤ xi ∧ xi ≤ 7 := by
        rcases List.mem_cons.mp hx with rfl | hx
        · exact ⟨1, rfl, by decide, by decide⟩
        · rw [List.mem_singleton.mp hx]; exact ⟨7, rfl, by decide, by decide⟩
      refine ⟨_, _, rfl, rfl, .inr ⟨by omega, by omega⟩, ?_⟩
      refine ⟨_, rfl, l, 3, n + 2 * j + 1, rfl, by decide, by decide, src2, by omega, fun G3 d b3 src3 d0 d1 => ?_⟩
      refine ⟨_, _, rfl, rfl, .inr ⟨by decide, by decide⟩, _, _, rfl, rfl, ?_⟩
      have DL : D ≠ l := src_none src hD
      have pD : D ≠ p := ne_of_none hG hp
      have hG3 : G3 D = some (.lst (zs.map V.int)) := b3 _ _ DL (b2 _ _ DL (by rw [upd_ne pD]; exact hG))
      refine ⟨_, hG3, small1000 (by rw [List.length_map]; omega), zs ++ [((0 : Int) + (j : Nat)) * xi - d * 100], but_new (but_trans b1 (but_trans (but_same (same_new hp)) (but_trans b2 b3))) hD, (src3.upd DL).more (by omega), by rw [upd_same, List.map_append]; rfl, by rw [List.length_append, lz]; rfl, fun z hz' => ?_⟩
      rcases List.mem_append.mp hz' with q | q
      · exact hz z q
      · rw [List.mem_singleton.mp q]
        have h1 : (0 + (j : Int)) * xi ≤ 20 * 7 := Int.mul_le_mul (by omega) x1 x0 (by decide)
        have h2 : 0 ≤ (0 + (j : Int)) * xi := Int.mul_nonneg (by omega) x0
        omega
    · obtain ⟨zs, b1, src1, hG, lz, hz⟩ := p
      have DL : D ≠ l := src_none src hD
      refine ⟨_, rfl, _, _, rfl, rfl, by unfold CPow; decide, _, _, rfl, rfl, by unfold CPow; decide, _, _, rfl, rfl, by show 2 ≤ sizeLine; decide, fun p hp => ?_⟩
      have pD : D ≠ p := ne_of_none hG hp
      have s2 : Same G (upd G p (.lst [.int ((10 : Int) ^ (30 : Int).toNat), .int (0 - (10 : Int) ^ (20 : Int).toNat)])) := same_new hp
      refine ⟨D, p, _, _, rfl, rfl, s2 _ _ hG, upd_same, by rw [List.length_map]; exact Nat.le_of_lt (small1000 (by show zs.length + 2 ≤ 1000; omega)), fun q hq => ?_⟩
      have s3 := s2.trans (same_new (o := .lst (zs.map V.int ++ [.int ((10 : Int) ^ (30 : Int).toNat), .int (0 - (10 : Int) ^ (20 : Int).toNat)])) hq)
      obtain ⟨all, hall⟩ : ∃ all : List Int, all = zs ++ [(10 : Int) ^ (30 : Int).toNat, 0 - (10 : Int) ^ (20 : Int).toNat] := ⟨_, rfl⟩
      have eall : zs.map V.int ++ [.int ((10 : Int) ^ (30 : Int).toNat), .int (0 - (10 : Int) ^ (20 : Int).toNat)] = all.map V.int := by rw [hall, List.map_append]; rfl
      rw [eall] at s3 ⊢
      have lall : all.length = m + 2 := by rw [hall, List.length_append, lz]; rfl
      have bigA : ∀ z ∈ all, Big z := fun z hz' => by
        rw [hall] at hz'
        unfold Big
        rcases List.mem_append.mp hz' with h | h
        · have := hz z h
          have : (1000 : Nat) ≤ 10 ^ 30 := by decide
          omega
        · rcases List.mem_cons.mp h with rfl | h
          · decide
          · rw [List.mem_singleton.mp h]; decide
      refine ⟨q, all, all, rfl, SqL.of upd_same, by omega, fun z h => h, fun S c hS hc => ?_⟩
      have s4 := s3.trans (same_new (o := SetO w S (fun j => decide (j ∈ all)) c) hS)
      refine ⟨S, _, c, rfl, upd_same, by omega, fun ys Lf pw mem len hLf => ?_⟩
      have s5 := s4.trans (same_new (o := .lst (ys.map V.int)) hLf)
      have hLf5 : (upd (upd (upd (upd G p (.lst [.int ((10 : Int) ^ (30 : Int).toNat), .int (0 - (10 : Int) ^ (20 : Int).toNat)])) q (.lst (all.map V.int))) S (SetO w S (fun j => decide (j ∈ all)) c)) Lf (.lst (ys.map V.int))) Lf = some (.lst (ys.map V.int)) := upd_same
      have src5 := src1.keep s5
      have Lfl : Lf ≠ l := src_none (src1.keep s4) hLf
      refine ⟨Nat.zero_le _, fun Fd hFd => ?_⟩
      have b5 := but_trans b1 (but_same s5)
      have nFd : H Fd = none := but_none b5 hFd (src_none src5 hFd)
      have Fdl := src_none src5 hFd
      have nLf : H Lf = none := but_none (but_trans b1 (but_same s4)) hLf Lfl
      have FL : Lf ≠ Fd := ne_of_none hLf5 hFd
      have bigY : ∀ y ∈ ys, Big y := fun y hy => bigA y (of_decide_eq_true ((mem y).mp hy))
      have ndY := pair_lt_nodup pw
      refine while_m (fun j σ G => ∃ (left found : List Int) (n' : Nat), j = left.length ∧ σ = [some (.ref l), some (.int m), some (.ref Lf), some (.ref Fd), none] ∧ But (· = l) H G ∧ Src G l n' ∧ G Lf = some (.lst (left.map V.int)) ∧ G Fd = some (.lst (found.map V.int)) ∧ (found ++ left).Perm ys ∧ n' + left.length ≤ n + 2 * m + ys.length)
        ⟨_, ys, [], n + 2 * m, rfl, rfl, but_new b5 nFd, src5.upd Fdl, by rw [upd_ne FL]; exact hLf5, upd_same, List.Perm.refl _, Nat.le_refl _⟩ ?_ ?_
      · rintro j σ G6 ⟨left, found, n', rfl, rfl, b6, src6, hL6, hF6, pm, bud⟩
        refine ⟨_, rfl, Nat.zero_le _, fun p1 hp1 => ⟨intsD left, .list [], dp_list (SqL.of (by rw [upd_ne (ne_of_none hL6 hp1)]; exact hL6)), dp_nil upd_same, shaped_ints _, shaped_nil, _, rfl, ?_⟩⟩
        rw [eqv_nil]
        have s7 : Same G6 (upd G6 p1 (.lst [])) := same_new hp1
        generalize upd G6 p1 (.lst []) = G7 at s7
        have b7 := but_trans b6 (but_same s7)
        cases left with
        | nil =>
          refine iteF ?_
          rw [List.append_nil] at pm
          exact ⟨_, rfl, k G7 Fd found b7 ((src6.keep s7).more (by omega)) nFd (s7 _ _ hF6) (pm.nodup_iff.mpr ndY) (by rw [pm.length_eq]; omega) fun z hz => bigY z (pm.mem_iff.mp hz)⟩
        | cons y0 left' =>
          refine iteT ?_
          have lenp := pm.length_eq
          rw [List.length_append] at lenp
          have lenY : ys.length ≤ 22 := by omega
          refine ⟨_, rfl, .inl ⟨rfl, _, SqL.of (s7 _ _ hF6)⟩, _, rfl, .inl ⟨rfl, _, SqL.of (s7 _ _ hL6)⟩, _, rfl, _, rfl, Lf, _, rfl, .inl (SqL.of (s7 _ _ hL6)), l, _, n', rfl, by rw [List.length_map, List.length_cons]; omega, by rw [List.length_map]; omega, src6.keep s7, by omega, fun G8 d b8 src8 d0 d1 => ?_⟩
          rw [List.length_map] at d1
          obtain ⟨d', rfl⟩ := Int.eq_ofNat_of_zero_le d0
          have dl : d' < (y0 :: left').length := by omega
          have hget : (y0 :: left')[d']? = some (y0 :: left')[d'] := List.getElem?_eq_getElem dl
          generalize (y0 :: left')[d'] = y at hget
          have hL8 := b8 _ _ Lfl (s7 _ _ hL6)
          have hF8 := b8 _ _ Fdl (s7 _ _ hF6)
          refine ⟨Lf, _, (d' : Nat), d', .int y, rfl, rfl, hL8, by omega, by omega, by rw [List.length_map]; exact seq_nat' dl, by rw [List.getElem?_map, hget]; rfl, ?_⟩
          refine ⟨Fd, _, .int y, rfl, rfl, by rw [upd_ne FL.symm]; exact hF8, small1000 (by rw [List.length_map]; omega), ?_⟩
          have el : ((y0 :: left').eraseIdx d').length + 1 = (y0 :: left').length := by
            have q := (erase_perm' hget).length_eq
            rw [List.length_cons] at q
            exact q
          refine ⟨((y0 :: left').eraseIdx d').length, by omega, (y0 :: left').eraseIdx d', found ++ [y], n' + 1, rfl, rfl, but_new (but_new (but_trans b7 b8) nLf) nFd, (src8.upd Lfl).upd Fdl, by rw [upd_ne FL, upd_same, map_erase'], by rw [upd_same, List.map_append]; rfl, ?_, by omega⟩
          have q : ((found ++ [y]) ++ (y0 :: left').eraseIdx d').Perm (found ++ (y0 :: left')) := by
            rw [List.append_assoc]
            exact (erase_perm' hget).append_left found
          exact q.trans pm
      · rintro σ G Q1 Q2 imp ⟨x, hx, z, h⟩
        exact ⟨x, hx, z, fun p hp => let ⟨d, e, h1, h2, h3, h4, c, h5, h6⟩ := h p hp; ⟨d, e, h1, h2, h3, h4, c, h5, imp _ _ h6⟩⟩
end
end Lw

set_option Elab.async false
set_option linter.all false
set_option maxRecDepth 100000
set_option maxHeartbeats 4000000
namespace Lw
open PySem L2 Two Pr
section
variable {P : Program} {w : World} {K : PySem.W.Frag} {mg : Str → Option Value} {base : Heap}
/-! ### _law_some -/
def spSome (K : PySem.W.Frag) : Sp := fun vs H Q _ => ∃ (l b : Addr) (n : Nat) (its : List Int), vs = [.ref l, .ref b] ∧ Src H l n ∧ n ≤ 900000 ∧ SqL K H b (its.map V.int) ∧ b ≠ l ∧ its.length ≤ 30 ∧
  ∀ (H' : Hp) (r : Addr) (ts : List Int), But (· = l) H H' → Src H' l (n + 31) → H r = none → H' r = some (.lst (ts.map V.int)) → ts.Sublist its → Q (.ref r) H'
abbrev nSome : List Str := ["_law_source_here", "_law_items_here", "_law_share", "_law_item"]
theorem scSome : FnScope nSome ["_law_source_here", "_law_items_here"] (defScope sSome) := ⟨rfl, rfl, rfl, by decide +kernel, rfl, by decide +kernel, by decide +kernel⟩
theorem ok_some {f fD : Addr} {fd dD : FuncData} (F : Fun K "_law_some" "_law_some" sSome f fd) (T : Txt mg)
    (gD : mg "_law_draw" = some (.ref fD)) (kD : PySem.W.keepIn K (.ref fD) = true) (bD : Binds K dD ["_law_source_here", "_law_size"] []) (GD : FnOk P w K mg base CX0 1 fD dD ["_law_source_here", "_law_size"] spDraw) :
    FnOk P w K mg base CX0 2 f fd ["_law_source_here", "_law_items_here"] (spSome K) := by
  refine F.ok scSome (fun vs H Q E h => ?_) (fun cdv A outer s H vs Q E hr h => ?_)
  · obtain ⟨l, b, n, its, rfl, _⟩ := h
    rfl
  · obtain ⟨l, b, n, its, rfl, src, hn, hS, ne, hl, k⟩ := h
    refine ⟨_, pss_cons (ps_set (i := 2) scSome.nd rfl (Or.inr rfl) (pe_op op_add pe_int (pe_call GD hr rfl gD kD bD .nil pass0 (pa_cons (pv 0) (pa_cons pe_int pa_nil)))))
      (pss_one (ps_ret (pe_lc (own := [("_law_item", 3)]) (g := gName 3) (tt := tTest (tOp rLt (tCall spDraw [] E0 (tCons (tVar 0) (tCons (tC (.int 4)) tNil))) (tVar 2))) (te := tVar 3) rfl scSome.nd (pi_list (pv 1)) (blkOk_by (N := nSome) (sc := defScope sSome) (by decide +kernel))
          (fun _ _ _ _ _ => pg_name (i := 3) scSome.nd rfl (Or.inl rfl)) (fun _ _ _ _ _ => pts_one (pt_cmpR op_lt (pe_call GD hr rfl gD kD bD .nil pass0 (pa_cons (pv 0) (pa_cons pe_int pa_nil))) (pv 2) (nomark _))) (fun _ _ _ _ _ => pv 3)))), ?_⟩
    refine ⟨_, rfl, l, 4, n, rfl, by decide, by decide, src, by omega, fun H1 d b1 src1 d0 d1 => ?_⟩
    refine ⟨_, _, rfl, rfl, ?_⟩
    refine ⟨_, rfl, b, rfl, ⟨_, but_seq b1 ne hS⟩, fun D hD => ?_⟩
    have nD : H D = none := but_none b1 hD (src_none src1 hD)
    have Dl := src_none src1 hD
    refine lc_list (K := K) (a := b) (xs := its.map V.int) (fun j G => ∃ ts : List Int, But (· = l) H G ∧ Src G l (n + 1 + j) ∧ G D = some (.lst (ts.map V.int)) ∧ ts.Sublist (its.take j))
      ⟨[], but_new b1 nD, src1.upd Dl, upd_same, List.nil_sublist _⟩ (fun j G _ ⟨_, p, _⟩ => but_seq p ne hS) (fun j x G hx p => ?_) (fun G p => ?_)
    · obtain ⟨ts, b2, src2, hG, sub⟩ := p
      obtain ⟨z, hz, rfl⟩ := get_map hx
      have hj := (List.getElem?_eq_some_iff.mp hz).1
      refine ⟨rfl, ?_⟩
      refine ⟨_, rfl, l, 4, n + 1 + j, rfl, by decide, by decide, src2, by omega, fun G2 e b3 src3 e0 e1 => ?_⟩
      refine ⟨_, rfl, _, _, rfl, rfl, _, rfl, ?_⟩
      have hG2 := b3 _ _ Dl hG
      have lts := sub.length_le
      rw [List.length_take] at lts
      cases hb : decide (e < 1 + d) with
      | false =>
        refine iteF ⟨ts, but_trans b2 b3, src3, hG2, ?_⟩
        rw [take_snoc hz]
        exact sub.trans (List.sublist_append_left _ _)
      | true =>
        refine iteT ⟨_, rfl, _, hG2, small1000 (by rw [List.length_map]; omega), ts ++ [z], but_new (but_trans b2 b3) nD, src3.upd Dl, by rw [upd_same, List.map_append]; rfl, ?_⟩
        rw [take_snoc hz]
        exact sub.append (List.Sublist.refl _)
    · obtain ⟨ts, b2, src2, hG, sub⟩ := p
      rw [List.length_map] at src2 sub
      rw [List.take_length] at sub
      exact k G D ts b2 (src2.more (by omega)) nD hG sub
/-! ### _law_turned -/
def spTurned (K : PySem.W.Frag) : Sp := fun vs H Q _ => ∃ (l b : Addr) (n : Nat) (its : List Int), vs = [.ref l, .ref b] ∧ Src H l n ∧ n ≤ 900000 ∧ SqL K H b (its.map V.int) ∧ b ≠ l ∧ its.length ≤ 30 ∧
  ∀ (H' : Hp) (r : Addr) (ts : List Int), But (· = l) H H' → Src H' l (n + 3) → H r = none → H' r = some (.lst (ts.map V.int)) → ts.Perm its → Q (.ref r) H'
abbrev nTurned : List Str := ["_law_source_here", "_law_items_here", "_law_found", "_law_at", "_law_other"]
theorem scTurned : FnScope nTurned ["_law_source_here", "_law_items_here"] (defScope sTurned) := ⟨rfl, rfl, rfl, by decide +kernel, rfl, by decide +kernel, by decide +kernel⟩
theorem ixN_nat' {n k : Nat} (h : k < n) : ixN n (k : Int) = some k := by
  unfold ixN
  rw [if_pos (by omega), if_pos (by omega)]
  rfl
theorem map_set' {α β : Type} (f : α → β) : ∀ (l : List α) (k : Nat) (x : α), (l.map f).set k (f x) = (l.set k x).map f
  | [], _, _ => rfl
  | _ :: _, 0, _ => rfl
  | a :: l, k + 1, x => congrArg (f a :: ·) (map_set' f l k x)
theorem ok_turned {f fD fP : Addr} {fd dD dP : FuncData} (F : Fun K "_law_turned" "_law_turned" sTurned f fd) (T : Txt mg)
    (gD : mg "_law_draw" = some (.ref fD)) (kD : PySem.W.keepIn K (.ref fD) = true) (bD : Binds K dD ["_law_source_here", "_law_size"] []) (GD : FnOk P w K mg base CX0 1 fD dD ["_law_source_here", "_law_size"] spDraw)
    (gP : mg "_law_pick" = some (.ref fP)) (kP : PySem.W.keepIn K (.ref fP) = true) (bP : Binds K dP ["_law_source_here", "_law_items_here"] []) (GP : FnOk P w K mg base CX0 2 fP dP ["_law_source_here", "_law_items_here"] (spPick K)) :
    FnOk P w K mg base CX0 3 f fd ["_law_source_here", "_law_items_here"] (spTurned K) := by
  refine F.ok scTurned (fun vs H Q E h => ?_) (fun cdv A outer s H vs Q E hr h => ?_)
  · obtain ⟨l, b, n, its, rfl, _⟩ := h
    rfl
  · obtain ⟨l, b, n, its, rfl, src, hn, hS, ne, hl, k⟩ := h
    have hr1 : Room 1 _ := hr.mono (by decide)
    refine ⟨_, pss_cons (ps_set (i := 2) scTurned.nd rfl (Or.inl rfl) (pe_callTy call_listQ (by rfl) T.list (by decide +kernel) (pa_cons (pv 1) pa_nil)))
      (pss_cons (ps_if (pt_cmpR op_gt (pe_callB call_len_seq (by rfl) T.len PySem.boot_len (pa_cons (pv 2) pa_nil)) pe_int (nomark _))
        (pss_cons (ps_set (i := 3) scTurned.nd rfl (Or.inl rfl) (pe_call GD hr1 rfl gD kD bD .nil pass0 (pa_cons (pv 0) (pa_cons (pe_op op_sub (pe_callB call_len_seq (by rfl) T.len PySem.boot_len (pa_cons (pv 2) pa_nil)) pe_int) pa_nil))))
        (pss_cons (ps_set (i := 4) scTurned.nd rfl (Or.inl rfl) (pe_call GP hr rfl gP kP bP .nil pass0 (pa_cons (pv 0) (pa_cons (pe_lst (pa_cons (pe_op op_add (pv 3) pe_int) (pa_cons (pe_call GD hr1 rfl gD kD bD .nil pass0 (pa_cons (pv 0) (pa_cons (pe_callB call_len_seq (by rfl) T.len PySem.boot_len (pa_cons (pv 2) pa_nil)) pa_nil))) pa_nil))) pa_nil))))
        (pss_one (ps_asg (pe_tup (pa_cons (pe_ix ix_list (pv 2) (pv 4) (fun _ _ => rfl)) (pa_cons (pe_ix ix_list (pv 2) (pv 3) (fun _ _ => rfl)) pa_nil)))
          (pg_tup rfl (pgs_cons (pg_sub (pv 2) (pv 3) set_list) (pgs_cons (pg_sub (pv 2) (pv 4) set_list) pgs_nil)))))))
        pss_nil)
      (pss_one (ps_ret (pv 2)))), ?_⟩
    refine ⟨_, rfl, b, _, rfl, .inl hS, fun R hR => ?_⟩
    have Rl := src_none src hR
    have h1 : upd H R (.lst (its.map V.int)) R = some (.lst (its.map V.int)) := upd_same
    have b1 : But (· = l) H (upd H R (.lst (its.map V.int))) := but_same (same_new hR)
    have src1 : Src (upd H R (.lst (its.map V.int))) l n := src.upd Rl
    refine ⟨_, rfl, R, _, rfl, .inl (SqL.of h1), _, _, rfl, rfl, _, rfl, ?_⟩
    by_cases h2 : 1 < its.length
    · rw [decide_eq_true (by rw [List.length_map]; omega)]
      refine iteT ?_
      refine ⟨_, rfl, _, rfl, R, _, rfl, .inl (SqL.of h1), _, _, rfl, rfl, l, _, n, rfl, by rw [List.length_map]; omega, by rw [List.length_map]; omega, src1, by omega, fun H2 d b2 src2 d0 d1 => ?_⟩
      rw [List.length_map] at d1
      obtain ⟨i, rfl⟩ := Int.eq_ofNat_of_zero_le d0
      have hi : i + 1 < its.length := by omega
      have h2 := b2 _ _ Rl h1
      refine ⟨_, rfl, _, rfl, _, _, rfl, rfl, _, rfl, _, rfl, R, _, rfl, .inl (SqL.of h2), l, _, n + 1, rfl, by rw [List.length_map]; omega, by rw [List.length_map]; omega, src2, by omega, fun H3 e b3 src3 e0 e1 => ?_⟩
      rw [List.length_map] at e1
      obtain ⟨j, rfl⟩ := Int.eq_ofNat_of_zero_le e0
      have hj : j < its.length := by omega
      have h3 := b3 _ _ Rl h2
      refine ⟨by show 2 ≤ sizeLine; decide, fun p hp => ?_⟩
      have pl := src_none src3 hp
      have pR : R ≠ p := ne_of_none h3 hp
      refine ⟨l, p, n + 2, _, rfl, src3.upd pl, by omega, SqL.of upd_same, pl, by simp, by show 2 ≤ 1000; decide, fun H4 x b4 src4 hx => ?_⟩
      obtain ⟨o, rfl, ho⟩ : ∃ o : Nat, x = .int (o : Nat) ∧ o < its.length := by
        rcases List.mem_cons.mp hx with rfl | hx
        · exact ⟨i + 1, rfl, hi⟩
        · rw [List.mem_singleton.mp hx]; exact ⟨j, rfl, hj⟩
      have h4 := b4 _ _ Rl (show upd H3 p _ R = _ by rw [upd_ne pR]; exact h3)
      have bA : But (· = l) H H4 := but_trans b1 (but_trans b2 (but_trans b3 (but_trans (but_same (same_new hp)) b4)))
      have iL : i < its.length := by omega
      have ei : (its.map V.int)[i]? = some (.int its[i]) := by rw [List.getElem?_map, List.getElem?_eq_getElem iL]; rfl
      have eo : (its.map V.int)[o]? = some (.int its[o]) := by rw [List.getElem?_map, List.getElem?_eq_getElem ho]; rfl
      refine ⟨_, rfl, _, rfl, R, _, (o : Nat), .int its[o], rfl, rfl, SqL.of h4, atI_nat eo, _, rfl, _, rfl, R, _, (i : Nat), .int its[i], rfl, rfl, SqL.of h4, atI_nat ei, by show 2 ≤ sizeLine; decide, fun t ht => ?_⟩
      have tR : R ≠ t := ne_of_none h4 ht
      have tl := src_none src4 ht
      refine ⟨t, _, rfl, SqT.of upd_same, rfl, ?_⟩
      have h5 : upd H4 t (.tup [.int its[o], .int its[i]]) R = some (.lst (its.map V.int)) := by rw [upd_ne tR]; exact h4
      refine ⟨_, _, rfl, _, rfl, _, rfl, R, _, (i : Nat), i, rfl, rfl, h5, by rw [List.length_map]; exact ixN_nat' iL, ?_⟩
      refine ⟨_, _, rfl, _, rfl, _, rfl, R, _, (o : Nat), o, rfl, rfl, upd_same, by rw [List.length_set, List.length_map]; exact ixN_nat' ho, rfl, ?_⟩
      refine ⟨_, rfl, ?_⟩
      refine k _ R ((its.set i its[o]).set o its[i]) ?_ (((src4.upd tl).upd Rl).upd Rl |>.more (by omega)) hR (by rw [upd_same, map_set', map_set']) (List.set_set_perm iL ho)
      exact but_new (but_new (but_trans bA (but_same (same_new ht))) hR) hR
    · rw [decide_eq_false (by rw [List.length_map]; omega)]
      exact iteF ⟨_, rfl, k _ R its b1 (src1.more (by omega)) hR h1 (List.Perm.refl _)⟩
end
end Lw

set_option Elab.async false
set_option linter.all false
set_option maxRecDepth 100000
set_option maxHeartbeats 4000000
namespace Lw
open PySem L2 Two Pr
/-- lists as the law draws them -/
structure Drawn (ps : List (Addr × List Int)) (U : List Int) : Prop where
  few : ps.length ≤ 15
  short : ∀ p ∈ ps, p.2.length ≤ 15
  nd : ∀ p ∈ ps, p.2.Nodup
  big : ∀ p ∈ ps, ∀ z ∈ p.2, Big z
  all : ∀ p ∈ ps, ∀ z ∈ p.2, z ∈ U
  uni : U.length ≤ 60
theorem Drawn.fit {ps U} (d : Drawn ps U) : Fit ps := ⟨by have := d.few; omega, fun p hp => by have := d.short p hp; omega, d.nd⟩
section
variable {P : Program} {w : World} {K : PySem.W.Frag} {mg : Str → Option Value} {base : Heap}
def spLists (K : PySem.W.Frag) : Sp := fun vs H Q _ => ∃ (l : Addr) (mo : Int), vs = [.ref l, .int mo] ∧ 0 ≤ mo ∧ mo ≤ 8 ∧ Src H l 0 ∧
  ∀ (H' : Hp) (R : Addr) (ps : List (Addr × List Int)) (U : List Int), But (· = l) H H' → Src H' l 2000 → H' R = some (.lst (refsOf ps)) → H R = none → (∀ p ∈ ps, H' p.1 = some (.lst (p.2.map V.int)) ∧ p.1 ≠ l) → LofL K H' R ps → Drawn ps U → Q (.ref R) H'
abbrev nLists : List Str := ["_law_source_here", "_law_most", "_law_items_here", "_law_way", "_law_found", "_law_k", "_law_some_here"]
theorem scLists : FnScope nLists ["_law_source_here", "_law_most"] (defScope sLists) := ⟨rfl, rfl, rfl, by decide +kernel, rfl, by decide +kernel, by decide +kernel⟩
/-- what the loop of _law_lists keeps -/
structure LstInv (l R I : Addr) (its : List Int) (way : Int) (H G : Hp) (j : Nat) (qs : List (Addr × List Int)) : Prop where
  but : But (· = l) H G
  src : Src G l (200 + 200 * j)
  lst : G R = some (.lst (refsOf qs))
  each : ∀ q ∈ qs, G q.1 = some (.lst (q.2.map V.int))
  apart : ∀ q ∈ qs, q.1 ≠ R ∧ q.1 ≠ l
  hits : G I = some (.lst (its.map V.int))
  len : qs.length = j
  short : ∀ q ∈ qs, q.2.length ≤ 12
  nd : ∀ q ∈ qs, q.2.Nodup
  big : ∀ q ∈ qs, ∀ z ∈ q.2, Big z
  from' : (way ≠ 3 ∧ ∀ q ∈ qs, ∀ z ∈ q.2, z ∈ its) ∨ (way = 3 ∧ ∀ q ∈ qs, q.2.length ≤ 7)
theorem flat_len {B : Nat} : ∀ (qs : List (Addr × List Int)), (∀ q ∈ qs, q.2.length ≤ B) → ((qs.map (·.2)).flatten).length ≤ B * qs.length
  | [], _ => Nat.zero_le _
  | q :: qs, h => by
    have a := h q List.mem_cons_self
    have b := flat_len qs fun x hx => h x (List.mem_cons_of_mem _ hx)
    simp only [List.map_cons, List.flatten_cons, List.length_append, List.length_cons]
    rw [Nat.mul_succ]
    omega
/-- a new list at the end -/
theorem LstInv.add {l R I : Addr} {its : List Int} {way : Int} {H G G2 : Hp} {j : Nat} {qs : List (Addr × List Int)} (L : LstInv l R I its way H G j qs) (Rl : R ≠ l) (Il : I ≠ l) (RI : R ≠ I) (nR : H R = none) {r : Addr} {ts : List Int}
    (b : But (· = l) G G2) (src : Src G2 l (200 + 200 * j + 200)) (hr : G r = none) (h : G2 r = some (.lst (ts.map V.int))) (rl : r ≠ l) (short : ts.length ≤ 12) (nd : ts.Nodup) (big : ∀ z ∈ ts, Big z) (fr : (way ≠ 3 ∧ ∀ z ∈ ts, z ∈ its) ∨ (way = 3 ∧ ts.length ≤ 7)) :
    LstInv l R I its way H (upd G2 R (.lst (refsOf qs ++ [.ref r]))) (j + 1) (qs ++ [(r, ts)]) := by
  have Rr : R ≠ r := ne_of_none L.lst hr
  refine ⟨but_new (but_trans L.but b) nR, (src.upd Rl).more (by omega), ?_, fun q hq => ?_, fun q hq => ?_, ?_, by rw [List.length_append, L.len]; rfl, fun q hq => ?_, fun q hq => ?_, fun q hq => ?_, ?_⟩
  · rw [upd_same]
    unfold refsOf
    rw [List.map_append]
    rfl
  · rcases List.mem_append.mp hq with m | m
    · obtain ⟨a1, a2⟩ := L.apart q m
      rw [upd_ne a1]
      exact b _ _ a2 (L.each q m)
    · rw [List.mem_singleton.mp m, upd_ne Rr.symm]
      exact h
  · rcases List.mem_append.mp hq with m | m
    · exact L.apart q m
    · rw [List.mem_singleton.mp m]
      exact ⟨Rr.symm, rl⟩
  · rw [upd_ne RI.symm]
    exact b _ _ Il L.hits
  · rcases List.mem_append.mp hq with m | m
    · exact L.short q m
    · rw [List.mem_singleton.mp m]; exact short
  · rcases List.mem_append.mp hq with m | m
    · exact L.nd q m
    · rw [List.mem_singleton.mp m]; exact nd
  · rcases List.mem_append.mp hq with m | m
    · exact L.big q m
    · rw [List.mem_singleton.mp m]; exact big
  · rcases fr with ⟨n3, k⟩ | ⟨e3, k⟩
    · refine .inl ⟨n3, fun q hq => ?_⟩
      rcases List.mem_append.mp hq with m | m
      · exact L.from'.elim (fun f => f.2 q m) fun f => absurd f.1 n3
      · rw [List.mem_singleton.mp m]; exact k
    · refine .inr ⟨e3, fun q hq => ?_⟩
      rcases List.mem_append.mp hq with m | m
      · exact L.from'.elim (fun f => absurd e3 f.1) fun f => f.2 q m
      · rw [List.mem_singleton.mp m]; exact k
theorem seqJ {s1 s2 : TS} {D : Ends} {σ : L2.St} {H : Hp} (I : L2.St → Hp → Prop) (h2 : ∀ σ' H', I σ' H' → s2 D σ' H') (h1 : ∀ N : L2.St → Hp → Prop, (∀ σ' H', I σ' H' → N σ' H') → s1 { D with nx := N } σ H) : tSeq s1 s2 D σ H := h1 _ h2
theorem ok_lists {f fD fI fS fT : Addr} {fd dD dI dS dT : FuncData} (F : Fun K "_law_lists" "_law_lists" sLists f fd) (T : Txt mg)
    (gD : mg "_law_draw" = some (.ref fD)) (kD : PySem.W.keepIn K (.ref fD) = true) (bD : Binds K dD ["_law_source_here", "_law_size"] []) (GD : FnOk P w K mg base CX0 1 fD dD ["_law_source_here", "_law_size"] spDraw)
    (gI : mg "_law_items" = some (.ref fI)) (kI : PySem.W.keepIn K (.ref fI) = true) (bI : Binds K dI ["_law_source_here", "_law_count"] []) (GI : FnOk P w K mg base CX0 3 fI dI ["_law_source_here", "_law_count"] spItems)
    (gS : mg "_law_some" = some (.ref fS)) (kS : PySem.W.keepIn K (.ref fS) = true) (bS : Binds K dS ["_law_source_here", "_law_items_here"] []) (GS : FnOk P w K mg base CX0 2 fS dS ["_law_source_here", "_law_items_here"] (spSome K))
    (gT : mg "_law_turned" = some (.ref fT)) (kT : PySem.W.keepIn K (.ref fT) = true) (bT : Binds K dT ["_law_source_here", "_law_items_here"] []) (GT : FnOk P w K mg base CX0 3 fT dT ["_law_source_here", "_law_items_here"] (spTurned K)) :
    FnOk P w K mg base CX0 4 f fd ["_law_source_here", "_law_most"] (spLists K) := by
  refine F.ok scLists (fun vs H Q E h => ?_) (fun cdv A outer s H vs Q E hr h => ?_)
  · obtain ⟨l, mo, rfl, _⟩ := h
    rfl
  · obtain ⟨l, mo, rfl, mo0, mo1, src, k⟩ := h
    have hr1 : Room 1 _ := hr.mono (by decide)
    have hr2 : Room 2 _ := hr.mono (by decide)
    refine ⟨_, pss_cons (ps_set (i := 2) scLists.nd rfl (Or.inl rfl) (pe_call GI hr rfl gI kI bI .nil pass0 (pa_cons (pv 0) (pa_cons (pe_op op_add pe_int (pe_call GD hr1 rfl gD kD bD .nil pass0 (pa_cons (pv 0) (pa_cons pe_int pa_nil)))) pa_nil))))
      (pss_cons (ps_set (i := 3) scLists.nd rfl (Or.inl rfl) (pe_call GD hr1 rfl gD kD bD .nil pass0 (pa_cons (pv 0) (pa_cons pe_int pa_nil))))
      (pss_cons (ps_set (i := 4) scLists.nd rfl (Or.inl rfl) (pe_lst pa_nil))
      (pss_cons (ps_for PassesOwn.never rfl (pi_range1 rfl T.range (pa_cons (pe_call GD hr1 rfl gD kD bD .nil pass0 (pa_cons (pv 0) (pa_cons (pe_op op_add (pv 1) pe_int) pa_nil))) pa_nil)) (pg_name (i := 5) scLists.nd rfl (Or.inl rfl))
        (pss_cons (ps_set (i := 6) scLists.nd rfl (Or.inl rfl) (pe_call GS hr2 rfl gS kS bS .nil pass0 (pa_cons (pv 0) (pa_cons (pv 2) pa_nil))))
        (pss_cons (ps_if (PW.pt (pw_or (PW.pt (pw_and (pt_cmpR op_eq (pv 3) pe_int (nomark _)) (pw_and1 (pt_cmpR op_eq (pv 5) pe_int (nomark _))))) (pw_or1 (PW.pt (pw_and (pt_cmpR op_eq (pv 3) pe_int (nomark _)) (pw_and1 (pt_cmpR op_eq (pe_call GD hr1 rfl gD kD bD .nil pass0 (pa_cons (pv 0) (pa_cons pe_int pa_nil))) pe_int (nomark _))))))))
            (pss_one (ps_set (i := 6) scLists.nd rfl (Or.inl rfl) (pe_call GT hr rfl gT kT bT .nil pass0 (pa_cons (pv 0) (pa_cons (pv 6) pa_nil))))) pss_nil)
        (pss_cons (ps_if (pt_cmpR op_eq (pv 3) pe_int (nomark _))
            (pss_one (ps_set (i := 6) scLists.nd rfl (Or.inl rfl) (pe_call GS hr2 rfl gS kS bS .nil pass0 (pa_cons (pv 0) (pa_cons (pe_call GI hr rfl gI kI bI .nil pass0 (pa_cons (pv 0) (pa_cons pe_int pa_nil))) pa_nil))))) pss_nil)
        (pss_one (ps_expr (pe_bm PySem.F.plainAttrs_list PySem.F.slot_list_append PySem.F.type_list_append mt_append (pv 4) (pa_cons (pv 6) pa_nil))))))))
      (pss_one (ps_ret (pv 4)))))), ?_⟩
    refine ⟨_, rfl, _, rfl, l, 10, 0, rfl, by decide, by decide, src, by decide, fun H1 d b1 src1 d0 d1 => ?_⟩
    obtain ⟨c, rfl⟩ := Int.eq_ofNat_of_zero_le d0
    refine ⟨_, _, rfl, rfl, l, 1 + c, 1, by rw [Int.natCast_add]; rfl, by omega, src1, by decide, fun H2 I its b2 src2 nI hI ndI lenI bigI => ?_⟩
    have Il := src_none src1 nI
    have nI0 : H I = none := but_none b1 nI Il
    refine ⟨_, rfl, l, 4, 1 + 64, rfl, by decide, by decide, src2, by decide, fun H3 way b3 src3 w0 w1 => ?_⟩
    refine ⟨Nat.zero_le _, fun R hR => ?_⟩
    have Rl := src_none src3 hR
    have hI3 := b3 _ _ Il hI
    have RI : R ≠ I := (ne_of_none hI3 hR).symm
    have bH3 : But (· = l) H H3 := but_trans b1 (but_trans b2 b3)
    have nR : H R = none := but_none bH3 hR Rl
    refine ⟨_, rfl, _, rfl, _, _, rfl, rfl, ?_⟩
    refine ⟨l, _, 1 + 64 + 1, rfl, by omega, by omega, src3.upd Rl, by decide, fun H4 e b4 src4 e0 e1 => ?_⟩
    obtain ⟨t, rfl⟩ := Int.eq_ofNat_of_zero_le e0
    have e1 : (t : Int) < mo + 1 := e1
    have b04 : But (· = l) H H4 := but_trans (but_new bH3 nR) b4
    refine ⟨_, rfl, by omega, by omega, for_range (lo := 0) (n := t) (fun j σ G => ∃ (v5 v6 : Option V) (qs : List (Addr × List Int)), σ = [some (.ref l), some (.int mo), some (.ref I), some (.int way), some (.ref R), v5, v6] ∧ LstInv l R I its way H G j qs)
      ⟨_, _, [], rfl, b04, src4.more (by omega), b4 _ _ Rl upd_same, (fun q hq => nomatch hq), (fun q hq => nomatch hq), b4 _ _ Il (by rw [upd_ne RI.symm]; exact hI3), rfl, (fun q hq => nomatch hq), (fun q hq => nomatch hq), (fun q hq => nomatch hq), if h3 : way = 3 then .inr ⟨h3, fun q hq => nomatch hq⟩ else .inl ⟨h3, fun q hq => nomatch hq⟩⟩ ?_ ?_⟩
    · rintro j σ G hj ⟨v5, v6, qs, rfl, L⟩
      refine ⟨_, rfl, _, rfl, l, I, _, its, rfl, L.src, by omega, SqL.of L.hits, Il, by omega, fun G1 r ts c1 s1 nr hr1 sub => ?_⟩
      have rl := src_none L.src nr
      have lts := sub.length_le
      have ndT := sub.nodup ndI
      have inT : ∀ z ∈ ts, z ∈ its := fun z hz => sub.subset hz
      have fewQ : (refsOf qs).length < sizeLine := small1000 (by rw [List.length_map, L.len]; omega)
      have bG : But (· = l) H G := L.but
      dsimp only [gName]
      refine seqJ (fun σ' G' => ∃ (r2 : Addr) (ts2 : List Int), σ' = [some (.ref l), some (.int mo), some (.ref I), some (.int way), some (.ref R), some (.int (0 + (j : Nat))), some (.ref r2)] ∧ But (· = l) G G' ∧ Src G' l (200 + 200 * j + 40) ∧ G r2 = none ∧ r2 ≠ l ∧ G' r2 = some (.lst (ts2.map V.int)) ∧ ts2.length ≤ 12 ∧ ts2.Nodup ∧ ∀ z ∈ ts2, z ∈ its) ?_ ?_
      · rintro σ' G2 ⟨r2, ts2, rfl, c2, s2, n2, l2, h2, len2, nd2, in2⟩
        refine seqJ (fun σ' G' => ∃ (r3 : Addr) (ts3 : List Int), σ' = [some (.ref l), some (.int mo), some (.ref I), some (.int way), some (.ref R), some (.int (0 + (j : Nat))), some (.ref r3)] ∧ But (· = l) G G' ∧ Src G' l (200 + 200 * j + 200) ∧ G r3 = none ∧ r3 ≠ l ∧ G' r3 = some (.lst (ts3.map V.int)) ∧ ts3.length ≤ 12 ∧ ts3.Nodup ∧ (∀ z ∈ ts3, Big z) ∧ ((way ≠ 3 ∧ ∀ z ∈ ts3, z ∈ its) ∨ (way = 3 ∧ ts3.length ≤ 7))) ?_ ?_
        · rintro σ3 G3 ⟨r3, ts3, rfl, c3, s3, n3, l3, h3, len3, nd3, big3, fr⟩
          exact ⟨_, rfl, .inl ⟨rfl, _, SqL.of (c3 _ _ Rl L.lst)⟩, _, rfl, R, _, .ref r3, rfl, rfl, c3 _ _ Rl L.lst, fewQ, _, _, _, rfl, L.add Rl Il RI nR c3 s3 n3 h3 l3 len3 nd3 big3 fr⟩
        · intro N hN
          refine ⟨_, rfl, rfl, _, rfl, ?_⟩
          by_cases w3 : way = 3
          · rw [decide_eq_true (congrArg V.int w3)]
            refine iteT ?_
            refine ⟨_, rfl, _, rfl, l, 5, _, rfl, by decide, s2, by omega, fun G4 I4 its4 c4 s4 nI4 hI4 ndI4 lenI4 bigI4 => ?_⟩
            have I4l := src_none s2 nI4
            refine ⟨l, I4, _, its4, rfl, s4, by omega, SqL.of hI4, I4l, by omega, fun G5 r5 ts5 c5 s5 nr5 hr5 sub5 => ?_⟩
            have r5l := src_none s4 nr5
            have lts5 := sub5.length_le
            exact hN _ _ ⟨r5, ts5, rfl, but_trans c2 (but_trans c4 c5), s5.more (by omega), but_none (but_trans c2 c4) nr5 r5l, r5l, hr5, by omega, sub5.nodup ndI4, fun z hz => bigI4 z (sub5.subset hz), .inr ⟨w3, by omega⟩⟩
          · rw [decide_eq_false (fun e => w3 (V.int.inj e))]
            exact iteF (hN _ _ ⟨r2, ts2, rfl, c2, s2.more (by omega), n2, l2, h2, len2, nd2, fun z hz => bigI z (in2 z hz), .inl ⟨w3, in2⟩⟩)
      · intro N hN
        have stay : N [some (.ref l), some (.int mo), some (.ref I), some (.int way), some (.ref R), some (.int (0 + (j : Nat))), some (.ref r)] G1 := hN _ _ ⟨r, ts, rfl, c1, s1.more (by omega), nr, rl, hr1, by omega, ndT, inT⟩
        have turn : ∀ (G2 : Hp) (m : Nat), But (· = l) G1 G2 → Src G2 l m → m ≤ 200 + 200 * j + 37 → spTurned K [.ref l, .ref r] G2 (fun x H' => N [some (.ref l), some (.int mo), some (.ref I), some (.int way), some (.ref R), some (.int (0 + (j : Nat))), some x] H') E0 := fun G2 m c2 s2 hm =>
          ⟨l, r, m, ts, rfl, s2, by omega, SqL.of (c2 _ _ rl hr1), rl, by omega, fun G3 r3 ts3 c3 s3 n3 h3 pm => by
            have r3l := src_none s2 n3
            exact hN _ _ ⟨r3, ts3, rfl, but_trans c1 (but_trans c2 c3), s3.more (by omega), but_none (but_trans c1 c2) n3 r3l, r3l, h3, by rw [pm.length_eq]; omega, pm.nodup_iff.mpr ndT, fun z hz => inT z (pm.mem_iff.mp hz)⟩⟩
        have same1 : But (· = l) G1 G1 := fun p o _ e => e
        refine ⟨_, rfl, rfl, _, rfl, ?_⟩
        by_cases a1 : way = 1
        · rw [decide_eq_true (congrArg V.int a1)]
          refine iteT ⟨_, rfl, rfl, _, rfl, ?_⟩
          cases decide (V.int (0 + (j : Nat)) = V.int 1) with
          | true => exact iteT (iteT ⟨_, rfl, _, rfl, turn G1 _ same1 s1 (by omega)⟩)
          | false =>
            refine iteF ⟨_, rfl, rfl, _, rfl, ?_⟩
            rw [decide_eq_false (fun e => by have := V.int.inj e; omega)]
            exact iteF (iteF stay)
        · rw [decide_eq_false (fun e => a1 (V.int.inj e))]
          refine iteF (iteF ⟨_, rfl, rfl, _, rfl, ?_⟩)
          cases decide (V.int way = V.int 2) with
          | false => exact iteF (iteF stay)
          | true =>
            refine iteT ⟨_, rfl, l, 4, _, rfl, by decide, by decide, s1, by omega, fun G2 e c2 s2 e0 e1 => ⟨rfl, _, rfl, ?_⟩⟩
            cases decide (V.int e = V.int 0) with
            | true => exact iteT ⟨_, rfl, _, rfl, turn G2 _ c2 s2 (by omega)⟩
            | false => exact iteF (hN _ _ ⟨r, ts, rfl, but_trans c1 c2, s2.more (by omega), nr, rl, c2 _ _ rl hr1, by omega, ndT, inT⟩)
    · rintro σ G ⟨v5, v6, qs, rfl, L⟩
      refine ⟨_, rfl, ?_⟩
      have fits : ∀ p ∈ qs, SqL K G p.1 (p.2.map V.int) := fun p hp => SqL.of (L.each p hp)
      have lq := L.len
      rcases L.from' with ⟨_, f⟩ | ⟨_, f⟩
      · exact k G R qs its L.but (L.src.more (by omega)) L.lst nR (fun p hp => ⟨L.each p hp, (L.apart p hp).2⟩) ⟨SqL.of L.lst, fits⟩ ⟨by omega, fun p hp => by have := L.short p hp; omega, L.nd, L.big, f, by omega⟩
      · refine k G R qs (qs.map (·.2)).flatten L.but (L.src.more (by omega)) L.lst nR (fun p hp => ⟨L.each p hp, (L.apart p hp).2⟩) ⟨SqL.of L.lst, fits⟩ ⟨by omega, fun p hp => by have := L.short p hp; omega, L.nd, L.big, fun p hp z hz => List.mem_flatten.mpr ⟨p.2, List.mem_map.mpr ⟨p, hp, rfl⟩, hz⟩, ?_⟩
        have := flat_len (B := 7) qs f
        omega
end
end Lw

set_option Elab.async false
set_option linter.all false
set_option maxRecDepth 100000
set_option maxHeartbeats 1000000
/-! Arguments that the check refuses. -/
namespace Lw
open PySem L2 Two Pr ClX LamX
section
variable {K : PySem.W.Frag} {H : Hp} {CB CT CD : Addr}
def LstE (K : PySem.W.Frag) (H : Hp) (y : V) (b : Bool) : Prop := ∀ H', ExtN H H' → LstK K H' y b
def IntE (K : PySem.W.Frag) (H : Hp) (y : V) (b : Bool) : Prop := ∀ H', ExtN H H' → IntK K H' y b
def NotL (K : PySem.W.Frag) (H : Hp) (y : V) : Prop := ∀ H', ExtN H H' → ∃ t, TyX K H' y t ∧ PySem.W.kitOne K t (.type "list") = some false
theorem LstE.ext {y : V} {b : Bool} {H' : Hp} (h : LstE K H y b) (e : ExtN H H') : LstE K H' y b := fun G g => h G (e.trans g)
theorem IntE.ext {y : V} {b : Bool} {H' : Hp} (h : IntE K H y b) (e : ExtN H H') : IntE K H' y b := fun G g => h G (e.trans g)
theorem NotL.ext {y : V} {H' : Hp} (h : NotL K H y) (e : ExtN H H') : NotL K H' y := fun G g => h G (e.trans g)
theorem LstE.s {y : V} {b : Bool} (h : LstE K H y b) : LstS K H y b := fun H' s => h H' (extN s)
theorem IntE.s {y : V} {b : Bool} (h : IntE K H y b) : IntS K H y b := fun H' s => h H' (extN s)
theorem lofN {H' : Hp} {a : Addr} {ps : List (Addr × List Int)} (e : ExtN H H') (h : LofL K H a ps) : LofL K H' a ps := ⟨sqlN e h.1, fun p hp => sqlN e (h.2 p hp)⟩
theorem atN {H' : Hp} {p : Addr} {o : HO} (e : ExtN H H') (h : H p = some o) (n : ∀ ps, o ≠ .tbl ps) : H' p = some o := e _ _ h n
theorem intE_int (z : Int) : IntE K H (.int z) true := fun H' _ => ⟨.type "int", true, false, .base (.int _), kit_ty (by decide +kernel), kit_ty (by decide +kernel), rfl⟩
theorem intE_non : IntE K H .non false := fun H' _ => ⟨.type "NoneType", false, false, .base .non, kit_ty (by decide +kernel), kit_ty (by decide +kernel), rfl⟩
theorem intE_bl (c : Bool) : IntE K H (.bl c) false := fun H' _ => ⟨.type "bool", true, true, .base (.bl c), kit_ty (by decide +kernel), kit_ty (by decide +kernel), rfl⟩
theorem intE_str (c : Str) : IntE K H (.str c) false := fun H' _ => ⟨.type "str", false, false, .base (.str c), kit_ty (by decide +kernel), kit_ty (by decide +kernel), rfl⟩
theorem intE_tup {p : Addr} {xs : List V} (h : H p = some (.tup xs)) : IntE K H (.ref p) false := fun H' e => ⟨.type "tuple", false, false, .base (.tup (e _ _ h (fun _ z => nomatch z))), kit_ty (by decide +kernel), kit_ty (by decide +kernel), rfl⟩
theorem intE_lst {p : Addr} {xs : List V} (h : H p = some (.lst xs)) : IntE K H (.ref p) false := fun H' e => ⟨.type "list", false, false, .base (.lst (e _ _ h (fun _ z => nomatch z))), kit_ty (by decide +kernel), kit_ty (by decide +kernel), rfl⟩
theorem intE_dK {p : Addr} {xs : List (Key × V)} (h : H p = some (.dK xs)) : IntE K H (.ref p) false := fun H' e => ⟨.type "dict", false, false, .base (.dK (e _ _ h (fun _ z => nomatch z))), kit_ty (by decide +kernel), kit_ty (by decide +kernel), rfl⟩
theorem notL_non : NotL K H .non := fun H' _ => ⟨_, .base .non, kit_ty (by decide +kernel)⟩
theorem notL_bl (c : Bool) : NotL K H (.bl c) := fun H' _ => ⟨_, .base (.bl c), kit_ty (by decide +kernel)⟩
theorem notL_int (c : Int) : NotL K H (.int c) := fun H' _ => ⟨_, .base (.int c), kit_ty (by decide +kernel)⟩
theorem notL_str (c : Str) : NotL K H (.str c) := fun H' _ => ⟨_, .base (.str c), kit_ty (by decide +kernel)⟩
theorem notL_tup {p : Addr} {xs : List V} (h : H p = some (.tup xs)) : NotL K H (.ref p) := fun H' e => ⟨_, .base (.tup (e _ _ h (fun _ z => nomatch z))), kit_ty (by decide +kernel)⟩
theorem notL_dK {p : Addr} {xs : List (Key × V)} (h : H p = some (.dK xs)) : NotL K H (.ref p) := fun H' e => ⟨_, .base (.dK (e _ _ h (fun _ z => nomatch z))), kit_ty (by decide +kernel)⟩
theorem lstE_notL {y : V} (h : NotL K H y) : LstE K H y false := fun H' e => let ⟨t, h1, h2⟩ := h H' e; .inl ⟨t, h1, h2, rfl⟩
theorem lstE_ints {a : Addr} {ns : List Int} (h : SqL K H a (ns.map V.int)) (hl : ns.length ≤ 1000) : LstE K H (.ref a) true := fun H' e => lst_ints (sqlN e h) hl H' (Same.refl _)
theorem lstE_odd {a : Addr} {items : List V} (h : SqL K H a items) (hl : items.length ≤ 1000) (each : ∀ y ∈ items, IntE K H y true ∨ IntE K H y false) (ex : ∃ y ∈ items, IntE K H y false) : LstE K H (.ref a) false := by
  intro H' e
  classical
  refine .inr ⟨a, items, fun y => !decide (IntE K H y false), rfl, sqlN e h, hl, fun z hz => ?_, ?_⟩
  · show IntS K H' z (!decide (IntE K H z false))
    by_cases q : IntE K H z false
    · rw [decide_eq_true q]; exact (q.ext e).s
    · rw [decide_eq_false q]; exact (((each z hz).resolve_right q).ext e).s
  · obtain ⟨y, hy, q⟩ := ex
    refine (List.all_eq_false.mpr ⟨y, hy, ?_⟩).symm
    show ¬ (!decide (IntE K H y false)) = true
    rw [decide_eq_true q]; decide
theorem refuses_notL {x : V} (h : NotL K H x) : Refuses K CB CT CD x (some (.list "lists")) H := fun H1 e1 Q E _ he => by
  obtain ⟨t, h1, h2⟩ := h H1 e1
  exact ⟨x, rfl, .inl ⟨t, h1, h2, fun d H' s hd hx => he _ rfl d _ H' s hx rfl⟩⟩
theorem refuses_bad {a : Addr} {items : List V} (h : SqL K H a items) (hl : items.length ≤ 1000) (each : ∀ y ∈ items, LstE K H y true ∨ LstE K H y false) (ex : ∃ y ∈ items, LstE K H y false) : Refuses K CB CT CD (.ref a) (some (.list "lists")) H := fun H1 e1 Q E _ he => by
  classical
  refine ⟨.ref a, rfl, .inr (.inl ⟨a, items, fun y => !decide (LstE K H y false), rfl, sqlN e1 h, hl, fun z hz => ?_, ?_, fun H2 s2 d H' s hd hx => he _ rfl d _ H' (s2.trans s) hx rfl⟩)⟩
  · show LstS K H1 z (!decide (LstE K H z false))
    by_cases q : LstE K H z false
    · rw [decide_eq_true q]; exact (q.ext e1).s
    · rw [decide_eq_false q]; exact (((each z hz).resolve_right q).ext e1).s
  · obtain ⟨y, hy, q⟩ := ex
    refine List.all_eq_false.mpr ⟨y, hy, ?_⟩
    show ¬ (!decide (LstE K H y false)) = true
    rw [decide_eq_true q]; decide
theorem twice_not {ns : List Int} {z : Int} (t : Twice ns z) : ¬ ns.Nodup := fun nd => by
  obtain ⟨i, h1, h2, _⟩ := t
  have hlt := (List.getElem?_eq_some_iff.mp h1).1
  have e := take_snoc h1
  have nd2 : (ns.take (i + 1)).Nodup := nd.sublist (List.take_sublist _ _)
  rw [e] at nd2
  exact (List.nodup_append.mp nd2).2.2 _ h2 _ (List.mem_singleton.mpr rfl) rfl
theorem twice_uni {ns : List Int} {z y : Int} (t : Twice ns z) (u : Twice ns y) : z = y := by
  obtain ⟨i, h1, h2, h3⟩ := t
  obtain ⟨j, g1, g2, g3⟩ := u
  have key : ∀ {i j : Nat} {z : Int}, ns[i]? = some z → z ∈ ns.take i → (ns.take j).Nodup → ¬ i < j := fun {i j z} h1 h2 g3 lt => by
    have nd2 : (ns.take (i + 1)).Nodup := g3.sublist (by rw [show ns.take (i + 1) = (ns.take j).take (i + 1) from by rw [List.take_take, Nat.min_eq_left (by omega)]]; exact List.take_sublist _ _)
    rw [take_snoc h1] at nd2
    exact (List.nodup_append.mp nd2).2.2 _ h2 _ (List.mem_singleton.mpr rfl) rfl
  have a := key h1 h2 g3
  have b := key g1 g2 h3
  have e : i = j := by omega
  subst e
  rw [h1] at g1
  exact Option.some.inj g1
theorem refuses_many {a : Addr} {ps : List (Addr × List Int)} (h : LofL K H a ps) (hl : ps.length ≤ 1000) (hs : ∀ p ∈ ps, p.2.length ≤ 1000) (m : 30 < ps.length ∨ ∃ p ∈ ps, 30 < p.2.length) : Refuses K CB CT CD (.ref a) (some (.many 30)) H := fun H1 e1 Q E _ he => by
  refine ⟨.ref a, rfl, .inr (.inr ⟨a, ps, rfl, lofN e1 h, hl, hs, ⟨fun f => ?_, fun _ H2 s2 d H' s hd hx => he _ rfl d _ H' (s2.trans s) hx ⟨⟨_, rfl⟩, rfl⟩, fun f s => ?_⟩⟩)⟩
  · rcases m with m | ⟨p, hp, m⟩
    · have := f.few; omega
    · have := f.short p hp; omega
  · rcases m with m | ⟨p, hp, m⟩
    · omega
    · have := s p hp; omega
theorem refuses_twice {a : Addr} {ps : List (Addr × List Int)} {i : Nat} {p : Addr × List Int} {z : Int} (h : LofL K H a ps) (hl : ps.length ≤ 30) (hs : ∀ p ∈ ps, p.2.length ≤ 30) (hi : ps[i]? = some p) (hn : ∀ q ∈ ps.take i, q.2.Nodup) (t : Twice p.2 z) (hz : z.natAbs.log2 < 1920) :
    Refuses K CB CT CD (.ref a) (some (.twice z)) H := fun H1 e1 Q E _ he => by
  refine ⟨.ref a, rfl, .inr (.inr ⟨a, ps, rfl, lofN e1 h, by omega, fun p hp => by have := hs p hp; omega, ⟨fun f => ?_, fun m => ?_, fun _ _ j p2 y hj hn2 u H2 s2 d H' s hd hx => ?_⟩⟩)⟩
  · exact absurd (f.nd p (List.mem_of_getElem? hi)) (twice_not t)
  · exfalso
    rcases m with m | ⟨p, hp, m⟩
    · omega
    · have := hs p hp; omega
  · have key : ∀ {i j : Nat} {p : Addr × List Int} {z : Int}, ps[i]? = some p → Twice p.2 z → (∀ q ∈ ps.take j, q.2.Nodup) → ¬ i < j := fun {i j p z} hi t hn lt => by
      refine twice_not t (hn p ?_)
      have : (ps.take j)[i]? = some p := by rw [List.getElem?_take]; simp [lt, hi]
      exact List.mem_of_getElem? this
    have a1 := key hi t hn2
    have b1 := key hj u hn
    have e : i = j := by omega
    subst e
    rw [hi] at hj
    cases hj
    have e2 := twice_uni t u
    subst e2
    exact he _ rfl d _ H' (s2.trans s) hx ⟨⟨_, rfl⟩, rfl, hz⟩
theorem refuses_none {a : Addr} {ps : List (Addr × List Int)} (h : LofL K H a ps) (f : Fit ps) : Refuses K CB CT CD (.ref a) none H := fun H1 e1 Q E hn _ => by
  refine ⟨.ref a, rfl, .inr (.inr ⟨a, ps, rfl, lofN e1 h, by have := f.few; omega, fun p hp => by have := f.short p hp; omega, ⟨fun _ H2 s2 => hn rfl H2 a ps s2 rfl ((lofN e1 h).keep s2) f, fun m => ?_, fun _ _ j p2 y hj _ u => ?_⟩⟩)⟩
  · exfalso
    rcases m with m | ⟨p, hp, m⟩
    · have := f.few; omega
    · have := f.short p hp; omega
  · exact absurd (f.nd _ (List.mem_of_getElem? hj)) (twice_not u)
end
end Lw

set_option Elab.async false
set_option linter.all false
set_option maxRecDepth 100000
set_option maxHeartbeats 1000000
/-! Statement by statement: what holds ahead, what holds behind. -/
namespace Two
open PySem PySem.Spec PyProof.Rows L2
def tStep (P0 P1 : L2.St → Hp → Prop) : TS := fun D σ H => P0 σ H ∧ ∀ σ' H', P1 σ' H' → D.nx σ' H'
section
variable {X : Cx} {s : Stmt} {ss : List Stmt} {t : TS} {P0 P1 P2 : L2.St → Hp → Prop}
theorem st_of (h : PS X s t) (imp : ∀ D σ H, P0 σ H → (∀ σ' H', P1 σ' H' → D.nx σ' H') → t D σ H) : PS X s (tStep P0 P1) := ⟨fun pins s σ H D I ⟨a, k⟩ => h.run pins s σ H D I (imp D σ H a k)⟩
theorem st_by (h : ∀ D σ H, P0 σ H → (∀ σ' H', P1 σ' H' → D.nx σ' H') → ∃ t, PS X s t ∧ t D σ H) : PS X s (tStep P0 P1) := ⟨fun pins s σ H D I ⟨a, k⟩ => let ⟨_, h1, h2⟩ := h D σ H a k; h1.run pins s σ H D I h2⟩
theorem st_cons (h1 : PS X s (tStep P0 P1)) (h2 : PSs X ss (tStep P1 P2)) : PSs X (s :: ss) (tStep P0 P2) := ⟨fun pins s σ H D I ⟨a, k⟩ => (pss_cons h1 h2).run pins s σ H D I ⟨a, fun _ _ p1 => ⟨p1, k⟩⟩⟩
theorem st_one (h1 : PS X s (tStep P0 P1)) : PSs X [s] (tStep P0 P1) := ⟨fun pins s σ H D I h => (pss_one h1).run pins s σ H D I h⟩
end
end Two

set_option Elab.async false
set_option linter.all false
set_option maxRecDepth 100000
set_option maxHeartbeats 1000000
namespace Lw
open PySem L2 Two Pr ClX LamX
abbrev sLaw : Stmt := top 50
abbrev nLaw : List Str := ["_law_script", "_law_full", "_law_cell", "_law_source_here", "_law_lists_here", "_law_at", "_law_one", "_law_place", "_law_odd", "_law_thing", "_law_spoilt", "_law_bad", "_law_twice", "_law_wide", "_law_first", "_law_k"]
theorem scLaw : FnScope nLaw ["_law_script"] (defScope sLaw) := ⟨rfl, rfl, rfl, by decide +kernel, rfl, by decide +kernel, by decide +kernel⟩
structure Defs (P : Program) (w : World) (K : PySem.W.Frag) (mg : Str → Option Value) (base : Heap) (CB CT CD : Addr) (Ts : List (Addr × Str)) (fC fS fL fR fP fB : Addr) (dC dS dL dR dP dB : FuncData) : Prop where
  gC : mg "_law_cell_at" = some (.ref fC)
  kC : PySem.W.keepIn K (.ref fC) = true
  bC : Binds K dC ["_law_script", "_law_k"] []
  GC : FnOk P w K mg base L2.CX0 1 fC dC ["_law_script", "_law_k"] (spCell K)
  gS : mg "_law_source" = some (.ref fS)
  kS : PySem.W.keepIn K (.ref fS) = true
  bS : Binds K dS ["_law_cell"] []
  GS : FnOk P w K mg base L2.CX0 1 fS dS ["_law_cell"] spSource
  gL : mg "_law_lists" = some (.ref fL)
  kL : PySem.W.keepIn K (.ref fL) = true
  bL : Binds K dL ["_law_source_here", "_law_most"] []
  GL : FnOk P w K mg base L2.CX0 4 fL dL ["_law_source_here", "_law_most"] (spLists K)
  gR : mg "_law_draw" = some (.ref fR)
  kR : PySem.W.keepIn K (.ref fR) = true
  bR : Binds K dR ["_law_source_here", "_law_size"] []
  GR : FnOk P w K mg base L2.CX0 1 fR dR ["_law_source_here", "_law_size"] spDraw
  gP : mg "_law_pick" = some (.ref fP)
  kP : PySem.W.keepIn K (.ref fP) = true
  bP : Binds K dP ["_law_source_here", "_law_items_here"] []
  GP : FnOk P w K mg base L2.CX0 2 fP dP ["_law_source_here", "_law_items_here"] (spPick K)
  gB : mg "_law_both" = some (.ref fB)
  kB : PySem.W.keepIn K (.ref fB) = true
  bB : Binds K dB ["_law_lists_here", "_law_due"] []
  GB : FnOk P w K mg base L2.CX0 10 fB dB ["_law_lists_here", "_law_due"] (spBoth K CB CT CD Ts)
def spLaw (K : PySem.W.Frag) (Ts : List (Addr × Str)) : Sp := fun vs H Q _ => ∃ (a : Addr) (ns : List Int), vs = [.ref a] ∧ SqL K H a (ns.map V.int) ∧ ns.length ≤ 63 ∧ Tabs Ts H ∧ ∀ H', Q (.bl true) H'
section
variable {K : PySem.W.Frag} {t : Addr} {H : Hp}
theorem d_ok : ∀ H', ExtN H H' → Dp K H' (.str "ok") (dueD none) := fun _ _ => .str _
theorem d_list (ht : H t = some (.tup [.str "list", .str "lists"])) : ∀ H', ExtN H H' → Dp K H' (.ref t) (dueD (some (ErrK.list "lists"))) := fun H' e => .tup (SqT.of (e _ _ ht (fun _ z => nomatch z))) (.cons (.str _) (.cons (.str _) .nil))
theorem d_many (ht : H t = some (.tup [.str "many", .int 30])) : ∀ H', ExtN H H' → Dp K H' (.ref t) (dueD (some (ErrK.many 30))) := fun H' e => .tup (SqT.of (e _ _ ht (fun _ z => nomatch z))) (.cons (.str _) (.cons (.int _) .nil))
theorem d_twice {z : Int} (ht : H t = some (.tup [.str "twice", .str (toString z)])) : ∀ H', ExtN H H' → Dp K H' (.ref t) (dueD (some (ErrK.twice z))) := fun H' e => .tup (SqT.of (e _ _ ht (fun _ z => nomatch z))) (.cons (.str _) (.cons (.str _) .nil))
theorem w_ok : ∀ w, (none : Option ErrK) = some (ErrK.list w) → PyData.strOk w = true := fun _ z => nomatch z
theorem w_list : ∀ w, some (ErrK.list "lists") = some (ErrK.list w) → PyData.strOk w = true := fun w z => by cases z; decide +kernel
theorem w_many {n : Int} : ∀ w, some (ErrK.many n) = some (ErrK.list w) → PyData.strOk w = true := fun _ z => nomatch z
theorem w_twice {n : Int} : ∀ w, some (ErrK.twice n) = some (ErrK.list w) → PyData.strOk w = true := fun _ z => nomatch z
end
theorem ad {H G : Hp} {p : Addr} {o : HO} (s : Same H G) (n : G p = none) : Same H (upd G p o) := s.trans (same_new n)
theorem ad1 {H : Hp} {p : Addr} {o : HO} (n : H p = none) : Same H (upd H p o) := same_new n
/-- one round's things -/
structure Rnd (K : PySem.W.Frag) (Ts : List (Addr × Str)) (G : Hp) (F R A1 : Addr) (fs ps : List (Addr × List Int)) (n : Nat) (one : List Int) (odd thing : V) : Prop where
  tabs : Tabs Ts G
  full : G F = some (.lst (refsOf fs))
  fits : ∀ p ∈ fs, G p.1 = some (.lst (p.2.map V.int))
  flen : fs.length = 30
  fall : ∀ p ∈ fs, p.2.length = 30 ∧ p.2.Nodup
  lst : G R = some (.lst (refsOf ps))
  each : ∀ p ∈ ps, G p.1 = some (.lst (p.2.map V.int))
  plen : ps.length ≤ 16
  short : ∀ p ∈ ps, p.2.length ≤ 15
  nd : ∀ p ∈ ps, p.2.Nodup
  big : ∀ p ∈ ps, ∀ z ∈ p.2, Big z
  at_ : ps[n]? = some (A1, one)
  odd : IntE K G odd false
  thing : NotL K G thing
theorem ntl {xs : List V} : ∀ ps, HO.lst xs ≠ .tbl ps := fun _ z => nomatch z
theorem Rnd.ext {K : PySem.W.Frag} {Ts : List (Addr × Str)} {G G' : Hp} {F R A1 : Addr} {fs ps : List (Addr × List Int)} {n : Nat} {one : List Int} {odd thing : V} (r : Rnd K Ts G F R A1 fs ps n one odd thing) (e : ExtN G G') (t : Tabs Ts G') : Rnd K Ts G' F R A1 fs ps n one odd thing :=
  ⟨t, e _ _ r.full ntl, fun p hp => e _ _ (r.fits p hp) ntl, r.flen, r.fall, e _ _ r.lst ntl, fun p hp => e _ _ (r.each p hp) ntl, r.plen, r.short, r.nd, r.big, r.at_, r.odd.ext e, r.thing.ext e⟩
theorem Rnd.same {K : PySem.W.Frag} {Ts : List (Addr × Str)} {G G' : Hp} {F R A1 : Addr} {fs ps : List (Addr × List Int)} {n : Nat} {one : List Int} {odd thing : V} (r : Rnd K Ts G F R A1 fs ps n one odd thing) (s : Same G G') : Rnd K Ts G' F R A1 fs ps n one odd thing :=
  r.ext (extN s) (r.tabs.ext s)
theorem cut_take (xs : List V) (p : Nat) (h : p ≤ xs.length) : cutV xs none (some (p : Int)) = xs.take p := by
  unfold cutV
  have e : HT.sIx xs.length xs.length (some (p : Int)) = min p xs.length := HT.sIx_nat xs.length xs.length p
  rw [e, HT.sIx_none, Nat.min_eq_left h]
  simp
theorem nd30 : ((List.range 30).map fun j : Nat => (j : Int)).Nodup := by decide
theorem iota30 : rgV 0 30 = ((List.range 30).map fun j : Nat => (j : Int)).map V.int := by rfl
theorem iota31 : rgV 0 31 = ((List.range 31).map fun j : Nat => (j : Int)).map V.int := by rfl
/-- what is known of the full lists -/
structure Full (H : Hp) (F : Addr) (fs : List (Addr × List Int)) : Prop where
  full : H F = some (.lst (refsOf fs))
  fits : ∀ p ∈ fs, H p.1 = some (.lst (p.2.map V.int))
  flen : fs.length = 30
  fall : ∀ p ∈ fs, p.2.length = 30 ∧ p.2.Nodup
theorem Full.ext {H H' : Hp} {F : Addr} {fs : List (Addr × List Int)} (f : Full H F fs) (e : ExtN H H') : Full H' F fs := ⟨e _ _ f.full ntl, fun p hp => e _ _ (f.fits p hp) ntl, f.flen, f.fall⟩
theorem Full.lof {K : PySem.W.Frag} {H : Hp} {F : Addr} {fs : List (Addr × List Int)} (f : Full H F fs) : LofL K H F fs := ⟨SqL.of f.full, fun p hp => SqL.of (f.fits p hp)⟩
theorem Full.fit {H : Hp} {F : Addr} {fs : List (Addr × List Int)} (f : Full H F fs) : Fit fs := ⟨by rw [f.flen]; decide, fun p hp => by rw [(f.fall p hp).1]; decide, fun p hp => (f.fall p hp).2⟩
theorem lof_app {K : PySem.W.Frag} {G : Hp} {a : Addr} {fs gs : List (Addr × List Int)} (h : G a = some (.lst (refsOf fs ++ refsOf gs))) (e1 : ∀ p ∈ fs, G p.1 = some (.lst (p.2.map V.int))) (e2 : ∀ p ∈ gs, G p.1 = some (.lst (p.2.map V.int))) : LofL K G a (fs ++ gs) := by
  refine ⟨SqL.of (xs := (fs ++ gs).map fun p => V.ref p.1) ?_, fun p hp => SqL.of ?_⟩
  · rw [List.map_append]; exact h
  · rcases List.mem_append.mp hp with m | m
    · exact e1 p m
    · exact e2 p m
theorem one_mem {α : Type} {x : α} {Pr : α → Prop} (h : Pr x) : ∀ y ∈ [x], Pr y := fun y hy => by rw [List.mem_singleton.mp hy]; exact h
theorem big_small {z : Int} (h : z.natAbs ≤ 100) : Big z := by
  unfold Big
  have : (100 : Nat) ≤ 10 ^ 30 := by decide
  omega

def loopBody : List Stmt := match (defBody sLaw).getD 2 (.Pass ⟨0, 0, 0, 0⟩) with
  | .For _ _ b _ _ => b
  | _ => []
abbrev stm (k : Nat) : Stmt := loopBody.getD k (.Pass ⟨0, 0, 0, 0⟩)
def Sg (a F : Addr) (vs : List (Option V)) : L2.St := some (.ref a) :: some (.ref F) :: vs
structure Bs (Ts : List (Addr × Str)) (F Cs : Addr) (fs : List (Addr × List Int)) (cells : List Int) (G : Hp) : Prop where
  tabs : Tabs Ts G
  full : Full G F fs
  cs : G Cs = some (.lst (cells.map V.int))
theorem Bs.ext {Ts F Cs fs cells G G'} (b : Bs Ts F Cs fs cells G) (e : ExtN G G') (t : Tabs Ts G') : Bs Ts F Cs fs cells G' := ⟨t, b.full.ext e, e _ _ b.cs ntl⟩
theorem Bs.same {Ts F Cs fs cells G G'} (b : Bs Ts F Cs fs cells G) (s : Same G G') : Bs Ts F Cs fs cells G' := b.ext (extN s) (b.tabs.ext s)
/-- the source at l, made behind G0 -/
structure Sc (Ts : List (Addr × Str)) (F Cs : Addr) (fs : List (Addr × List Int)) (cells : List Int) (l : Addr) (m : Nat) (G0 G : Hp) : Prop where
  bs : Bs Ts F Cs fs cells G0
  new : G0 l = none
  same : Same G0 G
  src : Src G l m
theorem Sc.but {Ts F Cs fs cells l m m' G0 G G'} (c : Sc Ts F Cs fs cells l m G0 G) (b : But (· = l) G G') (s : Src G' l m') : Sc Ts F Cs fs cells l m' G0 G' := ⟨c.bs, c.new, fun p o e => b p o (ne_of_none e c.new) (c.same p o e), s⟩
theorem Sc.add {Ts F Cs fs cells l m G0 G G'} (c : Sc Ts F Cs fs cells l m G0 G) (s : Same G G') : Sc Ts F Cs fs cells l m G0 G' := ⟨c.bs, c.new, c.same.trans s, c.src.keep s⟩
structure Ls (l Ra : Addr) (ps : List (Addr × List Int)) (G : Hp) : Prop where
  lst : G Ra = some (.lst (refsOf ps))
  ne : Ra ≠ l
  each : ∀ p ∈ ps, G p.1 = some (.lst (p.2.map V.int)) ∧ p.1 ≠ l
  plen : ps.length ≤ 16
  pos : 0 < ps.length
  okp : ∀ p ∈ ps, p.2.length ≤ 15 ∧ p.2.Nodup ∧ ∀ z ∈ p.2, Big z
theorem Ls.but {l Ra ps G G'} (c : Ls l Ra ps G) (b : But (· = l) G G') : Ls l Ra ps G' := ⟨b _ _ c.ne c.lst, c.ne, fun p hp => ⟨b _ _ (c.each p hp).2 (c.each p hp).1, (c.each p hp).2⟩, c.plen, c.pos, c.okp⟩
theorem Ls.add {l Ra ps G G'} (c : Ls l Ra ps G) (b : Same G G') : Ls l Ra ps G' := c.but (but_same b)
/-- an item that is no integer -/
def Odd (l : Addr) (G : Hp) (v : V) : Prop := v = .non ∨ (∃ b, v = .bl b) ∨ (∃ s, v = .str s) ∨ ∃ p, v = .ref p ∧ p ≠ l ∧ ((∃ xs, G p = some (.tup xs)) ∨ (∃ xs, G p = some (.lst xs)) ∨ ∃ xs, G p = some (.dK xs))
theorem Odd.but {l G G' v} (o : Odd l G v) (b : But (· = l) G G') : Odd l G' v := by
  rcases o with h | h | h | ⟨p, rfl, ne, h⟩
  · exact .inl h
  · exact .inr (.inl h)
  · exact .inr (.inr (.inl h))
  · refine .inr (.inr (.inr ⟨p, rfl, ne, ?_⟩))
    rcases h with ⟨xs, h⟩ | ⟨xs, h⟩ | ⟨xs, h⟩
    · exact .inl ⟨xs, b _ _ ne h⟩
    · exact .inr (.inl ⟨xs, b _ _ ne h⟩)
    · exact .inr (.inr ⟨xs, b _ _ ne h⟩)
theorem Odd.intE {K : PySem.W.Frag} {l G v} (o : Odd l G v) : IntE K G v false := by
  rcases o with rfl | ⟨b, rfl⟩ | ⟨s, rfl⟩ | ⟨p, rfl, ne, h⟩
  · exact intE_non
  · exact intE_bl b
  · exact intE_str s
  · rcases h with ⟨xs, h⟩ | ⟨xs, h⟩ | ⟨xs, h⟩
    · exact intE_tup h
    · exact intE_lst h
    · exact intE_dK h
section
variable {P : Program} {w : World} {K : PySem.W.Frag} {mg : Str → Option Value} {base : Heap} {CL CB CT CD : Addr} {cs : List Addr} {Ts : List (Addr × Str)} {fC fS fL fR fP fB : Addr} {dC dS dL dR dP dB : FuncData} {f : Addr} {cdv : Value} {A : Around} {outer : List Env} {s : Shared} {Hs : Hp} {E : XK}
abbrev LX (P : Program) (w : World) (K : PySem.W.Frag) (mg : Str → Option Value) (base : Heap) (f : Addr) (cdv : Value) (A : Around) (outer : List Env) (s : Shared) (Hs : Hp) (E : XK) : Cx := (cxOf L2.CX0 P w K mg base nLaw "law" (defScope sLaw) f cdv A outer s Hs E).nox
variable (a F Cs : Addr) (fs : List (Addr × List Int)) (cells : List Int)
def S0 (Ts : List (Addr × Str)) (σ : L2.St) (G : Hp) : Prop := ∃ y : Int, ∃ (v3 v4 v5 v6 v7 v8 v9 v10 v11 v12 v13 v14 v15 : Option V), σ = Sg a F [some (.int y), v3, v4, v5, v6, v7, v8, v9, v10, v11, v12, v13, v14, v15] ∧ Bs Ts F Cs fs cells G
def S1 (Ts : List (Addr × Str)) (σ : L2.St) (G : Hp) : Prop := ∃ (y : Int) (l : Addr) (G0 : Hp), ∃ (v4 v5 v6 v7 v8 v9 v10 v11 v12 v13 v14 v15 : Option V), σ = Sg a F [some (.int y), some (.ref l), v4, v5, v6, v7, v8, v9, v10, v11, v12, v13, v14, v15] ∧ Sc Ts F Cs fs cells l 0 G0 G
def S2 (Ts : List (Addr × Str)) (σ : L2.St) (G : Hp) : Prop := ∃ (y : Int) (l Ra : Addr) (ps : List (Addr × List Int)) (G0 : Hp), ∃ (v5 v6 v7 v8 v9 v10 v11 v12 v13 v14 v15 : Option V), σ = Sg a F [some (.int y), some (.ref l), some (.ref Ra), v5, v6, v7, v8, v9, v10, v11, v12, v13, v14, v15] ∧ Sc Ts F Cs fs cells l 2000 G0 G ∧ Ls l Ra ps G
def S3 (Ts : List (Addr × Str)) (σ : L2.St) (G : Hp) : Prop := ∃ (y : Int) (l Ra : Addr) (ps : List (Addr × List Int)) (G0 : Hp) (n : Nat), ∃ (v6 v7 v8 v9 v10 v11 v12 v13 v14 v15 : Option V), σ = Sg a F [some (.int y), some (.ref l), some (.ref Ra), some (.int (n : Nat)), v6, v7, v8, v9, v10, v11, v12, v13, v14, v15] ∧ Sc Ts F Cs fs cells l 3000 G0 G ∧ Ls l Ra ps G ∧ n < ps.length
def S4 (Ts : List (Addr × Str)) (σ : L2.St) (G : Hp) : Prop := ∃ (y : Int) (l Ra : Addr) (ps : List (Addr × List Int)) (G0 : Hp) (n : Nat) (A1 : Addr) (one : List Int), ∃ (v7 v8 v9 v10 v11 v12 v13 v14 v15 : Option V), σ = Sg a F [some (.int y), some (.ref l), some (.ref Ra), some (.int (n : Nat)), some (.ref A1), v7, v8, v9, v10, v11, v12, v13, v14, v15] ∧ Sc Ts F Cs fs cells l 3000 G0 G ∧ Ls l Ra ps G ∧ ps[n]? = some (A1, one)
def S5 (Ts : List (Addr × Str)) (σ : L2.St) (G : Hp) : Prop := ∃ (y : Int) (l Ra : Addr) (ps : List (Addr × List Int)) (G0 : Hp) (n : Nat) (A1 : Addr) (one : List Int) (pl : Nat), ∃ (v8 v9 v10 v11 v12 v13 v14 v15 : Option V), σ = Sg a F [some (.int y), some (.ref l), some (.ref Ra), some (.int (n : Nat)), some (.ref A1), some (.int (pl : Nat)), v8, v9, v10, v11, v12, v13, v14, v15] ∧ Sc Ts F Cs fs cells l 4000 G0 G ∧ Ls l Ra ps G ∧ ps[n]? = some (A1, one) ∧ pl ≤ one.length
def S6 (Ts : List (Addr × Str)) (σ : L2.St) (G : Hp) : Prop := ∃ (y : Int) (l Ra : Addr) (ps : List (Addr × List Int)) (G0 : Hp) (n : Nat) (A1 : Addr) (one : List Int) (pl : Nat) (odd : V), ∃ (v9 v10 v11 v12 v13 v14 v15 : Option V), σ = Sg a F [some (.int y), some (.ref l), some (.ref Ra), some (.int (n : Nat)), some (.ref A1), some (.int (pl : Nat)), some odd, v9, v10, v11, v12, v13, v14, v15] ∧ Sc Ts F Cs fs cells l 5000 G0 G ∧ Ls l Ra ps G ∧ ps[n]? = some (A1, one) ∧ pl ≤ one.length ∧ Odd l G odd
/-- what is drawn -/
structure Rd8 (K : PySem.W.Frag) (Ts : List (Addr × Str)) (F Cs : Addr) (fs : List (Addr × List Int)) (cells : List Int) (Ra A1 : Addr) (ps : List (Addr × List Int)) (n : Nat) (one : List Int) (pl : Nat) (odd thing : V) (G : Hp) : Prop where
  bs : Bs Ts F Cs fs cells G
  lst : G Ra = some (.lst (refsOf ps))
  each : ∀ p ∈ ps, G p.1 = some (.lst (p.2.map V.int))
  plen : ps.length ≤ 16
  okp : ∀ p ∈ ps, p.2.length ≤ 15 ∧ p.2.Nodup ∧ ∀ z ∈ p.2, Big z
  at_ : ps[n]? = some (A1, one)
  ple : pl ≤ one.length
  odd : IntE K G odd false
  thing : NotL K G thing
theorem Rd8.ext {K Ts F Cs fs cells Ra A1 ps n one pl odd thing G G'} (r : Rd8 K Ts F Cs fs cells Ra A1 ps n one pl odd thing G) (e : ExtN G G') (t : Tabs Ts G') : Rd8 K Ts F Cs fs cells Ra A1 ps n one pl odd thing G' :=
  ⟨r.bs.ext e t, e _ _ r.lst ntl, fun p hp => e _ _ (r.each p hp) ntl, r.plen, r.okp, r.at_, r.ple, r.odd.ext e, r.thing.ext e⟩
theorem Rd8.same {K Ts F Cs fs cells Ra A1 ps n one pl odd thing G G'} (r : Rd8 K Ts F Cs fs cells Ra A1 ps n one pl odd thing G) (s : Same G G') : Rd8 K Ts F Cs fs cells Ra A1 ps n one pl odd thing G' := r.ext (extN s) (r.bs.tabs.ext s)
def S7 (K : PySem.W.Frag) (Ts : List (Addr × Str)) (σ : L2.St) (G : Hp) : Prop := ∃ (y : Int) (l Ra : Addr) (ps : List (Addr × List Int)) (n : Nat) (A1 : Addr) (one : List Int) (pl : Nat) (odd thing : V), ∃ (v10 v11 v12 v13 v14 v15 : Option V), σ = Sg a F [some (.int y), some (.ref l), some (.ref Ra), some (.int (n : Nat)), some (.ref A1), some (.int (pl : Nat)), some odd, some thing, v10, v11, v12, v13, v14, v15] ∧ Rd8 K Ts F Cs fs cells Ra A1 ps n one pl odd thing G
def S8 (K : PySem.W.Frag) (Ts : List (Addr × Str)) (σ : L2.St) (G : Hp) : Prop := ∃ (y : Int) (l Ra : Addr) (ps : List (Addr × List Int)) (n : Nat) (A1 : Addr) (one : List Int) (pl : Nat) (odd thing : V) (SP : Addr), ∃ (v11 v12 v13 v14 v15 : Option V), σ = Sg a F [some (.int y), some (.ref l), some (.ref Ra), some (.int (n : Nat)), some (.ref A1), some (.int (pl : Nat)), some odd, some thing, some (.ref SP), v11, v12, v13, v14, v15] ∧ Rd8 K Ts F Cs fs cells Ra A1 ps n one pl odd thing G ∧ LstE K G (.ref SP) false
end
end Lw

set_option Elab.async false
set_option linter.all false
set_option maxRecDepth 100000
set_option maxHeartbeats 1000000
namespace Lw
open PySem L2 Two Pr ClX LamX
theorem disp_fin {H3 : Hp} {p4 p5 p6 b : Addr} {o4 o5 o6 u v : HO} (e : H3 b = some u) (m4 : H3 p4 = none) (m5 : upd H3 p4 o4 p5 = none) (m6 : upd (upd (upd H3 p4 o4) p5 o5) p4 v p6 = none) : upd (upd (upd (upd H3 p4 o4) p5 o5) p4 v) p6 o6 b = some u :=
  app (by rw [upd_ne (ne_of_none e m4)]; exact app (app e m4) m5) m6
theorem disp_pre {H3 : Hp} {p4 p5 b : Addr} {o4 o5 u v : HO} (e : H3 b = some u) (m4 : H3 p4 = none) (m5 : upd H3 p4 o4 p5 = none) : upd (upd (upd H3 p4 o4) p5 o5) p4 v b = some u := by
  rw [upd_ne (ne_of_none e m4)]; exact app (app e m4) m5
theorem disp_own {H3 : Hp} {p4 p5 p6 : Addr} {o4 o5 o6 v : HO} (m6 : upd (upd (upd H3 p4 o4) p5 o5) p4 v p6 = none) : upd (upd (upd (upd H3 p4 o4) p5 o5) p4 v) p6 o6 p4 = some v := app upd_same m6
theorem n567 : ([5, 6, 7] : List Int).Nodup := by decide
theorem b567 : ∀ z ∈ ([5, 6, 7] : List Int), Big z := fun z hz => big_small (by revert z; decide)
section
variable {P : Program} {w : World} {K : PySem.W.Frag} {mg : Str → Option Value} {base : Heap} {CL CB CT CD : Addr} {cs : List Addr} {Ts : List (Addr × Str)} {fC fS fL fR fP fB : Addr} {dC dS dL dR dP dB : FuncData} {f : Addr} {cdv : Value} {A : Around} {outer : List Env} {s : Shared} {Hs : Hp} {E : XK} {a F Cs : Addr} {fs : List (Addr × List Int)} {cells : List Int}
theorem t0 (T : Txt mg) (R : RefTxt K mg CL CB CT CD cs) (D : Defs P w K mg base CB CT CD Ts fC fS fL fR fP fB dC dS dL dR dP dB) (hr : Room 10 (LX P w K mg base f cdv A outer s Hs E).A) : PS (LX P w K mg base f cdv A outer s Hs E) (stm 0) (tStep (S0 a F Cs fs cells Ts) (S1 a F Cs fs cells Ts)) := by
  refine st_by fun D' σ H pre k => ?_
  have hr1 : Room 1 (LX P w K mg base f cdv A outer s Hs E).A := hr.mono (by decide)
  have hr2 : Room 2 (LX P w K mg base f cdv A outer s Hs E).A := hr.mono (by decide)
  have hr4 : Room 4 (LX P w K mg base f cdv A outer s Hs E).A := hr.mono (by decide)
  obtain ⟨y, v3, v4, v5, v6, v7, v8, v9, v10, v11, v12, v13, v14, v15, rfl, b⟩ := pre
  refine ⟨_, (ps_set (i := 3) scLaw.nd rfl (Or.inl rfl) (pe_call D.GS hr1 rfl D.gS D.kS D.bS .nil pass0 (pa_cons (pv 2) pa_nil))), _, rfl, y, rfl, fun G1 l s1 nl src1 => k _ _ ⟨y, l, H, v4, v5, v6, v7, v8, v9, v10, v11, v12, v13, v14, v15, rfl, b, nl, s1, src1⟩⟩
theorem t1 (T : Txt mg) (R : RefTxt K mg CL CB CT CD cs) (D : Defs P w K mg base CB CT CD Ts fC fS fL fR fP fB dC dS dL dR dP dB) (hr : Room 10 (LX P w K mg base f cdv A outer s Hs E).A) : PS (LX P w K mg base f cdv A outer s Hs E) (stm 1) (tStep (S1 a F Cs fs cells Ts) (S2 a F Cs fs cells Ts)) := by
  refine st_by fun D' σ H pre k => ?_
  have hr1 : Room 1 (LX P w K mg base f cdv A outer s Hs E).A := hr.mono (by decide)
  have hr2 : Room 2 (LX P w K mg base f cdv A outer s Hs E).A := hr.mono (by decide)
  have hr4 : Room 4 (LX P w K mg base f cdv A outer s Hs E).A := hr.mono (by decide)
  obtain ⟨y, l, G0, v4, v5, v6, v7, v8, v9, v10, v11, v12, v13, v14, v15, rfl, c⟩ := pre
  refine ⟨_, (ps_set (i := 4) scLaw.nd rfl (Or.inl rfl) (pe_op op_cat (pe_call D.GL hr4 rfl D.gL D.kL D.bL .nil pass0 (pa_cons (pv 3) (pa_cons pe_int pa_nil))) (pe_lst (pa_cons (pe_lst (pa_cons pe_int (pa_cons pe_int (pa_cons pe_int pa_nil)))) pa_nil)))), ?_⟩
  refine ⟨_, rfl, l, 6, rfl, by decide, by decide, c.src, fun G2 R0 ps0 U b2 src2 hR0 nR0 each0 L0 dr => ?_⟩
  refine ⟨by show 3 ≤ sizeLine; decide, fun q1 m1 => ⟨by show 1 ≤ sizeLine; decide, fun q2 m2 => ?_⟩⟩
  have l1 : q1 ≠ l := src_none src2 m1
  have few := dr.few
  refine ⟨R0, q2, _, _, rfl, rfl, app (app hR0 m1) m2, upd_same, Nat.le_of_lt (small1000 (by rw [List.length_map]; show _ + 1 ≤ 1000; omega)), fun Ra mR => ?_⟩
  have s3 : Same G2 _ := ad (o := .lst (refsOf ps0 ++ [.ref q1])) (ad (o := .lst [.ref q1]) (ad1 (o := .lst [.int 5, .int 6, .int 7]) m1) m2) mR
  have Rl : Ra ≠ l := fun z => by
    obtain ⟨x, y, c, hl, _⟩ := src2
    exact ne_of_none (app (o := .lst [.ref q1]) (app (o := .lst [.int 5, .int 6, .int 7]) hl m1) m2) mR z.symm
  refine k _ _ ⟨y, l, Ra, ps0 ++ [(q1, [5, 6, 7])], G0, v5, v6, v7, v8, v9, v10, v11, v12, v13, v14, v15, rfl, (c.but b2 src2).add s3, ?_, Rl, fun p hp => ?_, ?_, ?_, fun p hp => ?_⟩
  · rw [upd_same]; unfold refsOf; rw [List.map_append]; rfl
  · rcases List.mem_append.mp hp with m | m
    · exact ⟨s3 _ _ (each0 p m).1, (each0 p m).2⟩
    · rw [List.mem_singleton.mp m]; exact ⟨app (app upd_same m2) mR, l1⟩
  · rw [List.length_append]; show ps0.length + 1 ≤ 16; omega
  · rw [List.length_append]; show 0 < ps0.length + 1; omega
  · rcases List.mem_append.mp hp with m | m
    · exact ⟨dr.short p m, dr.nd p m, dr.big p m⟩
    · rw [List.mem_singleton.mp m]
      exact ⟨(by show 3 ≤ 15; decide), n567, b567⟩
theorem t2 (T : Txt mg) (R : RefTxt K mg CL CB CT CD cs) (D : Defs P w K mg base CB CT CD Ts fC fS fL fR fP fB dC dS dL dR dP dB) (hr : Room 10 (LX P w K mg base f cdv A outer s Hs E).A) : PS (LX P w K mg base f cdv A outer s Hs E) (stm 2) (tStep (S2 a F Cs fs cells Ts) (S3 a F Cs fs cells Ts)) := by
  refine st_by fun D' σ H pre k => ?_
  have hr1 : Room 1 (LX P w K mg base f cdv A outer s Hs E).A := hr.mono (by decide)
  have hr2 : Room 2 (LX P w K mg base f cdv A outer s Hs E).A := hr.mono (by decide)
  have hr4 : Room 4 (LX P w K mg base f cdv A outer s Hs E).A := hr.mono (by decide)
  obtain ⟨y, l, Ra, ps, G0, v5, v6, v7, v8, v9, v10, v11, v12, v13, v14, v15, rfl, c, L⟩ := pre
  have pl := L.plen
  have pp := L.pos
  refine ⟨_, (ps_set (i := 5) scLaw.nd rfl (Or.inl rfl) (pe_call D.GR hr1 rfl D.gR D.kR D.bR .nil pass0 (pa_cons (pv 3) (pa_cons (pe_callB call_len_seq (by rfl) T.len PySem.boot_len (pa_cons (pv 4) pa_nil)) pa_nil)))), ?_⟩
  refine ⟨_, rfl, _, rfl, Ra, _, rfl, .inl (SqL.of L.lst), l, _, 2000, rfl, ?_, ?_, c.src, by decide, fun H' d but src' d0 d1 => ?_⟩
  · rw [List.length_map]; omega
  · rw [List.length_map]; omega
  · obtain ⟨n, rfl⟩ := Int.eq_ofNat_of_zero_le d0
    rw [List.length_map] at d1
    exact k _ _ ⟨y, l, Ra, ps, G0, n, v6, v7, v8, v9, v10, v11, v12, v13, v14, v15, rfl, c.but but (src'.more (by omega)), L.but but, by omega⟩
theorem t3 (T : Txt mg) (R : RefTxt K mg CL CB CT CD cs) (D : Defs P w K mg base CB CT CD Ts fC fS fL fR fP fB dC dS dL dR dP dB) (hr : Room 10 (LX P w K mg base f cdv A outer s Hs E).A) : PS (LX P w K mg base f cdv A outer s Hs E) (stm 3) (tStep (S3 a F Cs fs cells Ts) (S4 a F Cs fs cells Ts)) := by
  refine st_by fun D' σ H pre k => ?_
  have hr1 : Room 1 (LX P w K mg base f cdv A outer s Hs E).A := hr.mono (by decide)
  have hr2 : Room 2 (LX P w K mg base f cdv A outer s Hs E).A := hr.mono (by decide)
  have hr4 : Room 4 (LX P w K mg base f cdv A outer s Hs E).A := hr.mono (by decide)
  obtain ⟨y, l, Ra, ps, G0, n, v6, v7, v8, v9, v10, v11, v12, v13, v14, v15, rfl, c, L, hn⟩ := pre
  have e1 : ps[n]? = some (ps[n].1, ps[n].2) := by rw [List.getElem?_eq_getElem hn]
  refine ⟨_, (ps_set (i := 6) scLaw.nd rfl (Or.inl rfl) (pe_ix ix_list (pv 4) (pv 5) (fun _ _ => rfl))), ?_⟩
  refine ⟨_, rfl, _, rfl, Ra, _, _, .ref ps[n].1, rfl, rfl, SqL.of L.lst, atI_nat (by rw [List.getElem?_map, e1]; rfl), ?_⟩
  exact k _ _ ⟨y, l, Ra, ps, G0, n, ps[n].1, ps[n].2, v7, v8, v9, v10, v11, v12, v13, v14, v15, rfl, c, L, e1⟩
theorem t4 (T : Txt mg) (R : RefTxt K mg CL CB CT CD cs) (D : Defs P w K mg base CB CT CD Ts fC fS fL fR fP fB dC dS dL dR dP dB) (hr : Room 10 (LX P w K mg base f cdv A outer s Hs E).A) : PS (LX P w K mg base f cdv A outer s Hs E) (stm 4) (tStep (S4 a F Cs fs cells Ts) (S5 a F Cs fs cells Ts)) := by
  refine st_by fun D' σ H pre k => ?_
  have hr1 : Room 1 (LX P w K mg base f cdv A outer s Hs E).A := hr.mono (by decide)
  have hr2 : Room 2 (LX P w K mg base f cdv A outer s Hs E).A := hr.mono (by decide)
  have hr4 : Room 4 (LX P w K mg base f cdv A outer s Hs E).A := hr.mono (by decide)
  obtain ⟨y, l, Ra, ps, G0, n, A1, one, v7, v8, v9, v10, v11, v12, v13, v14, v15, rfl, c, L, at1⟩ := pre
  have m1 := List.mem_of_getElem? at1
  have sh := (L.okp _ m1).1
  refine ⟨_, (ps_set (i := 7) scLaw.nd rfl (Or.inl rfl) (pe_call D.GR hr1 rfl D.gR D.kR D.bR .nil pass0 (pa_cons (pv 3) (pa_cons (pe_op op_add (pe_callB call_len_seq (by rfl) T.len PySem.boot_len (pa_cons (pv 6) pa_nil)) pe_int) pa_nil)))), ?_⟩
  refine ⟨_, rfl, _, rfl, A1, _, rfl, .inl (SqL.of (L.each _ m1).1), _, _, rfl, rfl, l, _, 3000, rfl, ?_, ?_, c.src, by decide, fun H' d but src' d0 d1 => ?_⟩
  · rw [List.length_map]; omega
  · rw [List.length_map]; omega
  · obtain ⟨pl, rfl⟩ := Int.eq_ofNat_of_zero_le d0
    rw [List.length_map] at d1
    exact k _ _ ⟨y, l, Ra, ps, G0, n, A1, one, pl, v8, v9, v10, v11, v12, v13, v14, v15, rfl, c.but but (src'.more (by omega)), L.but but, at1, (show pl ≤ one.length from by have d2 : (pl : Int) < (one.length : Int) + 1 := d1; omega)⟩
theorem t5 (T : Txt mg) (R : RefTxt K mg CL CB CT CD cs) (D : Defs P w K mg base CB CT CD Ts fC fS fL fR fP fB dC dS dL dR dP dB) (hr : Room 10 (LX P w K mg base f cdv A outer s Hs E).A) : PS (LX P w K mg base f cdv A outer s Hs E) (stm 5) (tStep (S5 a F Cs fs cells Ts) (S6 a F Cs fs cells Ts)) := by
  refine st_by fun D' σ H pre k => ?_
  have hr1 : Room 1 (LX P w K mg base f cdv A outer s Hs E).A := hr.mono (by decide)
  have hr2 : Room 2 (LX P w K mg base f cdv A outer s Hs E).A := hr.mono (by decide)
  have hr4 : Room 4 (LX P w K mg base f cdv A outer s Hs E).A := hr.mono (by decide)
  obtain ⟨y, l, Ra, ps, G0, n, A1, one, pl, v8, v9, v10, v11, v12, v13, v14, v15, rfl, c, L, at1, hp⟩ := pre
  refine ⟨_, (ps_set (i := 8) scLaw.nd rfl (Or.inl rfl) (pe_call D.GP hr2 rfl D.gP D.kP D.bP .nil pass0 (pa_cons (pv 3) (pa_cons (pe_lst (pa_cons pe_non (pa_cons pe_bl (pa_cons pe_bl (pa_cons pe_str (pa_cons (pe_tup (pa_cons pe_int pa_nil)) (pa_cons (pe_lst (pa_cons pe_int pa_nil)) (pa_cons pe_dnewK pa_nil)))))))) pa_nil)))), ?_⟩
  refine ⟨_, rfl, by show 1 ≤ sizeLine; decide, fun p1 m1 => ⟨by show 1 ≤ sizeLine; decide, fun p2 m2 => fun p3 m3 => ⟨by show 7 ≤ sizeLine; decide, fun p4 m4 => ?_⟩⟩⟩
  have s4 : Same H _ := ad (o := .lst [.non, .bl true, .bl false, .str "1", .ref p1, .ref p2, .ref p3]) (ad (o := .dK []) (ad (o := .lst [.int 1]) (ad1 (o := .tup [.int 1]) m1) m2) m3) m4
  have c4 := c.add s4
  have g1 := app (o := .lst [.non, .bl true, .bl false, .str "1", .ref p1, .ref p2, .ref p3]) (app (o := .dK []) (app (o := .lst [.int 1]) (upd_same (H := H) (o := .tup [.int 1])) m2) m3) m4
  have g2 := app (o := .lst [.non, .bl true, .bl false, .str "1", .ref p1, .ref p2, .ref p3]) (app (o := .dK []) (upd_same (H := upd H p1 (.tup [.int 1])) (o := .lst [.int 1])) m3) m4
  have g3 := app (o := .lst [.non, .bl true, .bl false, .str "1", .ref p1, .ref p2, .ref p3]) (upd_same (H := upd (upd H p1 (.tup [.int 1])) p2 (.lst [.int 1])) (o := .dK [])) m4
  have h1 : p1 ≠ l := src_none c.src m1
  have h2 : p2 ≠ l := src_none (c.add (ad1 (o := .tup [.int 1]) m1)).src m2
  have h3 : p3 ≠ l := src_none (c.add (ad (o := .lst [.int 1]) (ad1 (o := .tup [.int 1]) m1) m2)).src m3
  have h4 : p4 ≠ l := src_none (c.add (ad (o := .dK []) (ad (o := .lst [.int 1]) (ad1 (o := .tup [.int 1]) m1) m2) m3)).src m4
  refine ⟨l, p4, 4000, _, rfl, c4.src, by decide, SqL.of upd_same, h4, (fun z => nomatch z), by show 7 ≤ 1000; decide, fun H' x but src' hx => ?_⟩
  refine k _ _ ⟨y, l, Ra, ps, G0, n, A1, one, pl, x, v9, v10, v11, v12, v13, v14, v15, rfl, c4.but but (src'.more (by omega)), (L.add s4).but but, at1, hp, ?_⟩
  refine Odd.but ?_ but
  rcases List.mem_cons.mp hx with rfl | hx
  · exact .inl rfl
  rcases List.mem_cons.mp hx with rfl | hx
  · exact .inr (.inl ⟨_, rfl⟩)
  rcases List.mem_cons.mp hx with rfl | hx
  · exact .inr (.inl ⟨_, rfl⟩)
  rcases List.mem_cons.mp hx with rfl | hx
  · exact .inr (.inr (.inl ⟨_, rfl⟩))
  rcases List.mem_cons.mp hx with rfl | hx
  · exact .inr (.inr (.inr ⟨_, rfl, h1, .inl ⟨_, g1⟩⟩))
  rcases List.mem_cons.mp hx with rfl | hx
  · exact .inr (.inr (.inr ⟨_, rfl, h2, .inr (.inl ⟨_, g2⟩)⟩))
  · rw [List.mem_singleton.mp hx]; exact .inr (.inr (.inr ⟨_, rfl, h3, .inr (.inr ⟨_, g3⟩)⟩))
theorem t6 (T : Txt mg) (R : RefTxt K mg CL CB CT CD cs) (D : Defs P w K mg base CB CT CD Ts fC fS fL fR fP fB dC dS dL dR dP dB) (hr : Room 10 (LX P w K mg base f cdv A outer s Hs E).A) : PS (LX P w K mg base f cdv A outer s Hs E) (stm 6) (tStep (S6 a F Cs fs cells Ts) (S7 a F Cs fs cells K Ts)) := by
  refine st_by fun D' σ H pre k => ?_
  have hr1 : Room 1 (LX P w K mg base f cdv A outer s Hs E).A := hr.mono (by decide)
  have hr2 : Room 2 (LX P w K mg base f cdv A outer s Hs E).A := hr.mono (by decide)
  have hr4 : Room 4 (LX P w K mg base f cdv A outer s Hs E).A := hr.mono (by decide)
  obtain ⟨y, l, Ra, ps, G0, n, A1, one, pl, odd, v9, v10, v11, v12, v13, v14, v15, rfl, c, L, at1, hp, ho⟩ := pre
  refine ⟨_, (ps_set (i := 9) scLaw.nd rfl (Or.inl rfl) (pe_call D.GP hr2 rfl D.gP D.kP D.bP .nil pass0 (pa_cons (pv 3) (pa_cons (pe_lst (pa_cons pe_non (pa_cons (pe_callTy call_tuple_of (by rfl) T.tuple (by decide +kernel) (pa_cons (pv 4) pa_nil)) (pa_cons pe_dnewK (pa_cons pe_str (pa_cons pe_int (pa_cons pe_bl (pa_cons (pe_tup pa_nil) (pa_cons pe_str (pa_cons (pe_disp (pps_cons pe_int (pe_lst (pa_cons pe_int pa_nil)) pps_nil) (by rfl) (by rfl) (fun z => by cases z) (by decide)) pa_nil)))))))))) pa_nil)))), ?_⟩
  have plen := L.plen
  refine ⟨_, rfl, _, rfl, Ra, _, rfl, .inl ⟨SqL.of L.lst, fun p1 m1 => fun p2 m2 => ⟨Nat.zero_le _, fun p3 m3 => fun p4 m4 => ⟨by show 1 ≤ sizeLine; decide, fun p5 m5 => ?_⟩⟩⟩⟩
  have a4 := app (o := .lst [.int 1]) (upd_same (H := upd (upd (upd H p1 (.tup (refsOf ps))) p2 (.dK [])) p3 (.tup [])) (o := .dK [])) m5
  refine ⟨a4, [(Sum.inl 1, .ref p5)], rfl, by show 1 ≤ 15; decide, by show 9 ≤ sizeLine; decide, fun p6 m6 => ?_⟩
  have e1 : (upd (upd (upd H p1 (.tup (refsOf ps))) p2 (.dK [])) p3 (.tup [])) p1 = some (.tup (refsOf ps)) := app (app upd_same m2) m3
  have e2 : (upd (upd (upd H p1 (.tup (refsOf ps))) p2 (.dK [])) p3 (.tup [])) p2 = some (.dK []) := app upd_same m3
  have e3 : (upd (upd (upd H p1 (.tup (refsOf ps))) p2 (.dK [])) p3 (.tup [])) p3 = some (.tup []) := upd_same
  have s3 : Same H _ := ad (o := .tup []) (ad (o := .dK []) (ad1 (o := .tup (refsOf ps)) m1) m2) m3
  have sZ : Same H _ := s3.trans fun b o e => disp_fin (o6 := .lst [.non, .ref p1, .ref p2, .str "lists", .int 5, .bl true, .ref p3, .str "", .ref p4]) e m4 m5 m6
  have z1 := disp_fin (o6 := .lst [.non, .ref p1, .ref p2, .str "lists", .int 5, .bl true, .ref p3, .str "", .ref p4]) e1 m4 m5 m6
  have z2 := disp_fin (o6 := .lst [.non, .ref p1, .ref p2, .str "lists", .int 5, .bl true, .ref p3, .str "", .ref p4]) e2 m4 m5 m6
  have z3 := disp_fin (o6 := .lst [.non, .ref p1, .ref p2, .str "lists", .int 5, .bl true, .ref p3, .str "", .ref p4]) e3 m4 m5 m6
  have z4 := disp_own (o6 := .lst [.non, .ref p1, .ref p2, .str "lists", .int 5, .bl true, .ref p3, .str "", .ref p4]) m6
  have h1 : p1 ≠ l := src_none c.src m1
  have h2 : p2 ≠ l := src_none (c.add (ad1 (o := .tup (refsOf ps)) m1)).src m2
  have h3 : p3 ≠ l := src_none (c.add (ad (o := .dK []) (ad1 (o := .tup (refsOf ps)) m1) m2)).src m3
  have h4 : p4 ≠ l := src_none (c.add s3).src m4
  have h6 : p6 ≠ l := fun z => by
    obtain ⟨x, y, c, hl, _⟩ := (c.add s3).src
    exact ne_of_none (disp_pre hl m4 m5) m6 z.symm
  refine ⟨l, p6, 5000, _, rfl, (c.add sZ).src, by decide, SqL.of upd_same, h6, (fun z => nomatch z), by show 9 ≤ 1000; decide, fun H' x but src' hx => ?_⟩
  have c7 := (c.add sZ).but but src'
  have L7 := (L.add sZ).but but
  have o7 := (Odd.but ho (but_same sZ)).but but
  refine k _ _ ⟨y, l, Ra, ps, n, A1, one, pl, odd, x, v10, v11, v12, v13, v14, v15, rfl, c7.bs.same c7.same, L7.lst, fun p hp => (L7.each p hp).1, L7.plen, L7.okp, at1, hp, o7.intE, ?_⟩
  rcases List.mem_cons.mp hx with rfl | hx
  · exact notL_non
  rcases List.mem_cons.mp hx with rfl | hx
  · exact notL_tup (but _ _ h1 z1)
  rcases List.mem_cons.mp hx with rfl | hx
  · exact notL_dK (but _ _ h2 z2)
  rcases List.mem_cons.mp hx with rfl | hx
  · exact notL_str _
  rcases List.mem_cons.mp hx with rfl | hx
  · exact notL_int _
  rcases List.mem_cons.mp hx with rfl | hx
  · exact notL_bl _
  rcases List.mem_cons.mp hx with rfl | hx
  · exact notL_tup (but _ _ h3 z3)
  rcases List.mem_cons.mp hx with rfl | hx
  · exact notL_str _
  · rw [List.mem_singleton.mp hx]; exact notL_dK (but _ _ h4 z4)
theorem t7 (T : Txt mg) (R : RefTxt K mg CL CB CT CD cs) (D : Defs P w K mg base CB CT CD Ts fC fS fL fR fP fB dC dS dL dR dP dB) (hr : Room 10 (LX P w K mg base f cdv A outer s Hs E).A) : PS (LX P w K mg base f cdv A outer s Hs E) (stm 7) (tStep (S7 a F Cs fs cells K Ts) (S8 a F Cs fs cells K Ts)) := by
  refine st_by fun D' σ H pre k => ?_
  have hr1 : Room 1 (LX P w K mg base f cdv A outer s Hs E).A := hr.mono (by decide)
  have hr2 : Room 2 (LX P w K mg base f cdv A outer s Hs E).A := hr.mono (by decide)
  have hr4 : Room 4 (LX P w K mg base f cdv A outer s Hs E).A := hr.mono (by decide)
  obtain ⟨y, l, Ra, ps, n, A1, one, pl, odd, thing, v10, v11, v12, v13, v14, v15, rfl, r⟩ := pre
  have m1 := List.mem_of_getElem? r.at_
  have h1 : H A1 = some (.lst (one.map V.int)) := r.each _ m1
  have sh : one.length ≤ 15 := (r.okp _ m1).1
  have ple := r.ple
  refine ⟨_, (ps_set (i := 10) scLaw.nd rfl (Or.inl rfl) (pe_op op_cat (pe_op op_cat (pe_slice sl_list (pv 6) po_none (po_some (pv 7))) (pe_lst (pa_cons (pv 8) pa_nil))) (pe_slice sl_list (pv 6) (po_some (pv 7)) po_none))), ?_⟩
  have short : ∀ lo hi, (cutV (one.map V.int) lo hi).length ≤ 15 := fun lo hi => by
    have e := cutV_length (one.map V.int) lo hi
    rw [List.length_map] at e
    have : one.length ≤ 15 := sh
    omega
  have intz : ∀ lo hi, ∀ v ∈ cutV (one.map V.int) lo hi, ∃ z, v = .int z := fun lo hi v hv => by
    have := List.drop_subset _ _ (List.take_subset _ _ hv)
    obtain ⟨z, _, rfl⟩ := List.mem_map.mp this
    exact ⟨z, rfl⟩
  have sa := short none (some (pl : Nat))
  have sb := short (some (pl : Nat)) none
  refine ⟨_, rfl, _, rfl, _, rfl, A1, _, rfl, SqL.of h1, fun p1 n1 => ?_⟩
  refine ⟨_, rfl, by show 1 ≤ sizeLine; decide, fun p2 n2 => ⟨p1, p2, _, _, rfl, rfl, app upd_same n2, upd_same, Nat.le_of_lt (small1000 (by show _ + 1 ≤ 1000; omega)), fun p3 n3 => ?_⟩⟩
  have h3 := app (o := .lst (cutV (one.map V.int) none (some (pl : Nat)) ++ [odd])) (app (o := .lst [odd]) (app (o := .lst (cutV (one.map V.int) none (some (pl : Nat)))) h1 n1) n2) n3
  refine ⟨_, rfl, _, rfl, _, rfl, A1, _, rfl, SqL.of h3, fun p4 n4 => ⟨p3, p4, _, _, rfl, rfl, app upd_same n4, upd_same, Nat.le_of_lt (small1000 (by rw [List.length_append]; show _ + 1 + _ ≤ 1000; omega)), fun p5 n5 => ?_⟩⟩
  have s5 : Same H _ := ad (o := .lst (cutV (one.map V.int) none (some (pl : Nat)) ++ [odd] ++ cutV (one.map V.int) (some (pl : Nat)) none)) (ad (o := .lst (cutV (one.map V.int) (some (pl : Nat)) none)) (ad (o := .lst (cutV (one.map V.int) none (some (pl : Nat)) ++ [odd])) (ad (o := .lst [odd]) (ad1 (o := .lst (cutV (one.map V.int) none (some (pl : Nat)))) n1) n2) n3) n4) n5
  have r5 := r.same s5
  refine k _ _ ⟨y, l, Ra, ps, n, A1, one, pl, odd, thing, p5, v11, v12, v13, v14, v15, rfl, r5, lstE_odd (SqL.of upd_same) ?_ (fun v hv => ?_) ⟨odd, List.mem_append.mpr (.inl (List.mem_append.mpr (.inr (List.mem_singleton.mpr rfl)))), r5.odd⟩⟩
  · rw [List.length_append, List.length_append]; show _ + 1 + _ ≤ 1000; omega
  · rcases List.mem_append.mp hv with hv | hv
    · rcases List.mem_append.mp hv with hv | hv
      · obtain ⟨z, rfl⟩ := intz _ _ _ hv; exact .inl (intE_int z)
      · rw [List.mem_singleton.mp hv]; exact .inr r5.odd
    · obtain ⟨z, rfl⟩ := intz _ _ _ hv; exact .inl (intE_int z)
end
end Lw

set_option Elab.async false
set_option linter.all false
set_option maxRecDepth 100000
set_option maxHeartbeats 1000000
namespace Lw
open PySem L2 Two Pr ClX LamX

theorem mid_read {K : PySem.W.Frag} {σ : L2.St} {H : Hp} {Q : VK} {i j : Nat} {Ra : Addr} {xs : List V} {n m : Int} {te tn : TE} {PV : V → Hp → Prop}
    (h1 : σ[i]? = some (some (.ref Ra))) (h2 : σ[j]? = some (some (.int n))) (hx : H Ra = some (.lst xs)) (hl : xs.length ≤ 100)
    (hte : ∀ H1 (Q1 : VK), Same H H1 → (∀ v H2, Same H1 H2 → PV v H2 → Q1 v H2) → te σ H1 Q1)
    (stab : ∀ v H1 H2, PV v H1 → Same H1 H2 → PV v H2)
    (htn : ∀ H1 (Q1 : VK), Q1 (.int m) H1 → tn σ H1 Q1)
    (k : ∀ q v H', Same H H' → H' q = some (.lst (cutV xs none (some n) ++ [v] ++ cutV xs (some m) none)) → PV v H' → Q (.ref q) H') :
    tOp rCat (tOp rCat (tSl (rSlL K) (tVar i) tNoPart (tPart (tVar j))) (tLst (tCons te tNil))) (tSl (rSlL K) (tVar i) (tPart tn) tNoPart) σ H Q := by
  have l1 := cutV_length xs none (some n)
  have l2 := cutV_length xs (some m) none
  refine ⟨_, h1, _, h2, _, rfl, Ra, _, rfl, SqL.of hx, fun p1 n1 => ?_⟩
  refine hte _ _ (ad1 n1) fun v H2 s2 pv => ⟨by show 1 ≤ sizeLine; decide, fun p2 n2 => ⟨p1, p2, _, _, rfl, rfl, app (s2 _ _ upd_same) n2, upd_same, Nat.le_of_lt (small1000 (by show _ + 1 ≤ 1000; omega)), fun p3 n3 => ?_⟩⟩
  have s3 : Same H _ := ad (o := .lst (cutV xs none (some n) ++ [v])) (ad (o := .lst [v]) ((ad1 n1).trans s2) n2) n3
  refine ⟨_, h1, htn _ _ ⟨m, rfl, Ra, _, rfl, SqL.of (s3 _ _ hx), fun p4 n4 => ⟨p3, p4, _, _, rfl, rfl, app upd_same n4, upd_same, Nat.le_of_lt (small1000 (by rw [List.length_append]; show _ + 1 + _ ≤ 1000; omega)), fun p5 n5 => ?_⟩⟩⟩
  refine k p5 v _ (ad (ad s3 n4) n5) upd_same (stab _ _ _ pv (ad (ad (ad (ad1 n2) n3) n4) n5))
theorem cut_refs {ps : List (Addr × List Int)} {lo hi : Option Int} {y : V} (h : y ∈ cutV (refsOf ps) lo hi) : ∃ p ∈ ps, y = .ref p.1 := by
  obtain ⟨p, hp, rfl⟩ := List.mem_map.mp (List.drop_subset _ _ (List.take_subset _ _ h))
  exact ⟨p, hp, rfl⟩
/-- an item of lists as the check wants them, or not -/
def Gd (K : PySem.W.Frag) (G : Hp) (y : V) : Prop := LstE K G y true ∨ LstE K G y false
theorem Gd.ext {K : PySem.W.Frag} {G G' : Hp} {y : V} (g : Gd K G y) (e : ExtN G G') : Gd K G' y := g.imp (·.ext e) (·.ext e)
theorem gd_refs {K : PySem.W.Frag} {Ts F Cs fs cells Ra A1 ps n one pl odd thing G} (r : Rd8 K Ts F Cs fs cells Ra A1 ps n one pl odd thing G) {lo hi : Option Int} {y : V} (h : y ∈ cutV (refsOf ps) lo hi) : Gd K G y := by
  obtain ⟨p, hp, rfl⟩ := cut_refs h
  exact .inl (lstE_ints (SqL.of (r.each p hp)) (by have := (r.okp p hp).1; omega))
theorem gd_all {K : PySem.W.Frag} {Ts F Cs fs cells Ra A1 ps n one pl odd thing G} (r : Rd8 K Ts F Cs fs cells Ra A1 ps n one pl odd thing G) {y : V} (h : y ∈ refsOf ps) : Gd K G y := by
  obtain ⟨p, hp, rfl⟩ := List.mem_map.mp h
  exact .inl (lstE_ints (SqL.of (r.each p hp)) (by have := (r.okp p hp).1; omega))
theorem gd_full {K : PySem.W.Frag} {F : Addr} {fs : List (Addr × List Int)} {G : Hp} (f : Full G F fs) {y : V} (h : y ∈ refsOf fs) : Gd K G y := by
  obtain ⟨p, hp, rfl⟩ := List.mem_map.mp h
  exact .inl (lstE_ints (SqL.of (f.fits p hp)) (by rw [(f.fall p hp).1]; decide))
/-- a list with something bad in the middle -/
theorem mid_bad {K : PySem.W.Frag} {CB CT CD : Addr} {Ts F Cs fs cells Ra A1 ps n one pl odd thing G} (r : Rd8 K Ts F Cs fs cells Ra A1 ps n one pl odd thing G) {q : Addr} {v : V} {n1 n2 : Int} (hq : G q = some (.lst (cutV (refsOf ps) none (some n1) ++ [v] ++ cutV (refsOf ps) (some n2) none))) (hv : LstE K G v false) : Refuses K CB CT CD (.ref q) (some (ErrK.list "lists")) G := by
  have plen := r.plen
  have l1 := cutV_length (refsOf ps) none (some n1)
  have l2 := cutV_length (refsOf ps) (some n2) none
  rw [List.length_map] at l1 l2
  refine refuses_bad (SqL.of hq) ?_ (fun y hy => ?_) ⟨v, List.mem_append.mpr (.inl (List.mem_append.mpr (.inr (List.mem_singleton.mpr rfl)))), hv⟩
  · rw [List.length_append, List.length_append]; show _ + 1 + _ ≤ 1000; omega
  · rcases List.mem_append.mp hy with hy | hy
    · rcases List.mem_append.mp hy with hy | hy
      · exact gd_refs r hy
      · rw [List.mem_singleton.mp hy]; exact .inr hv
    · exact gd_refs r hy
def iota (m : Nat) : List Int := (List.range m).map fun j : Nat => (j : Int)
theorem Refuses.ext {K : PySem.W.Frag} {CB CT CD : Addr} {x : V} {o : Option ErrK} {H H' : Hp} (r : Refuses K CB CT CD x o H) (e : ExtN H H') : Refuses K CB CT CD x o H' := fun G g => r G (e.trans g)
section
variable {P : Program} {w : World} {K : PySem.W.Frag} {mg : Str → Option Value} {base : Heap} {CL CB CT CD : Addr} {cs : List Addr} {Ts : List (Addr × Str)} {fC fS fL fR fP fB : Addr} {dC dS dL dR dP dB : FuncData} {f : Addr} {cdv : Value} {A : Around} {outer : List Env} {s : Shared} {Hs : Hp} {E : XK} {a F Cs : Addr} {fs : List (Addr × List Int)} {cells : List Int}
theorem t8 (T : Txt mg) (R : RefTxt K mg CL CB CT CD cs) (D : Defs P w K mg base CB CT CD Ts fC fS fL fR fP fB dC dS dL dR dP dB) (hr : Room 10 (LX P w K mg base f cdv A outer s Hs E).A) : PS (LX P w K mg base f cdv A outer s Hs E) (stm 8) (tStep (S8 a F Cs fs cells K Ts) (S8 a F Cs fs cells K Ts)) := by
  refine st_by fun D' σ H pre k => ?_
  have hr1 : Room 1 (LX P w K mg base f cdv A outer s Hs E).A := hr.mono (by decide)
  have hr2 : Room 2 (LX P w K mg base f cdv A outer s Hs E).A := hr.mono (by decide)
  have hr4 : Room 4 (LX P w K mg base f cdv A outer s Hs E).A := hr.mono (by decide)
  obtain ⟨y, l, Ra, ps, n, A1, one, pl, odd, thing, SP, v11, v12, v13, v14, v15, rfl, r, bad⟩ := pre
  have m1 := List.mem_of_getElem? r.at_
  have h1 : H A1 = some (.lst (one.map V.int)) := r.each _ m1
  have plen := r.plen
  refine ⟨_, (ps_for PassesOwn.never rfl (pi_list (pe_lst (pa_cons (pv 9) (pa_cons (pe_op op_cat (pe_op op_cat (pe_slice sl_list (pv 4) po_none (po_some (pv 5))) (pe_lst (pa_cons (pv 10) pa_nil))) (pe_slice sl_list (pv 4) (po_some (pe_op op_add (pv 5) pe_int)) po_none)) (pa_cons (pe_op op_cat (pe_op op_cat (pe_slice sl_list (pv 4) po_none (po_some (pv 5))) (pe_lst (pa_cons (pe_callTy call_tuple_of (by rfl) T.tuple (by decide +kernel) (pa_cons (pv 6) pa_nil)) pa_nil))) (pe_slice sl_list (pv 4) (po_some (pv 5)) po_none)) pa_nil))))) (pg_name (i := 11) scLaw.nd rfl (Or.inl rfl)) (pss_one (ps_if (pt_not (pt_val (pe_call D.GB hr rfl D.gB D.kB D.bB .nil pass0 (pa_cons (pv 11) (pa_cons (pe_tup (pa_cons pe_str (pa_cons pe_str pa_nil))) pa_nil))))) pss_never pss_nil))), ?_⟩
  refine ⟨_, rfl, mid_read (PV := fun v G => LstE K G v false) rfl rfl r.lst (by rw [List.length_map]; omega) (fun H1 Q1 s1 kq => ⟨_, rfl, kq _ _ (Same.refl _) (bad.ext (extN s1))⟩) (fun v H1 H2 p s => p.ext (extN s)) (fun H1 Q1 hq => ⟨_, rfl, _, _, rfl, rfl, hq⟩) fun q1 v1 H1 s1 e1 b1 => ?_⟩
  refine mid_read (PV := fun v G => LstE K G v false) rfl rfl (s1 _ _ r.lst) (by rw [List.length_map]; omega) (fun H2 Q2 s2 kq => ⟨_, rfl, A1, _, rfl, .inl ⟨SqL.of (s2 _ _ (s1 _ _ h1)), fun t ht => kq _ _ (ad1 ht) (lstE_notL (notL_tup upd_same))⟩⟩) (fun v H1 H2 p s => p.ext (extN s)) (fun H1 Q1 hq => ⟨_, rfl, hq⟩) fun q2 v2 H2 s2 e2 b2 => ?_
  refine ⟨by show 3 ≤ sizeLine; decide, fun q3 n3 => ?_⟩
  have s3 : Same H _ := ad (o := .lst [thing, .ref q1, .ref q2]) (s1.trans s2) n3
  have r3 := r.same s3
  have all : ∀ y ∈ [thing, V.ref q1, V.ref q2], Refuses K CB CT CD y (some (ErrK.list "lists")) (upd H2 q3 (.lst [thing, .ref q1, .ref q2])) := fun v hv => by
    rcases List.mem_cons.mp hv with rfl | hv
    · exact refuses_notL r3.thing
    rcases List.mem_cons.mp hv with rfl | hv
    · exact mid_bad r3 ((ad s2 n3) _ _ e1) (b1.ext (extN (ad s2 n3)))
    · rw [List.mem_singleton.mp hv]; exact mid_bad r3 (ad1 n3 _ _ e2) (b2.ext (extN (ad1 n3)))
  obtain ⟨G3, eG⟩ : ∃ G3, G3 = upd H2 q3 (.lst [thing, .ref q1, .ref q2]) := ⟨_, rfl⟩
  rw [← eG] at all s3 r3
  have hq3 : G3 q3 = some (.lst [thing, .ref q1, .ref q2]) := by rw [eG]; exact upd_same
  rw [← eG]
  refine ⟨q3, rfl, ⟨_, SqL.of hq3⟩, for_list (K := K) (a := q3) (xs := [thing, .ref q1, .ref q2]) (fun i σ G => (∃ v11 : Option V, σ = Sg a F [some (.int y), some (.ref l), some (.ref Ra), some (.int (n : Nat)), some (.ref A1), some (.int (pl : Nat)), some odd, some thing, some (.ref SP), v11, v12, v13, v14, v15]) ∧ ExtN G3 G ∧ Tabs Ts G) ⟨⟨_, rfl⟩, ExtN.refl _, r3.bs.tabs⟩ (fun i σ G _ p => SqL.of (p.2.1 _ _ hq3 ntl)) ?_ ?_⟩
  · rintro i x σ G hx ⟨⟨v11, rfl⟩, e3, T3⟩
    refine ⟨_, rfl, by show 2 ≤ sizeLine; decide, fun t nt => ?_⟩
    have s4 : Same G _ := ad1 (o := .tup [.str "list", .str "lists"]) nt
    refine ⟨_, _, _, rfl, (all x (List.mem_of_getElem? hx)).ext (e3.trans (extN s4)), d_list upd_same, w_list, T3.ext s4, fun H' e' T' => ⟨true, rfl, iteF ⟨⟨_, rfl⟩, (e3.trans (extN s4)).trans e', T'⟩⟩⟩
  · rintro σ G ⟨⟨v11, rfl⟩, e3, T3⟩
    exact k _ _ ⟨y, l, Ra, ps, n, A1, one, pl, odd, thing, SP, v11, v12, v13, v14, v15, rfl, r3.ext e3 T3, (bad.ext (extN s3)).ext e3⟩
theorem t9 (T : Txt mg) (R : RefTxt K mg CL CB CT CD cs) (D : Defs P w K mg base CB CT CD Ts fC fS fL fR fP fB dC dS dL dR dP dB) (hr : Room 10 (LX P w K mg base f cdv A outer s Hs E).A) : PS (LX P w K mg base f cdv A outer s Hs E) (stm 9) (tStep (S8 a F Cs fs cells K Ts) (S8 a F Cs fs cells K Ts)) := by
  refine st_by fun D' σ H pre k => ?_
  have hr1 : Room 1 (LX P w K mg base f cdv A outer s Hs E).A := hr.mono (by decide)
  have hr2 : Room 2 (LX P w K mg base f cdv A outer s Hs E).A := hr.mono (by decide)
  have hr4 : Room 4 (LX P w K mg base f cdv A outer s Hs E).A := hr.mono (by decide)
  obtain ⟨y, l, Ra, ps, n, A1, one, pl, odd, thing, SP, v11, v12, v13, v14, v15, rfl, r, bad⟩ := pre
  have plen := r.plen
  have ff := r.bs.full
  refine ⟨_, (ps_if (pt_not (pt_val (pe_call D.GB hr rfl D.gB D.kB D.bB .nil pass0 (pa_cons (pe_op op_cat (pe_op op_cat (pe_lst (pa_cons (pv 10) pa_nil)) (pv 1)) (pe_lst (pa_cons (pe_lst (pa_cons pe_int (pa_cons pe_int pa_nil))) pa_nil))) (pa_cons (pe_tup (pa_cons pe_str (pa_cons pe_str pa_nil))) pa_nil))))) pss_never pss_nil), ?_⟩
  refine ⟨_, rfl, by show 1 ≤ sizeLine; decide, fun p1 n1 => ⟨_, rfl, p1, F, _, _, rfl, rfl, upd_same, app ff.full n1, Nat.le_of_lt (small1000 (by rw [List.length_map, ff.flen]; show 1 + 30 ≤ 1000; decide)), fun p2 n2 => ⟨by show 2 ≤ sizeLine; decide, fun p3 n3 => ⟨by show 1 ≤ sizeLine; decide, fun p4 n4 => ⟨p2, p4, _, _, rfl, rfl, app (app upd_same n3) n4, upd_same, Nat.le_of_lt (small1000 (by rw [List.length_append, List.length_map, ff.flen]; show 1 + 30 + 1 ≤ 1000; decide)), fun p5 n5 => ⟨by show 2 ≤ sizeLine; decide, fun p6 n6 => ?_⟩⟩⟩⟩⟩⟩
  have s6 : Same H _ := ad (o := .tup [.str "list", .str "lists"]) (ad (o := .lst ([.ref SP] ++ refsOf fs ++ [.ref p3])) (ad (o := .lst [.ref p3]) (ad (o := .lst [.int 1, .int 1]) (ad (o := .lst ([.ref SP] ++ refsOf fs)) (ad1 (o := .lst [.ref SP]) n1) n2) n3) n4) n5) n6
  have r6 := r.same s6
  have b6 := bad.ext (extN s6)
  refine ⟨_, _, _, rfl, refuses_bad (items := [.ref SP] ++ refsOf fs ++ [.ref p3]) (SqL.of (app upd_same n6)) (by rw [List.length_append, List.length_append, List.length_map, ff.flen]; show 1 + 30 + 1 ≤ 1000; decide) (fun v hv => ?_) ⟨.ref SP, List.mem_append.mpr (.inl (List.mem_append.mpr (.inl (List.mem_singleton.mpr rfl)))), b6⟩, d_list upd_same, w_list, r6.bs.tabs, fun H' e' T' => ⟨true, rfl, iteF (k _ _ ⟨y, l, Ra, ps, n, A1, one, pl, odd, thing, SP, v11, v12, v13, v14, v15, rfl, r6.ext e' T', b6.ext e'⟩)⟩⟩
  rcases List.mem_append.mp hv with hv | hv
  · rcases List.mem_append.mp hv with hv | hv
    · rw [List.mem_singleton.mp hv]; exact .inr b6
    · exact gd_full r6.bs.full hv
  · rw [List.mem_singleton.mp hv]; exact .inl (lstE_ints (ns := [1, 1]) (SqL.of (app (app (app upd_same n4) n5) n6)) (by decide))
theorem t10 (T : Txt mg) (R : RefTxt K mg CL CB CT CD cs) (D : Defs P w K mg base CB CT CD Ts fC fS fL fR fP fB dC dS dL dR dP dB) (hr : Room 10 (LX P w K mg base f cdv A outer s Hs E).A) : PS (LX P w K mg base f cdv A outer s Hs E) (stm 10) (tStep (S8 a F Cs fs cells K Ts) (S8 a F Cs fs cells K Ts)) := by
  refine st_by fun D' σ H pre k => ?_
  have hr1 : Room 1 (LX P w K mg base f cdv A outer s Hs E).A := hr.mono (by decide)
  have hr2 : Room 2 (LX P w K mg base f cdv A outer s Hs E).A := hr.mono (by decide)
  have hr4 : Room 4 (LX P w K mg base f cdv A outer s Hs E).A := hr.mono (by decide)
  obtain ⟨y, l, Ra, ps, n, A1, one, pl, odd, thing, SP, v11, v12, v13, v14, v15, rfl, r, bad⟩ := pre
  have plen := r.plen
  have ff := r.bs.full
  refine ⟨_, (ps_if (pt_not (pt_val (pe_call D.GB hr rfl D.gB D.kB D.bB .nil pass0 (pa_cons (pe_op op_cat (pe_op op_cat (pe_lst (pa_cons (pe_lst (pa_cons pe_int (pa_cons pe_int pa_nil))) (pa_cons (pe_listRg rfl (by rfl) T.list (prg_1 (by rfl) T.range pe_int)) pa_nil))) (pv 4)) (pe_lst (pa_cons (pv 10) pa_nil))) (pa_cons (pe_tup (pa_cons pe_str (pa_cons pe_str pa_nil))) pa_nil))))) pss_never pss_nil), ?_⟩
  refine ⟨by show 2 ≤ sizeLine; decide, fun p1 n1 => ⟨31, rfl, .of_le (by decide) (by decide) (by decide) (by decide), fun p2 n2 => ⟨by show 2 ≤ sizeLine; decide, fun p3 n3 => ⟨_, rfl, p3, Ra, _, _, rfl, rfl, upd_same, app (app (app r.lst n1) n2) n3, Nat.le_of_lt (small1000 (by rw [List.length_map]; show 2 + _ ≤ 1000; omega)), fun p4 n4 => ⟨_, rfl, by show 1 ≤ sizeLine; decide, fun p5 n5 => ⟨p4, p5, _, _, rfl, rfl, app upd_same n5, upd_same, Nat.le_of_lt (small1000 (by rw [List.length_append, List.length_map]; show 2 + _ + 1 ≤ 1000; omega)), fun p6 n6 => ⟨by show 2 ≤ sizeLine; decide, fun p7 n7 => ?_⟩⟩⟩⟩⟩⟩⟩
  have s7 : Same H _ := ad (o := .tup [.str "list", .str "lists"]) (ad (o := .lst ([.ref p1, .ref p2] ++ refsOf ps ++ [.ref SP])) (ad (o := .lst [.ref SP]) (ad (o := .lst ([.ref p1, .ref p2] ++ refsOf ps)) (ad (o := .lst [.ref p1, .ref p2]) (ad (o := .lst (rgV 0 31)) (ad1 (o := .lst [.int 1, .int 1]) n1) n2) n3) n4) n5) n6) n7
  have r7 := r.same s7
  have b7 := bad.ext (extN s7)
  refine ⟨_, _, _, rfl, refuses_bad (items := [.ref p1, .ref p2] ++ refsOf ps ++ [.ref SP]) (SqL.of (app upd_same n7)) (by rw [List.length_append, List.length_append, List.length_map]; show 2 + _ + 1 ≤ 1000; omega) (fun v hv => ?_) ⟨.ref SP, List.mem_append.mpr (.inr (List.mem_singleton.mpr rfl)), b7⟩, d_list upd_same, w_list, r7.bs.tabs, fun H' e' T' => ⟨true, rfl, iteF (k _ _ ⟨y, l, Ra, ps, n, A1, one, pl, odd, thing, SP, v11, v12, v13, v14, v15, rfl, r7.ext e' T', b7.ext e'⟩)⟩⟩
  rcases List.mem_append.mp hv with hv | hv
  · rcases List.mem_append.mp hv with hv | hv
    · rcases List.mem_cons.mp hv with rfl | hv
      · exact .inl (lstE_ints (ns := [1, 1]) (SqL.of (app (app (app (app (app (app upd_same n2) n3) n4) n5) n6) n7)) (by decide))
      · rw [List.mem_singleton.mp hv]; exact .inl (lstE_ints (ns := iota 31) (SqL.of (app (app (app (app (app (upd_same (o := .lst (rgV 0 31))) n3) n4) n5) n6) n7)) (by decide))
    · exact gd_all r7 hv
  · rw [List.mem_singleton.mp hv]; exact .inr b7
theorem t11 (T : Txt mg) (R : RefTxt K mg CL CB CT CD cs) (D : Defs P w K mg base CB CT CD Ts fC fS fL fR fP fB dC dS dL dR dP dB) (hr : Room 10 (LX P w K mg base f cdv A outer s Hs E).A) : PS (LX P w K mg base f cdv A outer s Hs E) (stm 11) (tStep (S8 a F Cs fs cells K Ts) (S8 a F Cs fs cells K Ts)) := by
  refine st_by fun D' σ H pre k => ?_
  have hr1 : Room 1 (LX P w K mg base f cdv A outer s Hs E).A := hr.mono (by decide)
  have hr2 : Room 2 (LX P w K mg base f cdv A outer s Hs E).A := hr.mono (by decide)
  have hr4 : Room 4 (LX P w K mg base f cdv A outer s Hs E).A := hr.mono (by decide)
  obtain ⟨y, l, Ra, ps, n, A1, one, pl, odd, thing, SP, v11, v12, v13, v14, v15, rfl, r, bad⟩ := pre
  have plen := r.plen
  have ff := r.bs.full
  refine ⟨_, (ps_if (PW.pt (pw_or (pt_not (pt_val (pe_call D.GB hr rfl D.gB D.kB D.bB .nil pass0 (pa_cons (pe_lst (pa_cons (pe_lst (pa_cons pe_int (pa_cons pe_int pa_nil))) (pa_cons (pe_lst (pa_cons (pv 8) pa_nil)) pa_nil))) (pa_cons (pe_tup (pa_cons pe_str (pa_cons pe_str pa_nil))) pa_nil))))) (pw_or1 (pt_not (pt_val (pe_call D.GB hr rfl D.gB D.kB D.bB .nil pass0 (pa_cons (pe_lst (pa_cons (pe_lst (pa_cons pe_int (pa_cons pe_int pa_nil))) (pa_cons (pe_lst (pa_cons pe_int (pa_cons pe_int (pa_cons (pv 8) pa_nil)))) pa_nil))) (pa_cons (pe_tup (pa_cons pe_str (pa_cons pe_str pa_nil))) pa_nil)))))))) pss_never pss_nil), ?_⟩
  refine ⟨by show 2 ≤ sizeLine; decide, fun p1 n1 => ⟨_, rfl, by show 1 ≤ sizeLine; decide, fun p2 n2 => ⟨by show 2 ≤ sizeLine; decide, fun p3 n3 => ⟨by show 2 ≤ sizeLine; decide, fun p4 n4 => ?_⟩⟩⟩⟩
  have s4 : Same H _ := ad (o := .tup [.str "list", .str "lists"]) (ad (o := .lst [.ref p1, .ref p2]) (ad (o := .lst [odd]) (ad1 (o := .lst [.int 1, .int 1]) n1) n2) n3) n4
  have r4 := r.same s4
  have b4 := bad.ext (extN s4)
  have o4 := lstE_odd (K := K) (SqL.of (app (app (upd_same (o := .lst [odd])) n3) n4)) (by show 1 ≤ 1000; decide) (one_mem (.inr r4.odd)) ⟨odd, List.mem_singleton.mpr rfl, r4.odd⟩
  refine ⟨_, _, _, rfl, refuses_bad (items := [.ref p1, .ref p2]) (SqL.of (app upd_same n4)) (by show 2 ≤ 1000; decide) (fun v hv => ?_) ⟨.ref p2, by simp, o4⟩, d_list upd_same, w_list, r4.bs.tabs, fun H' e' T' => ⟨true, rfl, iteF ?_⟩⟩
  · rcases List.mem_cons.mp hv with rfl | hv
    · exact .inl (lstE_ints (ns := [1, 1]) (SqL.of (app (app (app upd_same n2) n3) n4)) (by decide))
    · rw [List.mem_singleton.mp hv]; exact .inr o4
  have r5 := r4.ext e' T'
  have b5 := b4.ext e'
  refine ⟨by show 2 ≤ sizeLine; decide, fun p5 n5 => ⟨_, rfl, by show 3 ≤ sizeLine; decide, fun p6 n6 => ⟨by show 2 ≤ sizeLine; decide, fun p7 n7 => ⟨by show 2 ≤ sizeLine; decide, fun p8 n8 => ?_⟩⟩⟩⟩
  have s8 : Same H' _ := ad (o := .tup [.str "list", .str "lists"]) (ad (o := .lst [.ref p5, .ref p6]) (ad (o := .lst [.int 2, .int 2, odd]) (ad1 (o := .lst [.int 1, .int 1]) n5) n6) n7) n8
  have r8 := r5.same s8
  have b8 := b5.ext (extN s8)
  have o8 := lstE_odd (K := K) (SqL.of (app (app (upd_same (o := .lst [.int 2, .int 2, odd])) n7) n8)) (by show 3 ≤ 1000; decide) (fun v hv => (List.mem_cons.mp hv).elim (fun e => by rw [e]; exact .inl (intE_int 2)) fun hv => (List.mem_cons.mp hv).elim (fun e => by rw [e]; exact .inl (intE_int 2)) fun hv => by rw [List.mem_singleton.mp hv]; exact .inr r8.odd) ⟨odd, by simp, r8.odd⟩
  refine ⟨_, _, _, rfl, refuses_bad (items := [.ref p5, .ref p6]) (SqL.of (app upd_same n8)) (by show 2 ≤ 1000; decide) (fun v hv => ?_) ⟨.ref p6, by simp, o8⟩, d_list upd_same, w_list, r8.bs.tabs, fun H2 e2 T2 => ⟨true, rfl, iteF (k _ _ ⟨y, l, Ra, ps, n, A1, one, pl, odd, thing, SP, v11, v12, v13, v14, v15, rfl, r8.ext e2 T2, b8.ext e2⟩)⟩⟩
  · rcases List.mem_cons.mp hv with rfl | hv
    · exact .inl (lstE_ints (ns := [1, 1]) (SqL.of (app (app (app upd_same n6) n7) n8)) (by decide))
    · rw [List.mem_singleton.mp hv]; exact .inr o8
theorem t12 (T : Txt mg) (R : RefTxt K mg CL CB CT CD cs) (D : Defs P w K mg base CB CT CD Ts fC fS fL fR fP fB dC dS dL dR dP dB) (hr : Room 10 (LX P w K mg base f cdv A outer s Hs E).A) : PS (LX P w K mg base f cdv A outer s Hs E) (stm 12) (tStep (S8 a F Cs fs cells K Ts) (S8 a F Cs fs cells K Ts)) := by
  refine st_by fun D' σ H pre k => ?_
  have hr1 : Room 1 (LX P w K mg base f cdv A outer s Hs E).A := hr.mono (by decide)
  have hr2 : Room 2 (LX P w K mg base f cdv A outer s Hs E).A := hr.mono (by decide)
  have hr4 : Room 4 (LX P w K mg base f cdv A outer s Hs E).A := hr.mono (by decide)
  obtain ⟨y, l, Ra, ps, n, A1, one, pl, odd, thing, SP, v11, v12, v13, v14, v15, rfl, r, bad⟩ := pre
  have plen := r.plen
  have ff := r.bs.full
  refine ⟨_, (ps_if (PW.pt (pw_or (pt_not (pt_val (pe_call D.GB hr rfl D.gB D.kB D.bB .nil pass0 (pa_cons (pe_lst (pa_cons (pe_lst (pa_cons pe_int (pa_cons pe_int pa_nil))) (pa_cons (pe_listRg rfl (by rfl) T.list (prg_1 (by rfl) T.range pe_int)) pa_nil))) (pa_cons (pe_tup (pa_cons pe_str (pa_cons pe_int pa_nil))) pa_nil))))) (pw_or1 (pt_not (pt_val (pe_call D.GB hr rfl D.gB D.kB D.bB .nil pass0 (pa_cons (pe_op op_cat (pe_lst (pa_cons (pe_lst (pa_cons pe_int (pa_cons pe_int pa_nil))) pa_nil)) (pv 1)) (pa_cons (pe_tup (pa_cons pe_str (pa_cons pe_int pa_nil))) pa_nil)))))))) pss_never pss_nil), ?_⟩
  refine ⟨by show 2 ≤ sizeLine; decide, fun p1 n1 => ⟨31, rfl, .of_le (by decide) (by decide) (by decide) (by decide), fun p2 n2 => ⟨by show 2 ≤ sizeLine; decide, fun p3 n3 => ⟨by show 2 ≤ sizeLine; decide, fun p4 n4 => ?_⟩⟩⟩⟩
  have s4 : Same H _ := ad (o := .tup [.str "many", .int 30]) (ad (o := .lst [.ref p1, .ref p2]) (ad (o := .lst (rgV 0 31)) (ad1 (o := .lst [.int 1, .int 1]) n1) n2) n3) n4
  have r4 := r.same s4
  have b4 := bad.ext (extN s4)
  refine ⟨_, _, _, rfl, refuses_many (ps := [(p1, [1, 1])] ++ [(p2, iota 31)]) (lof_app (fs := [(p1, [1, 1])]) (gs := [(p2, iota 31)]) (app upd_same n4) (one_mem (app (app (app upd_same n2) n3) n4)) (one_mem (app (app (upd_same (o := .lst (rgV 0 31))) n3) n4))) (by show 2 ≤ 1000; decide) (fun q hq => ?_) (.inr ⟨(p2, iota 31), by simp, by show 30 < 31; decide⟩), d_many upd_same, w_many, r4.bs.tabs, fun H' e' T' => ⟨true, rfl, iteF ?_⟩⟩
  · rcases List.mem_append.mp hq with m | m
    · rw [List.mem_singleton.mp m]; show 2 ≤ 1000; decide
    · rw [List.mem_singleton.mp m]; show 31 ≤ 1000; decide
  have r5 := r4.ext e' T'
  have b5 := b4.ext e'
  have f5 := r5.bs.full
  refine ⟨by show 2 ≤ sizeLine; decide, fun p5 n5 => ⟨by show 1 ≤ sizeLine; decide, fun p6 n6 => ⟨_, rfl, p6, F, _, _, rfl, rfl, upd_same, app (app f5.full n5) n6, Nat.le_of_lt (small1000 (by rw [List.length_map, f5.flen]; show 1 + 30 ≤ 1000; decide)), fun p7 n7 => ⟨by show 2 ≤ sizeLine; decide, fun p8 n8 => ?_⟩⟩⟩⟩
  have s8 : Same H' _ := ad (o := .tup [.str "many", .int 30]) (ad (o := .lst ([.ref p5] ++ refsOf fs)) (ad (o := .lst [.ref p5]) (ad1 (o := .lst [.int 1, .int 1]) n5) n6) n7) n8
  have r8 := r5.same s8
  have b8 := b5.ext (extN s8)
  refine ⟨_, _, _, rfl, refuses_many (ps := [(p5, [1, 1])] ++ fs) (lof_app (fs := [(p5, [1, 1])]) (gs := fs) (app upd_same n8) (one_mem (app (app (app upd_same n6) n7) n8)) r8.bs.full.fits) (by rw [List.length_append, f5.flen]; show 1 + 30 ≤ 1000; decide) (fun q hq => ?_) (.inl (by rw [List.length_append, f5.flen]; show 30 < 1 + 30; decide)), d_many upd_same, w_many, r8.bs.tabs, fun H2 e2 T2 => ⟨true, rfl, iteF (k _ _ ⟨y, l, Ra, ps, n, A1, one, pl, odd, thing, SP, v11, v12, v13, v14, v15, rfl, r8.ext e2 T2, b8.ext e2⟩)⟩⟩
  rcases List.mem_append.mp hq with m | m
  · rw [List.mem_singleton.mp m]; show 2 ≤ 1000; decide
  · rw [(f5.fall q m).1]; decide
end
end Lw

set_option Elab.async false
set_option linter.all false
set_option maxRecDepth 100000
set_option maxHeartbeats 1000000
namespace Lw
open PySem L2 Two Pr ClX LamX

def twl (one : List Int) : List Int := one ++ one.take 1 ++ [9, 9]
/-- the lists with one of thirty-one items -/
structure Wd (W : Addr) (wps : List (Addr × List Int)) (G : Hp) : Prop where
  lst : G W = some (.lst (refsOf wps))
  each : ∀ p ∈ wps, G p.1 = some (.lst (p.2.map V.int))
  len : wps.length ≤ 20
  short : ∀ p ∈ wps, p.2.length ≤ 1000
  long : ∃ p ∈ wps, 30 < p.2.length
theorem Wd.ext {W wps G G'} (d : Wd W wps G) (e : ExtN G G') : Wd W wps G' := ⟨e _ _ d.lst ntl, fun p hp => e _ _ (d.each p hp) ntl, d.len, d.short, d.long⟩
section
variable (a F Cs : Addr) (fs : List (Addr × List Int)) (cells : List Int)
def S12 (K : PySem.W.Frag) (Ts : List (Addr × Str)) (σ : L2.St) (G : Hp) : Prop := ∃ (y : Int) (l Ra : Addr) (ps : List (Addr × List Int)) (n : Nat) (A1 : Addr) (one : List Int) (pl : Nat) (odd thing : V) (SP TW : Addr), ∃ (v11 v13 v14 v15 : Option V), σ = Sg a F [some (.int y), some (.ref l), some (.ref Ra), some (.int (n : Nat)), some (.ref A1), some (.int (pl : Nat)), some odd, some thing, some (.ref SP), v11, some (.ref TW), v13, v14, v15] ∧ Rd8 K Ts F Cs fs cells Ra A1 ps n one pl odd thing G ∧ G TW = some (.lst ((twl one).map V.int))
def S13 (K : PySem.W.Frag) (Ts : List (Addr × Str)) (σ : L2.St) (G : Hp) : Prop := ∃ (y : Int) (l Ra : Addr) (ps : List (Addr × List Int)) (n : Nat) (A1 : Addr) (one : List Int) (pl : Nat) (odd thing : V) (SP TW W : Addr) (wps : List (Addr × List Int)), ∃ (v11 v14 v15 : Option V), σ = Sg a F [some (.int y), some (.ref l), some (.ref Ra), some (.int (n : Nat)), some (.ref A1), some (.int (pl : Nat)), some odd, some thing, some (.ref SP), v11, some (.ref TW), some (.ref W), v14, v15] ∧ Rd8 K Ts F Cs fs cells Ra A1 ps n one pl odd thing G ∧ G TW = some (.lst ((twl one).map V.int)) ∧ Wd W wps G
def S14 (K : PySem.W.Frag) (Ts : List (Addr × Str)) (σ : L2.St) (G : Hp) : Prop := ∃ (y : Int) (l Ra : Addr) (ps : List (Addr × List Int)) (n : Nat) (A1 : Addr) (one : List Int) (pl : Nat) (odd thing : V) (SP TW W : Addr) (z1 : Int), ∃ (v11 v15 : Option V), σ = Sg a F [some (.int y), some (.ref l), some (.ref Ra), some (.int (n : Nat)), some (.ref A1), some (.int (pl : Nat)), some odd, some thing, some (.ref SP), v11, some (.ref TW), some (.ref W), some (.int z1), v15] ∧ Rd8 K Ts F Cs fs cells Ra A1 ps n one pl odd thing G ∧ G TW = some (.lst ((twl one).map V.int)) ∧ (one ++ [9])[0]? = some z1
def S15 (Ts : List (Addr × Str)) (σ : L2.St) (G : Hp) : Prop := ∃ (y : Int), ∃ (v3 v4 v5 v6 v7 v8 v9 v10 v11 v12 v13 v14 v15 : Option V), σ = Sg a F [some (.int y), v3, v4, v5, v6, v7, v8, v9, v10, v11, v12, v13, v14, v15] ∧ Bs Ts F Cs fs cells G
end
theorem cut_to {ps : List (Addr × List Int)} {n : Nat} (h : n ≤ ps.length) : cutV (refsOf ps) none (some (n : Int)) = refsOf (ps.take n) := by
  rw [cut_take _ _ (by rw [List.length_map]; exact h)]; exact List.map_take.symm
theorem cut_from {ps : List (Addr × List Int)} {n : Nat} (h : n ≤ ps.length) : cutV (refsOf ps) (some (n : Int)) none = refsOf (ps.drop n) := by
  rw [cut_drop _ _ (by rw [List.length_map]; exact h)]; exact List.map_drop.symm
/-- the first that occurs twice -/
theorem twice_twl {one : List Int} {z : Int} (nd : one.Nodup) (h : (one ++ [9])[0]? = some z) : Twice (twl one) z := by
  unfold twl
  cases one with
  | nil =>
    cases h
    exact ⟨1, rfl, by decide, by decide⟩
  | cons x xs =>
    have e : x = z := Option.some.inj h
    subst e
    refine ⟨(x :: xs).length, ?_, ?_, ?_⟩
    · rw [List.append_assoc, List.getElem?_append_right (Nat.le_refl _), Nat.sub_self]; rfl
    · rw [List.append_assoc, List.take_left' rfl]; exact List.mem_cons_self
    · rw [List.append_assoc, List.take_left' rfl]; exact nd
theorem log_big {z : Int} (h : Big z) : z.natAbs.log2 < 1920 := by
  have h2 : z.natAbs < 2 ^ 200 := Nat.lt_of_le_of_lt h (by decide)
  by_cases e : z.natAbs = 0
  · rw [e]; decide
  · exact Nat.lt_of_lt_of_le ((Nat.log2_lt e).mpr h2) (by decide)
section
variable {P : Program} {w : World} {K : PySem.W.Frag} {mg : Str → Option Value} {base : Heap} {CL CB CT CD : Addr} {cs : List Addr} {Ts : List (Addr × Str)} {fC fS fL fR fP fB : Addr} {dC dS dL dR dP dB : FuncData} {f : Addr} {cdv : Value} {A : Around} {outer : List Env} {s : Shared} {Hs : Hp} {E : XK} {a F Cs : Addr} {fs : List (Addr × List Int)} {cells : List Int}
theorem t13 (T : Txt mg) (R : RefTxt K mg CL CB CT CD cs) (D : Defs P w K mg base CB CT CD Ts fC fS fL fR fP fB dC dS dL dR dP dB) (hr : Room 10 (LX P w K mg base f cdv A outer s Hs E).A) : PS (LX P w K mg base f cdv A outer s Hs E) (stm 13) (tStep (S8 a F Cs fs cells K Ts) (S12 a F Cs fs cells K Ts)) := by
  refine st_by fun D' σ H pre k => ?_
  have hr1 : Room 1 (LX P w K mg base f cdv A outer s Hs E).A := hr.mono (by decide)
  have hr2 : Room 2 (LX P w K mg base f cdv A outer s Hs E).A := hr.mono (by decide)
  have hr4 : Room 4 (LX P w K mg base f cdv A outer s Hs E).A := hr.mono (by decide)
  obtain ⟨y, l, Ra, ps, n, A1, one, pl, odd, thing, SP, v11, v12, v13, v14, v15, rfl, r, bad⟩ := pre
  have m1 := List.mem_of_getElem? r.at_
  have h1 : H A1 = some (.lst (one.map V.int)) := r.each _ m1
  have sh : one.length ≤ 15 := (r.okp _ m1).1
  have plen := r.plen
  have nlt : n < ps.length := (List.getElem?_eq_some_iff.mp r.at_).1
  have ff := r.bs.full
  refine ⟨_, (ps_set (i := 12) scLaw.nd rfl (Or.inl rfl) (pe_op op_cat (pe_op op_cat (pv 6) (pe_slice sl_list (pv 6) po_none (po_some pe_int))) (pe_lst (pa_cons pe_int (pa_cons pe_int pa_nil))))), ?_⟩
  have sl := cutV_length (one.map V.int) none (some 1)
  rw [List.length_map] at sl
  refine ⟨_, rfl, _, rfl, _, rfl, A1, _, rfl, SqL.of h1, fun p1 n1 => ⟨A1, p1, _, _, rfl, rfl, app h1 n1, upd_same, Nat.le_of_lt (small1000 (by rw [List.length_map]; omega)), fun p2 n2 => ⟨by show 2 ≤ sizeLine; decide, fun p3 n3 => ⟨p2, p3, _, _, rfl, rfl, app upd_same n3, upd_same, Nat.le_of_lt (small1000 (by rw [List.length_append, List.length_map]; show _ + 2 ≤ 1000; omega)), fun p4 n4 => ?_⟩⟩⟩⟩
  have s4 : Same H _ := ad (o := .lst (one.map V.int ++ cutV (one.map V.int) none (some 1) ++ [.int 9, .int 9])) (ad (o := .lst [.int 9, .int 9]) (ad (o := .lst (one.map V.int ++ cutV (one.map V.int) none (some 1))) (ad1 (o := .lst (cutV (one.map V.int) none (some 1))) n1) n2) n3) n4
  refine k _ _ ⟨y, l, Ra, ps, n, A1, one, pl, odd, thing, SP, p4, v11, v13, v14, v15, rfl, r.same s4, ?_⟩
  rw [upd_same]
  unfold twl
  rw [List.map_append, List.map_append]
  by_cases e : one = []
  · subst e; rfl
  · rw [show cutV (one.map V.int) none (some 1) = (one.map V.int).take 1 from cut_take _ 1 (by rw [List.length_map]; exact List.length_pos_iff.mpr e), List.map_take]; rfl
theorem t14 (T : Txt mg) (R : RefTxt K mg CL CB CT CD cs) (D : Defs P w K mg base CB CT CD Ts fC fS fL fR fP fB dC dS dL dR dP dB) (hr : Room 10 (LX P w K mg base f cdv A outer s Hs E).A) : PS (LX P w K mg base f cdv A outer s Hs E) (stm 14) (tStep (S12 a F Cs fs cells K Ts) (S13 a F Cs fs cells K Ts)) := by
  refine st_by fun D' σ H pre k => ?_
  have hr1 : Room 1 (LX P w K mg base f cdv A outer s Hs E).A := hr.mono (by decide)
  have hr2 : Room 2 (LX P w K mg base f cdv A outer s Hs E).A := hr.mono (by decide)
  have hr4 : Room 4 (LX P w K mg base f cdv A outer s Hs E).A := hr.mono (by decide)
  obtain ⟨y, l, Ra, ps, n, A1, one, pl, odd, thing, SP, TW, v11, v13, v14, v15, rfl, r, ht⟩ := pre
  have m1 := List.mem_of_getElem? r.at_
  have h1 : H A1 = some (.lst (one.map V.int)) := r.each _ m1
  have sh : one.length ≤ 15 := (r.okp _ m1).1
  have plen := r.plen
  have nlt : n < ps.length := (List.getElem?_eq_some_iff.mp r.at_).1
  have ff := r.bs.full
  refine ⟨_, (ps_set (i := 13) scLaw.nd rfl (Or.inl rfl) (pe_op op_cat (pe_op op_cat (pe_slice sl_list (pv 4) po_none (po_some (pv 5))) (pe_lst (pa_cons (pe_listRg rfl (by rfl) T.list (prg_1 (by rfl) T.range pe_int)) pa_nil))) (pe_slice sl_list (pv 4) (po_some (pv 5)) po_none))), ?_⟩
  refine mid_read (PV := fun v G => ∃ q, v = .ref q ∧ G q = some (.lst ((iota 31).map V.int))) rfl rfl r.lst (by rw [List.length_map]; omega) (fun H1 Q1 s1 kq => ⟨31, rfl, .of_le (by decide) (by decide) (by decide) (by decide), fun q hq => kq _ _ (ad1 hq) ⟨q, rfl, upd_same⟩⟩) (fun v H1 H2 ⟨q, e, h⟩ s => ⟨q, e, s _ _ h⟩) (fun H1 Q1 hq => ⟨_, rfl, hq⟩) fun W v H1 s1 e1 pv => ?_
  obtain ⟨q, rfl, hq⟩ := pv
  refine k _ _ ⟨y, l, Ra, ps, n, A1, one, pl, odd, thing, SP, TW, W, ps.take n ++ [(q, iota 31)] ++ ps.drop n, v11, v14, v15, rfl, r.same s1, s1 _ _ ht, ?_, fun p hp => ?_, ?_, fun p hp => ?_, ⟨(q, iota 31), by simp, by show 30 < 31; decide⟩⟩
  · rw [e1, cut_to (by omega), cut_from (by omega)]; unfold refsOf; rw [List.map_append, List.map_append]; rfl
  · rcases List.mem_append.mp hp with hp | hp
    · rcases List.mem_append.mp hp with hp | hp
      · exact s1 _ _ (r.each p (List.mem_of_mem_take hp))
      · rw [List.mem_singleton.mp hp]; exact hq
    · exact s1 _ _ (r.each p (List.mem_of_mem_drop hp))
  · rw [List.length_append, List.length_append, List.length_take, List.length_drop]; show _ + 1 + _ ≤ 20; omega
  · rcases List.mem_append.mp hp with hp | hp
    · rcases List.mem_append.mp hp with hp | hp
      · have := (r.okp p (List.mem_of_mem_take hp)).1; omega
      · rw [List.mem_singleton.mp hp]; show 31 ≤ 1000; decide
    · have := (r.okp p (List.mem_of_mem_drop hp)).1; omega
theorem t15 (T : Txt mg) (R : RefTxt K mg CL CB CT CD cs) (D : Defs P w K mg base CB CT CD Ts fC fS fL fR fP fB dC dS dL dR dP dB) (hr : Room 10 (LX P w K mg base f cdv A outer s Hs E).A) : PS (LX P w K mg base f cdv A outer s Hs E) (stm 15) (tStep (S13 a F Cs fs cells K Ts) (S13 a F Cs fs cells K Ts)) := by
  refine st_by fun D' σ H pre k => ?_
  have hr1 : Room 1 (LX P w K mg base f cdv A outer s Hs E).A := hr.mono (by decide)
  have hr2 : Room 2 (LX P w K mg base f cdv A outer s Hs E).A := hr.mono (by decide)
  have hr4 : Room 4 (LX P w K mg base f cdv A outer s Hs E).A := hr.mono (by decide)
  obtain ⟨y, l, Ra, ps, n, A1, one, pl, odd, thing, SP, TW, W, wps, v11, v14, v15, rfl, r, ht, d⟩ := pre
  have m1 := List.mem_of_getElem? r.at_
  have h1 : H A1 = some (.lst (one.map V.int)) := r.each _ m1
  have sh : one.length ≤ 15 := (r.okp _ m1).1
  have plen := r.plen
  have nlt : n < ps.length := (List.getElem?_eq_some_iff.mp r.at_).1
  have ff := r.bs.full
  refine ⟨_, (ps_if (PW.pt (pw_or (pt_not (pt_val (pe_call D.GB hr rfl D.gB D.kB D.bB .nil pass0 (pa_cons (pe_op op_cat (pv 13) (pe_lst (pa_cons (pv 12) pa_nil))) (pa_cons (pe_tup (pa_cons pe_str (pa_cons pe_int pa_nil))) pa_nil))))) (pw_or1 (pt_not (pt_val (pe_call D.GB hr rfl D.gB D.kB D.bB .nil pass0 (pa_cons (pe_op op_cat (pv 1) (pe_lst (pa_cons (pv 12) pa_nil))) (pa_cons (pe_tup (pa_cons pe_str (pa_cons pe_int pa_nil))) pa_nil)))))))) pss_never pss_nil), ?_⟩
  have dl := d.len
  have tl : (twl one).length ≤ 1000 := by unfold twl; rw [List.length_append, List.length_append, List.length_take]; show _ + 2 ≤ 1000; omega
  refine ⟨_, rfl, _, rfl, by show 1 ≤ sizeLine; decide, fun p1 n1 => ⟨W, p1, _, _, rfl, rfl, app d.lst n1, upd_same, Nat.le_of_lt (small1000 (by rw [List.length_map]; show _ + 1 ≤ 1000; omega)), fun p2 n2 => ⟨by show 2 ≤ sizeLine; decide, fun p3 n3 => ?_⟩⟩⟩
  have s3 : Same H _ := ad (o := .tup [.str "many", .int 30]) (ad (o := .lst (refsOf wps ++ [.ref TW])) (ad1 (o := .lst [.ref TW]) n1) n2) n3
  have r3 := r.same s3
  have d3 := d.ext (extN s3)
  have t3 := s3 _ _ ht
  refine ⟨_, _, _, rfl, refuses_many (ps := wps ++ [(TW, twl one)]) (lof_app (gs := [(TW, twl one)]) (app upd_same n3) d3.each (one_mem t3)) (by rw [List.length_append]; show _ + 1 ≤ 1000; omega) (fun q hq => ?_) ?_, d_many upd_same, w_many, r3.bs.tabs, fun H' e' T' => ⟨true, rfl, iteF ?_⟩⟩
  · rcases List.mem_append.mp hq with m | m
    · exact d.short q m
    · rw [List.mem_singleton.mp m]; exact tl
  · obtain ⟨p, hp, hl⟩ := d.long
    exact .inr ⟨p, List.mem_append.mpr (.inl hp), hl⟩
  have r4 := r3.ext e' T'
  have d4 := d3.ext e'
  have t4 := e' _ _ t3 ntl
  have f4 := r4.bs.full
  refine ⟨_, rfl, _, rfl, by show 1 ≤ sizeLine; decide, fun p5 n5 => ⟨F, p5, _, _, rfl, rfl, app f4.full n5, upd_same, Nat.le_of_lt (small1000 (by rw [List.length_map, f4.flen]; show 30 + 1 ≤ 1000; decide)), fun p6 n6 => ⟨by show 2 ≤ sizeLine; decide, fun p7 n7 => ?_⟩⟩⟩
  have s7 : Same H' _ := ad (o := .tup [.str "many", .int 30]) (ad (o := .lst (refsOf fs ++ [.ref TW])) (ad1 (o := .lst [.ref TW]) n5) n6) n7
  have r7 := r4.same s7
  have d7 := d4.ext (extN s7)
  have t7 := s7 _ _ t4
  refine ⟨_, _, _, rfl, refuses_many (ps := fs ++ [(TW, twl one)]) (lof_app (gs := [(TW, twl one)]) (app upd_same n7) r7.bs.full.fits (one_mem t7)) (by rw [List.length_append, f4.flen]; show 30 + 1 ≤ 1000; decide) (fun q hq => ?_) (.inl (by rw [List.length_append, f4.flen]; show 30 < 30 + 1; decide)), d_many upd_same, w_many, r7.bs.tabs, fun H2 e2 T2 => ⟨true, rfl, iteF (k _ _ ⟨y, l, Ra, ps, n, A1, one, pl, odd, thing, SP, TW, W, wps, v11, v14, v15, rfl, r7.ext e2 T2, e2 _ _ t7 ntl, d7.ext e2⟩)⟩⟩
  rcases List.mem_append.mp hq with m | m
  · rw [(f4.fall q m).1]; decide
  · rw [List.mem_singleton.mp m]; exact tl
theorem t16 (T : Txt mg) (R : RefTxt K mg CL CB CT CD cs) (D : Defs P w K mg base CB CT CD Ts fC fS fL fR fP fB dC dS dL dR dP dB) (hr : Room 10 (LX P w K mg base f cdv A outer s Hs E).A) : PS (LX P w K mg base f cdv A outer s Hs E) (stm 16) (tStep (S13 a F Cs fs cells K Ts) (S14 a F Cs fs cells K Ts)) := by
  refine st_by fun D' σ H pre k => ?_
  have hr1 : Room 1 (LX P w K mg base f cdv A outer s Hs E).A := hr.mono (by decide)
  have hr2 : Room 2 (LX P w K mg base f cdv A outer s Hs E).A := hr.mono (by decide)
  have hr4 : Room 4 (LX P w K mg base f cdv A outer s Hs E).A := hr.mono (by decide)
  obtain ⟨y, l, Ra, ps, n, A1, one, pl, odd, thing, SP, TW, W, wps, v11, v14, v15, rfl, r, ht, d⟩ := pre
  have m1 := List.mem_of_getElem? r.at_
  have h1 : H A1 = some (.lst (one.map V.int)) := r.each _ m1
  have sh : one.length ≤ 15 := (r.okp _ m1).1
  have plen := r.plen
  have nlt : n < ps.length := (List.getElem?_eq_some_iff.mp r.at_).1
  have ff := r.bs.full
  refine ⟨_, (ps_set (i := 14) scLaw.nd rfl (Or.inl rfl) (pe_ix ix_list (pe_op op_cat (pv 6) (pe_lst (pa_cons pe_int pa_nil))) pe_int (fun _ _ => rfl))), ?_⟩
  obtain ⟨z1, hz⟩ : ∃ z1, (one ++ [9])[0]? = some z1 := by
    cases one with
    | nil => exact ⟨9, rfl⟩
    | cons x xs => exact ⟨x, rfl⟩
  refine ⟨_, rfl, by show 1 ≤ sizeLine; decide, fun p1 n1 => ⟨A1, p1, _, _, rfl, rfl, app h1 n1, upd_same, Nat.le_of_lt (small1000 (by rw [List.length_map]; show _ + 1 ≤ 1000; omega)), fun p2 n2 => ?_⟩⟩
  have s2 : Same H _ := ad (o := .lst (one.map V.int ++ [.int 9])) (ad1 (o := .lst [.int 9]) n1) n2
  have e1 : (one.map V.int ++ [V.int 9])[0]? = some (.int z1) := by
    rw [show one.map V.int ++ [V.int 9] = (one ++ [9]).map V.int from by rw [List.map_append]; rfl, List.getElem?_map, hz]; rfl
  refine ⟨p2, _, _, .int z1, rfl, rfl, SqL.of upd_same, atI_nat (j := 0) e1, ?_⟩
  exact k _ _ ⟨y, l, Ra, ps, n, A1, one, pl, odd, thing, SP, TW, W, z1, v11, v15, rfl, r.same s2, s2 _ _ ht, hz⟩
theorem t17 (T : Txt mg) (R : RefTxt K mg CL CB CT CD cs) (D : Defs P w K mg base CB CT CD Ts fC fS fL fR fP fB dC dS dL dR dP dB) (hr : Room 10 (LX P w K mg base f cdv A outer s Hs E).A) : PS (LX P w K mg base f cdv A outer s Hs E) (stm 17) (tStep (S14 a F Cs fs cells K Ts) (S15 a F Cs fs cells Ts)) := by
  refine st_by fun D' σ H pre k => ?_
  have hr1 : Room 1 (LX P w K mg base f cdv A outer s Hs E).A := hr.mono (by decide)
  have hr2 : Room 2 (LX P w K mg base f cdv A outer s Hs E).A := hr.mono (by decide)
  have hr4 : Room 4 (LX P w K mg base f cdv A outer s Hs E).A := hr.mono (by decide)
  obtain ⟨y, l, Ra, ps, n, A1, one, pl, odd, thing, SP, TW, W, z1, v11, v15, rfl, r, ht, hz⟩ := pre
  have m1 := List.mem_of_getElem? r.at_
  have h1 : H A1 = some (.lst (one.map V.int)) := r.each _ m1
  have sh : one.length ≤ 15 := (r.okp _ m1).1
  have plen := r.plen
  have nlt : n < ps.length := (List.getElem?_eq_some_iff.mp r.at_).1
  have ff := r.bs.full
  refine ⟨_, (ps_if (pt_not (pt_val (pe_call D.GB hr rfl D.gB D.kB D.bB .nil pass0 (pa_cons (pe_op op_cat (pe_op op_cat (pe_op op_cat (pe_slice sl_list (pv 4) po_none (po_some (pv 5))) (pe_lst (pa_cons (pv 12) pa_nil))) (pe_slice sl_list (pv 4) (po_some (pe_op op_add (pv 5) pe_int)) po_none)) (pe_lst (pa_cons (pe_lst (pa_cons pe_int (pa_cons pe_int pa_nil))) pa_nil))) (pa_cons (pe_tup (pa_cons pe_str (pa_cons (pe_callB SkE.call_repr_int (by rfl) R.repr (by decide +kernel) (pa_cons (pv 14) pa_nil)) pa_nil))) pa_nil))))) pss_never pss_nil), ?_⟩
  have tl : (twl one).length ≤ 30 := by unfold twl; rw [List.length_append, List.length_append, List.length_take]; show _ + 2 ≤ 30; omega
  have bz : z1.natAbs.log2 < 1920 := by
    cases one with
    | nil => cases hz; decide
    | cons x xs => cases hz; exact log_big ((r.okp _ m1).2.2 _ List.mem_cons_self)
  refine mid_read (m := ((n + 1 : Nat) : Int)) (PV := fun v G => v = .ref TW ∧ G TW = some (.lst ((twl one).map V.int))) rfl rfl r.lst (by rw [List.length_map]; omega) (fun H1 Q1 s1 kq => ⟨_, rfl, kq _ _ (Same.refl _) ⟨rfl, s1 _ _ ht⟩⟩) (fun v H1 H2 ⟨e, h⟩ s => ⟨e, s _ _ h⟩) (fun H1 Q1 hq => ⟨_, rfl, _, _, rfl, rfl, hq⟩) fun W1 v H1 s1 e1 pv => ?_
  obtain ⟨rfl, hq⟩ := pv
  rw [cut_to (by omega), cut_from (by omega)] at e1
  have r1 := r.same s1
  refine ⟨by show 2 ≤ sizeLine; decide, fun p1 n1 => ⟨by show 1 ≤ sizeLine; decide, fun p2 n2 => ⟨W1, p2, _, _, rfl, rfl, app (app e1 n1) n2, upd_same, Nat.le_of_lt (small1000 (by rw [List.length_append, List.length_append, List.length_map, List.length_map, List.length_take, List.length_drop]; show _ + 1 + _ + 1 ≤ 1000; omega)), fun p3 n3 => ?_⟩⟩⟩
  refine ⟨_, rfl, z1, rfl, bz, by show 2 ≤ sizeLine; decide, fun p4 n4 => ?_⟩
  have s4 : Same H1 _ := ad (o := .tup [.str "twice", .str (toString z1)]) (ad (o := .lst (refsOf (ps.take n) ++ [.ref TW] ++ refsOf (ps.drop (n + 1)) ++ [.ref p1])) (ad (o := .lst [.ref p1]) (ad1 (o := .lst [.int 8, .int 8]) n1) n2) n3) n4
  have r4 := r1.same s4
  have t4 := s4 _ _ hq
  have lenT : (ps.take n).length = n := by rw [List.length_take]; omega
  have hl := lof_app (K := K) (fs := ps.take n ++ [(TW, twl one)] ++ ps.drop (n + 1)) (gs := [(p1, [8, 8])]) (G := upd (upd (upd (upd H1 p1 (.lst [.int 8, .int 8])) p2 (.lst [.ref p1])) p3 (.lst (refsOf (ps.take n) ++ [.ref TW] ++ refsOf (ps.drop (n + 1)) ++ [.ref p1]))) p4 (.tup [.str "twice", .str (toString z1)])) (a := p3)
    (by rw [app upd_same n4]; unfold refsOf; rw [List.map_append, List.map_append]; rfl) (fun p hp => ?_) (one_mem (app (app (app upd_same n2) n3) n4))
  refine ⟨_, _, _, rfl, refuses_twice (i := n) (p := (TW, twl one)) hl ?_ (fun q hq => ?_) ?_ (fun q hq => ?_) (twice_twl (r.okp _ m1).2.1 hz) bz, d_twice upd_same, w_twice, r4.bs.tabs, fun H2 e2 T2 => ⟨true, rfl, iteF (k _ _ ⟨y, _, _, _, _, _, _, _, _, _, _, _, _, _, rfl, (r4.ext e2 T2).bs⟩)⟩⟩
  · rw [List.length_append, List.length_append, List.length_append, List.length_drop, lenT]; show _ + 1 + _ + 1 ≤ 30; omega
  · rcases List.mem_append.mp hq with hq | hq
    · rcases List.mem_append.mp hq with hq | hq
      · rcases List.mem_append.mp hq with hq | hq
        · have := (r.okp q (List.mem_of_mem_take hq)).1; omega
        · rw [List.mem_singleton.mp hq]; exact tl
      · have := (r.okp q (List.mem_of_mem_drop hq)).1; omega
    · rw [List.mem_singleton.mp hq]; show 2 ≤ 30; decide
  · rw [List.append_assoc, List.append_assoc, List.getElem?_append_right (by omega), lenT, Nat.sub_self]; rfl
  · rw [List.append_assoc, List.append_assoc, List.take_left' lenT] at hq
    exact (r.okp q (List.mem_of_mem_take hq)).2.1
  · rcases List.mem_append.mp hp with hp | hp
    · rcases List.mem_append.mp hp with hp | hp
      · exact r4.each p (List.mem_of_mem_take hp)
      · rw [List.mem_singleton.mp hp]; exact t4
    · exact r4.each p (List.mem_of_mem_drop hp)
end
end Lw

set_option Elab.async false
set_option linter.all false
set_option maxRecDepth 100000
set_option maxHeartbeats 1000000
namespace Lw
open PySem L2 Two Pr ClX LamX
section
variable {P : Program} {w : World} {K : PySem.W.Frag} {mg : Str → Option Value} {base : Heap} {CL CB CT CD : Addr} {cs : List Addr} {Ts : List (Addr × Str)} {fC fS fL fR fP fB : Addr} {dC dS dL dR dP dB : FuncData}
theorem round_ok {f : Addr} {cdv : Value} {A : Around} {outer : List Env} {s : Shared} {Hs : Hp} {E : XK} {a F Cs : Addr} {fs : List (Addr × List Int)} {cells : List Int} (T : Txt mg) (R : RefTxt K mg CL CB CT CD cs) (D : Defs P w K mg base CB CT CD Ts fC fS fL fR fP fB dC dS dL dR dP dB) (hr : Room 10 (LX P w K mg base f cdv A outer s Hs E).A) : PSs (LX P w K mg base f cdv A outer s Hs E) loopBody (tStep (S0 a F Cs fs cells Ts) (S15 a F Cs fs cells Ts)) := by
  show PSs (LX P w K mg base f cdv A outer s Hs E) [stm 0, stm 1, stm 2, stm 3, stm 4, stm 5, stm 6, stm 7, stm 8, stm 9, stm 10, stm 11, stm 12, stm 13, stm 14, stm 15, stm 16, stm 17] _
  exact (st_cons (t0 T R D hr) (st_cons (t1 T R D hr) (st_cons (t2 T R D hr) (st_cons (t3 T R D hr) (st_cons (t4 T R D hr) (st_cons (t5 T R D hr) (st_cons (t6 T R D hr) (st_cons (t7 T R D hr) (st_cons (t8 T R D hr) (st_cons (t9 T R D hr) (st_cons (t10 T R D hr) (st_cons (t11 T R D hr) (st_cons (t12 T R D hr) (st_cons (t13 T R D hr) (st_cons (t14 T R D hr) (st_cons (t15 T R D hr) (st_cons (t16 T R D hr) (st_one (t17 T R D hr)))))))))))))))))))
def tAll (a : Addr) (Ts : List (Addr × Str)) : TS := fun D σ H => ∃ (F Cs : Addr) (fs : List (Addr × List Int)) (cells : List Int), S0 a F Cs fs cells Ts σ H ∧ ∀ σ' H', S15 a F Cs fs cells Ts σ' H' → D.nx σ' H'
theorem ok_law {f : Addr} {fd : FuncData} (F : Fun K "law" "law" sLaw f fd) (T : Txt mg) (R : RefTxt K mg CL CB CT CD cs) (D : Defs P w K mg base CB CT CD Ts fC fS fL fR fP fB dC dS dL dR dP dB) : FnOk P w K mg base L2.CX0 11 f fd ["_law_script"] (spLaw K Ts) := by
  refine F.ok scLaw (fun vs H Q E h => ?_) (fun cdv A outer s H vs Q E hr h => ?_)
  · obtain ⟨a, ns, rfl, _⟩ := h
    rfl
  · obtain ⟨a, ns, rfl, hS, hlen, hT, k⟩ := h
    have hr1 : Room 1 _ := hr.mono (by decide)
    have hr2 : Room 2 _ := hr.mono (by decide)
    have hr4 : Room 4 _ := hr.mono (by decide)
    have hB : PSs (LX P w K mg base f cdv A outer s H E) loopBody (tAll a Ts) := ⟨fun pins s1 σ H1 D1 I ⟨F, Cs, fs, cells, h1, h2⟩ => (round_ok T R D hr).run pins s1 σ H1 D1 I ⟨h1, h2⟩⟩
    refine ⟨_, (pss_cons (ps_setLc (i := 1) (own := [("_law_k", 15)]) (g := gName 15) (tt := tYes) rfl scLaw.nd rfl rfl (sw_true rfl rfl rfl (by decide +kernel)) (pi_range1 rfl T.range (pa_cons pe_int pa_nil)) (blkOk_by (N := nLaw) (sc := defScope sLaw) (by decide +kernel))
          (fun _ _ _ _ _ => pg_name (i := 15) scLaw.nd rfl (Or.inl rfl)) (fun _ _ _ _ _ => pts_nil) (fun _ _ _ _ _ => pe_listRg rfl (by rfl) T.list (prg_1 (by rfl) T.range pe_int)))
      (pss_cons (ps_if (PW.pt (pw_or (pt_not (pt_val (pe_call D.GB hr rfl D.gB D.kB D.bB .nil pass0 (pa_cons (pv 1) (pa_cons pe_str pa_nil))))) (pw_or1 (pt_not (pt_val (pe_call D.GB hr rfl D.gB D.kB D.bB .nil pass0 (pa_cons (pe_op op_cat (pv 1) (pe_lst (pa_cons (pe_lst pa_nil) pa_nil))) (pa_cons (pe_tup (pa_cons pe_str (pa_cons pe_int pa_nil))) pa_nil)))))))) pss_never pss_nil)
      (pss_cons (ps_for PassesOwn.never rfl (pi_list (pe_op op_cat (pe_lst (pa_cons (pe_call D.GC hr1 rfl D.gC D.kC D.bC .nil pass0 (pa_cons (pv 0) (pa_cons pe_int pa_nil))) pa_nil)) (pe_slice sl_list (pv 0) (po_some pe_int) (po_some pe_int)))) (pg_name (i := 2) scLaw.nd rfl (Or.inl rfl))
        hB)
      (pss_one (ps_ret pe_bl))))), ?_⟩
    refine ⟨30, rfl, by decide, by decide, fun F hF => ?_⟩
    refine lc_range (lo := 0) (n := 30) (fun kk G => ∃ qs : List (Addr × List Int), Same H G ∧ G F = some (.lst (refsOf qs)) ∧ (∀ q ∈ qs, G q.1 = some (.lst (q.2.map V.int)) ∧ q.1 ≠ F) ∧ qs.length = kk ∧ ∀ q ∈ qs, q.2.length = 30 ∧ q.2.Nodup)
      ⟨[], same_new hF, upd_same, (fun q hq => nomatch hq), rfl, (fun q hq => nomatch hq)⟩ (fun kk G hk p => ?_) (fun G p => ?_)
    · obtain ⟨qs, s1, hG, each, lq, al⟩ := p
      refine ⟨rfl, ?_⟩
      unfold tYes
      simp only [if_true]
      refine ⟨30, rfl, .of_le (by decide) (by decide) (by decide) (by decide), fun p1 n1 => ?_⟩
      rw [iota30]
      refine ⟨_, app hG n1, small1000 (by rw [List.length_map, lq]; omega), qs ++ [(p1, (List.range 30).map fun j : Nat => (j : Int))], same_upd (ad s1 n1) hF, ?_, fun q hq => ?_, by rw [List.length_append, lq]; rfl, fun q hq => ?_⟩
      · rw [upd_same]; unfold refsOf; rw [List.map_append]; rfl
      · rcases List.mem_append.mp hq with m | m
        · obtain ⟨e1, e2⟩ := each q m
          exact ⟨by rw [upd_ne e2]; exact app e1 n1, e2⟩
        · rw [List.mem_singleton.mp m]
          exact ⟨by rw [upd_ne (ne_of_none hG n1).symm]; exact upd_same, (ne_of_none hG n1).symm⟩
      · rcases List.mem_append.mp hq with m | m
        · exact al q m
        · rw [List.mem_singleton.mp m]; exact ⟨rfl, nd30⟩
    · obtain ⟨fs, s1, hG, each, lq, al⟩ := p
      have full : Full G F fs := ⟨hG, fun q hq => (each q hq).1, lq, al⟩
      have T1 := hT.ext s1
      show tSeq _ _ _ ([some (.ref a), none, none, none, none, none, none, none, none, none, none, none, none, none, none, none].set 1 (some (.ref F))) G
      refine ⟨_, rfl, ?_⟩
      refine ⟨_, _, none, rfl, refuses_none full.lof full.fit, d_ok, w_ok, T1, fun H2 e2 T2 => ⟨true, rfl, iteF ?_⟩⟩
      have f2 := full.ext e2
      refine ⟨_, rfl, Nat.zero_le _, fun p1 n1 => ⟨by show 1 ≤ sizeLine; decide, fun p2 n2 => ⟨F, p2, _, _, rfl, rfl, app (app f2.full n1) n2, upd_same, Nat.le_of_lt (small1000 (by rw [List.length_map, f2.flen]; show 30 + 1 ≤ 1000; decide)), fun p3 n3 => ?_⟩⟩⟩
      refine ⟨by show 2 ≤ sizeLine; decide, fun p4 n4 => ?_⟩
      have s2 : Same H2 _ := ad (o := .tup [.str "many", .int 30]) (ad (ad (ad1 (o := .lst []) n1) n2) n3) n4
      refine ⟨_, _, _, rfl, refuses_many (ps := fs ++ [(p1, [])]) ?_ ?_ ?_ ?_, d_many upd_same, w_many, T2.ext s2, fun H3 e3 T3 => ⟨true, rfl, iteF ?_⟩⟩
      · exact lof_app (gs := [(p1, [])]) (app upd_same n4) (fun p hp => s2 _ _ (f2.fits p hp)) (one_mem (app (app (app upd_same n2) n3) n4))
      · rw [List.length_append, f2.flen]; show 30 + 1 ≤ 1000; decide
      · exact fun p hp => (List.mem_append.mp hp).elim (fun m => by rw [(f2.fall p m).1]; decide) (one_mem (x := (p1, ([] : List Int))) (Pr := fun p : Addr × List Int => p.2.length ≤ 1000) (by show 0 ≤ 1000; decide) p)
      · refine .inl ?_
        rw [List.length_append, f2.flen]; show 30 < 30 + 1; decide
      have f3 := (f2.ext (extN s2)).ext e3
      have eH3 : ExtN H H3 := ((extN s1).trans e2).trans ((extN s2).trans e3)
      have hS3 := sqlN eH3 hS
      refine ⟨_, rfl, a, ns, 0, rfl, hS3, by omega, fun z0 => ?_⟩
      refine ⟨by show 1 ≤ sizeLine; decide, fun A1 hA1 => ?_⟩
      refine ⟨_, rfl, _, rfl, _, rfl, a, _, rfl, (ad1 hA1).seq hS3, fun A2 hA2 => ?_⟩
      obtain ⟨cs2, hcs⟩ : ∃ cs2 : List Int, cutV (ns.map V.int) (some 1) (some 6) = cs2.map V.int := by
        refine ⟨((ns.drop (HT.sIx (ns.map V.int).length 0 (some 1))).take (HT.sIx (ns.map V.int).length (ns.map V.int).length (some 6) - HT.sIx (ns.map V.int).length 0 (some 1))), ?_⟩
        unfold cutV
        rw [List.map_take, List.map_drop]
      have lcs : cs2.length ≤ 63 := by
        have e := cutV_length (ns.map V.int) (some 1) (some 6)
        rw [hcs, List.length_map, List.length_map] at e
        omega
      rw [hcs]
      refine ⟨A1, A2, _, _, rfl, rfl, app upd_same hA2, upd_same, Nat.le_of_lt (small1000 (by rw [List.length_map]; show 1 + cs2.length ≤ 1000; omega)), fun Cs hCs => ?_⟩
      have s4 : Same H3 _ := ad (o := .lst ((z0 :: cs2).map V.int)) (ad (ad1 (o := .lst [.int z0]) hA1) hA2) hCs
      have T4 := T3.ext s4
      have f4 := f3.ext (extN s4)
      have hCs : upd (upd (upd H3 A1 (.lst [.int z0])) A2 (.lst (cs2.map V.int))) Cs (.lst ((z0 :: cs2).map V.int)) Cs = some (.lst ((z0 :: cs2).map V.int)) := upd_same
      refine ⟨Cs, rfl, ⟨_, SqL.of upd_same⟩, for_list (K := K) (a := Cs) (xs := (z0 :: cs2).map V.int) (fun i σ G => (∃ (v2 v3 v4 v5 v6 v7 v8 v9 v10 v11 v12 v13 v14 v15 : Option V), σ = Sg a F [v2, v3, v4, v5, v6, v7, v8, v9, v10, v11, v12, v13, v14, v15]) ∧ Bs Ts F Cs fs (z0 :: cs2) G)
        ⟨⟨none, none, none, none, none, none, none, none, none, none, none, none, none, none, rfl⟩, ⟨T4, f4, hCs⟩⟩ (fun i σ G _ p => SqL.of p.2.cs) ?_ ?_⟩
      · rintro i x σ G hx ⟨⟨v2, v3, v4, v5, v6, v7, v8, v9, v10, v11, v12, v13, v14, v15, rfl⟩, bs⟩
        obtain ⟨y, _, rfl⟩ := get_map hx
        refine ⟨F, Cs, fs, z0 :: cs2, ⟨y, v3, v4, v5, v6, v7, v8, v9, v10, v11, v12, v13, v14, v15, rfl, bs⟩, fun σ' H' p => ?_⟩
        obtain ⟨y2, u3, u4, u5, u6, u7, u8, u9, u10, u11, u12, u13, u14, u15, rfl, bs2⟩ := p
        exact ⟨⟨_, _, _, _, _, _, _, _, _, _, _, _, _, _, rfl⟩, bs2⟩
      · intro σ G _
        exact k _
end
end Lw

set_option Elab.async false
set_option linter.all false
set_option maxRecDepth 100000
set_option maxHeartbeats 4000000
namespace Lw
open PySem L2 Two Pr ClX LamX
/-! ### what the top has written -/
theorem all_mk {l : PySem.W.OpenLaw} {w : World} {K : PySem.W.Frag} {h : Heap} {mg : Str → Option Value} {fa : Addr} (X : K.In h) (G : h.Ns mainGlobals mg) (hfa : mg "law" = some (.ref fa))
    {tm : Tok}
    (most : PySem.W.nsIn K mainGlobals "MOST_ITEMS" = some (some (.int 30 tm)))
    (z_isinstance : PySem.W.nsIn K mainGlobals "isinstance" = some none)
    (z_int : PySem.W.nsIn K mainGlobals "int" = some none)
    (z_bool : PySem.W.nsIn K mainGlobals "bool" = some none)
    (z_str : PySem.W.nsIn K mainGlobals "str" = some none)
    (z_list : PySem.W.nsIn K mainGlobals "list" = some none)
    (z_tuple : PySem.W.nsIn K mainGlobals "tuple" = some none)
    (z_set : PySem.W.nsIn K mainGlobals "set" = some none)
    (z_len : PySem.W.nsIn K mainGlobals "len" = some none)
    (z_all : PySem.W.nsIn K mainGlobals "all" = some none)
    (z_any : PySem.W.nsIn K mainGlobals "any" = some none)
    (z_zip : PySem.W.nsIn K mainGlobals "zip" = some none)
    (z_enumerate : PySem.W.nsIn K mainGlobals "enumerate" = some none)
    (z_range : PySem.W.nsIn K mainGlobals "range" = some none)
    (z_sorted : PySem.W.nsIn K mainGlobals "sorted" = some none)
    (z_repr : PySem.W.nsIn K mainGlobals "repr" = some none)
    (z_ValueError : PySem.W.nsIn K mainGlobals "ValueError" = some none)
    {f_I : Addr} {od_I an_I : Option Addr} {sl_I : Array (Option Value)} {oc_I kV_I dc_I pm_I cd_I ct_I : Value}
    (a_I : PySem.W.nsIn K mainGlobals "is_int" = some (some (.ref f_I)))
    (l_I : K.lookup f_I = some ⟨oc_I, od_I, .func (PySem.W.fnOf "is_int" "is_int" (defArgs sIsInt) (defBody sIsInt) (defScope sIsInt) .none kV_I dc_I pm_I an_I (cd_I) ct_I), sl_I⟩)
    (c_I : PySem.W.codeIn K (cd_I) "is_int" = true)
    (k_I : PySem.W.keepIn K (.ref f_I) = true)
    {f_U : Addr} {od_U an_U : Option Addr} {sl_U : Array (Option Value)} {oc_U kV_U dc_U pm_U cd_U ct_U : Value}
    (a_U : PySem.W.nsIn K mainGlobals "check_unlike" = some (some (.ref f_U)))
    (l_U : K.lookup f_U = some ⟨oc_U, od_U, .func (PySem.W.fnOf "check_unlike" "check_unlike" (defArgs sUnlike) (defBody sUnlike) (defScope sUnlike) .none kV_U dc_U pm_U an_U (cd_U) ct_U), sl_U⟩)
    (c_U : PySem.W.codeIn K (cd_U) "check_unlike" = true)
    (k_U : PySem.W.keepIn K (.ref f_U) = true)
    {f_M : Addr} {od_M an_M : Option Addr} {sl_M : Array (Option Value)} {oc_M kV_M dc_M pm_M cd_M ct_M : Value}
    (a_M : PySem.W.nsIn K mainGlobals "merge" = some (some (.ref f_M)))
    (l_M : K.lookup f_M = some ⟨oc_M, od_M, .func (PySem.W.fnOf "merge" "merge" (defArgs sMerge) (defBody sMerge) (defScope sMerge) .none kV_M dc_M pm_M an_M (cd_M) ct_M), sl_M⟩)
    (c_M : PySem.W.codeIn K (cd_M) "merge" = true)
    (k_M : PySem.W.keepIn K (.ref f_M) = true)
    {f_H : Addr} {od_H an_H : Option Addr} {sl_H : Array (Option Value)} {oc_H kV_H dc_H pm_H cd_H ct_H : Value}
    (a_H : PySem.W.nsIn K mainGlobals "shows_merge" = some (some (.ref f_H)))
    (l_H : K.lookup f_H = some ⟨oc_H, od_H, .func (PySem.W.fnOf "shows_merge" "shows_merge" (defArgs sShowsM) (defBody sShowsM) (defScope sShowsM) .none kV_H dc_H pm_H an_H (cd_H) ct_H), sl_H⟩)
    (c_H : PySem.W.codeIn K (cd_H) "shows_merge" = true)
    (k_H : PySem.W.keepIn K (.ref f_H) = true)
    {f_C : Addr} {od_C an_C : Option Addr} {sl_C : Array (Option Value)} {oc_C kV_C dc_C pm_C cd_C ct_C : Value}
    (a_C : PySem.W.nsIn K mainGlobals "_check_lists" = some (some (.ref f_C)))
    (l_C : K.lookup f_C = some ⟨oc_C, od_C, .func (PySem.W.fnOf "_check_lists" "_check_lists" (defArgs sCheck) (defBody sCheck) (defScope sCheck) .none kV_C dc_C pm_C an_C (cd_C) ct_C), sl_C⟩)
    (c_C : PySem.W.codeIn K (cd_C) "_check_lists" = true)
    (k_C : PySem.W.keepIn K (.ref f_C) = true)
    {f_L : Addr} {od_L an_L : Option Addr} {sl_L : Array (Option Value)} {oc_L kV_L dc_L pm_L cd_L ct_L : Value}
    (a_L : PySem.W.nsIn K mainGlobals "_is_list_of_ints" = some (some (.ref f_L)))
    (l_L : K.lookup f_L = some ⟨oc_L, od_L, .func (PySem.W.fnOf "_is_list_of_ints" "_is_list_of_ints" (defArgs sIsList) (defBody sIsList) (defScope sIsList) .none kV_L dc_L pm_L an_L (cd_L) ct_L), sl_L⟩)
    (c_L : PySem.W.codeIn K (cd_L) "_is_list_of_ints" = true)
    (k_L : PySem.W.keepIn K (.ref f_L) = true)
    {f_T : Addr} {od_T an_T : Option Addr} {sl_T : Array (Option Value)} {oc_T kV_T dc_T pm_T cd_T ct_T : Value}
    (a_T : PySem.W.nsIn K mainGlobals "_times_behind" = some (some (.ref f_T)))
    (l_T : K.lookup f_T = some ⟨oc_T, od_T, .func (PySem.W.fnOf "_times_behind" "_times_behind" (defArgs sTimes) (defBody sTimes) (defScope sTimes) .none kV_T dc_T pm_T an_T (cd_T) ct_T), sl_T⟩)
    (c_T : PySem.W.codeIn K (cd_T) "_times_behind" = true)
    (k_T : PySem.W.keepIn K (.ref f_T) = true)
    {f_F : Addr} {od_F an_F : Option Addr} {sl_F : Array (Option Value)} {oc_F kV_F dc_F pm_F cd_F ct_F : Value}
    (a_F : PySem.W.nsIn K mainGlobals "_first_free" = some (some (.ref f_F)))
    (l_F : K.lookup f_F = some ⟨oc_F, od_F, .func (PySem.W.fnOf "_first_free" "_first_free" (defArgs sFree) (defBody sFree) (defScope sFree) .none kV_F dc_F pm_F an_F (cd_F) ct_F), sl_F⟩)
    (c_F : PySem.W.codeIn K (cd_F) "_first_free" = true)
    (k_F : PySem.W.keepIn K (.ref f_F) = true)
    {f_K : Addr} {od_K an_K : Option Addr} {sl_K : Array (Option Value)} {oc_K kV_K dc_K pm_K cd_K ct_K : Value}
    (a_K : PySem.W.nsIn K mainGlobals "_take" = some (some (.ref f_K)))
    (l_K : K.lookup f_K = some ⟨oc_K, od_K, .func (PySem.W.fnOf "_take" "_take" (defArgs sTake) (defBody sTake) (defScope sTake) .none kV_K dc_K pm_K an_K (cd_K) ct_K), sl_K⟩)
    (c_K : PySem.W.codeIn K (cd_K) "_take" = true)
    (k_K : PySem.W.keepIn K (.ref f_K) = true)
    {f_O : Addr} {od_O an_O : Option Addr} {sl_O : Array (Option Value)} {oc_O kV_O dc_O pm_O cd_O ct_O : Value}
    (a_O : PySem.W.nsIn K mainGlobals "_ring_of" = some (some (.ref f_O)))
    (l_O : K.lookup f_O = some ⟨oc_O, od_O, .func (PySem.W.fnOf "_ring_of" "_ring_of" (defArgs sRingOf) (defBody sRingOf) (defScope sRingOf) .none kV_O dc_O pm_O an_O (cd_O) ct_O), sl_O⟩)
    (c_O : PySem.W.codeIn K (cd_O) "_ring_of" = true)
    (k_O : PySem.W.keepIn K (.ref f_O) = true)
    {f_c : Addr} {od_c an_c : Option Addr} {sl_c : Array (Option Value)} {oc_c kV_c dc_c pm_c cd_c ct_c : Value}
    (a_c : PySem.W.nsIn K mainGlobals "_law_cell_at" = some (some (.ref f_c)))
    (l_c : K.lookup f_c = some ⟨oc_c, od_c, .func (PySem.W.fnOf "_law_cell_at" "_law_cell_at" (defArgs sCell) (defBody sCell) (defScope sCell) .none kV_c dc_c pm_c an_c (cd_c) ct_c), sl_c⟩)
    (c_c : PySem.W.codeIn K (cd_c) "_law_cell_at" = true)
    (k_c : PySem.W.keepIn K (.ref f_c) = true)
    {f_s : Addr} {od_s an_s : Option Addr} {sl_s : Array (Option Value)} {oc_s kV_s dc_s pm_s cd_s ct_s : Value}
    (a_s : PySem.W.nsIn K mainGlobals "_law_source" = some (some (.ref f_s)))
    (l_s : K.lookup f_s = some ⟨oc_s, od_s, .func (PySem.W.fnOf "_law_source" "_law_source" (defArgs sSource) (defBody sSource) (defScope sSource) .none kV_s dc_s pm_s an_s (cd_s) ct_s), sl_s⟩)
    (c_s : PySem.W.codeIn K (cd_s) "_law_source" = true)
    (k_s : PySem.W.keepIn K (.ref f_s) = true)
    {f_d : Addr} {od_d an_d : Option Addr} {sl_d : Array (Option Value)} {oc_d kV_d dc_d pm_d cd_d ct_d : Value}
    (a_d : PySem.W.nsIn K mainGlobals "_law_draw" = some (some (.ref f_d)))
    (l_d : K.lookup f_d = some ⟨oc_d, od_d, .func (PySem.W.fnOf "_law_draw" "_law_draw" (defArgs sDraw) (defBody sDraw) (defScope sDraw) .none kV_d dc_d pm_d an_d (cd_d) ct_d), sl_d⟩)
    (c_d : PySem.W.codeIn K (cd_d) "_law_draw" = true)
    (k_d : PySem.W.keepIn K (.ref f_d) = true)
    {f_p : Addr} {od_p an_p : Option Addr} {sl_p : Array (Option Value)} {oc_p kV_p dc_p pm_p cd_p ct_p : Value}
    (a_p : PySem.W.nsIn K mainGlobals "_law_pick" = some (some (.ref f_p)))
    (l_p : K.lookup f_p = some ⟨oc_p, od_p, .func (PySem.W.fnOf "_law_pick" "_law_pick" (defArgs sPick) (defBody sPick) (defScope sPick) .none kV_p dc_p pm_p an_p (cd_p) ct_p), sl_p⟩)
    (c_p : PySem.W.codeIn K (cd_p) "_law_pick" = true)
    (k_p : PySem.W.keepIn K (.ref f_p) = true)
    {f_e : Addr} {od_e an_e : Option Addr} {sl_e : Array (Option Value)} {oc_e kV_e dc_e pm_e cd_e ct_e : Value}
    (a_e : PySem.W.nsIn K mainGlobals "_law_items" = some (some (.ref f_e)))
    (l_e : K.lookup f_e = some ⟨oc_e, od_e, .func (PySem.W.fnOf "_law_items" "_law_items" (defArgs sItems) (defBody sItems) (defScope sItems) .none kV_e dc_e pm_e an_e (cd_e) ct_e), sl_e⟩)
    (c_e : PySem.W.codeIn K (cd_e) "_law_items" = true)
    (k_e : PySem.W.keepIn K (.ref f_e) = true)
    {f_o : Addr} {od_o an_o : Option Addr} {sl_o : Array (Option Value)} {oc_o kV_o dc_o pm_o cd_o ct_o : Value}
    (a_o : PySem.W.nsIn K mainGlobals "_law_some" = some (some (.ref f_o)))
    (l_o : K.lookup f_o = some ⟨oc_o, od_o, .func (PySem.W.fnOf "_law_some" "_law_some" (defArgs sSome) (defBody sSome) (defScope sSome) .none kV_o dc_o pm_o an_o (cd_o) ct_o), sl_o⟩)
    (c_o : PySem.W.codeIn K (cd_o) "_law_some" = true)
    (k_o : PySem.W.keepIn K (.ref f_o) = true)
    {f_t : Addr} {od_t an_t : Option Addr} {sl_t : Array (Option Value)} {oc_t kV_t dc_t pm_t cd_t ct_t : Value}
    (a_t : PySem.W.nsIn K mainGlobals "_law_turned" = some (some (.ref f_t)))
    (l_t : K.lookup f_t = some ⟨oc_t, od_t, .func (PySem.W.fnOf "_law_turned" "_law_turned" (defArgs sTurned) (defBody sTurned) (defScope sTurned) .none kV_t dc_t pm_t an_t (cd_t) ct_t), sl_t⟩)
    (c_t : PySem.W.codeIn K (cd_t) "_law_turned" = true)
    (k_t : PySem.W.keepIn K (.ref f_t) = true)
    {f_l : Addr} {od_l an_l : Option Addr} {sl_l : Array (Option Value)} {oc_l kV_l dc_l pm_l cd_l ct_l : Value}
    (a_l : PySem.W.nsIn K mainGlobals "_law_lists" = some (some (.ref f_l)))
    (l_l : K.lookup f_l = some ⟨oc_l, od_l, .func (PySem.W.fnOf "_law_lists" "_law_lists" (defArgs sLists) (defBody sLists) (defScope sLists) .none kV_l dc_l pm_l an_l (cd_l) ct_l), sl_l⟩)
    (c_l : PySem.W.codeIn K (cd_l) "_law_lists" = true)
    (k_l : PySem.W.keepIn K (.ref f_l) = true)
    {f_r : Addr} {od_r an_r : Option Addr} {sl_r : Array (Option Value)} {oc_r kV_r dc_r pm_r cd_r ct_r : Value}
    (a_r : PySem.W.nsIn K mainGlobals "_law_refused" = some (some (.ref f_r)))
    (l_r : K.lookup f_r = some ⟨oc_r, od_r, .func (PySem.W.fnOf "_law_refused" "_law_refused" (defArgs sRefused) (defBody sRefused) (defScope sRefused) .none kV_r dc_r pm_r an_r (cd_r) ct_r), sl_r⟩)
    (c_r : PySem.W.codeIn K (cd_r) "_law_refused" = true)
    (k_r : PySem.W.keepIn K (.ref f_r) = true)
    {f_b : Addr} {od_b an_b : Option Addr} {sl_b : Array (Option Value)} {oc_b kV_b dc_b pm_b  ct_b : Value} {cb : Addr}
    (a_b : PySem.W.nsIn K mainGlobals "_law_both" = some (some (.ref f_b)))
    (l_b : K.lookup f_b = some ⟨oc_b, od_b, .func (PySem.W.fnOf "_law_both" "_law_both" (defArgs sBoth) (defBody sBoth) (defScope sBoth) .none kV_b dc_b pm_b an_b (.ref cb) ct_b), sl_b⟩)
    (c_b : PySem.W.codeIn K (.ref cb) "_law_both" = true)
    (k_b : PySem.W.keepIn K (.ref f_b) = true)
    {f_w : Addr} {od_w an_w : Option Addr} {sl_w : Array (Option Value)} {oc_w kV_w dc_w pm_w cd_w ct_w : Value}
    (a_w : PySem.W.nsIn K mainGlobals "law" = some (some (.ref f_w)))
    (l_w : K.lookup f_w = some ⟨oc_w, od_w, .func (PySem.W.fnOf "law" "law" (defArgs sLaw) (defBody sLaw) (defScope sLaw) .none kV_w dc_w pm_w an_w (cd_w) ct_w), sl_w⟩)
    (c_w : PySem.W.codeIn K (cd_w) "law" = true)
    (k_w : PySem.W.keepIn K (.ref f_w) = true)
    {CL : Addr}
    (a_CL : PySem.W.nsIn K mainGlobals "LineError" = some (some (.ref CL)))
    {CB : Addr}
    (a_CB : PySem.W.nsIn K mainGlobals "BadList" = some (some (.ref CB)))
    {CT : Addr}
    (a_CT : PySem.W.nsIn K mainGlobals "TooMany" = some (some (.ref CT)))
    {CD : Addr}
    (a_CD : PySem.W.nsIn K mainGlobals "Duplicate" = some (some (.ref CD)))
    {E0 : Addr}
    (a_E0 : PySem.W.nsIn K mainGlobals "BadName" = some (some (.ref E0)))
    {E1 : Addr}
    (a_E1 : PySem.W.nsIn K mainGlobals "BadOffset" = some (some (.ref E1)))
    {E2 : Addr}
    (a_E2 : PySem.W.nsIn K mainGlobals "BadStep" = some (some (.ref E2)))
    {E3 : Addr}
    (a_E3 : PySem.W.nsIn K mainGlobals "BadValue" = some (some (.ref E3)))
    {E4 : Addr}
    (a_E4 : PySem.W.nsIn K mainGlobals "BelowItself" = some (some (.ref E4)))
    {E5 : Addr}
    (a_E5 : PySem.W.nsIn K mainGlobals "Collision" = some (some (.ref E5)))
    {E6 : Addr}
    (a_E6 : PySem.W.nsIn K mainGlobals "HasRoom" = some (some (.ref E6)))
    {E7 : Addr}
    (a_E7 : PySem.W.nsIn K mainGlobals "LayoutMoves" = some (some (.ref E7)))
    {E8 : Addr}
    (a_E8 : PySem.W.nsIn K mainGlobals "NoClass" = some (some (.ref E8)))
    {E9 : Addr}
    (a_E9 : PySem.W.nsIn K mainGlobals "NoName" = some (some (.ref E9)))
    {E10 : Addr}
    (a_E10 : PySem.W.nsIn K mainGlobals "NoObject" = some (some (.ref E10)))
    {E11 : Addr}
    (a_E11 : PySem.W.nsIn K mainGlobals "NoOrder" = some (some (.ref E11)))
    {E12 : Addr}
    (a_E12 : PySem.W.nsIn K mainGlobals "NotSet" = some (some (.ref E12)))
    {E13 : Addr}
    (a_E13 : PySem.W.nsIn K mainGlobals "OtherLayout" = some (some (.ref E13)))
    {f_iL : Addr} {od_iL an_iL : Option Addr} {sl_iL : Array (Option Value)} {oc_iL kV_iL dc_iL pm_iL cd_iL ct_iL : Value}
    (i_iL : PySem.W.findIn K (.ref CL) "__init__" = some (some (.ref f_iL)))
    (l_iL : K.lookup f_iL = some ⟨oc_iL, od_iL, .func (PySem.W.fnOf "__init__" "LineError.__init__" (defArgs sLineInit) (defBody sLineInit) (defScope sLineInit) .none kV_iL dc_iL pm_iL an_iL cd_iL ct_iL), sl_iL⟩)
    (c_iL : PySem.W.codeIn K cd_iL "LineError.__init__" = true)
    (k_iL : PySem.W.keepIn K (.ref f_iL) = true)
    (t_iL : PySem.W.typeIn K (.ref f_iL) = some (.type "function"))
    {f_iT : Addr} {od_iT an_iT : Option Addr} {sl_iT : Array (Option Value)} {oc_iT kV_iT dc_iT pm_iT cd_iT ct_iT : Value}
    (i_iT : PySem.W.findIn K (.ref CT) "__init__" = some (some (.ref f_iT)))
    (l_iT : K.lookup f_iT = some ⟨oc_iT, od_iT, .func (PySem.W.fnOf "__init__" "TooMany.__init__" (defArgs sManyInit) (defBody sManyInit) (defScope sManyInit) .none kV_iT dc_iT pm_iT an_iT cd_iT ct_iT), sl_iT⟩)
    (c_iT : PySem.W.codeIn K cd_iT "TooMany.__init__" = true)
    (k_iT : PySem.W.keepIn K (.ref f_iT) = true)
    (t_iT : PySem.W.typeIn K (.ref f_iT) = some (.type "function"))
    {f_iD : Addr} {od_iD an_iD : Option Addr} {sl_iD : Array (Option Value)} {oc_iD kV_iD dc_iD pm_iD cd_iD ct_iD : Value}
    (i_iD : PySem.W.findIn K (.ref CD) "__init__" = some (some (.ref f_iD)))
    (l_iD : K.lookup f_iD = some ⟨oc_iD, od_iD, .func (PySem.W.fnOf "__init__" "Duplicate.__init__" (defArgs sDupInit) (defBody sDupInit) (defScope sDupInit) .none kV_iD dc_iD pm_iD an_iD cd_iD ct_iD), sl_iD⟩)
    (c_iD : PySem.W.codeIn K cd_iD "Duplicate.__init__" = true)
    (k_iD : PySem.W.keepIn K (.ref f_iD) = true)
    (t_iD : PySem.W.typeIn K (.ref f_iD) = some (.type "function"))
    (i_B : PySem.W.findIn K (.ref CB) "__init__" = some (some (.ref f_iL)))
    {mcL : Value}
    (rdT : PySem.W.typeIn K (.ref CL) = some mcL)
    (rdL : PySem.W.readsIn K CL mcL = true)
    (gaL : PySem.W.specialIn K (.ref CL) "__getattribute__" = some (some (.builtin "type.__getattribute__")))
    (atL : PySem.W.findCls K (.ref CL) mcL "__init__" = some (.val (.ref f_iL)))
    (kCL : PySem.W.keepIn K (.ref CL) = true)
    {nmB qB : Str} {NB : Addr} {bsB bmB : List Value} {snB : List Str} {subB : List Value} {abB : Bool} {colB : Option Bool} {ddB : Option Addr} {m0B m1B m2B m3B m5B : Option Value}
    (x_B : K.lookup CB = some (excClassObj nmB qB CB NB bsB bmB true snB subB abB colB ddB m0B m1B m2B m3B m5B "ValueError.__new__"))
    (r_B : PySem.HandSPX.refsVE bmB = true)
    (sa_B : PySem.W.findIn K (.ref CB) "__setattr__" = some (some (.builtin "object.__setattr__")))
    (ex_B : PySem.W.subIn K (.ref CB) (.type "BaseException") = some true)
    (ty_B : PySem.W.typeIn K (.ref CB) = some (.type "type"))
    (kc_B : PySem.W.keepIn K (.ref CB) = true)
    (nw_B : PySem.W.findIn K (.ref CB) "why" = some none)
    (hg_B : PySem.W.findIn K (.ref CB) "__getattribute__" = some (some (.builtin "BaseException.__getattribute__")))
    (hk_B : PySem.W.findIn K (.ref CB) "__getattr__" = some none)
    (hd_B : PySem.W.hasDictIn K CB = true)
    (ha_B : PySem.W.findIn K (.ref CB) "__class__" = some (some (.builtin "object.__class__")))
    (hm_B : PySem.W.mroIn K CB (.type "object") = some true)
    (ei_B : PySem.W.exmOne K (.ref CB) (.ref CL) = some true)
    (kv_B : PySem.W.kitOne K (.ref CB) (.type "ValueError") = some true)
    (kk_BB : PySem.W.kitOne K (.ref CB) (.ref CB) = some true)
    (kk_BT : PySem.W.kitOne K (.ref CB) (.ref CT) = some false)
    (kk_BD : PySem.W.kitOne K (.ref CB) (.ref CD) = some false)
    (ke_B0 : PySem.W.kitOne K (.ref CB) (.ref E0) = some false)
    (ke_B1 : PySem.W.kitOne K (.ref CB) (.ref E1) = some false)
    (ke_B2 : PySem.W.kitOne K (.ref CB) (.ref E2) = some false)
    (ke_B3 : PySem.W.kitOne K (.ref CB) (.ref E3) = some false)
    (ke_B4 : PySem.W.kitOne K (.ref CB) (.ref E4) = some false)
    (ke_B5 : PySem.W.kitOne K (.ref CB) (.ref E5) = some false)
    (ke_B6 : PySem.W.kitOne K (.ref CB) (.ref E6) = some false)
    (ke_B7 : PySem.W.kitOne K (.ref CB) (.ref E7) = some false)
    (ke_B8 : PySem.W.kitOne K (.ref CB) (.ref E8) = some false)
    (ke_B9 : PySem.W.kitOne K (.ref CB) (.ref E9) = some false)
    (ke_B10 : PySem.W.kitOne K (.ref CB) (.ref E10) = some false)
    (ke_B11 : PySem.W.kitOne K (.ref CB) (.ref E11) = some false)
    (ke_B12 : PySem.W.kitOne K (.ref CB) (.ref E12) = some false)
    (ke_B13 : PySem.W.kitOne K (.ref CB) (.ref E13) = some false)
    {nmT qT : Str} {NT : Addr} {bsT bmT : List Value} {snT : List Str} {subT : List Value} {abT : Bool} {colT : Option Bool} {ddT : Option Addr} {m0T m1T m2T m3T m5T : Option Value}
    (x_T : K.lookup CT = some (excClassObj nmT qT CT NT bsT bmT true snT subT abT colT ddT m0T m1T m2T m3T m5T "ValueError.__new__"))
    (r_T : PySem.HandSPX.refsVE bmT = true)
    (sa_T : PySem.W.findIn K (.ref CT) "__setattr__" = some (some (.builtin "object.__setattr__")))
    (ex_T : PySem.W.subIn K (.ref CT) (.type "BaseException") = some true)
    (ty_T : PySem.W.typeIn K (.ref CT) = some (.type "type"))
    (kc_T : PySem.W.keepIn K (.ref CT) = true)
    (nw_T : PySem.W.findIn K (.ref CT) "why" = some none)
    (hg_T : PySem.W.findIn K (.ref CT) "__getattribute__" = some (some (.builtin "BaseException.__getattribute__")))
    (hk_T : PySem.W.findIn K (.ref CT) "__getattr__" = some none)
    (hd_T : PySem.W.hasDictIn K CT = true)
    (ha_T : PySem.W.findIn K (.ref CT) "__class__" = some (some (.builtin "object.__class__")))
    (hm_T : PySem.W.mroIn K CT (.type "object") = some true)
    (ei_T : PySem.W.exmOne K (.ref CT) (.ref CL) = some true)
    (kv_T : PySem.W.kitOne K (.ref CT) (.type "ValueError") = some true)
    (kk_TB : PySem.W.kitOne K (.ref CT) (.ref CB) = some false)
    (kk_TT : PySem.W.kitOne K (.ref CT) (.ref CT) = some true)
    (kk_TD : PySem.W.kitOne K (.ref CT) (.ref CD) = some false)
    (ke_T0 : PySem.W.kitOne K (.ref CT) (.ref E0) = some false)
    (ke_T1 : PySem.W.kitOne K (.ref CT) (.ref E1) = some false)
    (ke_T2 : PySem.W.kitOne K (.ref CT) (.ref E2) = some false)
    (ke_T3 : PySem.W.kitOne K (.ref CT) (.ref E3) = some false)
    (ke_T4 : PySem.W.kitOne K (.ref CT) (.ref E4) = some false)
    (ke_T5 : PySem.W.kitOne K (.ref CT) (.ref E5) = some false)
    (ke_T6 : PySem.W.kitOne K (.ref CT) (.ref E6) = some false)
    (ke_T7 : PySem.W.kitOne K (.ref CT) (.ref E7) = some false)
    (ke_T8 : PySem.W.kitOne K (.ref CT) (.ref E8) = some false)
    (ke_T9 : PySem.W.kitOne K (.ref CT) (.ref E9) = some false)
    (ke_T10 : PySem.W.kitOne K (.ref CT) (.ref E10) = some false)
    (ke_T11 : PySem.W.kitOne K (.ref CT) (.ref E11) = some false)
    (ke_T12 : PySem.W.kitOne K (.ref CT) (.ref E12) = some false)
    (ke_T13 : PySem.W.kitOne K (.ref CT) (.ref E13) = some false)
    {nmD qD : Str} {ND : Addr} {bsD bmD : List Value} {snD : List Str} {subD : List Value} {abD : Bool} {colD : Option Bool} {ddD : Option Addr} {m0D m1D m2D m3D m5D : Option Value}
    (x_D : K.lookup CD = some (excClassObj nmD qD CD ND bsD bmD true snD subD abD colD ddD m0D m1D m2D m3D m5D "ValueError.__new__"))
    (r_D : PySem.HandSPX.refsVE bmD = true)
    (sa_D : PySem.W.findIn K (.ref CD) "__setattr__" = some (some (.builtin "object.__setattr__")))
    (ex_D : PySem.W.subIn K (.ref CD) (.type "BaseException") = some true)
    (ty_D : PySem.W.typeIn K (.ref CD) = some (.type "type"))
    (kc_D : PySem.W.keepIn K (.ref CD) = true)
    (nw_D : PySem.W.findIn K (.ref CD) "why" = some none)
    (hg_D : PySem.W.findIn K (.ref CD) "__getattribute__" = some (some (.builtin "BaseException.__getattribute__")))
    (hk_D : PySem.W.findIn K (.ref CD) "__getattr__" = some none)
    (hd_D : PySem.W.hasDictIn K CD = true)
    (ha_D : PySem.W.findIn K (.ref CD) "__class__" = some (some (.builtin "object.__class__")))
    (hm_D : PySem.W.mroIn K CD (.type "object") = some true)
    (ei_D : PySem.W.exmOne K (.ref CD) (.ref CL) = some true)
    (kv_D : PySem.W.kitOne K (.ref CD) (.type "ValueError") = some true)
    (kk_DB : PySem.W.kitOne K (.ref CD) (.ref CB) = some false)
    (kk_DT : PySem.W.kitOne K (.ref CD) (.ref CT) = some false)
    (kk_DD : PySem.W.kitOne K (.ref CD) (.ref CD) = some true)
    (ke_D0 : PySem.W.kitOne K (.ref CD) (.ref E0) = some false)
    (ke_D1 : PySem.W.kitOne K (.ref CD) (.ref E1) = some false)
    (ke_D2 : PySem.W.kitOne K (.ref CD) (.ref E2) = some false)
    (ke_D3 : PySem.W.kitOne K (.ref CD) (.ref E3) = some false)
    (ke_D4 : PySem.W.kitOne K (.ref CD) (.ref E4) = some false)
    (ke_D5 : PySem.W.kitOne K (.ref CD) (.ref E5) = some false)
    (ke_D6 : PySem.W.kitOne K (.ref CD) (.ref E6) = some false)
    (ke_D7 : PySem.W.kitOne K (.ref CD) (.ref E7) = some false)
    (ke_D8 : PySem.W.kitOne K (.ref CD) (.ref E8) = some false)
    (ke_D9 : PySem.W.kitOne K (.ref CD) (.ref E9) = some false)
    (ke_D10 : PySem.W.kitOne K (.ref CD) (.ref E10) = some false)
    (ke_D11 : PySem.W.kitOne K (.ref CD) (.ref E11) = some false)
    (ke_D12 : PySem.W.kitOne K (.ref CD) (.ref E12) = some false)
    (ke_D13 : PySem.W.kitOne K (.ref CD) (.ref E13) = some false)
    (nf_T : PySem.W.findIn K (.ref CT) "limit" = some none)
    (nf_D : PySem.W.findIn K (.ref CD) "thing" = some none)
    (hn : PySem.W.specialIn K (.builtin "object.__class__") "__get__" = some (some (.builtin "getset_descriptor.__get__")))
    (ht : PySem.W.takesIn K (.builtin "object.__class__") = some true)
    {Pb : Addr} {odc : Option Addr} {vsc : Array Value} {slc : Array (Option Value)}
    (lc : K.lookup cb = some ⟨.type "code", odc, .fields vsc, slc⟩)
    (pc : (vsc[11]? : Option Value) = some (.ref Pb))
    (hcd : PySem.W.codeHdIn K cb Pb = true)
    (np : K.lookup Pb = none)
    (hP : h.get? Pb = some { cls := .none, data := .fields #[] })
    : LawAtS l w K L2.CX0 11 63 "_law_script" mg fa h := by
  have e := hfa.symm.trans (PySem.W.mg_of X G a_w)
  cases e
  have T : Txt mg := ⟨PySem.W.mg_none_of X G z_isinstance, PySem.W.mg_none_of X G z_int, PySem.W.mg_none_of X G z_bool, PySem.W.mg_none_of X G z_str, PySem.W.mg_none_of X G z_list, PySem.W.mg_none_of X G z_tuple, PySem.W.mg_none_of X G z_set, PySem.W.mg_none_of X G z_len, PySem.W.mg_none_of X G z_all, PySem.W.mg_none_of X G z_any, PySem.W.mg_none_of X G z_zip, PySem.W.mg_none_of X G z_enumerate, PySem.W.mg_none_of X G z_range, ⟨tm, PySem.W.mg_of X G most⟩⟩
  have TL : TxtL mg := ⟨T, PySem.W.mg_none_of X G z_sorted, PySem.W.mg_none_of X G z_repr⟩
  have F_I := fun_mk (st := sIsInt) l_I c_I k_I
  have b_I := F_I.binds (ps := ["thing"]) fun _ _ _ _ _ _ us hl => match us, hl with | [_], _ => rfl
  have g_I := PySem.W.mg_of X G a_I
  have F_U := fun_mk (st := sUnlike) l_U c_U k_U
  have b_U := F_U.binds (ps := ["things"]) fun _ _ _ _ _ _ us hl => match us, hl with | [_], _ => rfl
  have g_U := PySem.W.mg_of X G a_U
  have F_M := fun_mk (st := sMerge) l_M c_M k_M
  have b_M := F_M.binds (ps := ["lists"]) fun _ _ _ _ _ _ us hl => match us, hl with | [_], _ => rfl
  have g_M := PySem.W.mg_of X G a_M
  have F_H := fun_mk (st := sShowsM) l_H c_H k_H
  have b_H := F_H.binds (ps := ["lists", "paper"]) fun _ _ _ _ _ _ us hl => match us, hl with | [_, _], _ => rfl
  have g_H := PySem.W.mg_of X G a_H
  have F_C := fun_mk (st := sCheck) l_C c_C k_C
  have b_C := F_C.binds (ps := ["lists"]) fun _ _ _ _ _ _ us hl => match us, hl with | [_], _ => rfl
  have g_C := PySem.W.mg_of X G a_C
  have F_L := fun_mk (st := sIsList) l_L c_L k_L
  have b_L := F_L.binds (ps := ["items"]) fun _ _ _ _ _ _ us hl => match us, hl with | [_], _ => rfl
  have g_L := PySem.W.mg_of X G a_L
  have F_T := fun_mk (st := sTimes) l_T c_T k_T
  have b_T := F_T.binds (ps := ["lists"]) fun _ _ _ _ _ _ us hl => match us, hl with | [_], _ => rfl
  have g_T := PySem.W.mg_of X G a_T
  have F_F := fun_mk (st := sFree) l_F c_F k_F
  have b_F := F_F.binds (ps := ["rests", "behind"]) fun _ _ _ _ _ _ us hl => match us, hl with | [_, _], _ => rfl
  have g_F := PySem.W.mg_of X G a_F
  have F_K := fun_mk (st := sTake) l_K c_K k_K
  have b_K := F_K.binds (ps := ["item", "rests", "behind"]) fun _ _ _ _ _ _ us hl => match us, hl with | [_, _, _], _ => rfl
  have g_K := PySem.W.mg_of X G a_K
  have F_O := fun_mk (st := sRingOf) l_O c_O k_O
  have b_O := F_O.binds (ps := ["rests"]) fun _ _ _ _ _ _ us hl => match us, hl with | [_], _ => rfl
  have g_O := PySem.W.mg_of X G a_O
  have F_c := fun_mk (st := sCell) l_c c_c k_c
  have b_c := F_c.binds (ps := ["_law_script", "_law_k"]) fun _ _ _ _ _ _ us hl => match us, hl with | [_, _], _ => rfl
  have g_c := PySem.W.mg_of X G a_c
  have F_s := fun_mk (st := sSource) l_s c_s k_s
  have b_s := F_s.binds (ps := ["_law_cell"]) fun _ _ _ _ _ _ us hl => match us, hl with | [_], _ => rfl
  have g_s := PySem.W.mg_of X G a_s
  have F_d := fun_mk (st := sDraw) l_d c_d k_d
  have b_d := F_d.binds (ps := ["_law_source_here", "_law_size"]) fun _ _ _ _ _ _ us hl => match us, hl with | [_, _], _ => rfl
  have g_d := PySem.W.mg_of X G a_d
  have F_p := fun_mk (st := sPick) l_p c_p k_p
  have b_p := F_p.binds (ps := ["_law_source_here", "_law_items_here"]) fun _ _ _ _ _ _ us hl => match us, hl with | [_, _], _ => rfl
  have g_p := PySem.W.mg_of X G a_p
  have F_e := fun_mk (st := sItems) l_e c_e k_e
  have b_e := F_e.binds (ps := ["_law_source_here", "_law_count"]) fun _ _ _ _ _ _ us hl => match us, hl with | [_, _], _ => rfl
  have g_e := PySem.W.mg_of X G a_e
  have F_o := fun_mk (st := sSome) l_o c_o k_o
  have b_o := F_o.binds (ps := ["_law_source_here", "_law_items_here"]) fun _ _ _ _ _ _ us hl => match us, hl with | [_, _], _ => rfl
  have g_o := PySem.W.mg_of X G a_o
  have F_t := fun_mk (st := sTurned) l_t c_t k_t
  have b_t := F_t.binds (ps := ["_law_source_here", "_law_items_here"]) fun _ _ _ _ _ _ us hl => match us, hl with | [_, _], _ => rfl
  have g_t := PySem.W.mg_of X G a_t
  have F_l := fun_mk (st := sLists) l_l c_l k_l
  have b_l := F_l.binds (ps := ["_law_source_here", "_law_most"]) fun _ _ _ _ _ _ us hl => match us, hl with | [_, _], _ => rfl
  have g_l := PySem.W.mg_of X G a_l
  have F_r := fun_mk (st := sRefused) l_r c_r k_r
  have b_r := F_r.binds (ps := ["_law_call"]) fun _ _ _ _ _ _ us hl => match us, hl with | [_], _ => rfl
  have g_r := PySem.W.mg_of X G a_r
  have F_b := fun_mk (st := sBoth) l_b c_b k_b
  have b_b := F_b.binds (ps := ["_law_lists_here", "_law_due"]) fun _ _ _ _ _ _ us hl => match us, hl with | [_, _], _ => rfl
  have g_b := PySem.W.mg_of X G a_b
  have F_w := fun_mk (st := sLaw) l_w c_w k_w
  have g_w := PySem.W.mg_of X G a_w
  have F_iL := fun_mk (st := sLineInit) l_iL c_iL k_iL
  have b_iL := F_iL.binds (ps := ["self", "why"]) fun _ _ _ _ _ _ us hl => match us, hl with | [_, _], _ => rfl
  have F_iT := fun_mk (st := sManyInit) l_iT c_iT k_iT
  have b_iT := F_iT.binds (ps := ["self", "limit"]) fun _ _ _ _ _ _ us hl => match us, hl with | [_, _], _ => rfl
  have F_iD := fun_mk (st := sDupInit) l_iD c_iD k_iD
  have b_iD := F_iD.binds (ps := ["self", "thing"]) fun _ _ _ _ _ _ us hl => match us, hl with | [_, _], _ => rfl
  have g_CL := PySem.W.mg_of X G a_CL
  have g_CB := PySem.W.mg_of X G a_CB
  have g_CT := PySem.W.mg_of X G a_CT
  have g_CD := PySem.W.mg_of X G a_CD
  have g_E0 := PySem.W.mg_of X G a_E0
  have g_E1 := PySem.W.mg_of X G a_E1
  have g_E2 := PySem.W.mg_of X G a_E2
  have g_E3 := PySem.W.mg_of X G a_E3
  have g_E4 := PySem.W.mg_of X G a_E4
  have g_E5 := PySem.W.mg_of X G a_E5
  have g_E6 := PySem.W.mg_of X G a_E6
  have g_E7 := PySem.W.mg_of X G a_E7
  have g_E8 := PySem.W.mg_of X G a_E8
  have g_E9 := PySem.W.mg_of X G a_E9
  have g_E10 := PySem.W.mg_of X G a_E10
  have g_E11 := PySem.W.mg_of X G a_E11
  have g_E12 := PySem.W.mg_of X G a_E12
  have g_E13 := PySem.W.mg_of X G a_E13
  have O_B : OexC K CB := ⟨⟨_, _, _, _, _, _, _, _, _, _, _, _, _, _, _, x_B, r_B⟩, sa_B, ex_B, ty_B, kc_B⟩
  have EC_B : ExcC K CB := ⟨hg_B, hk_B, ex_B, hd_B, ha_B, hn, ht, hm_B⟩
  have XC_B : XfC K CB := ⟨hg_B, hk_B, ex_B, hd_B⟩
  have O_T : OexC K CT := ⟨⟨_, _, _, _, _, _, _, _, _, _, _, _, _, _, _, x_T, r_T⟩, sa_T, ex_T, ty_T, kc_T⟩
  have EC_T : ExcC K CT := ⟨hg_T, hk_T, ex_T, hd_T, ha_T, hn, ht, hm_T⟩
  have XC_T : XfC K CT := ⟨hg_T, hk_T, ex_T, hd_T⟩
  have O_D : OexC K CD := ⟨⟨_, _, _, _, _, _, _, _, _, _, _, _, _, _, _, x_D, r_D⟩, sa_D, ex_D, ty_D, kc_D⟩
  have EC_D : ExcC K CD := ⟨hg_D, hk_D, ex_D, hd_D, ha_D, hn, ht, hm_D⟩
  have XC_D : XfC K CD := ⟨hg_D, hk_D, ex_D, hd_D⟩
  have rL : CRead K CL mcL := ⟨rdL, gaL⟩
  have cL : CFn K CL mcL "__init__" f_iL := ⟨atL, k_iL⟩
  have R : RefTxt K mg CL CB CT CD [E0, E1, E2, E3, E4, E5, E6, E7, E8, E9, E10, E11, E12, E13] := by
    refine ⟨T, PySem.W.mg_none_of X G z_repr, PySem.W.mg_none_of X G z_ValueError, g_CL, g_CB, g_CT, g_CD, g_E0, g_E1, g_E2, g_E3, g_E4, g_E5, g_E6, g_E7, g_E8, g_E9, g_E10, g_E11, g_E12, g_E13, fun D hD => ?_, fun D hD i hi => ?_, fun D hD => ?_, nf_T, nf_D, fun k => ?_, fun k => ?_, fun k => ?_⟩
    · rcases hD with rfl | rfl | rfl
      · exact ⟨EC_B, XC_B, ei_B, kv_B⟩
      · exact ⟨EC_T, XC_T, ei_T, kv_T⟩
      · exact ⟨EC_D, XC_D, ei_D, kv_D⟩
    · rcases hD with rfl | rfl | rfl

      · match i, hi with
        | 0, _ => exact ke_B0
        | 1, _ => exact ke_B1
        | 2, _ => exact ke_B2
        | 3, _ => exact ke_B3
        | 4, _ => exact ke_B4
        | 5, _ => exact ke_B5
        | 6, _ => exact ke_B6
        | 7, _ => exact ke_B7
        | 8, _ => exact ke_B8
        | 9, _ => exact ke_B9
        | 10, _ => exact ke_B10
        | 11, _ => exact ke_B11
        | 12, _ => exact ke_B12
        | 13, _ => exact ke_B13
      · match i, hi with
        | 0, _ => exact ke_T0
        | 1, _ => exact ke_T1
        | 2, _ => exact ke_T2
        | 3, _ => exact ke_T3
        | 4, _ => exact ke_T4
        | 5, _ => exact ke_T5
        | 6, _ => exact ke_T6
        | 7, _ => exact ke_T7
        | 8, _ => exact ke_T8
        | 9, _ => exact ke_T9
        | 10, _ => exact ke_T10
        | 11, _ => exact ke_T11
        | 12, _ => exact ke_T12
        | 13, _ => exact ke_T13
      · match i, hi with
        | 0, _ => exact ke_D0
        | 1, _ => exact ke_D1
        | 2, _ => exact ke_D2
        | 3, _ => exact ke_D3
        | 4, _ => exact ke_D4
        | 5, _ => exact ke_D5
        | 6, _ => exact ke_D6
        | 7, _ => exact ke_D7
        | 8, _ => exact ke_D8
        | 9, _ => exact ke_D9
        | 10, _ => exact ke_D10
        | 11, _ => exact ke_D11
        | 12, _ => exact ke_D12
        | 13, _ => exact ke_D13
    · rcases hD with rfl | rfl | rfl
      · exact nw_B
      · exact nw_T
      · exact nw_D
    · cases k with
      | list w => exact kk_BB
      | many n => exact kk_TB
      | twice z => exact kk_DB
    · cases k with
      | list w => exact kk_BT
      | many n => exact kk_TT
      | twice z => exact kk_DT
    · cases k with
      | list w => exact kk_BD
      | many n => exact kk_TD
      | twice z => exact kk_DD
  refine ⟨PySem.W.fnOf "law" "law" (defArgs sLaw) (defBody sLaw) (defScope sLaw) .none kV_w dc_w pm_w an_w cd_w ct_w, [(cb, Pb)], spLaw K [(Pb, qL)], one_mem (Pr := fun p : Addr × Addr => h.get? p.2 = _) hP, one_mem (Pr := fun p : Addr × Addr => K.lookup p.2 = none) np, one_mem (Pr := fun p : Addr × Addr => PySem.W.CodeHd h p.1 p.2) (PySem.W.codeHd_of_K X hcd), fun s v => .of_eq rfl, fun H a ns hn2 _ hT2 hS => ⟨a, ns, rfl, hS, hn2, one_mem (Pr := fun p : Addr × Str => TabS H p.1 p.2) (TabS.nil (hT2 _ (List.mem_singleton.mpr rfl))), fun _ => rfl⟩, fun base KXb Gb hTB => ?_⟩
  have TB := hTB _ (List.mem_singleton.mpr rfl)
  have G_iL := ok_lineInit (P := l.prog) (w := w) (base := base) (mg := mg) F_iL
  have G_iT := ok_manyInit (P := l.prog) (w := w) (base := base) F_iT g_CL rL cL b_iL G_iL
  have G_iD := ok_dupInit (P := l.prog) (w := w) (base := base) F_iD g_CL kCL rL cL b_iL G_iL
  have ET : ErrTxt l.prog w K mg base "TooMany" "limit" "too many" CT f_iT _ := ⟨g_CT, O_T, i_iT, t_iT, b_iT, G_iT, nw_T, nf_T⟩
  have ED : ErrTxt l.prog w K mg base "Duplicate" "thing" "duplicate" CD f_iD _ := ⟨g_CD, O_D, i_iD, t_iD, b_iD, G_iD, nw_D, nf_D⟩
  have EB : BadTxt l.prog w K mg base CB f_iL _ := ⟨g_CB, O_B, i_B, t_iL, b_iL, G_iL, nw_B⟩
  have G_I := ok_isInt (P := l.prog) (w := w) (base := base) F_I T
  have G_L := ok_isListX (P := l.prog) (w := w) (base := base) F_L T g_I k_I b_I G_I
  have G_U := ok_unlikeX (P := l.prog) (w := w) (base := base) F_U T ED
  have G_C := ok_checkX (P := l.prog) (w := w) (base := base) (fD := f_iD) (dD := default) F_C T g_L k_L b_L G_L g_U k_U b_U G_U EB ET
  have G_T := ok_times (P := l.prog) (w := w) (base := base) F_T T
  have G_F := ok_free (P := l.prog) (w := w) (base := base) F_F T
  have G_K := ok_take (P := l.prog) (w := w) (base := base) F_K T
  have G_O := ok_ringOf (P := l.prog) (w := w) (base := base) F_O T
  have G_M := ok_mergeX (P := l.prog) (w := w) (base := base) F_M T g_C k_C b_C G_C g_T k_T b_T G_T g_F k_F b_F G_F g_K k_K b_K G_K g_O k_O b_O G_O
  have G_H := ok_showsX (P := l.prog) (w := w) (base := base) F_H T g_M k_M b_M G_M g_L k_L b_L G_L
  have G_c := ok_cell (P := l.prog) (w := w) (base := base) F_c T
  have G_s := ok_source (P := l.prog) (w := w) (base := base) F_s T
  have G_d := ok_draw (P := l.prog) (w := w) (base := base) F_d T
  have G_p := ok_pick (P := l.prog) (w := w) (base := base) F_p T g_d k_d b_d G_d
  have G_e := ok_items (P := l.prog) (w := w) (base := base) F_e TL g_d k_d b_d G_d g_p k_p b_p G_p
  have G_o := ok_some (P := l.prog) (w := w) (base := base) F_o T g_d k_d b_d G_d
  have G_t := ok_turned (P := l.prog) (w := w) (base := base) F_t T g_d k_d b_d G_d g_p k_p b_p G_p
  have G_l := ok_lists (P := l.prog) (w := w) (base := base) F_l T g_d k_d b_d G_d g_e k_e b_e G_e g_o k_o b_o G_o g_t k_t b_t G_t
  have G_b := ok_both (P := l.prog) (w := w) (base := base) l_b c_b R g_r k_r l_r c_r b_r TB g_M k_M b_M G_M g_H k_H b_H G_H
  exact ok_law F_w T R ⟨g_c, k_c, b_c, G_c, g_s, k_s, b_s, G_s, g_l, k_l, b_l, G_l, g_d, k_d, b_d, G_d, g_p, k_p, b_p, G_p, g_b, k_b, b_b, G_b⟩
end Lw

set_option Elab.async false
open PySem PySem.W PyProof.Rows in
set_option maxRecDepth 100000 in
set_option maxHeartbeats 0 in
theorem PySem.Challenge.cw_layoutline_k03_invalid_lists_holds : PySem.Challenge.rw_layoutline_k03_invalid_lists.Holds := by
  w_on; o_law; k_head; (case hw => w_witness2)
  k_fill
  refine LamX.walk_ofTs (l := PySem.Challenge.rw_layoutline_k03_invalid_lists) (n := 63) (k := 11) (CX := fun _ => L2.CX0) (x := "_law_script") rfl (by decide) rfl ⟨rfl, by decide, by decide⟩ (fun w h Y => PySem.W.km_in_of Y) ?F (fun _ _ _ _ _ z => z)
  case F =>
    intro w mg fa h Y KX G hmg
    refine' Lw.all_mk KX G hmg ?most ?z_isinstance ?z_int ?z_bool ?z_str ?z_list ?z_tuple ?z_set ?z_len ?z_all ?z_any ?z_zip ?z_enumerate ?z_range ?z_sorted ?z_repr ?z_ValueError ?a_I ?l_I ?c_I ?k_I ?a_U ?l_U ?c_U ?k_U ?a_M ?l_M ?c_M ?k_M ?a_H ?l_H ?c_H ?k_H ?a_C ?l_C ?c_C ?k_C ?a_L ?l_L ?c_L ?k_L ?a_T ?l_T ?c_T ?k_T ?a_F ?l_F ?c_F ?k_F ?a_K ?l_K ?c_K ?k_K ?a_O ?l_O ?c_O ?k_O ?a_c ?l_c ?c_c ?k_c ?a_s ?l_s ?c_s ?k_s ?a_d ?l_d ?c_d ?k_d ?a_p ?l_p ?c_p ?k_p ?a_e ?l_e ?c_e ?k_e ?a_o ?l_o ?c_o ?k_o ?a_t ?l_t ?c_t ?k_t ?a_l ?l_l ?c_l ?k_l ?a_r ?l_r ?c_r ?k_r ?a_b ?l_b ?c_b ?k_b ?a_w ?l_w ?c_w ?k_w ?a_CL ?a_CB ?a_CT ?a_CD ?a_E0 ?a_E1 ?a_E2 ?a_E3 ?a_E4 ?a_E5 ?a_E6 ?a_E7 ?a_E8 ?a_E9 ?a_E10 ?a_E11 ?a_E12 ?a_E13 ?i_iL ?l_iL ?c_iL ?k_iL ?t_iL ?i_iT ?l_iT ?c_iT ?k_iT ?t_iT ?i_iD ?l_iD ?c_iD ?k_iD ?t_iD ?i_B ?rdT ?rdL ?gaL ?atL ?kCL ?x_B ?r_B ?sa_B ?ex_B ?ty_B ?kc_B ?nw_B ?hg_B ?hk_B ?hd_B ?ha_B ?hm_B ?ei_B ?kv_B ?kk_BB ?kk_BT ?kk_BD ?ke_B0 ?ke_B1 ?ke_B2 ?ke_B3 ?ke_B4 ?ke_B5 ?ke_B6 ?ke_B7 ?ke_B8 ?ke_B9 ?ke_B10 ?ke_B11 ?ke_B12 ?ke_B13 ?x_T ?r_T ?sa_T ?ex_T ?ty_T ?kc_T ?nw_T ?hg_T ?hk_T ?hd_T ?ha_T ?hm_T ?ei_T ?kv_T ?kk_TB ?kk_TT ?kk_TD ?ke_T0 ?ke_T1 ?ke_T2 ?ke_T3 ?ke_T4 ?ke_T5 ?ke_T6 ?ke_T7 ?ke_T8 ?ke_T9 ?ke_T10 ?ke_T11 ?ke_T12 ?ke_T13 ?x_D ?r_D ?sa_D ?ex_D ?ty_D ?kc_D ?nw_D ?hg_D ?hk_D ?hd_D ?ha_D ?hm_D ?ei_D ?kv_D ?kk_DB ?kk_DT ?kk_DD ?ke_D0 ?ke_D1 ?ke_D2 ?ke_D3 ?ke_D4 ?ke_D5 ?ke_D6 ?ke_D7 ?ke_D8 ?ke_D9 ?ke_D10 ?ke_D11 ?ke_D12 ?ke_D13 ?nf_T ?nf_D ?hn ?ht ?lc ?pc ?hcd ?np ?hP
    (case most => first | k_is | kit_is | rfl)
    (case z_isinstance => first | k_is | kit_is | rfl)
    (case z_int => first | k_is | kit_is | rfl)
    (case z_bool => first | k_is | kit_is | rfl)
    (case z_str => first | k_is | kit_is | rfl)
    (case z_list => first | k_is | kit_is | rfl)
    (case z_tuple => first | k_is | kit_is | rfl)
    (case z_set => first | k_is | kit_is | rfl)
    (case z_len => first | k_is | kit_is | rfl)
    (case z_all => first | k_is | kit_is | rfl)
    (case z_any => first | k_is | kit_is | rfl)
    (case z_zip => first | k_is | kit_is | rfl)
    (case z_enumerate => first | k_is | kit_is | rfl)
    (case z_range => first | k_is | kit_is | rfl)
    (case z_sorted => first | k_is | kit_is | rfl)
    (case z_repr => first | k_is | kit_is | rfl)
    (case z_ValueError => first | k_is | kit_is | rfl)
    (case a_I => first | k_is | kit_is | rfl)
    (case l_I => first | k_is | kit_is | rfl)
    (case c_I => first | k_is | kit_is | rfl)
    (case k_I => first | k_is | kit_is | rfl)
    (case a_U => first | k_is | kit_is | rfl)
    (case l_U => first | k_is | kit_is | rfl)
    (case c_U => first | k_is | kit_is | rfl)
    (case k_U => first | k_is | kit_is | rfl)
    (case a_M => first | k_is | kit_is | rfl)
    (case l_M => first | k_is | kit_is | rfl)
    (case c_M => first | k_is | kit_is | rfl)
    (case k_M => first | k_is | kit_is | rfl)
    (case a_H => first | k_is | kit_is | rfl)
    (case l_H => first | k_is | kit_is | rfl)
    (case c_H => first | k_is | kit_is | rfl)
    (case k_H => first | k_is | kit_is | rfl)
    (case a_C => first | k_is | kit_is | rfl)
    (case l_C => first | k_is | kit_is | rfl)
    (case c_C => first | k_is | kit_is | rfl)
    (case k_C => first | k_is | kit_is | rfl)
    (case a_L => first | k_is | kit_is | rfl)
    (case l_L => first | k_is | kit_is | rfl)
    (case c_L => first | k_is | kit_is | rfl)
    (case k_L => first | k_is | kit_is | rfl)
    (case a_T => first | k_is | kit_is | rfl)
    (case l_T => first | k_is | kit_is | rfl)
    (case c_T => first | k_is | kit_is | rfl)
    (case k_T => first | k_is | kit_is | rfl)
    (case a_F => first | k_is | kit_is | rfl)
    (case l_F => first | k_is | kit_is | rfl)
    (case c_F => first | k_is | kit_is | rfl)
    (case k_F => first | k_is | kit_is | rfl)
    (case a_K => first | k_is | kit_is | rfl)
    (case l_K => first | k_is | kit_is | rfl)
    (case c_K => first | k_is | kit_is | rfl)
    (case k_K => first | k_is | kit_is | rfl)
    (case a_O => first | k_is | kit_is | rfl)
    (case l_O => first | k_is | kit_is | rfl)
    (case c_O => first | k_is | kit_is | rfl)
    (case k_O => first | k_is | kit_is | rfl)
    (case a_c => first | k_is | kit_is | rfl)
    (case l_c => first | k_is | kit_is | rfl)
    (case c_c => first | k_is | kit_is | rfl)
    (case k_c => first | k_is | kit_is | rfl)
    (case a_s => first | k_is | kit_is | rfl)
    (case l_s => first | k_is | kit_is | rfl)
    (case c_s => first | k_is | kit_is | rfl)
    (case k_s => first | k_is | kit_is | rfl)
    (case a_d => first | k_is | kit_is | rfl)
    (case l_d => first | k_is | kit_is | rfl)
    (case c_d => first | k_is | kit_is | rfl)
    (case k_d => first | k_is | kit_is | rfl)
    (case a_p => first | k_is | kit_is | rfl)
    (case l_p => first | k_is | kit_is | rfl)
    (case c_p => first | k_is | kit_is | rfl)
    (case k_p => first | k_is | kit_is | rfl)
    (case a_e => first | k_is | kit_is | rfl)
    (case l_e => first | k_is | kit_is | rfl)
    (case c_e => first | k_is | kit_is | rfl)
    (case k_e => first | k_is | kit_is | rfl)
    (case a_o => first | k_is | kit_is | rfl)
    (case l_o => first | k_is | kit_is | rfl)
    (case c_o => first | k_is | kit_is | rfl)
    (case k_o => first | k_is | kit_is | rfl)
    (case a_t => first | k_is | kit_is | rfl)
    (case l_t => first | k_is | kit_is | rfl)
    (case c_t => first | k_is | kit_is | rfl)
    (case k_t => first | k_is | kit_is | rfl)
    (case a_l => first | k_is | kit_is | rfl)
    (case l_l => first | k_is | kit_is | rfl)
    (case c_l => first | k_is | kit_is | rfl)
    (case k_l => first | k_is | kit_is | rfl)
    (case a_r => first | k_is | kit_is | rfl)
    (case l_r => first | k_is | kit_is | rfl)
    (case c_r => first | k_is | kit_is | rfl)
    (case k_r => first | k_is | kit_is | rfl)
    (case a_b => first | k_is | kit_is | rfl)
    (case l_b => first | k_is | kit_is | rfl)
    (case c_b => first | k_is | kit_is | rfl)
    (case k_b => first | k_is | kit_is | rfl)
    (case a_w => first | k_is | kit_is | rfl)
    (case l_w => first | k_is | kit_is | rfl)
    (case c_w => first | k_is | kit_is | rfl)
    (case k_w => first | k_is | kit_is | rfl)
    (case a_CL => first | k_is | kit_is | rfl)
    (case a_CB => first | k_is | kit_is | rfl)
    (case a_CT => first | k_is | kit_is | rfl)
    (case a_CD => first | k_is | kit_is | rfl)
    (case a_E0 => first | k_is | kit_is | rfl)
    (case a_E1 => first | k_is | kit_is | rfl)
    (case a_E2 => first | k_is | kit_is | rfl)
    (case a_E3 => first | k_is | kit_is | rfl)
    (case a_E4 => first | k_is | kit_is | rfl)
    (case a_E5 => first | k_is | kit_is | rfl)
    (case a_E6 => first | k_is | kit_is | rfl)
    (case a_E7 => first | k_is | kit_is | rfl)
    (case a_E8 => first | k_is | kit_is | rfl)
    (case a_E9 => first | k_is | kit_is | rfl)
    (case a_E10 => first | k_is | kit_is | rfl)
    (case a_E11 => first | k_is | kit_is | rfl)
    (case a_E12 => first | k_is | kit_is | rfl)
    (case a_E13 => first | k_is | kit_is | rfl)
    (case i_iL => first | k_is | kit_is | rfl)
    (case l_iL => first | k_is | kit_is | rfl)
    (case c_iL => first | k_is | kit_is | rfl)
    (case k_iL => first | k_is | kit_is | rfl)
    (case t_iL => first | k_is | kit_is | rfl)
    (case i_iT => first | k_is | kit_is | rfl)
    (case l_iT => first | k_is | kit_is | rfl)
    (case c_iT => first | k_is | kit_is | rfl)
    (case k_iT => first | k_is | kit_is | rfl)
    (case t_iT => first | k_is | kit_is | rfl)
    (case i_iD => first | k_is | kit_is | rfl)
    (case l_iD => first | k_is | kit_is | rfl)
    (case c_iD => first | k_is | kit_is | rfl)
    (case k_iD => first | k_is | kit_is | rfl)
    (case t_iD => first | k_is | kit_is | rfl)
    (case i_B => first | k_is | kit_is | rfl)
    (case rdT => first | k_is | kit_is | rfl)
    (case rdL => first | k_is | kit_is | rfl)
    (case gaL => first | k_is | kit_is | rfl)
    (case atL => first | k_is | kit_is | rfl)
    (case kCL => first | k_is | kit_is | rfl)
    (case x_B => first | k_is | kit_is | rfl)
    (case r_B => first | rfl | decide +kernel | k_is)
    (case sa_B => first | k_is | kit_is | rfl)
    (case ex_B => first | k_is | kit_is | rfl)
    (case ty_B => first | k_is | kit_is | rfl)
    (case kc_B => first | k_is | kit_is | rfl)
    (case nw_B => first | k_is | kit_is | rfl)
    (case hg_B => first | k_is | kit_is | rfl)
    (case hk_B => first | k_is | kit_is | rfl)
    (case hd_B => first | k_is | kit_is | rfl)
    (case ha_B => first | k_is | kit_is | rfl)
    (case hm_B => first | k_is | kit_is | rfl)
    (case ei_B => first | k_is | kit_is | rfl)
    (case kv_B => first | k_is | kit_is | rfl)
    (case kk_BB => first | k_is | kit_is | rfl)
    (case kk_BT => first | k_is | kit_is | rfl)
    (case kk_BD => first | k_is | kit_is | rfl)
    (case ke_B0 => first | k_is | kit_is | rfl)
    (case ke_B1 => first | k_is | kit_is | rfl)
    (case ke_B2 => first | k_is | kit_is | rfl)
    (case ke_B3 => first | k_is | kit_is | rfl)
    (case ke_B4 => first | k_is | kit_is | rfl)
    (case ke_B5 => first | k_is | kit_is | rfl)
    (case ke_B6 => first | k_is | kit_is | rfl)
    (case ke_B7 => first | k_is | kit_is | rfl)
    (case ke_B8 => first | k_is | kit_is | rfl)
    (case ke_B9 => first | k_is | kit_is | rfl)
    (case ke_B10 => first | k_is | kit_is | rfl)
    (case ke_B11 => first | k_is | kit_is | rfl)
    (case ke_B12 => first | k_is | kit_is | rfl)
    (case ke_B13 => first | k_is | kit_is | rfl)
    (case x_T => first | k_is | kit_is | rfl)
    (case r_T => first | rfl | decide +kernel | k_is)
    (case sa_T => first | k_is | kit_is | rfl)
    (case ex_T => first | k_is | kit_is | rfl)
    (case ty_T => first | k_is | kit_is | rfl)
    (case kc_T => first | k_is | kit_is | rfl)
    (case nw_T => first | k_is | kit_is | rfl)
    (case hg_T => first | k_is | kit_is | rfl)
    (case hk_T => first | k_is | kit_is | rfl)
    (case hd_T => first | k_is | kit_is | rfl)
    (case ha_T => first | k_is | kit_is | rfl)
    (case hm_T => first | k_is | kit_is | rfl)
    (case ei_T => first | k_is | kit_is | rfl)
    (case kv_T => first | k_is | kit_is | rfl)
    (case kk_TB => first | k_is | kit_is | rfl)
    (case kk_TT => first | k_is | kit_is | rfl)
    (case kk_TD => first | k_is | kit_is | rfl)
    (case ke_T0 => first | k_is | kit_is | rfl)
    (case ke_T1 => first | k_is | kit_is | rfl)
    (case ke_T2 => first | k_is | kit_is | rfl)
    (case ke_T3 => first | k_is | kit_is | rfl)
    (case ke_T4 => first | k_is | kit_is | rfl)
    (case ke_T5 => first | k_is | kit_is | rfl)
    (case ke_T6 => first | k_is | kit_is | rfl)
    (case ke_T7 => first | k_is | kit_is | rfl)
    (case ke_T8 => first | k_is | kit_is | rfl)
    (case ke_T9 => first | k_is | kit_is | rfl)
    (case ke_T10 => first | k_is | kit_is | rfl)
    (case ke_T11 => first | k_is | kit_is | rfl)
    (case ke_T12 => first | k_is | kit_is | rfl)
    (case ke_T13 => first | k_is | kit_is | rfl)
    (case x_D => first | k_is | kit_is | rfl)
    (case r_D => first | rfl | decide +kernel | k_is)
    (case sa_D => first | k_is | kit_is | rfl)
    (case ex_D => first | k_is | kit_is | rfl)
    (case ty_D => first | k_is | kit_is | rfl)
    (case kc_D => first | k_is | kit_is | rfl)
    (case nw_D => first | k_is | kit_is | rfl)
    (case hg_D => first | k_is | kit_is | rfl)
    (case hk_D => first | k_is | kit_is | rfl)
    (case hd_D => first | k_is | kit_is | rfl)
    (case ha_D => first | k_is | kit_is | rfl)
    (case hm_D => first | k_is | kit_is | rfl)
    (case ei_D => first | k_is | kit_is | rfl)
    (case kv_D => first | k_is | kit_is | rfl)
    (case kk_DB => first | k_is | kit_is | rfl)
    (case kk_DT => first | k_is | kit_is | rfl)
    (case kk_DD => first | k_is | kit_is | rfl)
    (case ke_D0 => first | k_is | kit_is | rfl)
    (case ke_D1 => first | k_is | kit_is | rfl)
    (case ke_D2 => first | k_is | kit_is | rfl)
    (case ke_D3 => first | k_is | kit_is | rfl)
    (case ke_D4 => first | k_is | kit_is | rfl)
    (case ke_D5 => first | k_is | kit_is | rfl)
    (case ke_D6 => first | k_is | kit_is | rfl)
    (case ke_D7 => first | k_is | kit_is | rfl)
    (case ke_D8 => first | k_is | kit_is | rfl)
    (case ke_D9 => first | k_is | kit_is | rfl)
    (case ke_D10 => first | k_is | kit_is | rfl)
    (case ke_D11 => first | k_is | kit_is | rfl)
    (case ke_D12 => first | k_is | kit_is | rfl)
    (case ke_D13 => first | k_is | kit_is | rfl)
    (case nf_T => first | k_is | kit_is | rfl)
    (case nf_D => first | k_is | kit_is | rfl)
    (case hn => first | k_is | kit_is | rfl)
    (case ht => first | k_is | kit_is | rfl)
    (case lc => first | k_is | kit_is | rfl)
    (case pc => first | rfl | k_is)
    (case hcd => first | k_is | kit_is | rfl)
    (case np => first | k_is | kit_is | rfl)
    (case hP => exact PySem.W.km_tabs_of Y _ (by k_mem))

