import PyProof.Rows.All
import Wide.All
import OpenK.AllK
import Wide.FinOn
import HandS.ForMost
import HandS.DictComp
import HandS.SetBool
import HandS.Strs
import HandS.IsInst
import KE.DataAny
import HandS.Flow
import HandS.Walk
import HandS.Style
import HandS.Zip
import HandS.SetFor
import PyProof.SumWalk
import PyProof.ListOps
import HandS.SetKeys
import PyProof.Rows.ReprOcc
import PyProof.ReprBulk
import PyProof.Rows.ReprShort
import HandS.TupAny
import HandS.Deep
import HandS.DictEq
import PySem.Challenge.RW_layoutline_k02_papers_of_merges_judged
set_option autoImplicit true
set_option Elab.async false
set_option linter.all false
set_option maxRecDepth 100000
set_option maxHeartbeats 4000000
/-! A dict comprehension of two plain clauses: {kx: vx for t0 in i0 for t1 in i1}. -/
namespace Two
open PySem PySem.Spec PyProof.Rows L2

abbrev dc2 (kx vx t0 i0 t1 i1 : Expr) (sc : Scope) (ps : Pos) : Expr :=
  .DictComp kx vx [⟨t0, i0, [], 0⟩, ⟨t1, i1, [], 0⟩] sc ps

section
variable {P : Program} {w : World} {A : Around} {s : Shared}
variable {kx vx t0 i0 t1 i1 : Expr} {sc : Scope} {ps : Pos} {it : Value} {D : Addr} {en : Env}

/-- what an error does in the block -/
abbrev erE (P : Program) (w : World) (A : Around) (en : Env) (R : Result → Shared → Prop) : Value → Shared → Prop :=
  notedBy (model P w) A en fun e z => R (.error e) z

theorem turnOut : compTurn (dc2 kx vx t0 i0 t1 i1 sc ps) 0 it (.ref D) en = (do
      standAt i0.pos
      match ← pyNext it with
      | none => pure (.done .next)
      | some v =>
        letOwnedTupleGo t0 it v
        assign t0 en v
        let y ← eval i1 en
        standAt i1.pos
        let y ← foldedSetIterable i1 en y
        let _ ← runOwn (.compStart (dc2 kx vx t0 i0 t1 i1 sc ps) 1 (← holding [y] (pyIter y)) (.ref D) en) en
        again (.compLoop (dc2 kx vx t0 i0 t1 i1 sc ps) 0 it (.ref D) en)) := by rfl

theorem turnIn : compTurn (dc2 kx vx t0 i0 t1 i1 sc ps) 1 it (.ref D) en = (do
      standAt i1.pos
      match ← pyNext it with
      | none => pure (.done .next)
      | some v =>
        letOwnedTupleGo t1 it v
        assign t1 en v
        (do
          let a ← eval kx en
          let b ← holding [a] (eval vx en)
          standAt { kx.pos with endLine := vx.pos.endLine, endCol := vx.pos.endCol }
          holding [a, b] (dictSet D a b))
        again (.compLoop (dc2 kx vx t0 i0 t1 i1 sc ps) 1 it (.ref D) en)) := by rfl

/-- one turn of the first clause -/
theorem loopOut {R : Result → Shared → Prop} (hf : ∀ y, foldedSetIterable i1 en y = pure y) (J : Nat → Shared → Prop)
    (go : ∀ n z, J n z → wpAny (model P w) A (pyNext it) (fun r z1 => match r with
      | none => R (.ok .next) z1
      | some v => wpAny (model P w) A (letOwnedTupleGo t0 it v) (fun _ z2 =>
          wpAny (model P w) A (assign t0 en v) (fun _ z3 =>
            wpAny (model P w) A (eval i1 en) (fun y z4 =>
              wpAny (model P w) A (pyIter y) (fun j z5 =>
                codeAny (model P w) A (.compStart (dc2 kx vx t0 i0 t1 i1 sc ps) 1 j (.ref D) en)
                  (fun q z6 => match q with | .ok _ => ∃ m, m < n ∧ J m z6 | .error _ => False) z5)
              (erE P w A en R) z4) (erE P w A en R) z3) (erE P w A en R) z2) (erE P w A en R) z1) (erE P w A en R) z)
    (n : Nat) (h : J n s) : codeAny (model P w) A (.compLoop (dc2 kx vx t0 i0 t1 i1 sc ps) 0 it (.ref D) en) R s := by
  refine codeAny_loop rfl J (fun n z hz => ?_) n h
  show wpAny _ A ((compTurn (dc2 kx vx t0 i0 t1 i1 sc ps) 0 it (.ref D) en).onRaise (fun x => do noteFrame x en; theTreesLotGoes x)) _ _ z
  refine wpAny_noted ?_
  rw [turnOut]
  refine wpAny_bind (wpAny_standAt (wpAny_bind (wpAny_mono (go n z hz) (fun r z1 g1 => ?_) fun _ _ k => k)))
  match r, g1 with
  | none, g1 => exact wpAny_pure g1
  | some v, g1 =>
    refine wpAny_bind (wpAny_mono g1 (fun _ z2 g2 => wpAny_bind (wpAny_mono g2 (fun _ z3 g3 => ?_) fun _ _ k => k)) fun _ _ k => k)
    refine wpAny_bind (wpAny_mono g3 (fun y z4 g4 => wpAny_bind (wpAny_standAt ?_)) fun _ _ k => k)
    refine wpAny_bind (wpAny_of_eq (hf y) (wpAny_bind (wpAny_holding (wpAny_mono g4 (fun j z5 g5 => ?_) fun _ _ k => k))))
    refine wpAny_bind (wpAny_runOwn ?_)
    rw [Around.mark_none]
    refine codeAny_mono g5 fun q z6 g6 => ?_
    match q, g6 with
    | .ok f, g6 =>
      first
        | exact wpAny_pure ⟨rfl, g6⟩
        | exact wpAny_bind (wpAny_pure (wpAny_pure ⟨rfl, g6⟩))
    | .error e, g6 => exact g6.elim

/-- one turn of the second -/
theorem loopIn {R : Result → Shared → Prop} (J : Nat → Shared → Prop)
    (go : ∀ n z, J n z → wpAny (model P w) A (pyNext it) (fun r z1 => match r with
      | none => R (.ok .next) z1
      | some v => wpAny (model P w) A (letOwnedTupleGo t1 it v) (fun _ z2 =>
          wpAny (model P w) A (assign t1 en v) (fun _ z3 =>
            wpAny (model P w) A (eval kx en) (fun a z4 =>
              wpAny (model P w) A (eval vx en) (fun b z5 =>
                wpAny (model P w) A (dictSet D a b) (fun _ z6 => ∃ m, m < n ∧ J m z6) (erE P w A en R) z5)
              (erE P w A en R) z4) (erE P w A en R) z3) (erE P w A en R) z2) (erE P w A en R) z1) (erE P w A en R) z)
    (n : Nat) (h : J n s) : codeAny (model P w) A (.compLoop (dc2 kx vx t0 i0 t1 i1 sc ps) 1 it (.ref D) en) R s := by
  refine codeAny_loop rfl J (fun n z hz => ?_) n h
  show wpAny _ A ((compTurn (dc2 kx vx t0 i0 t1 i1 sc ps) 1 it (.ref D) en).onRaise (fun x => do noteFrame x en; theTreesLotGoes x)) _ _ z
  refine wpAny_noted ?_
  rw [turnIn]
  refine wpAny_bind (wpAny_standAt (wpAny_bind (wpAny_mono (go n z hz) (fun r z1 g1 => ?_) fun _ _ k => k)))
  match r, g1 with
  | none, g1 => exact wpAny_pure g1
  | some v, g1 =>
    refine wpAny_bind (wpAny_mono g1 (fun _ z2 g2 => wpAny_bind (wpAny_mono g2 (fun _ z3 g3 => ?_) fun _ _ k => k)) fun _ _ k => k)
    refine wpAny_bind (wpAny_bind (wpAny_mono g3 (fun a z4 g4 => ?_) fun _ _ k => k))
    refine wpAny_bind (wpAny_holding (wpAny_mono g4 (fun b z5 g5 => ?_) fun _ _ k => k))
    exact wpAny_bind (wpAny_standAt (wpAny_holding (wpAny_mono g5 (fun _ z6 g6 => wpAny_pure ⟨rfl, g6⟩) fun _ _ k => k)))

/-- where the second clause begins -/
theorem startIn {R : Result → Shared → Prop} (h0 : codeAny (model P w) A (.compLoop (dc2 kx vx t0 i0 t1 i1 sc ps) 1 it (.ref D) en) R s)
    (h : wpAny (model P w) A (pyIter it) (fun j z => codeAny (model P w) A (.compLoop (dc2 kx vx t0 i0 t1 i1 sc ps) 1 j (.ref D) en) R z) (erE P w A en R) s) :
    codeAny (model P w) A (.compStart (dc2 kx vx t0 i0 t1 i1 sc ps) 1 it (.ref D) en) R s := by
  refine codeAny_of_tree ?_
  show wpAny _ _ ((compStart (dc2 kx vx t0 i0 t1 i1 sc ps) 1 it (.ref D) en).onRaise (fun x => do noteFrame x en; standAt theWindowsPlace)) _ _ s
  refine wpAny_notedAt ?_
  unfold compStart
  show wpAny _ _ (ask >>= _) _ _ s
  refine wpAny_bind (wpAny_askSetting (wpAny_ite ?_))
  split
  · first
      | exact wpAny_bind (wpAny_pure (wpAny_pure ⟨rfl, h0⟩))
      | exact wpAny_pure ⟨rfl, h0⟩
  · refine wpAny_bind (wpAny_rule ?_)
    show wpAny _ _ (standAt i1.pos >>= _) _ _ s
    exact wpAny_bind (wpAny_standAt (wpAny_bind (wpAny_mono h (fun j z k => wpAny_pure ⟨rfl, k⟩) fun _ _ k => k)))
end
end Two

set_option autoImplicit true
set_option Elab.async false
set_option linter.all false
set_option maxRecDepth 100000
set_option maxHeartbeats 4000000
namespace Two
open PySem PySem.Spec PyProof.Rows L2
section
variable {X : Cx}

/-- the cells of a comprehension's own frame at C -/
abbrev cxB (X : Cx) (s : Shared) (H : Hp) (sc : Scope) (C : Addr) (cl : List (Str × Addr)) (fp : List Addr) : Cx := X.blk s H sc (compEnvC sc cl C X.env) fp

/-- what the inner clause is to do from heap G: own measure, then Nx -/
def inner (J1 : It) (g1 : TG) (tk tv : TE) (vs1 : List Nat) (D : Addr) (σ2 : L2.St) (Nx : Hp → Prop) (G : Hp) : Prop :=
  ∃ W1 : Nat → Nat → Hp → Prop, (∃ m, W1 0 m G) ∧ ∀ j k G1, W1 j k G1 →
    (J1.stop j G1 ∧ Nx G1) ∨ (J1.go j G1 ∧ ∃ N1 : Hp → Prop, (∀ G2, N1 G2 → ∃ k2, k2 < k ∧ W1 (j + 1) k2 G2) ∧
      ∀ x G2, J1.yld j G1 x G2 → g1 x (wipe σ2 vs1) G2 fun σ3 G3 => wipe σ3 vs1 = wipe σ2 vs1 ∧
        tk σ3 G3 fun y G4 => tv σ3 G4 fun z G5 => ∃ kvs k0, y = kV k0 ∧ G5 D = some (.dK kvs) ∧ kvs.length < sizeLine ∧ N1 (upd G5 D (.dK (putK kvs k0 z))))
/-- the outer clause over the new dict D -/
def outer (J : It) (g : TG) (wi1 : TI) (g1 : TG) (tk tv : TE) (vs vs1 : List Nat) (D : Addr) (σ : L2.St) (Qd : Hp → Prop) (G : Hp) : Prop :=
  ∃ W : Nat → Nat → Hp → Prop, (∃ m, W 0 m G) ∧ ∀ i m G1, W i m G1 →
    (J.stop i G1 ∧ Qd G1) ∨ (J.go i G1 ∧ ∃ Nx : Hp → Prop, (∀ G2, Nx G2 → ∃ m2, m2 < m ∧ W (i + 1) m2 G2) ∧
      ∀ x G2, J.yld i G1 x G2 → g x (wipe σ vs) G2 fun σ2 G3 => wipe σ2 vs = wipe σ vs ∧
        wi1 σ2 G3 fun J1 G4 => inner J1 g1 tk tv vs1 D σ2 Nx G4)
/-- {kx: vx for t0 in i0 for t1 in i1} -/
def tDc2 (wi : TI) (g : TG) (wi1 : TI) (g1 : TG) (tk tv : TE) (vs vs1 : List Nat) : TE := fun σ H Q =>
  wi σ H fun J H1 => ∀ D, H1 D = none → outer J g wi1 g1 tk tv vs vs1 D σ (Q (.ref D)) (upd H1 D (.dK []))

theorem wipe_keep {σ : L2.St} {i : Nat} {v : V} {a b : List Nat} (sub : ∀ j ∈ b, j ∈ a) {τ : L2.St} (e : wipe τ a = wipe σ a) (h : (wipe σ a)[i]? = some (some v)) : (wipe τ b)[i]? = some (some v) ∧ τ[i]? = some (some v) := by
  rw [← e] at h
  obtain ⟨h1, h2⟩ := wipe_some h
  exact ⟨by rw [wipe_out fun q => h2 (sub _ q)]; exact h1, h1⟩

theorem dc2_core {pins : List (Addr × Obj)} {s : Shared} {σ : L2.St} {H : Hp} {Q : VK} {kx vx t0 i0 t1 i1 : Expr} {sc : Scope} {ps pos' : Pos} {own : List (Str × Nat)} {vs1 : List Nat}
    {wi wi1 : TI} {g g1 : TG} {tk tv : TE} {use : Option (Value → Sem Unit)} {Qf : Value → Shared → Prop}
    (hc : X.calm = true) (hN : X.N.Nodup) (I : Inv X pins σ H s) (hi : PI X t0 i0 wi) (ok : BlkOk X.N X.env.scope sc own) (hv : ∀ i ∈ vs1, i ∈ own.map (·.2))
    (hg : ∀ s H C cl fp, PG (cxB X s H sc C cl fp) t0 g) (hi1 : ∀ s H C cl fp, PI (cxB X s H sc C cl fp) t1 i1 wi1) (hg1 : ∀ s H C cl fp, PG (cxB X s H sc C cl fp) t1 g1)
    (hk : ∀ s H C cl fp, PE (cxB X s H sc C cl fp) kx tk) (hx : ∀ s H C cl fp, PE (cxB X s H sc C cl fp) vx tv)
    (hs : ∀ x, foldedSetIterable i0 X.env x = pure x) (hs1 : ∀ en x, foldedSetIterable i1 en x = pure x)
    (h : tDc2 wi g wi1 g1 tk tv (own.map (·.2)) vs1 σ H Q)
    (fin : ∀ D C z m G, Inv X pins σ G z → Q (.ref D) G → z.heap.Ns C m → FpOk X pins G C → compPost (model X.prog X.w) X.A X.xe use Qf (.ref D) C (.ok .next) z) :
    wpAny (model X.prog X.w) X.A (comprehension (dc2 kx vx t0 i0 t1 i1 sc ps) sc X.env pos' newDict false (eval i0 X.env) use) Qf X.xe s := by
  have free : ∀ y ∈ sc.names, y.2 = .free → ∃ c, X.env.cells.lookup y.1 = some c := fun y hy e =>
    (ok.free y hy e).elim (fun k => I.ok.has _ (.inl k)) fun k => I.ok.has _ (.inr k)
  refine wpAny_comprehension_free (use := use) rfl hs (closure_ok free) ok.kind (fun y hy e => by rw [ok.uniq y hy, e])
    (thn (hi.run pins s σ H _ I h) fun _ _ h1 => thn h1 fun _ sA hA => ?_)
  obtain ⟨it, fp, tn, J, HA, rfl, IA, T, stA, fpA, q⟩ := hA
  refine wpAny_newObj_type (newEnv_comp ?_)
  obtain ⟨D, hD⟩ : ∃ D, D = sA.heap.objs.size := ⟨_, rfl⟩
  have freshD : HA D = none := IA.hok.fresh (Nat.le_of_eq hD.symm)
  obtain ⟨W, ⟨m0, w0⟩, turn⟩ := q D freshD
  -- the new dict
  obtain ⟨sB, hB⟩ : ∃ z : Shared, z = { sA with heap := sA.heap.push { cls := .type "dict", data := .dict #[] } } := ⟨_, rfl⟩
  have heapB : sB.heap = sA.heap.push { cls := .type "dict", data := .dict #[] } := by rw [hB]
  have IB : Inv X pins σ (upd HA D (.dK [])) sB := by
    rw [hB]
    exact IA.laid (t' := sA.toks) (fun b o e => Heap.get?_push_of_some _ e) (Nat.le_of_eq hD.symm) (by rw [hD]; exact dk_empty sA.heap IA.big)
  have keepB : ∀ b o, sA.heap.get? b = some o → sB.heap.get? b = some o := fun b o e => by rw [heapB]; exact Heap.get?_push_of_some _ e
  have small : ∀ b ∈ fp, b < sA.heap.objs.size := fun b hb => let ⟨_, e, _⟩ := T.obj _ _ stA b hb; Heap.lt_size e
  have fpB : ∀ b ∈ fp, FpOk X pins (upd HA D (.dK [])) b ∧ b < sB.heap.objs.size := fun b hb =>
    have lt := small b hb
    ⟨⟨by rw [upd_ne (by rw [hD]; exact Nat.ne_of_lt lt)]; exact (fpA b hb).1, (fpA b hb).2⟩, by rw [heapB, Heap.size_push]; exact Nat.lt_succ_of_lt lt⟩
  have stB : tn 0 sB.heap := T.keep _ _ _ stA fun b _ o e => keepB b o e
  have IC := block_start IB ok hN fpB
  obtain ⟨cl, hcl⟩ : ∃ cl, cl = cellsFrom (sB.heap.objs.size + 1) sc.names (cloFrom X.env.cells sc.names []) := ⟨_, rfl⟩
  rw [← hcl] at IC
  have pg := hg sB (upd HA D (.dK [])) sB.heap.objs.size cl fp
  have pi1 := hi1 sB (upd HA D (.dK [])) sB.heap.objs.size cl fp
  have pg1 := hg1 sB (upd HA D (.dK [])) sB.heap.objs.size cl fp
  have pk := hk sB (upd HA D (.dK [])) sB.heap.objs.size cl fp
  have px := hx sB (upd HA D (.dK [])) sB.heap.objs.size cl fp
  have noneB : ∀ b ∈ fp, (upd HA D (.dK [])) b = none := fun b hb => (fpB b hb).1.1
  have locC : (compEnvC sc cl sB.heap.objs.size X.env).locals = sB.heap.objs.size := rfl
  unfold cxB at pg pi1 pg1 pk px
  suffices goal : codeAny (model X.prog X.w) X.A (.compStart (dc2 kx vx t0 i0 t1 i1 sc ps) 0 (.ref it) (.ref D) (compEnvC sc cl sB.heap.objs.size X.env))
      (compPost (model X.prog X.w) X.A X.xe use Qf (.ref D) sB.heap.objs.size) { sB with heap := pushCells (sB.heap.push { cls := .type "dict", data := .dict #[] }) sc.names } by
    subst hcl hB hD
    exact goal
  obtain ⟨sC, hC⟩ : ∃ z : Shared, z = { sB with heap := pushCells (sB.heap.push { cls := .type "dict", data := .dict #[] }) sc.names } := ⟨_, rfl⟩
  rw [← hC] at IC ⊢
  generalize hce : compEnvC sc cl sB.heap.objs.size X.env = ce at IC pg pi1 pg1 pk px locC ⊢
  generalize hH : upd HA D (.dK []) = HB at IB IC pg pi1 pg1 pk px w0 noneB fpB
  have stC : tn 0 sC.heap := T.keep _ _ _ stB fun b _ o e => by rw [hC]; exact pushCells_keeps _ _ _ _ (Heap.get?_push_of_some _ e)
  have fpY : ∀ {τ : L2.St} {G : Hp} {z : Shared}, Inv (X.blk sB HB sc ce fp) [] τ G z → (∀ b ∈ fp, G b = none) → ∀ b ∈ fp, FpOk (X.blk sB HB sc ce fp) [] G b :=
    fun {τ G z} K hn b hb => ⟨hn b hb, (K.ok.exf b hb).1, K.ok.exfs b hb, .inl hb, fun x c e => (K.ok.exf b hb).2 x c e, fun p hp => absurd (show p ∈ ([] : List (Addr × Obj)) ++ [] from hp) (by simp)⟩
  obtain ⟨base, hbase⟩ : ∃ b : L2.St, b = wipe σ (own.map (·.2)) := ⟨_, rfl⟩
  -- what stands between two turns of the first clause
  let Z : Nat → Shared → Prop := fun n z => ∃ i G, Inv (X.blk sB HB sc ce fp) [] base G z ∧ tn i z.heap ∧ (∀ b ∈ fp, G b = none) ∧ W i n G
  have loop : codeAny (model X.prog X.w) X.A (.compLoop (dc2 kx vx t0 i0 t1 i1 sc ps) 0 (.ref it) (.ref D) ce) (compPost (model X.prog X.w) X.A X.xe use Qf (.ref D) sB.heap.objs.size) sC := by
    refine loopOut (hs1 ce) Z ?_ m0 ⟨0, HB, by rw [hbase]; exact IC, stC, noneB, w0⟩
    rintro n z ⟨i, G, Iz, stz, nz, wz⟩
    rcases turn i n G wz with ⟨stop, qq⟩ | ⟨go, Nx, hNx, step⟩
    · have td := T.done (X.blk sB HB sc ce fp) rfl rfl rfl hc i [] z base G (fun _ _ => False) Iz (fpY Iz nz) stz stop
      refine thnF td fun r z2 ⟨hr, I2⟩ => ?_
      subst hr
      have I3 : Inv X pins σ G z2 := IB.call' (ch := fp) I2.os I2.base I2.hok I2.bare fun b hb =>
        have f := (fpB b hb).1.2
        ⟨f.2.2.1, f.1, f.2.2.2.1, f.2.2.2.2⟩
      have nC : G sB.heap.objs.size = none := by have k : G ce.locals = none := I2.free; rwa [locC] at k
      obtain ⟨m, hn, _⟩ := I2.loc
      have hn : z2.heap.Ns ce.locals m := hn
      rw [locC] at hn
      exact fin D sB.heap.objs.size z2 m G I3 qq hn (IB.fpOk (Nat.le_refl _) nC)
    · have ti := T.item (X.blk sB HB sc ce fp) rfl rfl rfl hc i [] z base G (fun _ _ => False) Iz (fpY Iz nz) stz go
      refine thnF ti fun r z2 ⟨u, hr, h2⟩ => ?_
      subst hr
      refine thnF h2 fun _ z3 ⟨x, G3, I3, r3, y3, st3, n3⟩ => ?_
      have P3 := I3.pinned (fpY I3 n3) (T.obj _ _ st3)
      rw [hbase] at P3
      have a4 := pg.run _ z3 _ G3 x u _ P3 r3 (step x G3 y3)
      refine thnF a4 fun _ z4 ⟨τ, G4, I4, hw4, q4⟩ => ?_
      have baseL : base.length = τ.length := by rw [hbase, ← hw4, wipe_length]
      have baseV : ∀ (j : Nat) v, base[j]? = some (some v) → τ[j]? = some (some v) := fun j v e => by
        rw [hbase, ← hw4] at e
        exact (wipe_some e).1
      have baseV1 : ∀ (j : Nat) v, base[j]? = some (some v) → (wipe τ vs1)[j]? = some (some v) := fun j v e =>
        (wipe_keep hv hw4 (by rw [← hbase]; exact e)).1
      -- the end of a turn, whatever the slots
      have ends : ∀ {ρ : L2.St} {y : Shared} {G' : Hp}, Inv (X.blk sB HB sc ce fp) ([] ++ pinsAt fp z3.heap) ρ G' y → base.length = ρ.length → (∀ (j : Nat) v, base[j]? = some (some v) → ρ[j]? = some (some v)) → Nx G' → ∃ m, m < n ∧ Z m y := by
        intro ρ y G' K hl hk nx
        obtain ⟨m2, lt2, w2⟩ := hNx G' nx
        have stay : ∀ b ∈ fp, ∀ o, z3.heap.get? b = some o → y.heap.get? b = some o ∧ G' b = none := fun b hb o e =>
          have k := K.pin (b, o) (List.mem_append_right _ (List.mem_append_right _ (mem_pinsAt hb e)))
          ⟨k.1, k.2.1⟩
        refine ⟨m2, lt2, i + 1, G', (K.unpinned (pins := [])).weak hl hk, T.keep _ _ _ st3 fun b hb o e => (stay b hb o e).1, fun b hb => ?_, w2⟩
        obtain ⟨o, e, _⟩ := T.obj _ _ st3 b hb
        exact (stay b hb o e).2
      have a5 := pi1.run _ z4 τ G4 _ I4 q4
      refine thnF a5 fun _ z5 h5 => ?_
      refine thnF h5 fun _ z6 h6 => ?_
      obtain ⟨it1, fp1, tn1, J1, G6, rfl, I6, T1, st6, f6, W1, ⟨m1, w1⟩, turn1⟩ := h6
      have ok1 : ∀ {G' : Hp}, (∀ b ∈ fp1, G' b = none) → ∀ b ∈ fp1, FpOk (X.blk sB HB sc ce fp) ([] ++ pinsAt fp z3.heap) G' b := fun hn b hb => ⟨hn b hb, (f6 b hb).2⟩
      let Z1 : Nat → Shared → Prop := fun k y => ∃ j G', Inv (X.blk sB HB sc ce fp) ([] ++ pinsAt fp z3.heap) (wipe τ vs1) G' y ∧ tn1 j y.heap ∧ (∀ b ∈ fp1, G' b = none) ∧ W1 j k G'
      have loop1 : codeAny (model X.prog X.w) X.A (.compLoop (dc2 kx vx t0 i0 t1 i1 sc ps) 1 (.ref it1) (.ref D) ce) (fun q y => match q with | .ok _ => ∃ m, m < n ∧ Z m y | .error _ => False) z6 := by
        refine loopIn Z1 ?_ m1 ⟨0, G6, I6.weak (wipe_length _ _) (fun j v e => (wipe_some e).1), st6, fun b hb => (f6 b hb).1, w1⟩
        rintro k y ⟨j, G7, I7, st7, n7, w7⟩
        rcases turn1 j k G7 w7 with ⟨stop1, nx⟩ | ⟨go1, N1, hN1, step1⟩
        · have td := T1.done (X.blk sB HB sc ce fp) rfl rfl rfl hc j _ y (wipe τ vs1) G7 (fun _ _ => False) I7 (ok1 n7) st7 stop1
          refine thnF td fun r y2 ⟨hr, I8⟩ => ?_
          subst hr
          exact ends I8 (baseL.trans (wipe_length τ vs1).symm) baseV1 nx
        · have ti := T1.item (X.blk sB HB sc ce fp) rfl rfl rfl hc j _ y (wipe τ vs1) G7 (fun _ _ => False) I7 (ok1 n7) st7 go1
          refine thnF ti fun r y2 ⟨u1, hr, h8⟩ => ?_
          subst hr
          refine thnF h8 fun _ y3 ⟨x1, G9, I9, r9, y9, st9, n9⟩ => ?_
          have P9 := I9.pinned (ok1 n9) (T1.obj _ _ st9)
          have b1 := pg1.run _ y3 (wipe τ vs1) G9 x1 u1 _ P9 r9 (step1 x1 G9 y9)
          refine thnF b1 fun _ y4 ⟨ρ, G10, I10, hw10, q10⟩ => ?_
          have back : ∀ {y' : Shared} {G' : Hp}, Inv (X.blk sB HB sc ce fp) (([] ++ pinsAt fp z3.heap) ++ pinsAt fp1 y3.heap) ρ G' y' → N1 G' → ∃ m, m < k ∧ Z1 m y' := by
            intro y' G' K nx
            obtain ⟨k2, lt2, w2⟩ := hN1 G' nx
            have stay : ∀ b ∈ fp1, ∀ o, y3.heap.get? b = some o → y'.heap.get? b = some o ∧ G' b = none := fun b hb o e =>
              have p := K.pin (b, o) (List.mem_append_right _ (List.mem_append_right _ (mem_pinsAt hb e)))
              ⟨p.1, p.2.1⟩
            refine ⟨k2, lt2, j + 1, G', K.unpinned.weak (by rw [← hw10, wipe_length]) (fun i v e => by rw [← hw10] at e; exact (wipe_some e).1), T1.keep _ _ _ st9 fun b hb o e => (stay b hb o e).1, fun b hb => ?_, w2⟩
            obtain ⟨o, e, _⟩ := T1.obj _ _ st9 b hb
            exact (stay b hb o e).2
          have b2 := pk.run _ y4 ρ G10 _ I10 q10
          refine thnF b2 fun _ y5 ⟨ky, G11, I11, r11, q11⟩ => ?_
          have b3 := px.run _ y5 ρ G11 _ I11 q11
          refine thnF b3 fun _ y6 ⟨vy, G12, I12, r12, kvs, k0, ek, hD12, hz12, nx⟩ => ?_
          subst ek
          have b4 := d_dictSet (E := fun _ _ => False) (Q := fun _ y' => ∃ m, m < k ∧ Z1 m y') I12 hD12 hz12 r11 r12 fun y7 I13 => back I13 nx
          exact thnF b4 fun _ _ z => z
      exact startIn loop1 (T1.self X.A 0 _ _ _ st6 loop1)
  exact codeAny_compStart_dict loop (T.self X.A 0 _ _ _ stC loop)
end
end Two

set_option autoImplicit true
set_option Elab.async false
set_option linter.all false
set_option maxRecDepth 100000
set_option maxHeartbeats 4000000
namespace Two
open PySem PySem.Spec PyProof.Rows L2
section
variable {X : Cx}
theorem pe_dc2 {kx vx t0 i0 t1 i1 : Expr} {sc : Scope} {ps : Pos} {own : List (Str × Nat)} {vs1 : List Nat} {wi wi1 : TI} {g g1 : TG} {tk tv : TE}
    (hc : X.calm = true) (hN : X.N.Nodup) (hi : PI X t0 i0 wi) (ok : BlkOk X.N X.env.scope sc own) (hv : ∀ i ∈ vs1, i ∈ own.map (·.2))
    (hg : ∀ s H C cl fp, PG (cxB X s H sc C cl fp) t0 g) (hi1 : ∀ s H C cl fp, PI (cxB X s H sc C cl fp) t1 i1 wi1) (hg1 : ∀ s H C cl fp, PG (cxB X s H sc C cl fp) t1 g1)
    (hk : ∀ s H C cl fp, PE (cxB X s H sc C cl fp) kx tk) (hx : ∀ s H C cl fp, PE (cxB X s H sc C cl fp) vx tv)
    (hs : ∀ x, foldedSetIterable i0 X.env x = pure x := by intro _; rfl) (hs1 : ∀ en x, foldedSetIterable i1 en x = pure x := by intro _ _; rfl) :
    PE X (dc2 kx vx t0 i0 t1 i1 sc ps) (tDc2 wi g wi1 g1 tk tv (own.map (·.2)) vs1) := by
  refine ⟨fun pins s σ H Q I h => ?_⟩
  rw [arm_eval_DictComp]
  refine dc2_core hc hN I hi ok hv hg hi1 hg1 hk hx hs hs1 h fun D C z m G K q hn f => ⟨m, hn, fun h2 sb => ?_⟩
  exact ⟨.ref D, G, K.turned (t' := z.toks) (fun b o hb e => (sb.2 b hb).trans e) f.1 f.2.1 f.2.2.2.1 f.2.2.2.2.1 f.2.2.2.2.2, rfl, q⟩

theorem ps_setDc2 {i : Nat} {y : Str} {py : Pos} {kx vx t0 i0 t1 i1 : Expr} {sc : Scope} {ps sp : Pos} {own : List (Str × Nat)} {vs1 : List Nat} {wi wi1 : TI} {g g1 : TG} {tk tv : TE}
    (hc : X.calm = true) (hN : X.N.Nodup) (hy : X.N[i]? = some y) (hyl : X.env.scope.names.lookup y = some .local)
    (sw : swapsWith (dc2 kx vx t0 i0 t1 i1 sc ps) (some (.Name y py)) sp.line X.env = pure true)
    (hi : PI X t0 i0 wi) (ok : BlkOk X.N X.env.scope sc own) (hv : ∀ i ∈ vs1, i ∈ own.map (·.2))
    (hg : ∀ s H C cl fp, PG (cxB X s H sc C cl fp) t0 g) (hi1 : ∀ s H C cl fp, PI (cxB X s H sc C cl fp) t1 i1 wi1) (hg1 : ∀ s H C cl fp, PG (cxB X s H sc C cl fp) t1 g1)
    (hk : ∀ s H C cl fp, PE (cxB X s H sc C cl fp) kx tk) (hx : ∀ s H C cl fp, PE (cxB X s H sc C cl fp) vx tv)
    (hs : ∀ x, foldedSetIterable i0 X.env x = pure x := by intro _; rfl) (hs1 : ∀ en x, foldedSetIterable i1 en x = pure x := by intro _ _; rfl) :
    PS X (.Assign [.Name y py] (dc2 kx vx t0 i0 t1 i1 sc ps) sp) (tAsg (tDc2 wi g wi1 g1 tk tv (own.map (·.2)) vs1) (gName i)) := by
  refine ⟨fun pins s σ H D I h => ?_⟩
  rw [exec_Assign_Name_used _ _ _ _ sw]
  refine wpAny_bind (wpAny_standAt (wpAny_bind ?_))
  show wpAny _ X.A (do let _ ← comprehension (dc2 kx vx t0 i0 t1 i1 sc ps) sc X.env (firstIterPos [⟨t0, i0, [], 0⟩, ⟨t1, i1, [], 0⟩] ps) newDict false (eval i0 X.env) (some (assign (.Name y py) X.env))) _ _ s
  have h' : tDc2 wi g wi1 g1 tk tv (own.map (·.2)) vs1 σ H (fun x G => gName i x σ G D.nx) := h
  have fin : ∀ L C z m G, Inv X pins σ G z → gName i (V.ref L) σ G D.nx → z.heap.Ns C m → FpOk X pins G C →
      compPost (model X.prog X.w) X.A X.xe (some (assign (.Name y py) X.env)) (fun _ s' => SP X pins D .next s') (.ref L) C (.ok .next) z := by
    intro L C z m G K q hn f
    show wpAny _ _ (assign (.Name y py) X.env (.ref L)) _ _ _
    refine wpAny_assign_Name (store_ok2 (v := V.ref L) K hN hy (.inl hyl) rfl (fun s2 I2 ⟨a, sb, ha⟩ => ?_) (.inr hyl))
    have ne : C ≠ a := ha.elim (fun q => by rw [q]; exact f.2.1) fun q e => f.2.2.2.2.1 y a q e.symm
    exact ⟨m, hn.sameBut sb ne, fun h3 sb3 => ⟨_, G, I2.turned (t' := s2.toks) (fun b o hb e => (sb3.2 b hb).trans e) f.1 f.2.1 f.2.2.2.1 f.2.2.2.2.1 f.2.2.2.2.2, q⟩⟩
  exact wpAny_bind (thn (dc2_core (Qf := fun _ s' => SP X pins D .next s') hc hN I hi ok hv hg hi1 hg1 hk hx hs hs1 h' fin) fun _ s' hq => wpAny_pure (wpAny_pure hq))
theorem swD {kx vx t0 i0 t1 i1 : Expr} {sc : Scope} {ps py : Pos} {y : Str} {l : Nat} {env : Env} (hk : env.scope.kind = .function) (hy : env.scope.names.lookup y = some .local) (hl : (py.line == ps.line) = true)
    (ha : (sc.names.any fun (n, k) => n == y && (k == .local || k == .cell)) = false) : swapsWith (dc2 kx vx t0 i0 t1 i1 sc ps) (some (.Name y py)) l env = pure true := by
  have k1 : env.kindOf y = some .local := hy
  have k2 : env.blockKind = .function := by unfold Env.blockKind; rw [hk]; rfl
  unfold swapsWith
  simp only [k2, k1, ha, Expr.pos, hl]
  rfl

/-! ### any over data -/
def rAnyD (K : PySem.W.Frag) : List V → Hp → VK → Prop := fun vs H Q => ∃ (a : Addr) (ds : List PyData), vs = [V.ref a] ∧ Dp K H (.ref a) (.list ds) ∧ PyData.plainAll ds = true ∧ (∀ d ∈ ds, d.fits63) ∧ Q (.bl (ds.any PyData.truthy)) H
theorem cr_anyD (hc : X.calm = true) : CallR X (.builtin "any") (rAnyD X.K) := by
  intro pins s σ H vs us Q I r h
  obtain ⟨a, ds, rfl, hd, hp, hf, q⟩ := h
  rw [Vals.ref1 r]
  obtain ⟨as, rr⟩ := Dp.reads I _ _ _ hd rfl
  cases rr with
  | list h1 h2 h3 h4 =>
    refine PySem.W.any_list_data (I.ok.hd hc) ⟨_, h1, h2, _, h3⟩ h4 hp hf fun h' tk hk => ?_
    exact ⟨.bl _, H, I.kept hk, rfl, q⟩

/-! ### {e for x in xs} of ints -/
/-- over the new set D -/
def oneS (w : World) (J : It) (g : TG) (te : TE) (vs : List Nat) (D : Addr) (σ : L2.St) (Qd : Hp → Prop) (G : Hp) : Prop :=
  ∃ W : Nat → Nat → Hp → Prop, (∃ m, W 0 m G) ∧ ∀ i m G1, W i m G1 →
    (J.stop i G1 ∧ Qd G1) ∨ (J.go i G1 ∧ ∃ Nx : Hp → Prop, (∀ G2, Nx G2 → ∃ m2, m2 < m ∧ W (i + 1) m2 G2) ∧
      ∀ x G2, J.yld i G1 x G2 → g x (wipe σ vs) G2 fun σ2 G3 => wipe σ2 vs = wipe σ vs ∧
        te σ2 G3 fun y G4 => ∃ (k : Int) (S : Int → Bool) (n : Nat), y = .int k ∧ G4 D = some (SetO w D S n) ∧ n + 1 < scanBound ∧
          Nx (upd G4 D (SetO w D (fun j => S j || decide (j = k)) (if S k = true then n else n + 1))))
def tScI (w : World) (wi : TI) (g : TG) (te : TE) (vs : List Nat) : TE := fun σ H Q =>
  wi σ H fun J H1 => ∀ D, H1 D = none → oneS w J g te vs D σ (Q (.ref D)) (upd H1 D (SetO w D (fun _ => false) 0))

theorem pe_scI {e0 t0 i0 : Expr} {sc : Scope} {ps : Pos} {own : List (Str × Nat)} {wi : TI} {g : TG} {te : TE}
    (hc : X.calm = true) (hN : X.N.Nodup) (hi : PI X t0 i0 wi) (ok : BlkOk X.N X.env.scope sc own)
    (hg : ∀ s H C cl fp, PG (cxB X s H sc C cl fp) t0 g) (he : ∀ s H C cl fp, PE (cxB X s H sc C cl fp) e0 te)
    (hs : ∀ x, foldedSetIterable i0 X.env x = pure x := by intro _; rfl) :
    PE X (.SetComp e0 [⟨t0, i0, [], 0⟩] sc ps) (tScI X.w wi g te (own.map (·.2))) := by
  refine ⟨fun pins s σ H Q I h => ?_⟩
  rw [PpSet.eval_SetComp]
  have free : ∀ y ∈ sc.names, y.2 = .free → ∃ c, X.env.cells.lookup y.1 = some c := fun y hy e =>
    (ok.free y hy e).elim (fun k => I.ok.has _ (.inl k)) fun k => I.ok.has _ (.inr k)
  refine wpAny_comprehension_free (use := none) rfl hs (closure_ok free) ok.kind (fun y hy e => by rw [ok.uniq y hy, e])
    (thn (hi.run pins s σ H _ I h) fun _ _ h1 => thn h1 fun _ sA hA => ?_)
  obtain ⟨it, fp, tn, J, HA, rfl, IA, T, stA, fpA, q⟩ := hA
  refine PpSet.newSet_ok (newEnv_comp ?_)
  obtain ⟨D, hD⟩ : ∃ D, D = sA.heap.objs.size := ⟨_, rfl⟩
  have freshD : HA D = none := IA.hok.fresh (Nat.le_of_eq hD.symm)
  obtain ⟨W, ⟨m0, w0⟩, turn⟩ := q D freshD
  obtain ⟨ob, hob⟩ : ∃ ob : Obj, ob = { cls := .type "set", dict := none, data := .set #[] 0 (.fresh 0 0 (!X.w.params.followText "set-order")) } := ⟨_, rfl⟩
  obtain ⟨sB, hB⟩ : ∃ z : Shared, z = { sA with heap := sA.heap.push ob } := ⟨_, rfl⟩
  have heapB : sB.heap = sA.heap.push ob := by rw [hB]
  have IB : Inv X pins σ (upd HA D (SetO X.w D (fun _ => false) 0)) sB := by
    rw [hB]
    refine IA.laid (t' := sA.toks) (fun b o e => Heap.get?_push_of_some _ e) (Nat.le_of_eq hD.symm) (setO_new ?_)
    rw [hD, hob]
    exact setR_fresh X.w
  have keepB : ∀ b o, sA.heap.get? b = some o → sB.heap.get? b = some o := fun b o e => by rw [heapB]; exact Heap.get?_push_of_some _ e
  have small : ∀ b ∈ fp, b < sA.heap.objs.size := fun b hb => let ⟨_, e, _⟩ := T.obj _ _ stA b hb; Heap.lt_size e
  have fpB : ∀ b ∈ fp, FpOk X pins (upd HA D (SetO X.w D (fun _ => false) 0)) b ∧ b < sB.heap.objs.size := fun b hb =>
    have lt := small b hb
    ⟨⟨by rw [upd_ne (by rw [hD]; exact Nat.ne_of_lt lt)]; exact (fpA b hb).1, (fpA b hb).2⟩, by rw [heapB, Heap.size_push]; exact Nat.lt_succ_of_lt lt⟩
  have stB : tn 0 sB.heap := T.keep _ _ _ stA fun b _ o e => keepB b o e
  have IC := block_start IB ok hN fpB
  obtain ⟨cl, hcl⟩ : ∃ cl, cl = cellsFrom (sB.heap.objs.size + 1) sc.names (cloFrom X.env.cells sc.names []) := ⟨_, rfl⟩
  rw [← hcl] at IC
  have pg := hg sB (upd HA D (SetO X.w D (fun _ => false) 0)) sB.heap.objs.size cl fp
  have pe := he sB (upd HA D (SetO X.w D (fun _ => false) 0)) sB.heap.objs.size cl fp
  have noneB : ∀ b ∈ fp, (upd HA D (SetO X.w D (fun _ => false) 0)) b = none := fun b hb => (fpB b hb).1.1
  have locC : (compEnvC sc cl sB.heap.objs.size X.env).locals = sB.heap.objs.size := rfl
  unfold cxB at pg pe
  suffices goal : codeAny (model X.prog X.w) X.A (.compStart (.SetComp e0 [⟨t0, i0, [], 0⟩] sc ps) 0 (.ref it) (.ref D) (compEnvC sc cl sB.heap.objs.size X.env))
      (compPost (model X.prog X.w) X.A X.xe none (EP X pins σ Q) (.ref D) sB.heap.objs.size) { sB with heap := pushCells (sB.heap.push { cls := .type "dict", data := .dict #[] }) sc.names } by
    subst hcl hB hD hob
    exact goal
  obtain ⟨sC, hC⟩ : ∃ z : Shared, z = { sB with heap := pushCells (sB.heap.push { cls := .type "dict", data := .dict #[] }) sc.names } := ⟨_, rfl⟩
  rw [← hC] at IC ⊢
  generalize hce : compEnvC sc cl sB.heap.objs.size X.env = ce at IC pg pe locC ⊢
  generalize hH : upd HA D (SetO X.w D (fun _ => false) 0) = HB at IB IC pg pe w0 noneB fpB
  have stC : tn 0 sC.heap := T.keep _ _ _ stB fun b _ o e => by rw [hC]; exact pushCells_keeps _ _ _ _ (Heap.get?_push_of_some _ e)
  have fpY : ∀ {τ : L2.St} {G : Hp} {z : Shared}, Inv (X.blk sB HB sc ce fp) [] τ G z → (∀ b ∈ fp, G b = none) → ∀ b ∈ fp, FpOk (X.blk sB HB sc ce fp) [] G b :=
    fun {τ G z} K hn b hb => ⟨hn b hb, (K.ok.exf b hb).1, K.ok.exfs b hb, .inl hb, fun x c e => (K.ok.exf b hb).2 x c e, fun p hp => absurd (show p ∈ ([] : List (Addr × Obj)) ++ [] from hp) (by simp)⟩
  obtain ⟨base, hbase⟩ : ∃ b : L2.St, b = wipe σ (own.map (·.2)) := ⟨_, rfl⟩
  let Z : Nat → Shared → Prop := fun n z => ∃ i G, Inv (X.blk sB HB sc ce fp) [] base G z ∧ tn i z.heap ∧ (∀ b ∈ fp, G b = none) ∧ W i n G
  have loop : codeAny (model X.prog X.w) X.A (.compLoop (.SetComp e0 [⟨t0, i0, [], 0⟩] sc ps) 0 (.ref it) (.ref D) ce) (compPost (model X.prog X.w) X.A X.xe none (EP X pins σ Q) (.ref D) sB.heap.objs.size) sC := by
    refine PpSet.compLoopS_any Z ?_ m0 ⟨0, HB, by rw [hbase]; exact IC, stC, noneB, w0⟩
    rintro n z ⟨i, G, Iz, stz, nz, wz⟩
    rcases turn i n G wz with ⟨stop, qq⟩ | ⟨go, Nx, hNx, step⟩
    · refine thnF (T.done (X.blk sB HB sc ce fp) rfl rfl rfl hc i [] z base G (fun _ _ => False) Iz (fpY Iz nz) stz stop) fun r z2 ⟨hr, I2⟩ => ?_
      subst hr
      have I3 : Inv X pins σ G z2 := IB.call' (ch := fp) I2.os I2.base I2.hok I2.bare fun b hb =>
        have f := (fpB b hb).1.2
        ⟨f.2.2.1, f.1, f.2.2.2.1, f.2.2.2.2⟩
      have nC : G sB.heap.objs.size = none := by have k : G ce.locals = none := I2.free; rwa [locC] at k
      obtain ⟨m, hn, _⟩ := I2.loc
      have hn : z2.heap.Ns ce.locals m := hn
      rw [locC] at hn
      have f := IB.fpOk (H' := G) (Nat.le_refl _) nC
      exact ⟨m, hn, fun h2 sb => ⟨.ref D, G, I3.turned (t' := z2.toks) (fun b o hb e => (sb.2 b hb).trans e) f.1 f.2.1 f.2.2.2.1 f.2.2.2.2.1 f.2.2.2.2.2, rfl, qq⟩⟩
    · refine thnF (T.item (X.blk sB HB sc ce fp) rfl rfl rfl hc i [] z base G (fun _ _ => False) Iz (fpY Iz nz) stz go) fun r z2 ⟨u, hr, h2⟩ => ?_
      subst hr
      refine thnF h2 fun _ z3 ⟨x, G3, I3, r3, y3, st3, n3⟩ => ?_
      have P3 := I3.pinned (fpY I3 n3) (T.obj _ _ st3)
      rw [hbase] at P3
      refine thnF (pg.run _ z3 _ G3 x u _ P3 r3 (step x G3 y3)) fun _ z4 ⟨τ, G4, I4, hw4, q4⟩ => ?_
      refine thnF ((pts_nil (X := X.blk sB HB sc ce fp)).run _ z4 τ G4 (fun b G' => b = true ∧ G' = G4) I4 ⟨rfl, rfl⟩) fun b z5 ⟨G5, I5, hb, e5⟩ => ?_
      subst hb e5
      simp only [if_true]
      refine thnF (pe.run _ z5 τ G5 _ I5 q4) fun _ z6 ⟨vy, G6, I6, r6, k, S, cnt, ek, hD6, room, nx⟩ => ?_
      subst ek
      obtain ⟨tk, rfl⟩ := r6
      refine setR_add (setO_get (X := X.blk sB HB sc ce fp) I6 hD6) room fun h' sb new => ?_
      have he' : ∃ u, h'.get? D = some u := let ⟨o, _, _, _, ho, _⟩ := new; ⟨o, ho⟩
      have I7 := I6.write (e := D) (t' := z6.toks + 1) (by rw [hD6]; trivial) (.inl rfl) (fun b u hb hu => (sb.2 b hb).trans hu) he' (setO_new new)
      obtain ⟨m2, lt2, w2⟩ := hNx _ nx
      have stay : ∀ b ∈ fp, ∀ o, z3.heap.get? b = some o → h'.get? b = some o ∧ (upd G6 D (SetO X.w D (fun j => S j || decide (j = k)) (if S k = true then cnt else cnt + 1))) b = none := fun b hb o e =>
        have k := I7.pin (b, o) (List.mem_append_right _ (List.mem_append_right _ (mem_pinsAt hb e)))
        ⟨k.1, k.2.1⟩
      refine ⟨m2, lt2, i + 1, _, (I7.unpinned (pins := [])).weak (by rw [hbase, ← hw4, wipe_length]) (fun j v e => ?_), T.keep _ _ _ st3 fun b hb o e => (stay b hb o e).1, fun b hb => ?_, w2⟩
      · rw [hbase, ← hw4] at e
        exact (wipe_some e).1
      · obtain ⟨o, e, _⟩ := T.obj _ _ st3 b hb
        exact (stay b hb o e).2
  exact PpSet.codeAny_compStart_set loop (T.self X.A 0 _ _ _ stC loop)

/-! ### len of a set of ints -/
def rLenS (w : World) : List V → Hp → VK → Prop := fun vs H Q => ∃ (a : Addr) (S : Int → Bool) (n : Nat), vs = [V.ref a] ∧ H a = some (SetO w a S n) ∧ Q (.int (n : Int)) H
theorem cr_lenS : CallR X (.builtin "len") (rLenS X.w) := by
  intro pins s σ H vs us Q I r h
  obtain ⟨a, S, n, rfl, ha, q⟩ := h
  rw [Vals.ref1 r]
  obtain ⟨o, es, ep, t, ho, hex, hd, _, _, _, hb, hf, hn, _⟩ := setO_get I ha
  refine PySem.call_len_set ho hex hd hf (by rw [hn]; unfold scanBound at hb; omega) ⟨.int (n : Int), H, I.tok _, ⟨_, by rw [hn]⟩, q⟩
end
end Two

set_option autoImplicit true
set_option Elab.async false
set_option linter.all false
set_option maxRecDepth 100000
set_option maxHeartbeats 4000000
/-! repr of data, and defs that are called where nothing is being printed. -/
namespace Two
open PySem PySem.Spec PyProof.Rows L2
section
variable {X : Cx}
def rReprD (K : PySem.W.Frag) : List V → Hp → VK → Prop := fun vs H Q => ∃ (a : Addr) (d : PyData), vs = [V.ref a] ∧ Dp K H (.ref a) d ∧
  d.showable = true ∧ d.hasDict = false ∧ d.depth ≤ 32 ∧ d.shown.length ≤ sizeLine ∧ Q (.str d.shown) H
theorem cr_reprD (hg : X.A.guards = some []) (hu : X.A.units + 64 < cLine) : CallR X (.builtin "repr") (rReprD X.K) := by
  intro pins s σ H vs us Q I r h
  obtain ⟨a, d, rfl, hd, hs, hn, hp, hz, q⟩ := h
  rw [Vals.ref1 r]
  obtain ⟨as, rr⟩ := Dp.reads I _ _ _ hd rfl
  exact repr_of_reads' rr hs (fun k => by rw [hn] at k; cases k) hg (by omega) (fun _ _ e => e) (fun h' u tk hk => ⟨.str d.shown, H, I.kept hk, ⟨u, rfl⟩, q⟩) hz
end

/-- a def's promise where nothing is being printed -/
structure FnG (P : Program) (w : World) (K : PySem.W.Frag) (mg : Str → Option Value) (base : Heap) (CX : CXT) (k : Nat) (f : Addr) (fd : FuncData) (ps : List Str) (sp : Sp) : Prop where
  len : ∀ vs H Q E, sp vs H Q E → vs.length = ps.length
  run : ∀ (A : Around) (outer : List Env) (s : Shared) (H : Hp) (args : Args) (us : List Value) (vs : List V) (Q : VK) (E : XK), Room k A → A.guards = some [] →
    Env0 P w K mg base A outer s H → BindsTo s fd args (ps.zip us) → Vals vs us → sp vs H Q E → codeAny (model P w) A (.call (.ref f) args) (CR CX outer P w H s Q E) s

section
variable {P : Program} {w : World} {K : PySem.W.Frag} {mg : Str → Option Value} {base : Heap}
/-- by its body -/
theorem FnG.of {x qual : Str} {st : Stmt} {f : Addr} {fd : FuncData} {N ps : List Str} {k : Nat} {sp : Sp} (F : Fun K x qual st f fd) (S : FnScope N ps (defScope st)) (len : ∀ vs H Q E, sp vs H Q E → vs.length = ps.length)
    (body : ∀ (cdv : Value) (A : Around) (outer : List Env) (s : Shared) (H : Hp) (vs : List V) (Q : VK) (E : XK), Room k (A.deeper (envOfC qual (defScope st) s.heap.objs.size f cdv)) → A.guards = some [] → sp vs H Q E →
      ∃ t, PSs (cxOf CX0 P w K mg base N qual (defScope st) f cdv A outer s H E).nox (defBody st) t ∧ t { nx := fun _ G => Q .non G, rt := Q } (start N vs) H) : FnG P w K mg base CX0 (k + 1) f fd ps sp := by
  obtain ⟨oc, od, kV, doc, pm, an, cdv, ct, osl, rfl, lk, hcd⟩ := F.ex
  refine ⟨len, fun A outer s H args us vs Q E hr hg e0 hb r hsp => ?_⟩
  have hl := len _ _ _ _ hsp
  have KX : K.In s.heap := e0.mod.kin.keeps fun b o e => (e0.bs b o e).1
  have lim : s.heap.NoLimit := e0.mod.nolimit.keeps fun b o e => (e0.bs b o e).1
  have kinds : ∀ y ∈ ps.zip us, (defScope st).names.lookup y.1 = some .local ∨ ((defScope st).names.lookup y.1 = some .cell ∧ ((cellsFrom (s.heap.objs.size + 1) (defScope st).names []).lookup y.1).isSome = true) := by
    rintro ⟨n, v⟩ hy
    exact (S.par n (List.of_mem_zip hy).1).imp id fun q => ⟨q, PySem.W.cellsFrom_some _ _ _ (.inl q)⟩
  refine codeAny_call_function hr.depth (KX _ _ lk) rfl S.co S.gen rfl (PySem.W.codeRec_of KX hcd) (hb _ _ _ _ ?_)
  refine wpAny_newFunctionEnv_cells S.kind kinds fun env he s1 x => ?_
  subst he
  refine ⟨lim.keeps x.toInCall.keep, codeAny_func ?_⟩
  obtain ⟨t, ht, hq⟩ := body cdv A outer s H vs Q E (hr.deeper _) hg hsp
  have I := inv_start (qual := qual) (f := f) (cd := cdv) (E := E) (CX := CX0) S hr.hd e0 hl r x
  refine wpAny_mono (ht.nox.run [] s1 (start N vs) H _ I hq) (fun fl s' hs => ?_) fun e s' hs => hs
  have done : ∀ {τ : L2.St} {G : Hp} {v : V} {u : Value}, Inv (cxOf CX0 P w K mg base N qual (defScope st) f cdv A outer s H E) [] τ G s' → RelV v u → Q v G → CE outer P w H s Q u s' :=
    fun {τ G v u} J rv q => ⟨v, G, J.os, J.bare, J.base, J.hok, rv, q⟩
  match fl, hs with
  | .ret u, hs => exact let ⟨v, τ, G, J, rv, q⟩ := hs; done J rv q
  | .next, hs => exact let ⟨τ, G, J, q⟩ := hs; done (v := V.non) (u := Value.none) J rfl q
  | .brk, hs => exact let ⟨_, _, _, q⟩ := hs; False.elim q
  | .cont, hs => exact let ⟨_, _, _, q⟩ := hs; False.elim q
end

section
variable {X : Cx} {k : Nat} {f : Addr} {fd : FuncData} {ps : List Str} {sp : Sp} {x : Str} {p pos : Pos} {e : Expr} {es : List Expr} {t : TA} {CX : CXT} {E : XK}
/-- such a def called -/
theorem pe_callG (F : FnG X.prog X.w X.K X.mg X.base CX k f fd ps sp) (hr : Room k X.A) (gd : X.A.guards = some []) (hg : Gl X x) (hm : X.mg x = some (.ref f)) (hk : PySem.W.keepIn X.K (.ref f) = true) (hb : Binds X.K fd ps []) (hx : Passes CX X E)
    (ha : PA X (e :: es) t) (hdb : (x == ("__debug__" : Str)) = false := by decide) (he : starEach (e :: es) X.env = (false, eval e X.env) :: starEach es X.env := by rfl) (hpl : (backTo pos (starEach es X.env)).any (·.1) = false := by rfl) :
    PE X (.Call (.Name x p) (e :: es) [] pos) (tCall sp [] E t) := by
  refine ⟨fun pins s σ H Q I h => wpAny_Call_Name_kw (ld_glob I hg hm ?_ hdb)⟩
  refine PySem.W.callWith_K (h₀ := X.base) I.ok.mod.kin hk (thn (ha.run pos pins s σ H _ I h) fun us s1 ⟨vs, H1, I1, r, q⟩ => ⟨I1.kIn, ?_⟩) he hpl
  have hl : (us ++ []).length = ps.length := by rw [← (r.append .nil).length]; exact F.len _ _ _ _ q
  refine wpAny_call (codeAny_mono (F.run X.A X.stack s1 H1 ⟨us, []⟩ (us ++ []) (vs ++ []) Q E hr gd I1.env0 (hb s1 us I1.kIn hl) (r.append .nil) q) fun q s' hq => ?_)
  match q, hq with
  | .error e, hq => exact hx pins σ H1 s1 e s' I1 hq
  | .ok (.ret u), hq => exact I1.after hq
  | .ok .next, hq => exact False.elim hq
  | .ok .brk, hq => exact False.elim hq
  | .ok .cont, hq => exact False.elim hq
end

/-! ### the end -/
theorem script_ho {P : Program} {w : World} {K : PySem.W.Frag} {h : Heap} {a : Addr} {vs : List Value} {ns : List Int} (KX : K.In h) (ha : h.get? a = some { cls := .type "list", data := .seq vs.toArray }) (hi : IntsAre vs ns) (hl : ns.length ≤ sizeLine) :
    ∃ H : Hp, Only H ∧ SqL K H a (ns.map V.int) ∧ HOk P w H h ∧ ∀ b, H b ≠ none → b = a ∧ K.lookup a = none := by
  have lz : (ns.map V.int).length ≤ sizeLine := by rw [List.length_map]; exact hl
  cases hk : K.lookup a with
  | some o =>
    have e := KX a o hk
    rw [ha] at e
    cases e
    exact ⟨fun _ => none, fun _ => .inl rfl, .inr ⟨_, vs.toArray, _, hk, rfl, rfl, rfl, by rw [List.size_toArray, hi.length]; exact hl, by simpa using vals_ints hi⟩, (fun b u z => nomatch z), fun b z => absurd rfl z⟩
  | none =>
    refine ⟨fun b => if b = a then some (.frz { cls := .type "list", data := .seq vs.toArray } (.lst (ns.map V.int))) else none, fun b => ?_, .inl (.inr ⟨_, if_pos rfl⟩), fun b u z => ?_, fun b z => ⟨?_, rfl⟩⟩
    · by_cases hb : b = a
      · exact .inr ⟨_, _, if_pos hb⟩
      · exact .inl (if_neg hb)
    · by_cases hb : b = a
      · subst hb
        cases (if_pos rfl).symm.trans z
        exact ⟨ha, lz, vs, _, vals_ints hi, ha⟩
      · exact nomatch (if_neg hb).symm.trans z
    · exact Decidable.byContradiction fun hb => z (if_neg hb)

theorem lawG {P : Program} {w : World} {K : PySem.W.Frag} {mg mb : Str → Option Value} {k : Nat} {fa a : Addr} {fd : FuncData} {x : Str} {sp : Sp} {z : Shared} {vs : List Value} {ns : List Int}
    (KX : K.In z.heap) (hns : z.heap.Ns mainGlobals mg) (hb : z.heap.Ns builtinsNs mb) (hbb : ∀ x : Str, x ≠ "__name__" → mb x = bootBuiltins x) (hlim : z.heap.NoLimit) (hg : z.gens = #[])
    (ha : z.heap.get? a = some { cls := .type "list", data := .seq vs.toArray }) (hi : IntsAre vs ns) (hl : ns.length ≤ sizeLine) (hr : Room k callerA)
    (F : ∀ base : Heap, K.In base → base.Ns mainGlobals mg → FnG P w K mg base CX0 k fa fd [x] sp) (hbind : ∀ (s : Shared) (u : Value), BindsTo s fd ⟨[u], []⟩ [(x, u)])
    (hsp : ∀ H : Hp, Only H → SqL K H a (ns.map V.int) → sp [.ref a] H (fun v _ => v = .bl true) fun _ _ _ => False) :
    codeAny (model P w) callerA (.call (.ref fa) ⟨[.ref a], []⟩) (fun r y => r = .ok (.ret (.bool true)) ∧ OldK z.heap y.heap ∧ y.os = z.os ∧ AllBare y.gens) z := by
  obtain ⟨H, hO, hS, hok, only⟩ := script_ho (P := P) (w := w) KX ha hi hl
  -- what isn't the script stands in the base
  have keep : ∀ {b : Addr} {o : Obj}, z.heap.get? b = some o → (b ≠ a ∨ K.lookup a ≠ none) → (hidT z.heap H).get? b = some o := fun {b o} e q =>
    hidT_get e (Decidable.byContradiction fun n => have k := only b n; q.elim (fun q => q k.1) fun q => q k.2)
  have ns : ∀ {b : Addr} {m : Str → Option Value}, z.heap.Ns b m → (hidT z.heap H).Ns b m := fun {b m} ⟨o, es, ep, e, d, r⟩ => by
    refine ⟨o, es, ep, keep e (.inl fun q => ?_), d, r⟩
    rw [q, ha] at e
    cases e
    cases d
  have kin : K.In (hidT z.heap H) := fun b o e => keep (KX b o e) (by
    by_cases q : b = a
    · exact .inr fun n => by rw [q, n] at e; cases e
    · exact .inl q)
  have mod : Mod K mg (hidT z.heap H) := ⟨kin, ns hns, ⟨mb, ns hb, hbb⟩, let ⟨mc, h1, h2⟩ := hlim; ⟨mc, ns h1, h2⟩⟩
  have env : Env0 P w K mg (hidT z.heap H) callerA [] z H := ⟨rfl, mod, fun b o e => of_hidT e, Nat.le_of_eq (hidT_size _ _), trivial, (fun b hb => nomatch hb), hok, .of_eq hg⟩
  refine codeAny_mono ((F _ kin (ns hns)).run callerA [] z H ⟨[.ref a], []⟩ [.ref a] [.ref a] _ _ hr rfl env (hbind z (.ref a)) (.cons rfl .nil) (hsp H hO hS)) fun r y h => ?_
  match r, h with
  | .error e, h => exact h.elim
  | .ok .next, h => exact False.elim h
  | .ok .brk, h => exact False.elim h
  | .ok .cont, h => exact False.elim h
  | .ok (.ret u), h =>
    obtain ⟨v, G, os, bare, un, hokG, rv, q⟩ := h
    have q : v = .bl true := q
    subst q
    cases rv
    refine ⟨rfl, OldK.of_keep fun b o e => ?_, os, bare⟩
    cases t : H b with
    | none => exact un.keep b o e t (fun n => nomatch n) (fun n => nomatch n)
    | some u =>
      rcases hO b with n | ⟨ob, xs, n⟩
      · rw [t] at n; cases n
      · have e1 := (hok b _ n).1
        have e2 := (hokG b _ (un.frzs b ob _ n)).1
        rw [e] at e1
        cases e1
        exact e2

/-- the goal that k_head leaves -/
theorem walkG {l : PySem.W.OpenLaw} {n k : Nat} {q : Program} {loose : List Str} {XP : (Str → Option Value) → Heap → Prop} {YP : World → Heap → Prop} {d : DefRec} {K : Params → PySem.W.Frag} {sp : World → Sp} {x : Str}
    (hn : l.most = some n) (hn2 : n ≤ sizeLine) (hdf : d.params.defaults = []) (hr : Room k callerA) (hY : ∀ (w : World) (h : Heap), YP w h → (K w.params).In h)
    (F : ∀ (w : World) (mg : Str → Option Value) (fa : Addr) (h : Heap), (K w.params).In h → h.Ns mainGlobals mg → mg d.name = some (.ref fa) →
      ∃ fd : FuncData, (∀ (s : Shared) (u : Value), BindsTo s fd ⟨[u], []⟩ [(x, u)]) ∧ ∀ base : Heap, (K w.params).In base → base.Ns mainGlobals mg → FnG l.prog w (K w.params) mg base CX0 k fa fd [x] (sp w))
    (hsp : ∀ (w : World) (H : Hp) (a : Addr) (ns : List Int), ns.length ≤ n → Only H → SqL (K w.params) H a (ns.map V.int) → sp w [.ref a] H (fun v _ => v = .bl true) fun _ _ _ => False) :
    PySem.W.WalkO q loose XP YP l.row.toRowW d [] (fun f vs => PySem.call f vs) := by
  refine Att.attach_call hn hdf fun w s0 z mg mb fa o pm cd doc a vs ns G Y ho hd hcd hmg hobj hints hlen hg => ?_
  obtain ⟨fd, hb, hF⟩ := F w mg fa _ (hY w _ Y) G.T.g hmg
  exact lawG (hY w _ Y) G.T.g G.T.b G.T.builtins G.T.nolimit hg hobj hints (Nat.le_trans hlen hn2) hr hF hb fun H hO hS => hsp w H a ns hlen hO hS
end Two

set_option autoImplicit true
/-! The mathematics of merging lists: plain Lean. -/
set_option autoImplicit false
namespace Mg

/-- x stands behind no first item -/
def clear (rs : List (List Int)) (x : Int) : Bool := rs.all fun r => !(r.tail.contains x)
def heads (rs : List (List Int)) : List Int := rs.filterMap List.head?
def firstFree (rs : List (List Int)) : Option Int := (heads rs).find? (clear rs)
def pull1 (x : Int) (r : List Int) : List Int := if r.head? = some x then r.tail else r
def pull (x : Int) (rs : List (List Int)) : List (List Int) := rs.map (pull1 x)
def st (ls : List (List Int)) : Nat → List Int × List (List Int)
  | 0 => ([], ls)
  | n + 1 => match firstFree (st ls n).2 with
    | none => st ls n
    | some x => ((st ls n).1 ++ [x], pull x (st ls n).2)
theorem st_some {ls : List (List Int)} {n : Nat} {x : Int} (h : firstFree (st ls n).2 = some x) : st ls (n + 1) = ((st ls n).1 ++ [x], pull x (st ls n).2) := by
  show (match firstFree (st ls n).2 with | none => st ls n | some x => ((st ls n).1 ++ [x], pull x (st ls n).2)) = _
  rw [h]
theorem st_none {ls : List (List Int)} {n : Nat} (h : firstFree (st ls n).2 = none) : st ls (n + 1) = st ls n := by
  show (match firstFree (st ls n).2 with | none => st ls n | some x => ((st ls n).1 ++ [x], pull x (st ls n).2)) = _
  rw [h]
theorem st_final {ls : List (List Int)} {n : Nat} (h : firstFree (st ls n).2 = none) : ∀ k, st ls (n + k) = st ls n
  | 0 => rfl
  | k + 1 => by
    have e := st_final h k
    rw [← Nat.add_assoc, st_none (by rw [e]; exact h), e]
theorem final_unique {ls : List (List Int)} {n m : Nat} (h : firstFree (st ls n).2 = none) (h' : firstFree (st ls m).2 = none) : st ls n = st ls m := by
  rcases Nat.le_total n m with q | q
  · obtain ⟨k, rfl⟩ := Nat.exists_eq_add_of_le q
    exact (st_final h k).symm
  · obtain ⟨k, rfl⟩ := Nat.exists_eq_add_of_le q
    exact st_final h' k

theorem mem_heads {rs : List (List Int)} {x : Int} : x ∈ heads rs ↔ ∃ r ∈ rs, r.head? = some x := by
  unfold heads
  simp only [List.mem_filterMap]
theorem firstFree_some {rs : List (List Int)} {x : Int} (h : firstFree rs = some x) : x ∈ heads rs ∧ clear rs x = true :=
  ⟨List.mem_of_find?_eq_some h, List.find?_some h⟩
theorem clear_iff {rs : List (List Int)} {x : Int} : clear rs x = true ↔ ∀ r ∈ rs, x ∉ r.tail := by
  unfold clear
  simp [List.all_eq_true]
theorem firstFree_none {rs : List (List Int)} (h : firstFree rs = none) {x : Int} (hx : x ∈ heads rs) : ∃ r ∈ rs, x ∈ r.tail := by
  have q := List.find?_eq_none.mp h x hx
  refine Decidable.byContradiction fun n => q (clear_iff.mpr fun r hr k => n ⟨r, hr, k⟩)
theorem firstFree_of_empty {rs : List (List Int)} (h : ∀ r ∈ rs, r = []) : firstFree rs = none := by
  have e : heads rs = [] := by
    unfold heads
    refine List.filterMap_eq_nil_iff.mpr fun r hr => ?_
    rw [h r hr]
    rfl
  unfold firstFree
  rw [e]
  rfl

/-! what holds behind every step -/
structure Ok (ls : List (List Int)) (s : List Int × List (List Int)) : Prop where
  len : s.2.length = ls.length
  parts : ∀ (i : Nat) (l r : List Int), ls[i]? = some l → s.2[i]? = some r → l = s.1.filter (fun y => l.contains y) ++ r
  nd : s.1.Nodup
  apart : ∀ y ∈ s.1, ∀ r ∈ s.2, y ∉ r
theorem pull1_cases {x : Int} (r : List Int) : (∃ t, r = x :: t ∧ pull1 x r = t) ∨ (r.head? ≠ some x ∧ pull1 x r = r) := by
  unfold pull1
  by_cases h : r.head? = some x
  · rw [if_pos h]
    cases r with
    | nil => cases h
    | cons a t =>
      have e : a = x := Option.some.inj h
      subst e
      exact .inl ⟨t, rfl, rfl⟩
  · rw [if_neg h]
    exact .inr ⟨h, rfl⟩
theorem not_mem_of {x : Int} {r : List Int} (h : r.head? ≠ some x) (t : x ∉ r.tail) : x ∉ r := by
  cases r with
  | nil => simp
  | cons a r =>
    intro q
    rcases List.mem_cons.mp q with e | e
    · exact h (by rw [e]; rfl)
    · exact t e
theorem pull1_sub {x y : Int} {r : List Int} (h : y ∈ pull1 x r) : y ∈ r := by
  rcases pull1_cases (x := x) r with ⟨t, e, q⟩ | ⟨_, q⟩
  · rw [q] at h
    rw [e]
    exact List.mem_cons_of_mem _ h
  · rw [q] at h
    exact h
theorem Ok.step {ls : List (List Int)} {s : List Int × List (List Int)} {x : Int} (o : Ok ls s) (nls : ∀ l ∈ ls, l.Nodup) (h : firstFree s.2 = some x) : Ok ls (s.1 ++ [x], pull x s.2) := by
  obtain ⟨hx, hc⟩ := firstFree_some h
  have hc := clear_iff.mp hc
  obtain ⟨r0, hr0, h0⟩ := mem_heads.mp hx
  have x0 : x ∈ r0 := List.mem_of_mem_head? h0
  have nx : x ∉ s.1 := fun q => o.apart x q r0 hr0 x0
  refine ⟨by show (pull x s.2).length = _; unfold pull; rw [List.length_map]; exact o.len, fun i l r hl hr => ?_, ?_, fun y hy r hr => ?_⟩
  · have hr : (s.2.map (pull1 x))[i]? = some r := hr
    rw [List.getElem?_map] at hr
    obtain ⟨r1, h1, e1⟩ := Option.map_eq_some_iff.mp hr
    have p := o.parts i l r1 hl h1
    have t1 := hc r1 (List.mem_of_getElem? h1)
    show l = (s.1 ++ [x]).filter (fun y => l.contains y) ++ r
    rw [List.filter_append]
    rcases pull1_cases (x := x) r1 with ⟨t, e, q⟩ | ⟨n, q⟩
    · have xl : l.contains x = true := by
        rw [List.contains_iff_mem, p, e]
        simp
      have e2 : List.filter (fun y => l.contains y) [x] = [x] := by
        rw [List.filter_cons_of_pos (by exact xl)]
        rfl
      rw [e2, List.append_assoc, ← e1, q]
      rw [e] at p
      exact p
    · have n1 : x ∉ r1 := not_mem_of n t1
      have xl : ¬ l.contains x = true := by
        rw [List.contains_iff_mem, p, List.mem_append]
        rintro (k | k)
        · exact nx (List.mem_filter.mp k).1
        · exact n1 k
      have e2 : List.filter (fun y => l.contains y) [x] = [] := by
        rw [List.filter_cons_of_neg (by exact xl)]
        rfl
      rw [e2, List.append_nil, ← e1, q]
      exact p
  · exact List.nodup_append.mpr ⟨o.nd, by simp, fun a ha b hb => by
      rw [List.mem_singleton.mp hb]
      exact fun e => nx (e ▸ ha)⟩
  · obtain ⟨r1, h1, e1⟩ := List.mem_map.mp (show r ∈ s.2.map (pull1 x) from hr)
    subst e1
    rcases List.mem_append.mp hy with k | k
    · exact fun q => o.apart y k r1 h1 (pull1_sub q)
    · rw [List.mem_singleton.mp k]
      rcases pull1_cases (x := x) r1 with ⟨t, e, q⟩ | ⟨n, q⟩
      · rw [q]
        have := hc r1 h1
        rw [e] at this
        exact this
      · rw [q]
        exact not_mem_of n (hc r1 h1)
theorem ok_st {ls : List (List Int)} (nls : ∀ l ∈ ls, l.Nodup) : ∀ n, Ok ls (st ls n)
  | 0 => ⟨rfl, fun i l r hl hr => by
      have hr : ls[i]? = some r := hr
      rw [hl] at hr
      cases hr
      rfl, List.nodup_nil, fun y hy => nomatch hy⟩
  | n + 1 => by
    have o := ok_st nls n
    cases h : firstFree (st ls n).2 with
    | none => rw [st_none h]; exact o
    | some x => rw [st_some h]; exact o.step nls h

/-- the rests' lengths together -/
def size (rs : List (List Int)) : Nat := (rs.map List.length).sum
theorem pull1_le (x : Int) (r : List Int) : (pull1 x r).length ≤ r.length := by
  rcases pull1_cases (x := x) r with ⟨t, e, q⟩ | ⟨_, q⟩
  · rw [q, e]
    simp
  · rw [q]
    exact Nat.le_refl _
theorem size_pull_le (x : Int) : ∀ rs, size (pull x rs) ≤ size rs
  | [] => Nat.le_refl _
  | r :: rs => by
    have a := pull1_le x r
    have b := size_pull_le x rs
    show (pull1 x r).length + size (pull x rs) ≤ r.length + size rs
    omega
theorem size_pull_lt {x : Int} : ∀ {rs : List (List Int)}, x ∈ heads rs → size (pull x rs) < size rs
  | [], h => nomatch h
  | r :: rs, h => by
    show (pull1 x r).length + size (pull x rs) < r.length + size rs
    have a := pull1_le x r
    have b := size_pull_le x rs
    obtain ⟨r1, h1, e1⟩ := mem_heads.mp h
    rcases List.mem_cons.mp h1 with e | m
    · subst e
      rcases pull1_cases (x := x) r1 with ⟨t, e, q⟩ | ⟨n, _⟩
      · rw [q, e]
        simp only [List.length_cons]
        omega
      · exact absurd e1 n
    · have c := size_pull_lt (mem_heads.mpr ⟨r1, m, e1⟩)
      omega
theorem size_step {rs : List (List Int)} {x : Int} (h : firstFree rs = some x) : size (pull x rs) < size rs := size_pull_lt (firstFree_some h).1

/-- at the end each list stands in the order -/
theorem end_inside {ls : List (List Int)} {s : List Int × List (List Int)} (o : Ok ls s) (e : ∀ r ∈ s.2, r = []) {l : List Int} (hl : l ∈ ls) : s.1.filter (fun y => l.contains y) = l := by
  obtain ⟨i, hi⟩ := List.getElem?_of_mem hl
  have hlt : i < s.2.length := by rw [o.len]; exact (List.getElem?_eq_some_iff.mp hi).1
  have p := o.parts i l s.2[i] hi (List.getElem?_eq_getElem hlt)
  rw [e _ (List.getElem_mem hlt), List.append_nil] at p
  exact p.symm
/-- every item of the order is of the lists -/
theorem st_items (ls : List (List Int)) : ∀ n, (∀ y ∈ (st ls n).1, ∃ l ∈ ls, y ∈ l) ∧ (∀ r ∈ (st ls n).2, ∀ y ∈ r, ∃ l ∈ ls, y ∈ l)
  | 0 => ⟨fun y h => (nomatch h), fun r hr y hy => ⟨r, hr, hy⟩⟩
  | n + 1 => by
    obtain ⟨a, b⟩ := st_items ls n
    cases h : firstFree (st ls n).2 with
    | none => rw [st_none h]; exact ⟨a, b⟩
    | some x =>
      rw [st_some h]
      obtain ⟨r0, hr0, h0⟩ := mem_heads.mp (firstFree_some h).1
      refine ⟨fun y hy => ?_, fun r hr y hy => ?_⟩
      · rcases List.mem_append.mp hy with k | k
        · exact a y k
        · rw [List.mem_singleton.mp k]
          exact b r0 hr0 x (List.mem_of_mem_head? h0)
      · obtain ⟨r1, h1, e1⟩ := List.mem_map.mp (show r ∈ (st ls n).2.map (pull1 x) from hr)
        subst e1
        exact b r1 h1 y (pull1_sub hy)

/-! ### rings -/
def Ahead (l : List Int) (a b : Int) : Prop := ∃ u v, l = u ++ a :: v ∧ b ∈ v
structure IsRing (ls : List (List Int)) (ring : List (Int × Nat)) : Prop where
  two : 2 ≤ ring.length
  nd : (ring.map (·.1)).Nodup
  link : ∀ k, k < ring.length → ∃ a i b j l, ring[k]? = some (a, i) ∧ ring[(k + 1) % ring.length]? = some (b, j) ∧ ls[i]? = some l ∧ Ahead l a b

/-- a way from x: each tuple's item is the first of the rest beside it, in which the item ahead of it in the way stands behind -/
def Way (rs : List (List Int)) (x : Int) (way : List (Int × Nat)) : Prop :=
  ∀ k, k < way.length → ∃ a i y t, way[k]? = some (a, i) ∧ (x :: way.map (·.1))[k]? = some y ∧ rs[i]? = some (a :: t) ∧ y ∈ t
theorem Way.nil {rs : List (List Int)} {x : Int} : Way rs x [] := fun k h => nomatch h
theorem Way.snoc {rs : List (List Int)} {x y a : Int} {i : Nat} {t : List Int} {way : List (Int × Nat)} (w : Way rs x way) (hy : (x :: way.map (·.1))[way.length]? = some y) (hr : rs[i]? = some (a :: t)) (ht : y ∈ t) : Way rs x (way ++ [(a, i)]) := by
  intro k hk
  rw [List.length_append, List.length_singleton] at hk
  by_cases h : k < way.length
  · obtain ⟨a', i', y', t', h1, h2, h3, h4⟩ := w k h
    refine ⟨a', i', y', t', by rw [List.getElem?_append_left h]; exact h1, ?_, h3, h4⟩
    rw [List.map_append, ← List.cons_append, List.getElem?_append_left (by simp; omega)]
    exact h2
  · have e : k = way.length := by omega
    subst e
    refine ⟨a, i, y, t, by simp, ?_, hr, ht⟩
    rw [List.map_append, ← List.cons_append, List.getElem?_append_left (by simp)]
    exact hy
theorem way_items_last {x a : Int} {i : Nat} (way : List (Int × Nat)) : (x :: (way ++ [(a, i)]).map (·.1))[(way ++ [(a, i)]).length]? = some a := by
  simp
end Mg

set_option autoImplicit true
set_option autoImplicit false
namespace Mg
theorem way_item {x : Int} {way : List (Int × Nat)} {k : Nat} {a : Int} {i : Nat} (h : way[k]? = some (a, i)) : (x :: way.map (·.1))[k + 1]? = some a := by
  rw [List.getElem?_cons_succ, List.getElem?_map, h]
  rfl
theorem ring_at {way : List (Int × Nat)} {p k : Nat} (hp : p ≤ way.length) (hk : k < way.length - p) : (way.drop p).reverse[k]? = way[way.length - 1 - k]? := by
  rw [List.getElem?_reverse (by rw [List.length_drop]; exact hk), List.length_drop, List.getElem?_drop]
  congr 1
  omega
theorem nodup_rev {l : List Int} (h : l.Nodup) : l.reverse.Nodup := by
  have q : l.Pairwise (fun a b => b ≠ a) := List.Pairwise.imp (fun k e => k e.symm) h
  exact List.pairwise_reverse.mpr q
theorem ring_of_way {ls rs : List (List Int)} {x : Int} {way : List (Int × Nat)} {p : Nat} (w : Way rs x way) (suf : ∀ (i : Nat) (r : List Int), rs[i]? = some r → ∃ u, ls[i]? = some (u ++ r)) (nd : ∀ r ∈ rs, r.Nodup)
    (keys : ((x :: way.map (·.1)).take way.length).Nodup) (hp : p < way.length) (hx : (x :: way.map (·.1))[p]? = (x :: way.map (·.1))[way.length]?) : IsRing ls (way.drop p).reverse := by
  generalize hm : way.length = m at *
  have len : ((way.drop p).reverse).length = m - p := by rw [List.length_reverse, List.length_drop, hm]
  have two : 2 ≤ m - p := by
    refine Decidable.byContradiction fun n => ?_
    have e : m = p + 1 := by omega
    obtain ⟨a, i, y, t, h1, h2, h3, h4⟩ := w p (by omega)
    have h5 := way_item (x := x) h1
    rw [hx, e, h5] at h2
    cases h2
    have q := nd _ (List.mem_of_getElem? h3)
    exact (List.nodup_cons.mp q).1 h4
  refine ⟨by rw [len]; exact two, ?_, fun k hk => ?_⟩
  · rw [List.map_reverse]
    refine nodup_rev ?_
    rw [List.map_drop]
    have hl : (x :: way.map (·.1)).length = m + 1 := by simp [hm]
    obtain ⟨z, hz⟩ : ∃ z, (x :: way.map (·.1))[p]? = some z := ⟨_, List.getElem?_eq_getElem (by omega)⟩
    have hz2 := hx.symm.trans hz
    have e1 : (way.map (·.1)).drop p = (x :: way.map (·.1)).drop (p + 1) := rfl
    rw [e1]
    generalize x :: way.map (·.1) = xs at *
    have e2 : xs.drop (p + 1) = (xs.take m).drop (p + 1) ++ [z] := by
      have t : xs = xs.take m ++ [z] := by
        conv => lhs; rw [← List.take_append_drop m xs]
        congr 1
        obtain ⟨hlt, hv⟩ := List.getElem?_eq_some_iff.mp hz2
        rw [List.drop_eq_getElem_cons hlt, hv, List.drop_eq_nil_of_le (by omega)]
      have q := congrArg (List.drop (p + 1)) t
      rw [List.drop_append_of_le_length (by rw [List.length_take]; omega)] at q
      exact q
    rw [e2]
    refine List.nodup_append.mpr ⟨keys.sublist (List.drop_sublist _ _), by simp, fun a ha b hb => ?_⟩
    rw [List.mem_singleton.mp hb]
    rintro rfl
    have q : (xs.take m)[p]? = some a := by rw [List.getElem?_take_of_lt hp]; exact hz
    obtain ⟨hlt, hv⟩ := List.getElem?_eq_some_iff.mp q
    have k2 : (xs.take m).drop p = a :: (xs.take m).drop (p + 1) := by rw [List.drop_eq_getElem_cons hlt, hv]
    have k3 : ((xs.take m).drop p).Nodup := keys.sublist (List.drop_sublist _ _)
    rw [k2] at k3
    exact (List.nodup_cons.mp k3).1 ha
  · rw [len] at hk ⊢
    obtain ⟨a, i, y, t, h1, h2, h3, h4⟩ := w (m - 1 - k) (by omega)
    obtain ⟨u, hu⟩ := suf i _ h3
    have at0 : (way.drop p).reverse[k]? = some (a, i) := by rw [ring_at (by omega) (by omega), hm]; exact h1
    by_cases last : k + 1 < m - p
    · obtain ⟨b, j, y2, t2, g1, g2, g3, g4⟩ := w (m - 1 - (k + 1)) (by omega)
      have g5 := way_item (x := x) g1
      have e : m - 1 - (k + 1) + 1 = m - 1 - k := by omega
      rw [e, h2] at g5
      cases g5
      refine ⟨a, i, y, j, u ++ a :: t, at0, ?_, hu, ⟨u, t, rfl, h4⟩⟩
      rw [Nat.mod_eq_of_lt last, ring_at (by omega) (by omega), hm]
      exact g1
    · have e : k + 1 = m - p := by omega
      obtain ⟨b, j, y2, t2, g1, g2, g3, g4⟩ := w (m - 1) (by omega)
      have g5 := way_item (x := x) g1
      have e2 : m - 1 + 1 = m := by omega
      rw [e2, ← hx] at g5
      have e3 : m - 1 - k = p := by omega
      rw [e3, g5] at h2
      have eb : b = y := Option.some.inj h2
      subst eb
      refine ⟨a, i, b, j, u ++ a :: t, at0, ?_, hu, ⟨u, t, rfl, h4⟩⟩
      rw [e, Nat.mod_self, ring_at (by omega) (by omega), hm]
      exact g1

/-- the rests are ends of the lists -/
theorem Ok.suf {ls : List (List Int)} {s : List Int × List (List Int)} (o : Ok ls s) (i : Nat) (r : List Int) (h : s.2[i]? = some r) : ∃ u, ls[i]? = some (u ++ r) := by
  have lt : i < ls.length := by rw [← o.len]; exact (List.getElem?_eq_some_iff.mp h).1
  have q := o.parts i ls[i] r (List.getElem?_eq_getElem lt) h
  exact ⟨_, by rw [List.getElem?_eq_getElem lt]; exact congrArg some q⟩
theorem Ok.nodups {ls : List (List Int)} {s : List Int × List (List Int)} (o : Ok ls s) (nls : ∀ l ∈ ls, l.Nodup) : ∀ r ∈ s.2, r.Nodup := by
  intro r hr
  obtain ⟨i, hi⟩ := List.getElem?_of_mem hr
  obtain ⟨u, hu⟩ := o.suf i r hi
  exact (nls _ (List.mem_of_getElem? hu)).sublist (List.sublist_append_right _ _)

theorem nodup_at : ∀ {l : List Int} {i j : Nat} (nd : l.Nodup) (hi : i < l.length) (hj : j < l.length), l[i] = l[j] → i = j
  | a :: l, 0, 0, _, _, _, _ => rfl
  | a :: l, 0, j + 1, nd, _, hj, e => absurd (show a ∈ l from (show a = l[j]'(Nat.lt_of_succ_lt_succ hj) from e) ▸ List.getElem_mem _) (List.nodup_cons.mp nd).1
  | a :: l, i + 1, 0, nd, hi, _, e => absurd (show a ∈ l from (show l[i]'(Nat.lt_of_succ_lt_succ hi) = a from e) ▸ List.getElem_mem _) (List.nodup_cons.mp nd).1
  | a :: l, i + 1, j + 1, nd, hi, hj, e => congrArg (· + 1) (nodup_at (List.nodup_cons.mp nd).2 (Nat.lt_of_succ_lt_succ hi) (Nat.lt_of_succ_lt_succ hj) e)
/-- where an item that stands ahead is found -/
theorem Ahead.at {l : List Int} {a b : Int} (h : Ahead l a b) (nd : l.Nodup) : ∃ i j : Nat, l[i]? = some a ∧ l[j]? = some b ∧ i < j ∧ (∀ m, m < i → l[m]? ≠ some a) ∧ (∀ m, m < j → l[m]? ≠ some b) := by
  obtain ⟨u, v, rfl, hb⟩ := h
  obtain ⟨n, hn⟩ := List.getElem?_of_mem hb
  have ha : (u ++ a :: v)[u.length]? = some a := by simp
  have hb2 : (u ++ a :: v)[u.length + 1 + n]? = some b := by
    rw [List.getElem?_append_right (by omega)]
    have e : u.length + 1 + n - u.length = n + 1 := by omega
    rw [e, List.getElem?_cons_succ]
    exact hn
  have un : ∀ {i j : Nat} {c : Int}, (u ++ a :: v)[i]? = some c → (u ++ a :: v)[j]? = some c → i = j := fun {i j c} h1 h2 => by
    obtain ⟨l1, e1⟩ := List.getElem?_eq_some_iff.mp h1
    obtain ⟨l2, e2⟩ := List.getElem?_eq_some_iff.mp h2
    exact nodup_at nd l1 l2 (e1.trans e2.symm)
  exact ⟨_, _, ha, hb2, by omega, fun m hm k => by have := un k ha; omega, fun m hm k => by have := un k hb2; omega⟩
end Mg

set_option autoImplicit true
set_option Elab.async false
set_option linter.all false
set_option maxRecDepth 100000
set_option maxHeartbeats 4000000
namespace Pr
open PySem L2 Two
/-! ### the text by places -/
def top (i : Nat) : Stmt := PySem.Challenge.pw_layoutline_k02_papers_of_merges_judged.main.body.getD i (.Pass ⟨0, 0, 0, 0⟩)
abbrev sIsInt : Stmt := top 6
abbrev sUnlike : Stmt := top 8
abbrev sMerge : Stmt := top 11
abbrev sShows : Stmt := top 12
abbrev sIsRing : Stmt := top 13
abbrev sCheck : Stmt := top 14
abbrev sIsList : Stmt := top 15
abbrev sTimes : Stmt := top 16
abbrev sFree : Stmt := top 17
abbrev sTake : Stmt := top 18
abbrev sRingOf : Stmt := top 19
abbrev sIsPart : Stmt := top 20
abbrev sAhead : Stmt := top 21

/-- what the module's names hold -/
structure Txt (mg : Str → Option Value) : Prop where
  isinstance : mg "isinstance" = none
  int : mg "int" = none
  bool : mg "bool" = none
  str : mg "str" = none
  list : mg "list" = none
  tuple : mg "tuple" = none
  set : mg "set" = none
  len : mg "len" = none
  all : mg "all" = none
  any : mg "any" = none
  zip : mg "zip" = none
  enum : mg "enumerate" = none
  range : mg "range" = none
  most : ∃ t, mg "MOST_ITEMS" = some (.int 30 t)

/-! ### words about heaps -/
theorem tyx_list {K : PySem.W.Frag} {H : Hp} {a : Addr} {xs : List V} (h : SqL K H a xs) : TyX K H (.ref a) (.type "list") := by
  rcases h with (h | ⟨o, h⟩) | ⟨o, its, n, h, c, _⟩
  · exact .base (.lst h)
  · exact .base (.frz h)
  · exact .kList h c
theorem same_upd {H H' : Hp} {p : Addr} {o : HO} (s : Same H H') (n : H p = none) : Same H (upd H' p o) := fun b u e => by
  rw [upd_ne (ne_of_none e n)]
  exact s b u e
theorem same_new {H : Hp} {p : Addr} {o : HO} (n : H p = none) : Same H (upd H p o) := same_upd (Same.refl H) n
theorem none_of_same {H H' : Hp} (s : Same H H') {p : Addr} (n : H' p = none) : H p = none := s.free n
theorem get_map {α β : Type} {f : α → β} {l : List α} {i : Nat} {y : β} (h : (l.map f)[i]? = some y) : ∃ x, l[i]? = some x ∧ y = f x := by
  rw [List.getElem?_map] at h
  obtain ⟨x, h1, h2⟩ := Option.map_eq_some_iff.mp h
  exact ⟨x, h1, h2.symm⟩
theorem take_snoc {α : Type} : ∀ {l : List α} {i : Nat} {x : α}, l[i]? = some x → l.take (i + 1) = l.take i ++ [x]
  | [], i, x, h => by simp at h
  | a :: l, 0, x, h => by
    have e : a = x := Option.some.inj h
    rw [e]
    rfl
  | a :: l, i + 1, x, h => by
    have q := take_snoc (l := l) (i := i) (x := x) h
    show a :: l.take (i + 1) = a :: l.take i ++ [x]
    rw [q]
    rfl
theorem map_take_snoc {α β : Type} (f : α → β) {l : List α} {i : Nat} {x : α} (h : l[i]? = some x) : (l.take (i + 1)).map f = (l.take i).map f ++ [f x] := by
  rw [take_snoc h, List.map_append]
  rfl

/-- [e for x in xs] whose element is f x and makes nothing that stands in the way -/
theorem lc_pure {K : PySem.W.Frag} {a : Addr} {xs : List V} {te : TE} {vs : List Nat} {σ : L2.St} {H1 : Hp} {D : Addr} {Qd : Hp → Prop} (i : Nat) (f : V → V) (hS : SqL K H1 a xs) (hz : xs.length ≤ sizeLine) (hD : H1 D = none)
    (hw : ∀ x, wipe ((wipe σ vs).set i (some x)) vs = wipe σ vs)
    (step : ∀ (j : Nat) (x : V) (H : Hp) (Q : VK), xs[j]? = some x → Same H1 H → (∀ H', Same H H' → Q (f x) H') → te ((wipe σ vs).set i (some x)) H Q)
    (done : ∀ H, Same H1 H → H D = some (.lst (xs.map f)) → Qd H) :
    ∃ W : Nat → Nat → Hp → Prop, (∃ m, W 0 m (upd H1 D (.lst []))) ∧ ∀ i' m H, W i' m H →
      ((Itl K a).stop i' H ∧ Qd H) ∨ ((Itl K a).go i' H ∧ ∃ Nx : Hp → Prop, (∀ H', Nx H' → ∃ m', m' < m ∧ W (i' + 1) m' H') ∧ ∀ x H', (Itl K a).yld i' H x H' → gName i x (wipe σ vs) H' fun σ2 H2 => wipe σ2 vs = wipe σ vs ∧ tYes σ2 H2 fun b H3 =>
        if b = true then te σ2 H3 fun y H4 => ∃ acc, H4 D = some (.lst acc) ∧ acc.length < sizeLine ∧ Nx (upd H4 D (.lst (acc ++ [y]))) else Nx H3) := by
  refine lc_list (xs := xs) (fun j H => Same H1 H ∧ H D = some (.lst ((xs.take j).map f))) ⟨same_new hD, upd_same⟩ (fun j H _ p => p.1.seq hS) (fun j x H hx p => ?_) fun H p => done H p.1 (by rw [List.take_length] at p; exact p.2)
  refine ⟨hw x, ?_⟩
  unfold tYes
  simp only [if_true]
  refine step j x H _ hx p.1 fun H' s => ⟨_, s _ _ p.2, ?_, same_upd (p.1.trans s) hD, ?_⟩
  · have := (List.getElem?_eq_some_iff.mp hx).1
    rw [List.length_map, List.length_take]
    omega
  · rw [upd_same, map_take_snoc f hx]

/-! ### is_int -/
def spIsInt (K : PySem.W.Frag) : Sp := fun vs H Q _ => ∃ (x : V) (t : Value) (b1 b2 : Bool), vs = [x] ∧ TyX K H x t ∧ PySem.W.kitOne K t (.type "int") = some b1 ∧ PySem.W.kitOne K t (.type "bool") = some b2 ∧ Q (.bl (b1 && !b2)) H
section
variable {P : Program} {w : World} {K : PySem.W.Frag} {mg : Str → Option Value} {base : Heap}
theorem scIsInt : FnScope ["thing"] ["thing"] (defScope sIsInt) := ⟨rfl, rfl, rfl, by decide +kernel, rfl, by decide +kernel, by decide +kernel⟩
theorem ok_isInt {f : Addr} {fd : FuncData} (F : Fun K "is_int" "is_int" sIsInt f fd) (T : Txt mg) : FnOk P w K mg base CX0 1 f fd ["thing"] (spIsInt K) := by
  refine F.ok scIsInt (fun vs H Q E h => ?_) (fun cdv A outer s H vs Q E hr h => ?_)
  · obtain ⟨x, _, _, _, rfl, _⟩ := h
    rfl
  · obtain ⟨x, t, b1, b2, rfl, ty, h1, h2, k⟩ := h
    refine ⟨_, pss_one (ps_ret (pe_and (pe_callB call_isi (by rfl) T.isinstance (by decide +kernel) (pa_cons (pv 0) (pa_cons (pe_bltn (v := .ty "int") (by rfl) T.int (by decide +kernel) rfl) pa_nil)))
      (pe_one (pe_not (pe_callB call_isi (by rfl) T.isinstance (by decide +kernel) (pa_cons (pv 0) (pa_cons (pe_bltn (v := .ty "bool") (by rfl) T.bool (by decide +kernel) rfl) pa_nil))))))), ?_⟩
    refine ⟨x, rfl, x, .ty "int", t, .type "int", b1, rfl, .ty _, ty, h1, b1, rfl, ?_⟩
    cases b1 with
    | false => exact iteF k
    | true => exact iteT ⟨x, rfl, x, .ty "bool", t, .type "bool", b2, rfl, .ty _, ty, h2, b2, rfl, k⟩
theorem isInt_int (i : Int) (H : Hp) (Q : VK) (E : XK) (k : Q (.bl true) H) : spIsInt K [.int i] H Q E := ⟨.int i, .type "int", true, false, rfl, .base (.int i), kit_ty (by decide +kernel), kit_ty (by decide +kernel), k⟩

/-! ### check_unlike, where nothing stands twice -/
def spUnlike (K : PySem.W.Frag) : Sp := fun vs H Q _ => ∃ (a : Addr) (ns : List Int), vs = [.ref a] ∧ SqL K H a (ns.map V.int) ∧ ns.Nodup ∧ ns.length ≤ 1000 ∧ ∀ H', Same H H' → Q .non H'
theorem scUnlike : FnScope ["things", "seen", "thing"] ["things"] (defScope sUnlike) := ⟨rfl, rfl, rfl, by decide +kernel, rfl, by decide +kernel, by decide +kernel⟩
theorem ok_unlike {f : Addr} {fd : FuncData} (F : Fun K "check_unlike" "check_unlike" sUnlike f fd) (T : Txt mg) : FnOk P w K mg base CX0 1 f fd ["things"] (spUnlike K) := by
  refine F.ok scUnlike (fun vs H Q E h => ?_) (fun cdv A outer s H vs Q E hr h => ?_)
  · obtain ⟨a, ns, rfl, _⟩ := h
    rfl
  · obtain ⟨a, ns, rfl, hS, nd, hl, k⟩ := h
    refine ⟨_, pss_cons (ps_set (i := 1) scUnlike.nd rfl (Or.inl rfl) (pe_callTy0 cr_set0 (by rfl) T.set (by decide +kernel)))
      (pss_one (ps_for PassesOwn.never rfl (pi_list (pv 0)) (pg_name (i := 2) scUnlike.nd rfl (Or.inl rfl))
        (pss_cons (ps_if (pt_cmpR or_sin (pv 2) (pv 1) (by rfl)) (pss_never) pss_nil) (pss_one (ps_expr (pe_sadd (pv 1) (pa_cons (pv 2) pa_nil))))))), ?_⟩
    refine ⟨rfl, fun p hp => ?_⟩
    refine ⟨_, rfl, a, rfl, ⟨_, (same_new hp).seq hS⟩, for_list (K := K) (a := a) (xs := ns.map V.int) (fun i σ H' => ∃ (v : Option V) (S : Int → Bool) (n : Nat), σ = [some (.ref a), some (.ref p), v] ∧ Same H H' ∧ H' p = some (SetO w p S n) ∧ n ≤ i ∧ ∀ z, S z = true → z ∈ ns.take i)
      ⟨none, fun _ => false, 0, rfl, same_new hp, upd_same, Nat.le_refl _, fun z h => by cases h⟩ (fun i σ H' _ ⟨_, _, _, _, s1, _⟩ => s1.seq hS) ?_ ?_⟩
    · rintro i y σ H' hi ⟨v, S, n, rfl, s1, hp1, hn, hz⟩
      obtain ⟨z, hz1, rfl⟩ := get_map hi
      have hlt := (List.getElem?_eq_some_iff.mp hz1).1
      have new : S z = false := by
        cases e : S z with
        | false => rfl
        | true =>
          exfalso
          obtain ⟨m, hm⟩ := List.getElem?_of_mem (hz z e)
          have mi : m < i := by
            have := (List.getElem?_eq_some_iff.mp hm).1
            rw [List.length_take] at this
            omega
          rw [List.getElem?_take_of_lt mi] at hm
          obtain ⟨l1, e1⟩ := List.getElem?_eq_some_iff.mp hm
          obtain ⟨l2, e2⟩ := List.getElem?_eq_some_iff.mp hz1
          have := Mg.nodup_at nd l1 l2 (e1.trans e2.symm)
          omega
      refine ⟨_, rfl, _, rfl, z, p, S, n, rfl, rfl, hp1, _, rfl, ?_⟩
      rw [new]
      refine iteF ?_
      refine ⟨_, rfl, ⟨p, S, n, rfl, hp1⟩, _, rfl, p, z, S, n, rfl, rfl, hp1, by unfold scanBound; omega, ?_⟩
      refine ⟨_, _, _, rfl, same_upd s1 hp, upd_same, by rw [new]; simp; omega, fun z2 h2 => ?_⟩
      rw [take_snoc hz1]
      rcases Bool.or_eq_true_iff.mp h2 with h2 | h2
      · exact List.mem_append_left _ (hz z2 h2)
      · rw [of_decide_eq_true h2]
        simp
    · rintro σ H' ⟨v, S, n, rfl, s1, _⟩
      exact k _ s1

/-! ### _is_list_of_ints -/
def spIsList (K : PySem.W.Frag) : Sp := fun vs H Q _ => ∃ (a : Addr) (ns : List Int), vs = [.ref a] ∧ SqL K H a (ns.map V.int) ∧ ns.length ≤ 1000 ∧ ∀ H', Same H H' → Q (.bl true) H'
theorem scIsList : FnScope ["items", "item"] ["items"] (defScope sIsList) := ⟨rfl, rfl, rfl, by decide +kernel, rfl, by decide +kernel, by decide +kernel⟩
theorem all_true (f : V → V) : ∀ l : List V, (∀ x ∈ l, f x = .bl true) → l.map f = (l.map fun _ => true).map V.bl
  | [], _ => rfl
  | x :: l, h => by
    simp only [List.map_cons]
    rw [h x List.mem_cons_self, all_true f l fun y hy => h y (List.mem_cons_of_mem _ hy)]
theorem all_id : ∀ l : List V, (l.map fun _ => true).all id = true
  | [] => rfl
  | _ :: l => all_id l
theorem ok_isList {f fI : Addr} {fd fdI : FuncData} (F : Fun K "_is_list_of_ints" "_is_list_of_ints" sIsList f fd) (T : Txt mg) (gI : mg "is_int" = some (.ref fI)) (kI : PySem.W.keepIn K (.ref fI) = true) (bI : Binds K fdI ["thing"] []) (GI : FnOk P w K mg base CX0 1 fI fdI ["thing"] (spIsInt K)) :
    FnOk P w K mg base CX0 2 f fd ["items"] (spIsList K) := by
  refine F.ok scIsList (fun vs H Q E h => ?_) (fun cdv A outer s H vs Q E hr h => ?_)
  · obtain ⟨a, ns, rfl, _⟩ := h
    rfl
  · obtain ⟨a, ns, rfl, hS, hl, k⟩ := h
    refine ⟨_, pss_one (ps_ret (pe_and (pe_callB call_isi (by rfl) T.isinstance (by decide +kernel) (pa_cons (pv 0) (pa_cons (pe_bltn (v := .ty "list") (by rfl) T.list (by decide +kernel) rfl) pa_nil)))
      (pe_one (pe_callB (cr_all rfl) (by rfl) T.all (by decide +kernel) (pa_cons (pe_lc (own := [("item", 1)]) (g := gName 1) (tt := tYes) rfl scIsList.nd (pi_list (pv 0)) (blkOk_by (N := ["items", "item"]) (sc := defScope sIsList) (by decide +kernel))
        (fun _ _ _ _ _ => pg_name (i := 1) scIsList.nd rfl (Or.inl rfl)) (fun _ _ _ _ _ => pts_nil) (fun _ _ _ _ _ => pe_call GI hr rfl gI kI bI .nil pass0 (pa_cons (pv 1) pa_nil))) pa_nil))))), ?_⟩
    refine ⟨_, rfl, _, .ty "list", .type "list", .type "list", true, rfl, .ty _, tyx_list hS, kit_ty (by decide +kernel), true, rfl, iteT ?_⟩
    refine ⟨_, rfl, a, rfl, ⟨_, hS⟩, fun D hD => lc_pure (xs := ns.map V.int) 1 (fun _ => .bl true) hS (by rw [List.length_map]; exact Nat.le_of_lt (small1000 hl)) hD (fun _ => rfl) (fun j x H1 Q1 hx s1 q1 => ?_) fun H1 s1 h1 => ?_⟩
    · obtain ⟨z, _, rfl⟩ := get_map hx
      exact ⟨_, rfl, isInt_int z _ _ E0 (q1 _ (Same.refl _))⟩
    · refine ⟨D, _, rfl, SqL.of (by rw [h1, all_true _ _ fun _ _ => rfl]), ?_⟩
      rw [all_id]
      exact k _ s1
end
end Pr

set_option autoImplicit true
set_option autoImplicit false
namespace Mg
/-! ### in how many lists an item stands behind the first one -/
def cnt (rs : List (List Int)) (y : Int) : Nat := (rs.filter fun r => r.tail.contains y).length
def one (r : List Int) (y : Int) : Nat := if y ∈ r then 1 else 0
theorem cnt_nil (y : Int) : cnt [] y = 0 := rfl
theorem cnt_append (a b : List (List Int)) (y : Int) : cnt (a ++ b) y = cnt a y + cnt b y := by
  unfold cnt
  rw [List.filter_append, List.length_append]
theorem cnt_one (r : List Int) (y : Int) : cnt [r] y = one r.tail y := by
  unfold cnt one
  by_cases h : y ∈ r.tail
  · rw [if_pos h, List.filter_cons_of_pos (by exact List.contains_iff_mem.mpr h)]
    rfl
  · rw [if_neg h, List.filter_cons_of_neg (by rw [List.contains_iff_mem]; exact h)]
    rfl
theorem cnt_zero {rs : List (List Int)} {y : Int} : cnt rs y = 0 ↔ clear rs y = true := by
  rw [clear_iff]
  unfold cnt
  rw [List.length_eq_zero_iff, List.filter_eq_nil_iff]
  simp [List.contains_iff_mem]
theorem clear_dec {rs : List (List Int)} {y : Int} : clear rs y = decide ((cnt rs y : Int) = 0) := by
  cases h : clear rs y with
  | true => exact (decide_eq_true (by have := cnt_zero.mpr h; omega)).symm
  | false =>
    refine (decide_eq_false fun e => ?_).symm
    have : cnt rs y = 0 := by omega
    rw [cnt_zero.mp this] at h
    cases h
theorem one_take_succ {l : List Int} {j : Nat} {z : Int} (nd : l.Nodup) (h : l[j]? = some z) (y : Int) : one (l.take (j + 1)) y = if y = z then one (l.take j) z + 1 else one (l.take j) y := by
  have e : l.take (j + 1) = l.take j ++ [z] := by
    obtain ⟨hlt, hv⟩ := List.getElem?_eq_some_iff.mp h
    rw [← hv]
    simp
  have nz : z ∉ l.take j := by
    have q : (l.take (j + 1)).Nodup := nd.sublist (List.take_sublist _ _)
    rw [e] at q
    exact fun k => (List.nodup_append.mp q).2.2 z k z (by simp) rfl
  unfold one
  rw [e, if_neg nz]
  by_cases hy : y = z
  · subst hy
    simp
  · rw [if_neg hy]
    simp [List.mem_append, hy]
/-- behind i pulls -/
def mix (x : Int) (rs : List (List Int)) (i : Nat) : List (List Int) := (rs.take i).map (pull1 x) ++ rs.drop i
theorem mix_zero (x : Int) (rs : List (List Int)) : mix x rs 0 = rs := rfl
theorem mix_all (x : Int) (rs : List (List Int)) : mix x rs rs.length = pull x rs := by
  unfold mix
  rw [List.take_length, List.drop_length, List.append_nil]
  rfl
theorem mix_at {x : Int} {rs : List (List Int)} {i : Nat} {r : List Int} (h : rs[i]? = some r) :
    mix x rs i = (rs.take i).map (pull1 x) ++ r :: rs.drop (i + 1) ∧ mix x rs (i + 1) = (rs.take i).map (pull1 x) ++ pull1 x r :: rs.drop (i + 1) := by
  obtain ⟨hlt, hv⟩ := List.getElem?_eq_some_iff.mp h
  have e1 : rs.drop i = r :: rs.drop (i + 1) := by rw [List.drop_eq_getElem_cons hlt, hv]
  have e2 : rs.take (i + 1) = rs.take i ++ [r] := by rw [← hv]; simp
  unfold mix
  rw [e1, e2]
  refine ⟨rfl, ?_⟩
  rw [List.map_append, List.append_assoc]
  rfl
theorem mix_none {x : Int} {rs : List (List Int)} {i : Nat} {r : List Int} (h : rs[i]? = some r) (n : r.head? ≠ some x) : mix x rs (i + 1) = mix x rs i := by
  obtain ⟨e1, e2⟩ := mix_at (x := x) h
  have q : pull1 x r = r := by unfold pull1; rw [if_neg n]
  rw [e1, e2, q]
theorem mix_nil {x : Int} {rs : List (List Int)} {i : Nat} (h : rs[i]? = some [x]) (y : Int) : cnt (mix x rs (i + 1)) y = cnt (mix x rs i) y := by
  obtain ⟨e1, e2⟩ := mix_at (x := x) h
  have q : pull1 x [x] = [] := by unfold pull1; simp
  rw [e1, e2, q, cnt_append, cnt_append]
  show _ + cnt ([[]] ++ rs.drop (i + 1)) y = _ + cnt ([[x]] ++ rs.drop (i + 1)) y
  rw [cnt_append, cnt_append, cnt_one, cnt_one]
  rfl
theorem mix_cons {x h' : Int} {t : List Int} {rs : List (List Int)} {i : Nat} (h : rs[i]? = some (x :: h' :: t)) (nd : (x :: h' :: t).Nodup) (y : Int) :
    (cnt (mix x rs (i + 1)) y : Int) = if y = h' then (cnt (mix x rs i) h' : Int) - 1 else cnt (mix x rs i) y := by
  obtain ⟨e1, e2⟩ := mix_at (x := x) h
  have q : pull1 x (x :: h' :: t) = h' :: t := by unfold pull1; simp
  have nt : h' ∉ t := (List.nodup_cons.mp (List.nodup_cons.mp nd).2).1
  have key : ∀ z, cnt (mix x rs i) z = cnt ((rs.take i).map (pull1 x)) z + (one (h' :: t) z + cnt (rs.drop (i + 1)) z) := fun z => by
    rw [e1, cnt_append]
    show _ + cnt ([x :: h' :: t] ++ rs.drop (i + 1)) z = _
    rw [cnt_append, cnt_one]
    rfl
  have key2 : cnt (mix x rs (i + 1)) y = cnt ((rs.take i).map (pull1 x)) y + (one t y + cnt (rs.drop (i + 1)) y) := by
    rw [e2, q, cnt_append]
    show _ + cnt ([h' :: t] ++ rs.drop (i + 1)) y = _
    rw [cnt_append, cnt_one]
    rfl
  rw [key2]
  by_cases hy : y = h'
  · subst hy
    rw [if_pos rfl, key]
    have a : one t y = 0 := by unfold one; rw [if_neg nt]
    have b : one (y :: t) y = 1 := by unfold one; rw [if_pos (by simp)]
    rw [a, b]
    omega
  · rw [if_neg hy, key]
    have a : one (h' :: t) y = one t y := by unfold one; simp [hy]
    rw [a]
theorem mix_mem {x : Int} {rs : List (List Int)} {i : Nat} {r : List Int} (h : r ∈ mix x rs i) : ∃ r0 ∈ rs, ∀ y ∈ r, y ∈ r0 := by
  unfold mix at h
  rcases List.mem_append.mp h with k | k
  · obtain ⟨r0, h0, e⟩ := List.mem_map.mp k
    exact ⟨r0, List.mem_of_mem_take h0, fun y hy => pull1_sub (by rw [e]; exact hy)⟩
  · exact ⟨r, List.mem_of_mem_drop k, fun y hy => hy⟩
/-- the first free item, list by list -/
theorem heads_append (a b : List (List Int)) : heads (a ++ b) = heads a ++ heads b := by
  unfold heads
  rw [List.filterMap_append]
end Mg

set_option autoImplicit true
set_option Elab.async false
set_option linter.all false
set_option maxRecDepth 100000
set_option maxHeartbeats 4000000
namespace Pr
open PySem L2 Two
/-! ### dict comprehensions over lists -/
theorem outer_list {K : PySem.W.Frag} {a : Addr} {xs : List V} {g : TG} {wi1 : TI} {g1 : TG} {tk tv : TE} {vs vs1 : List Nat} {D : Addr} {σ : L2.St} {Qd : Hp → Prop} {G : Hp} (Pv : Nat → Hp → Prop) (h0 : Pv 0 G)
    (hl : ∀ i H, i ≤ xs.length → Pv i H → SqL K H a xs)
    (hs : ∀ i x H, xs[i]? = some x → Pv i H → g x (wipe σ vs) H fun σ2 H2 => wipe σ2 vs = wipe σ vs ∧ wi1 σ2 H2 fun J1 H3 => inner J1 g1 tk tv vs1 D σ2 (Pv (i + 1)) H3)
    (hd : ∀ H, Pv xs.length H → Qd H) : outer (Itl K a) g wi1 g1 tk tv vs vs1 D σ Qd G := by
  refine ⟨fun i m H => m = xs.length - i ∧ i ≤ xs.length ∧ Pv i H, ⟨xs.length, by simp, Nat.zero_le _, h0⟩, ?_⟩
  rintro i m H ⟨rfl, hi, p⟩
  have q := hl i H hi p
  by_cases lt : i < xs.length
  · refine .inr ⟨⟨xs, xs[i], q, by simp [lt]⟩, Pv (i + 1), fun H2 p2 => ⟨xs.length - (i + 1), by omega, rfl, lt, p2⟩, fun x H2 y => ?_⟩
    obtain ⟨e, y⟩ := y
    subst e
    exact hs i x _ (y xs q) p
  · have e : i = xs.length := by omega
    subst e
    exact .inl ⟨⟨xs, q, Nat.le_refl _⟩, hd H p⟩
theorem inner_list {K : PySem.W.Frag} {a : Addr} {xs : List V} {g1 : TG} {tk tv : TE} {vs1 : List Nat} {D : Addr} {σ2 : L2.St} {Nx : Hp → Prop} {G : Hp} (Pv : Nat → Hp → Prop) (h0 : Pv 0 G)
    (hl : ∀ i H, i ≤ xs.length → Pv i H → SqL K H a xs)
    (hs : ∀ j x H, xs[j]? = some x → Pv j H → g1 x (wipe σ2 vs1) H fun σ3 H3 => wipe σ3 vs1 = wipe σ2 vs1 ∧ tk σ3 H3 fun y H4 => tv σ3 H4 fun z H5 => ∃ kvs k0, y = kV k0 ∧ H5 D = some (.dK kvs) ∧ kvs.length < sizeLine ∧ Pv (j + 1) (upd H5 D (.dK (putK kvs k0 z))))
    (hd : ∀ H, Pv xs.length H → Nx H) : inner (Itl K a) g1 tk tv vs1 D σ2 Nx G := by
  refine ⟨fun i m H => m = xs.length - i ∧ i ≤ xs.length ∧ Pv i H, ⟨xs.length, by simp, Nat.zero_le _, h0⟩, ?_⟩
  rintro i m H ⟨rfl, hi, p⟩
  have q := hl i H hi p
  by_cases lt : i < xs.length
  · refine .inr ⟨⟨xs, xs[i], q, by simp [lt]⟩, Pv (i + 1), fun H2 p2 => ⟨xs.length - (i + 1), by omega, rfl, lt, p2⟩, fun x H2 y => ?_⟩
    obtain ⟨e, y⟩ := y
    subst e
    exact hs i x _ (y xs q) p
  · have e : i = xs.length := by omega
    subst e
    exact .inl ⟨⟨xs, q, Nat.le_refl _⟩, hd H p⟩
theorem cut_tail (xs : List V) : cutV xs (some 1) none = xs.tail := by
  unfold cutV
  have e : HT.sIx xs.length 0 (some 1) = min 1 xs.length := HT.sIx_nat xs.length 0 1
  rw [e, HT.sIx_none]
  cases xs with
  | nil => rfl
  | cons x xs =>
    have e2 : min 1 (x :: xs).length = 1 := by simp
    rw [e2]
    show xs.take ((x :: xs).length - 1) = xs
    simp

/-- a list of lists of ints, at the addresses beside them -/
def LofL (K : PySem.W.Frag) (H : Hp) (a : Addr) (ps : List (Addr × List Int)) : Prop := SqL K H a (ps.map fun p => V.ref p.1) ∧ ∀ p ∈ ps, SqL K H p.1 (p.2.map V.int)
abbrev lsOf (ps : List (Addr × List Int)) : List (List Int) := ps.map (·.2)
abbrev refsOf (ps : List (Addr × List Int)) : List V := ps.map fun p => V.ref p.1
theorem LofL.keep {K : PySem.W.Frag} {H H' : Hp} {a : Addr} {ps : List (Addr × List Int)} (h : LofL K H a ps) (s : Same H H') : LofL K H' a ps := ⟨s.seq h.1, fun p hp => s.seq (h.2 p hp)⟩
/-- as many as merge takes, nothing twice -/
structure Fit (ps : List (Addr × List Int)) : Prop where
  few : ps.length ≤ 30
  short : ∀ p ∈ ps, p.2.length ≤ 30
  nd : ∀ p ∈ ps, p.2.Nodup

/-- len, where the reading is to be said -/
def rLenQ (K : PySem.W.Frag) : List V → Hp → VK → Prop := fun xs H Q => ∃ p ys, xs = [V.ref p] ∧ (SqL K H p ys ∨ SqT K H p ys) ∧ Q (.int ys.length) H
theorem call_lenQ {X : Cx} : CallR X (.builtin "len") (rLenQ X.K) := call_len_seq
def rGt : R2 := rI0 fun i j => .bl (decide (j < i))
section
variable {P : Program} {w : World} {K : PySem.W.Frag} {mg : Str → Option Value} {base : Heap}
/-! ### _check_lists -/
def spCheck (K : PySem.W.Frag) : Sp := fun vs H Q _ => ∃ (a : Addr) (ps : List (Addr × List Int)), vs = [.ref a] ∧ LofL K H a ps ∧ Fit ps ∧ ∀ H', Same H H' → Q .non H'
theorem scCheck : FnScope ["lists", "items"] ["lists"] (defScope sCheck) := ⟨rfl, rfl, rfl, by decide +kernel, rfl, by decide +kernel, by decide +kernel⟩
theorem any_id : ∀ l : List V, (l.map fun _ => false).any id = false
  | [] => rfl
  | _ :: l => any_id l
theorem all_false (f : V → V) : ∀ l : List V, (∀ x ∈ l, f x = .bl false) → l.map f = (l.map fun _ => false).map V.bl
  | [], _ => rfl
  | x :: l, h => by
    simp only [List.map_cons]
    rw [h x List.mem_cons_self, all_false f l fun y hy => h y (List.mem_cons_of_mem _ hy)]
theorem ok_check {f fL fU : Addr} {fd fdL fdU : FuncData} (F : Fun K "_check_lists" "_check_lists" sCheck f fd) (T : Txt mg)
    (gL : mg "_is_list_of_ints" = some (.ref fL)) (kL : PySem.W.keepIn K (.ref fL) = true) (bL : Binds K fdL ["items"] []) (GL : FnOk P w K mg base CX0 2 fL fdL ["items"] (spIsList K))
    (gU : mg "check_unlike" = some (.ref fU)) (kU : PySem.W.keepIn K (.ref fU) = true) (bU : Binds K fdU ["things"] []) (GU : FnOk P w K mg base CX0 1 fU fdU ["things"] (spUnlike K)) :
    FnOk P w K mg base CX0 3 f fd ["lists"] (spCheck K) := by
  refine F.ok scCheck (fun vs H Q E h => ?_) (fun cdv A outer s H vs Q E hr h => ?_)
  · obtain ⟨a, ps, rfl, _⟩ := h
    rfl
  · obtain ⟨a, ps, rfl, hL, fit, k⟩ := h
    obtain ⟨tm, hm⟩ := T.most
    refine ⟨_, pss_cons (ps_if (PW.pt (pw_or (pt_not (pt_val (pe_callB call_isi (by rfl) T.isinstance (by decide +kernel) (pa_cons (pv 0) (pa_cons (pe_bltn (v := .ty "list") (by rfl) T.list (by decide +kernel) rfl) pa_nil)))))
        (pw_or1 (pt_not (pt_val (pe_callB (cr_all rfl) (by rfl) T.all (by decide +kernel) (pa_cons (pe_lc (own := [("items", 1)]) (g := gName 1) (tt := tYes) rfl scCheck.nd (pi_list (pv 0)) (blkOk_by (N := ["lists", "items"]) (sc := defScope sCheck) (by decide +kernel))
          (fun _ _ _ _ _ => pg_name (i := 1) scCheck.nd rfl (Or.inl rfl)) (fun _ _ _ _ _ => pts_nil) (fun _ _ _ _ _ => pe_call GL hr rfl gL kL bL .nil pass0 (pa_cons (pv 1) pa_nil))) pa_nil))))))) pss_never pss_nil)
      (pss_cons (ps_if (PW.pt (pw_or (pt_cmpR op_gt (pe_callB call_len_seq (by rfl) T.len PySem.boot_len (pa_cons (pv 0) pa_nil)) (pe_glob (v := .int 30) rfl hm ⟨_, rfl⟩) (nomark _))
        (pw_or1 (pt_val (pe_callB (cr_any rfl) (by rfl) T.any (by decide +kernel) (pa_cons (pe_lc (own := [("items", 1)]) (g := gName 1) (tt := tYes) (te := tOp rGt (tCB (rLenQ K) (tCons (tVar 1) tNil)) (tC (.int 30))) rfl scCheck.nd (pi_list (pv 0)) (blkOk_by (N := ["lists", "items"]) (sc := defScope sCheck) (by decide +kernel))
          (fun _ _ _ _ _ => pg_name (i := 1) scCheck.nd rfl (Or.inl rfl)) (fun _ _ _ _ _ => pts_nil) (fun _ _ _ _ _ => pe_cmpR op_gt (pe_callB call_lenQ (by rfl) T.len PySem.boot_len (pa_cons (pv 1) pa_nil)) (pe_glob (v := .int 30) rfl hm ⟨_, rfl⟩) (nomark _))) pa_nil)))))) pss_never pss_nil)
      (pss_one (ps_for PassesOwn.never rfl (pi_list (pv 0)) (pg_name (i := 1) scCheck.nd rfl (Or.inl rfl)) (pss_one (ps_expr (pe_call GU (hr.mono (by decide)) rfl gU kU bU .nil pass0 (pa_cons (pv 1) pa_nil))))))), ?_⟩
    have sz : (ps.map fun p => V.ref p.1).length ≤ sizeLine := by rw [List.length_map]; exact Nat.le_of_lt (small1000 (Nat.le_trans fit.few (by decide)))
    refine ⟨_, rfl, _, .ty "list", .type "list", .type "list", true, rfl, .ty _, tyx_list hL.1, kit_ty (by decide +kernel), true, rfl, ?_⟩
    refine iteF ?_
    refine ⟨_, rfl, a, rfl, ⟨_, hL.1⟩, fun D hD => lc_pure (K := K) (xs := refsOf ps) 1 (fun _ => .bl true) hL.1 sz hD (fun _ => rfl) (fun j x H1 Q1 hx s1 q1 => ?_) fun H1 s1 h1 => ?_⟩
    · obtain ⟨p, hp, rfl⟩ := get_map hx
      have mp := List.mem_of_getElem? hp
      exact ⟨_, rfl, p.1, p.2, rfl, s1.seq (hL.2 p mp), Nat.le_trans (fit.short p mp) (by decide), fun H' s' => q1 H' s'⟩
    refine ⟨D, _, rfl, SqL.of (by rw [h1, all_true _ _ fun _ _ => rfl]), ?_⟩
    rw [all_id]
    refine ⟨true, rfl, iteF ?_⟩
    have hL1 := hL.keep s1
    refine ⟨_, rfl, a, _, rfl, .inl hL1.1, _, _, rfl, rfl, _, rfl, ?_⟩
    have c1 : decide ((30 : Int) < ((ps.map fun p => V.ref p.1).length : Nat)) = false := decide_eq_false (by rw [List.length_map]; have := fit.few; omega)
    rw [c1]
    refine iteF ?_
    refine ⟨_, rfl, a, rfl, ⟨_, hL1.1⟩, fun D2 hD2 => lc_pure (K := K) (xs := refsOf ps) 1 (fun _ => .bl false) hL1.1 sz hD2 (fun _ => rfl) (fun j x H2 Q1 hx s2 q1 => ?_) fun H2 s2 h2 => ?_⟩
    · obtain ⟨p, hp, rfl⟩ := get_map hx
      have mp := List.mem_of_getElem? hp
      refine ⟨_, rfl, p.1, _, rfl, .inl (s2.seq (hL1.2 p mp)), _, _, rfl, rfl, ?_⟩
      have c2 : decide ((30 : Int) < ((p.2.map V.int).length : Nat)) = false := decide_eq_false (by rw [List.length_map]; have := fit.short p mp; omega)
      show Q1 (.bl (decide ((30 : Int) < ((p.2.map V.int).length : Nat)))) H2
      rw [c2]
      exact q1 _ (Same.refl _)
    refine ⟨D2, _, rfl, SqL.of (by rw [h2, all_false _ _ fun _ _ => rfl]), ?_⟩
    rw [any_id]
    refine ⟨false, rfl, iteF ?_⟩
    have hL2 := hL1.keep s2
    refine ⟨_, rfl, a, rfl, ⟨_, hL2.1⟩, for_list (K := K) (a := a) (xs := refsOf ps) (fun i σ H' => ∃ v : Option V, σ = [some (.ref a), v] ∧ Same H H')
      ⟨_, rfl, s1.trans s2⟩ (fun i σ H' _ ⟨_, _, s3⟩ => s3.seq hL.1) ?_ ?_⟩
    · rintro i y σ H' hi ⟨v, rfl, s3⟩
      obtain ⟨p, hp, rfl⟩ := get_map hi
      have mp := List.mem_of_getElem? hp
      exact ⟨_, rfl, p.1, p.2, rfl, s3.seq (hL.2 p mp), fit.nd p mp, Nat.le_trans (fit.short p mp) (by decide), fun H4 s4 => ⟨_, rfl, s3.trans s4⟩⟩
    · rintro σ H' ⟨v, rfl, s3⟩
      exact k _ s3
end
end Pr

set_option autoImplicit true
set_option Elab.async false
set_option linter.all false
set_option maxRecDepth 100000
set_option maxHeartbeats 4000000
namespace Pr
open PySem L2 Two
theorem putK_len {kvs : List (Key × V)} {k : Key} {v y : V} (h : valV kvs k = some v) : (putK kvs k y).length = kvs.length := by
  unfold putK
  rw [valV_any, h]
  simp
/-- the dict that counts: of each item that is left, f of it -/
def Cts (kvs : List (Key × V)) (inn : Int → Prop) (f : Int → Int) : Prop := ∀ y, inn y → valV kvs (.inl y) = some (.int (f y))
def inL (rs : List (List Int)) (y : Int) : Prop := ∃ r ∈ rs, y ∈ r
theorem Cts.put {kvs : List (Key × V)} {inn inn' : Int → Prop} {f f' : Int → Int} {z : Int} {c : Int} (h : Cts kvs inn f) (sub : ∀ y, inn' y → y ≠ z → inn y) (hz : f' z = c) (he : ∀ y, inn' y → y ≠ z → f' y = f y) :
    Cts (putK kvs (.inl z) (.int c)) inn' f' := fun y hy => by
  rw [valV_put]
  by_cases e : y = z
  · subst e
    rw [if_pos rfl, hz]
  · rw [if_neg (fun q => e (Sum.inl.inj q)), h y (sub y hy e), he y hy e]
theorem Cts.imp {kvs : List (Key × V)} {inn inn' : Int → Prop} {f f' : Int → Int} (h : Cts kvs inn f) (sub : ∀ y, inn' y → inn y) (he : ∀ y, inn' y → f' y = f y) : Cts kvs inn' f' := fun y hy => by
  rw [h y (sub y hy), he y hy]
theorem inL_at {ps : List (Addr × List Int)} {p : Addr × List Int} {y : Int} (hp : p ∈ ps) (hy : y ∈ p.2) : inL (lsOf ps) y := ⟨p.2, List.mem_map.mpr ⟨p, hp, rfl⟩, hy⟩
theorem lsOf_at {ps : List (Addr × List Int)} {i : Nat} {p : Addr × List Int} (h : ps[i]? = some p) : (lsOf ps)[i]? = some p.2 := by
  rw [List.getElem?_map, h]
  rfl
section
variable {P : Program} {w : World} {K : PySem.W.Frag} {mg : Str → Option Value} {base : Heap}
/-! ### _times_behind -/
def spTimes (K : PySem.W.Frag) : Sp := fun vs H Q _ => ∃ (a : Addr) (ps : List (Addr × List Int)), vs = [.ref a] ∧ LofL K H a ps ∧ Fit ps ∧
  ∀ (H' : Hp) (B : Addr) (kvs : List (Key × V)), Same H H' → H B = none → H' B = some (.dK kvs) → kvs.length ≤ 900 → Cts kvs (inL (lsOf ps)) (fun y => Mg.cnt (lsOf ps) y) → Q (.ref B) H'
theorem scTimes : FnScope ["lists", "items", "item", "behind"] ["lists"] (defScope sTimes) := ⟨rfl, rfl, rfl, by decide +kernel, rfl, by decide +kernel, by decide +kernel⟩
theorem ok_times {f : Addr} {fd : FuncData} (F : Fun K "_times_behind" "_times_behind" sTimes f fd) (T : Txt mg) : FnOk P w K mg base CX0 1 f fd ["lists"] (spTimes K) := by
  refine F.ok scTimes (fun vs H Q E h => ?_) (fun cdv A outer s H vs Q E hr h => ?_)
  · obtain ⟨a, ps, rfl, _⟩ := h
    rfl
  · obtain ⟨a, ps, rfl, hL, fit, k⟩ := h
    have hu := hu_of hr
    refine ⟨_, pss_cons (ps_setDc2 (i := 3) (own := [("items", 1), ("item", 2)]) (vs1 := [2]) (wi1 := iList K (tVar 1)) (g := gName 1) (g1 := gName 2) (tk := tVar 2) (tv := tC (.int 0)) rfl scTimes.nd rfl rfl (swD rfl rfl rfl (by decide +kernel)) (pi_list (pv 0))
        (blkOk_by (N := ["lists", "items", "item", "behind"]) (sc := defScope sTimes) (by decide +kernel)) (by decide)
        (fun _ _ _ _ _ => pg_name (i := 1) scTimes.nd rfl (Or.inl rfl)) (fun _ _ _ _ _ => pi_list (pv 1)) (fun _ _ _ _ _ => pg_name (i := 2) scTimes.nd rfl (Or.inl rfl)) (fun _ _ _ _ _ => pv 2) (fun _ _ _ _ _ => pe_int))
      (pss_cons (ps_for PassesOwn.never rfl (pi_list (pv 0)) (pg_name (i := 1) scTimes.nd rfl (Or.inl rfl))
        (pss_one (ps_for PassesOwn.never rfl (pi_list (pe_slice sl_list (pv 1) (po_some pe_int) po_none)) (pg_name (i := 2) scTimes.nd rfl (Or.inl rfl))
          (pss_one (ps_daug hu (pv 3) (pv 2) pe_int in_add (fun _ _ _ => rfl))))))
      (pss_one (ps_ret (pv 3)))), ?_⟩
    refine ⟨_, rfl, a, rfl, ⟨_, hL.1⟩, fun B hB => ?_⟩
    refine outer_list (K := K) (xs := refsOf ps) (fun i G => Same H G ∧ ∃ kvs, G B = some (.dK kvs) ∧ kvs.length ≤ 30 * i ∧ Cts kvs (inL ((lsOf ps).take i)) (fun _ => 0))
      ⟨same_new hB, [], upd_same, Nat.le_refl _, fun y hy => by obtain ⟨r, hr, _⟩ := hy; cases hr⟩ (fun i G _ p => p.1.seq hL.1) (fun i x G hx p => ?_) (fun G p => ?_)
    · obtain ⟨q, hq, rfl⟩ := get_map hx
      obtain ⟨s1, kvs, hG, hk, hc⟩ := p
      have mq := List.mem_of_getElem? hq
      have short := fit.short q mq
      have few : i < 30 := by
        have := (List.getElem?_eq_some_iff.mp hq).1
        have := fit.few
        omega
      refine ⟨rfl, _, rfl, q.1, rfl, ⟨_, s1.seq (hL.2 q mq)⟩, ?_⟩
      refine inner_list (K := K) (xs := q.2.map V.int) (fun j G => Same H G ∧ ∃ kvs, G B = some (.dK kvs) ∧ kvs.length ≤ 30 * i + j ∧ Cts kvs (fun y => inL ((lsOf ps).take i) y ∨ y ∈ q.2.take j) (fun _ => 0))
        ⟨s1, kvs, hG, by omega, hc.imp (fun y hy => hy.elim id fun k => (nomatch k)) fun _ _ => rfl⟩ (fun j G _ p => p.1.seq (hL.2 q mq)) (fun j x G hx p => ?_) (fun G p => ?_)
      · obtain ⟨z, hz, rfl⟩ := get_map hx
        obtain ⟨s2, kvs, hG, hk, hc⟩ := p
        have hj := (List.getElem?_eq_some_iff.mp hz).1
        refine ⟨rfl, _, rfl, kvs, Sum.inl z, rfl, hG, small1000 (by omega), same_upd s2 hB, _, upd_same, ?_, ?_⟩
        · have := length_putK kvs (Sum.inl z) (V.int 0)
          omega
        · refine hc.put (fun y hy ne => hy.imp id fun k => ?_) rfl (fun _ _ _ => rfl)
          rw [take_snoc hz] at k
          rcases List.mem_append.mp k with k | k
          · exact k
          · exact absurd (List.mem_singleton.mp k) ne
      · obtain ⟨s2, kvs, hG, hk, hc⟩ := p
        rw [List.length_map] at hk hc
        refine ⟨s2, kvs, hG, by omega, hc.imp (fun y hy => ?_) fun _ _ => rfl⟩
        obtain ⟨r, hr, hy⟩ := hy
        rw [take_snoc (lsOf_at hq)] at hr
        rcases List.mem_append.mp hr with m | m
        · exact .inl ⟨r, m, hy⟩
        · rw [List.mem_singleton.mp m] at hy
          exact .inr (by rw [List.take_length]; exact hy)
    · obtain ⟨s1, kvs, hG, hk, hc⟩ := p
      rw [List.length_map] at hk hc
      have few := fit.few
      have hc : Cts kvs (inL (lsOf ps)) (fun _ => 0) := hc.imp (fun y hy => by
        have e : (lsOf ps).take ps.length = lsOf ps := List.take_of_length_le (by rw [List.length_map]; exact Nat.le_refl _)
        rw [e]
        exact hy) fun _ _ => rfl
      show tSeq _ _ _ ([some (.ref a), none, none, none].set 3 (some (.ref B))) G
      refine ⟨_, rfl, a, rfl, ⟨_, s1.seq hL.1⟩, for_list (K := K) (a := a) (xs := refsOf ps) (fun i σ G => ∃ (v1 v2 : Option V) (kvs : List (Key × V)), σ = [some (.ref a), v1, v2, some (.ref B)] ∧ Same H G ∧ G B = some (.dK kvs) ∧ kvs.length ≤ 900 ∧
          Cts kvs (inL (lsOf ps)) (fun y => Mg.cnt ((lsOf ps).take i) y))
        ⟨none, none, kvs, rfl, s1, hG, by omega, hc⟩ (fun i σ G _ ⟨_, _, _, _, s2, _⟩ => s2.seq hL.1) ?_ ?_⟩
      · rintro i x σ G2 hx ⟨v1, v2, kvs, rfl, s2, hG2, hk2, hc2⟩
        obtain ⟨q, hq, rfl⟩ := get_map hx
        have mq := List.mem_of_getElem? hq
        refine ⟨_, rfl, _, rfl, q.1, _, rfl, s2.seq (hL.2 q mq), fun L hLn => ?_⟩
        rw [cut_tail, ← List.map_tail]
        have ndt : q.2.tail.Nodup := (fit.nd q mq).sublist (List.tail_sublist _)
        refine ⟨L, rfl, ⟨_, SqL.of upd_same⟩, for_list (K := K) (a := L) (xs := q.2.tail.map V.int) (fun j σ G => ∃ (v2 : Option V) (kvs : List (Key × V)), σ = [some (.ref a), some (.ref q.1), v2, some (.ref B)] ∧ Same H G ∧ G L = some (.lst (q.2.tail.map V.int)) ∧ G B = some (.dK kvs) ∧ kvs.length ≤ 900 ∧
            Cts kvs (inL (lsOf ps)) (fun y => (Mg.cnt ((lsOf ps).take i) y : Int) + Mg.one (q.2.tail.take j) y))
          ⟨v2, kvs, rfl, same_upd s2 (none_of_same s2 hLn), upd_same, by rw [upd_ne (ne_of_none hG2 hLn)]; exact hG2, hk2, hc2.imp (fun _ h => h) fun y _ => by simp [Mg.one]⟩
          (fun j σ G _ ⟨_, _, _, _, h, _⟩ => SqL.of h) ?_ ?_⟩
        · rintro j x σ G3 hx ⟨v2, kvs, rfl, s3, hL3, hB3, hk3, hc3⟩
          obtain ⟨z, hz, rfl⟩ := get_map hx
          have zin : inL (lsOf ps) z := inL_at mq (List.mem_of_mem_tail (List.mem_of_getElem? hz))
          have hv := hc3 z zin
          refine ⟨_, rfl, _, rfl, B, _, rfl, by rw [← hv]; exact DGet.k (k := Sum.inl z) hB3, _, _, rfl, rfl, _, DPut.k (k := Sum.inl z) hB3 (small1000 (by omega)), ?_⟩
          refine ⟨_, _, rfl, same_upd s3 hB, by rw [upd_ne (ne_of hL3 hB3 (by intro e; cases e))]; exact hL3, upd_same, by rw [putK_len hv]; exact hk3, ?_⟩
          refine hc3.put (fun y hy _ => hy) ?_ (fun y _ ne => ?_)
          · show (Mg.cnt ((lsOf ps).take i) z : Int) + Mg.one (q.2.tail.take (j + 1)) z = (Mg.cnt ((lsOf ps).take i) z : Int) + Mg.one (q.2.tail.take j) z + 1
            rw [Mg.one_take_succ ndt hz, if_pos rfl]
            omega
          · show (Mg.cnt ((lsOf ps).take i) y : Int) + Mg.one (q.2.tail.take (j + 1)) y = _
            rw [Mg.one_take_succ ndt hz, if_neg ne]
        · rintro σ G3 ⟨v2, kvs, rfl, s3, hL3, hB3, hk3, hc3⟩
          rw [List.length_map] at hc3
          refine ⟨_, _, kvs, rfl, s3, hB3, hk3, hc3.imp (fun _ h => h) fun y _ => ?_⟩
          show (Mg.cnt ((lsOf ps).take (i + 1)) y : Int) = _
          rw [take_snoc (lsOf_at hq), Mg.cnt_append, Mg.cnt_one, List.take_length]
          omega
      · rintro σ G2 ⟨v1, v2, kvs, rfl, s2, hG2, hk2, hc2⟩
        refine ⟨_, rfl, k G2 B kvs s2 hB hG2 hk2 ?_⟩
        rw [List.length_map] at hc2
        have e : (lsOf ps).take ps.length = lsOf ps := List.take_of_length_le (by rw [List.length_map]; exact Nat.le_refl _)
        rw [e] at hc2
        exact hc2
end
end Pr

set_option autoImplicit true
set_option Elab.async false
set_option linter.all false
set_option maxRecDepth 100000
set_option maxHeartbeats 4000000
namespace Pr
open PySem L2 Two
section
variable {P : Program} {w : World} {K : PySem.W.Frag} {mg : Str → Option Value} {base : Heap}
theorem at0 (z : Int) (t : List Int) : atI ((z :: t).map V.int) 0 = some (.int z) := atI_nat (xs := (z :: t).map V.int) (j := 0) rfl
theorem seq0 (z : Int) (t : List Int) : seqIndex? 0 ((z :: t).map V.int).length = some 0 := by
  unfold seqIndex?
  simp
/-! ### _first_free -/
def freeV : Option Int → V
  | some x => .int x
  | none => .non
def spFree (K : PySem.W.Frag) : Sp := fun vs H Q _ => ∃ (R B : Addr) (ps : List (Addr × List Int)) (kvs : List (Key × V)), vs = [.ref R, .ref B] ∧ LofL K H R ps ∧ H B = some (.dK kvs) ∧
  Cts kvs (inL (lsOf ps)) (fun y => Mg.cnt (lsOf ps) y) ∧ Q (freeV (Mg.firstFree (lsOf ps))) H
theorem scFree : FnScope ["rests", "behind", "rest"] ["rests", "behind"] (defScope sFree) := ⟨rfl, rfl, rfl, by decide +kernel, rfl, by decide +kernel, by decide +kernel⟩
theorem heads_snoc_nil {rs : List (List Int)} : Mg.heads (rs ++ [[]]) = Mg.heads rs := by
  rw [Mg.heads_append]
  exact List.append_nil _
theorem heads_snoc {rs : List (List Int)} {z : Int} {t : List Int} : Mg.heads (rs ++ [z :: t]) = Mg.heads rs ++ [z] := Mg.heads_append _ _
theorem find_split {rs : List (List Int)} {i : Nat} {c : Int → Bool} (h : (Mg.heads (rs.take i)).find? c = none) {z : Int} {t : List Int} (hz : rs[i]? = some (z :: t)) (hc : c z = true) : (Mg.heads rs).find? c = some z := by
  obtain ⟨hlt, hv⟩ := List.getElem?_eq_some_iff.mp hz
  have e : rs = rs.take i ++ (z :: t) :: rs.drop (i + 1) := by
    conv => lhs; rw [← List.take_append_drop i rs, List.drop_eq_getElem_cons hlt, hv]
  rw [e, Mg.heads_append, List.find?_append, h]
  show (Mg.heads ([z :: t] ++ rs.drop (i + 1))).find? c = some z
  rw [Mg.heads_append]
  show (z :: Mg.heads (rs.drop (i + 1))).find? c = some z
  rw [List.find?_cons_of_pos hc]
theorem ok_free {f : Addr} {fd : FuncData} (F : Fun K "_first_free" "_first_free" sFree f fd) (T : Txt mg) : FnOk P w K mg base CX0 1 f fd ["rests", "behind"] (spFree K) := by
  refine F.ok scFree (fun vs H Q E h => ?_) (fun cdv A outer s H vs Q E hr h => ?_)
  · obtain ⟨R, B, ps, kvs, rfl, _⟩ := h
    rfl
  · obtain ⟨R, B, ps, kvs, rfl, hL, hB, hc, k⟩ := h
    have hu := hu_of hr
    refine ⟨_, pss_cons (ps_for PassesOwn.never rfl (pi_list (pv 0)) (pg_name (i := 2) scFree.nd rfl (Or.inl rfl))
        (pss_one (ps_if (PW.pt (pw_and (pt_truth (pv 2) (by intro _; rfl)) (pw_and1 (pt_cmpR op_eq (pe_dget hu (pv 1) (pe_ix ix_list (pv 2) pe_int (fun _ _ => rfl)) (fun _ _ => rfl)) pe_int (nomark _)))))
          (pss_one (ps_ret (pe_ix ix_list (pv 2) pe_int (fun _ _ => rfl)))) pss_nil)))
      (pss_one (ps_ret pe_non)), ?_⟩
    refine ⟨_, rfl, R, rfl, ⟨_, hL.1⟩, for_list (K := K) (a := R) (xs := refsOf ps) (fun i σ G => G = H ∧ ∃ v : Option V, σ = [some (.ref R), some (.ref B), v] ∧ (Mg.heads ((lsOf ps).take i)).find? (Mg.clear (lsOf ps)) = none)
      ⟨rfl, none, rfl, rfl⟩ (fun i σ G _ p => by rw [p.1]; exact hL.1) ?_ ?_⟩
    · rintro i x σ G hx ⟨rfl, v, rfl, hf⟩
      obtain ⟨q, hq, rfl⟩ := get_map hx
      have mq := List.mem_of_getElem? hq
      have hS := hL.2 q mq
      have hl := lsOf_at hq
      rcases hqv : q.2 with _ | ⟨z, t⟩
      · rw [hqv] at hS hl
        refine ⟨_, rfl, false, .inl ⟨_, hS, rfl⟩, iteF (iteF ⟨rfl, _, rfl, ?_⟩)⟩
        rw [take_snoc hl, heads_snoc_nil]
        exact hf
      · rw [hqv] at hS hl
        have hv := hc z (inL_at mq (by rw [hqv]; exact List.mem_cons_self))
        refine ⟨_, rfl, true, .inl ⟨_, hS, rfl⟩, iteT ?_⟩
        refine ⟨_, rfl, _, rfl, q.1, _, 0, .int z, rfl, rfl, hS, at0 _ _, B, _, rfl, by rw [← hv]; exact DGet.k (k := Sum.inl z) hB, rfl, _, rfl, ?_⟩
        have e : decide (V.int (Mg.cnt (lsOf ps) z : Int) = V.int 0) = Mg.clear (lsOf ps) z := by
          rw [Mg.clear_dec]
          by_cases h0 : (Mg.cnt (lsOf ps) z : Int) = 0
          · rw [h0]
            rfl
          · rw [decide_eq_false h0, decide_eq_false fun e => h0 (V.int.inj e)]
        rw [e]
        cases hcl : Mg.clear (lsOf ps) z with
        | false =>
          refine iteF ⟨rfl, _, rfl, ?_⟩
          rw [take_snoc hl, heads_snoc, List.find?_append, hf]
          show [z].find? (Mg.clear (lsOf ps)) = none
          rw [List.find?_cons_of_neg (by rw [hcl]; decide)]
          rfl
        | true =>
          refine iteT ⟨_, rfl, q.1, _, 0, .int z, rfl, rfl, hS, at0 _ _, ?_⟩
          have ff : Mg.firstFree (lsOf ps) = some z := find_split hf hl hcl
          rw [ff] at k
          exact k
    · rintro σ G ⟨rfl, v, rfl, hf⟩
      have ff : Mg.firstFree (lsOf ps) = none := by
        have e : (lsOf ps).take (refsOf ps).length = lsOf ps := List.take_of_length_le (by rw [List.length_map, List.length_map]; exact Nat.le_refl _)
        rw [e] at hf
        exact hf
      rw [ff] at k
      exact k

/-! ### _take -/
/-- the rests: a list of lists of its own -/
structure Own (H : Hp) (R : Addr) (ps : List (Addr × List Int)) : Prop where
  at_ : H R = some (.lst (refsOf ps))
  each : ∀ p ∈ ps, H p.1 = some (.lst (p.2.map V.int))
  nd : (ps.map (·.1)).Nodup
theorem Own.lofl {K : PySem.W.Frag} {H : Hp} {R : Addr} {ps : List (Addr × List Int)} (o : Own H R ps) : LofL K H R ps := ⟨SqL.of o.at_, fun p hp => SqL.of (o.each p hp)⟩
theorem refs_ints {ps : List (Addr × List Int)} {p : Addr × List Int} (hp : p ∈ ps) : refsOf ps ≠ p.2.map V.int := by
  intro e
  cases ps with
  | nil => cases hp
  | cons q qs =>
    cases h : p.2 with
    | nil =>
      rw [h] at e
      cases e
    | cons z t =>
      rw [h] at e
      cases e
theorem Own.ne {H : Hp} {R : Addr} {ps : List (Addr × List Int)} (o : Own H R ps) {p : Addr × List Int} (hp : p ∈ ps) : p.1 ≠ R :=
  (ne_of o.at_ (o.each p hp) (fun e => refs_ints hp (HO.lst.inj e))).symm
/-- a list of pairs with one more item taken -/
def taken (x : Int) (ps : List (Addr × List Int)) : List (Addr × List Int) := ps.map fun p => (p.1, Mg.pull1 x p.2)
theorem taken_ls (x : Int) (ps : List (Addr × List Int)) : lsOf (taken x ps) = Mg.pull x (lsOf ps) := by
  unfold taken Mg.pull lsOf
  rw [List.map_map, List.map_map]
  rfl
theorem taken_refs (x : Int) (ps : List (Addr × List Int)) : refsOf (taken x ps) = refsOf ps := by
  unfold taken refsOf
  rw [List.map_map]
  rfl
theorem taken_fst (x : Int) (ps : List (Addr × List Int)) : (taken x ps).map (·.1) = ps.map (·.1) := by
  unfold taken
  rw [List.map_map]
  rfl
/-- nothing but these addresses has changed -/
def But (S : Addr → Prop) (H H' : Hp) : Prop := ∀ b o, ¬ S b → H b = some o → H' b = some o
def spTake : Sp := fun vs H Q _ => ∃ (x : Int) (R B : Addr) (ps : List (Addr × List Int)) (kvs : List (Key × V)), vs = [.int x, .ref R, .ref B] ∧ Own H R ps ∧ H B = some (.dK kvs) ∧ kvs.length ≤ 900 ∧
  Cts kvs (inL (lsOf ps)) (fun y => Mg.cnt (lsOf ps) y) ∧ (∀ p ∈ ps, p.2.Nodup ∧ p.2.length ≤ 30) ∧
  ∀ (H' : Hp) (kvs' : List (Key × V)), But (fun b => b = B ∨ b ∈ ps.map (·.1)) H H' → Own H' R (taken x ps) → H' B = some (.dK kvs') → kvs'.length ≤ 900 →
    Cts kvs' (inL (Mg.pull x (lsOf ps))) (fun y => Mg.cnt (Mg.pull x (lsOf ps)) y) → Q .non H'
theorem scTake : FnScope ["item", "rests", "behind", "rest"] ["item", "rests", "behind"] (defScope sTake) := ⟨rfl, rfl, rfl, by decide +kernel, rfl, by decide +kernel, by decide +kernel⟩
theorem nodup_fst {ps : List (Addr × List Int)} (nd : (ps.map (·.1)).Nodup) {i j : Nat} {p q : Addr × List Int} (hp : ps[i]? = some p) (hq : ps[j]? = some q) (e : p.1 = q.1) : i = j := by
  induction ps generalizing i j with
  | nil => simp at hp
  | cons a l ih =>
    have nd := List.nodup_cons.mp nd
    match i, j with
    | 0, 0 => rfl
    | 0, j + 1 =>
      have h1 : a = p := Option.some.inj hp
      have h2 : l[j]? = some q := hq
      exact absurd (List.mem_map.mpr ⟨q, List.mem_of_getElem? h2, by rw [← e, ← h1]⟩) nd.1
    | i + 1, 0 =>
      have h1 : a = q := Option.some.inj hq
      have h2 : l[i]? = some p := hp
      exact absurd (List.mem_map.mpr ⟨p, List.mem_of_getElem? h2, by rw [e, ← h1]⟩) nd.1
    | i + 1, j + 1 => exact congrArg (· + 1) (ih nd.2 (show l[i]? = some p from hp) (show l[j]? = some q from hq))
/-- what stands behind i turns -/
structure TakeI (H G : Hp) (x : Int) (R B : Addr) (ps : List (Addr × List Int)) (kvs : List (Key × V)) (i : Nat) : Prop where
  but : But (fun b => b = B ∨ b ∈ ps.map (·.1)) H G
  at_ : G R = some (.lst (refsOf ps))
  old : ∀ (k : Nat) (p : Addr × List Int), ps[k]? = some p → i ≤ k → G p.1 = some (.lst (p.2.map V.int))
  new : ∀ (k : Nat) (p : Addr × List Int), ps[k]? = some p → k < i → G p.1 = some (.lst ((Mg.pull1 x p.2).map V.int))
  dic : G B = some (.dK kvs)
  len : kvs.length ≤ 900
  cts : Cts kvs (inL (Mg.mix x (lsOf ps) i)) (fun y => Mg.cnt (Mg.mix x (lsOf ps) i) y)
theorem ok_take {f : Addr} {fd : FuncData} (F : Fun K "_take" "_take" sTake f fd) (T : Txt mg) : FnOk P w K mg base CX0 1 f fd ["item", "rests", "behind"] spTake := by
  refine F.ok scTake (fun vs H Q E h => ?_) (fun cdv A outer s H vs Q E hr h => ?_)
  · obtain ⟨x, R, B, ps, kvs, rfl, _⟩ := h
    rfl
  · obtain ⟨x, R, B, ps, kvs, rfl, own, hB, hlen, hc, small, k⟩ := h
    have hu := hu_of hr
    have BR : B ≠ R := ne_of hB own.at_ (by intro e; cases e)
    have Bp : ∀ p ∈ ps, B ≠ p.1 := fun p hp => ne_of hB (own.each p hp) (by intro e; cases e)
    refine ⟨_, pss_one (ps_for PassesOwn.never rfl (pi_list (pv 1)) (pg_name (i := 3) scTake.nd rfl (Or.inl rfl))
        (pss_one (ps_if (PW.pt (pw_and (pt_truth (pv 3) (by intro _; rfl)) (pw_and1 (pt_cmpR op_eq (pe_ix ix_list (pv 3) pe_int (fun _ _ => rfl)) (pv 0) (nomark _)))))
          (pss_cons (ps_delL (pv 3) pe_int) (pss_one (ps_if (pt_truth (pv 3) (by intro _; rfl)) (pss_one (ps_daug hu (pv 2) (pe_ix ix_list (pv 3) pe_int (fun _ _ => rfl)) pe_int in_sub (fun _ _ _ => rfl))) pss_nil))) pss_nil))), ?_⟩
    refine ⟨_, rfl, R, rfl, ⟨_, SqL.of own.at_⟩, for_list (K := K) (a := R) (xs := refsOf ps) (fun i σ G => ∃ (v : Option V) (kvs : List (Key × V)), σ = [some (.int x), some (.ref R), some (.ref B), v] ∧ TakeI H G x R B ps kvs i)
      ⟨none, kvs, rfl, ⟨fun b o _ e => e, own.at_, fun k p hp _ => own.each p (List.mem_of_getElem? hp), fun k p hp h => (Nat.not_lt_zero _ h).elim, hB, hlen, by rw [Mg.mix_zero]; exact hc⟩⟩
      (fun i σ G _ ⟨_, _, _, t⟩ => SqL.of t.at_) ?_ ?_⟩
    · rintro i y σ G hy ⟨v, kvs, rfl, t⟩
      obtain ⟨q, hq, rfl⟩ := get_map hy
      have mq := List.mem_of_getElem? hq
      have hS := t.old i q hq (Nat.le_refl _)
      have hl := lsOf_at hq
      obtain ⟨ndq, szq⟩ := small q mq
      -- a turn that changes nothing
      have idle : Mg.pull1 x q.2 = q.2 → Mg.mix x (lsOf ps) (i + 1) = Mg.mix x (lsOf ps) i → TakeI H G x R B ps kvs (i + 1) := fun e1 e2 =>
        ⟨t.but, t.at_, fun k p hp h => t.old k p hp (by omega), fun k p hp h => by
          by_cases e : k = i
          · subst e
            rw [hq] at hp
            cases hp
            rw [e1]
            exact hS
          · exact t.new k p hp (by omega), t.dic, t.len, by rw [e2]; exact t.cts⟩
      rcases hqv : q.2 with _ | ⟨z, r⟩
      · rw [hqv] at hS hl
        refine ⟨_, rfl, false, .inl ⟨_, SqL.of hS, rfl⟩, iteF (iteF ⟨_, kvs, rfl, idle (by rw [hqv]; rfl) (Mg.mix_none hl (fun e => nomatch e))⟩)⟩
      · rw [hqv] at hS hl
        refine ⟨_, rfl, true, .inl ⟨_, SqL.of hS, rfl⟩, iteT ?_⟩
        refine ⟨_, rfl, q.1, _, 0, .int z, rfl, rfl, SqL.of hS, at0 _ _, _, rfl, rfl, _, rfl, ?_⟩
        by_cases hzx : z = x
        · subst hzx
          rw [decide_eq_true rfl]
          refine iteT ?_
          refine ⟨_, rfl, q.1, _, 0, 0, rfl, rfl, hS, by decide, by decide, seq0 _ _, ?_⟩
          have pz : Mg.pull1 z (z :: r) = r := by unfold Mg.pull1; simp
          have hS2 : upd G q.1 (.lst (((z :: r).map V.int).eraseIdx 0)) q.1 = some (.lst (r.map V.int)) := upd_same
          -- what stands when the list is shorter
          have short : ∀ kvs2 : List (Key × V), ∀ G2 : Hp, (∀ b, b ≠ B → b ≠ q.1 → G2 b = G b) → G2 q.1 = some (.lst (r.map V.int)) → G2 B = some (.dK kvs2) → kvs2.length ≤ 900 → Cts kvs2 (inL (Mg.mix z (lsOf ps) (i + 1))) (fun y => Mg.cnt (Mg.mix z (lsOf ps) (i + 1)) y) →
              TakeI H G2 z R B ps kvs2 (i + 1) := fun kvs2 G2 same hq2 hB2 hl2 hc2 => by
            have other : ∀ (k : Nat) (p : Addr × List Int), ps[k]? = some p → k ≠ i → G2 p.1 = G p.1 := fun k p hp ne =>
              same p.1 (fun e => Bp p (List.mem_of_getElem? hp) e.symm) (fun e => ne (nodup_fst own.nd hp hq e))
            refine ⟨fun b o hb e => ?_, by rw [same R BR.symm (own.ne mq).symm]; exact t.at_, fun k p hp h => by rw [other k p hp (by omega)]; exact t.old k p hp (by omega), fun k p hp h => ?_, hB2, hl2, hc2⟩
            · rw [same b (fun e => hb (.inl e)) (fun e => hb (.inr (by rw [e]; exact List.mem_map.mpr ⟨q, mq, rfl⟩)))]
              exact t.but b o hb e
            · by_cases e : k = i
              · subst e
                rw [hq] at hp
                cases hp
                rw [hqv, pz]
                exact hq2
              · rw [other k p hp e]
                exact t.new k p hp (by omega)
          cases r with
          | nil =>
            refine ⟨_, rfl, false, .inl ⟨_, SqL.of hS2, rfl⟩, iteF ⟨_, kvs, rfl, short kvs _ (fun b h1 h2 => upd_ne h2) hS2 (by rw [upd_ne (Bp q mq)]; exact t.dic) t.len ?_⟩⟩
            refine t.cts.imp (fun y hy => ?_) fun y _ => by rw [Mg.mix_nil hl]
            obtain ⟨r1, hr1, hy⟩ := hy
            obtain ⟨e1, e2⟩ := Mg.mix_at (x := z) hl
            rw [e2] at hr1
            refine ⟨r1, ?_, hy⟩
            rw [e1]
            rcases List.mem_append.mp hr1 with m | m
            · exact List.mem_append_left _ m
            · rcases List.mem_cons.mp m with m | m
              · rw [m, pz] at hy
                cases hy
              · exact List.mem_append_right _ (List.mem_cons_of_mem _ m)
          | cons h' r' =>
            obtain ⟨e1, e2⟩ := Mg.mix_at (x := z) hl
            have inh : inL (Mg.mix z (lsOf ps) i) h' := ⟨z :: h' :: r', by rw [e1]; simp, by simp⟩
            have hv := t.cts h' inh
            have hBu : upd G q.1 (.lst (((z :: h' :: r').map V.int).eraseIdx 0)) B = some (.dK kvs) := by rw [upd_ne (Bp q mq)]; exact t.dic
            refine ⟨_, rfl, true, .inl ⟨_, SqL.of hS2, rfl⟩, iteT ?_⟩
            refine ⟨_, rfl, _, rfl, q.1, _, 0, .int h', rfl, rfl, SqL.of hS2, at0 _ _, B, _, rfl, by rw [← hv]; exact DGet.k (k := Sum.inl h') hBu, _, _, rfl, rfl, _, DPut.k (k := Sum.inl h') hBu (small1000 (by have := t.len; omega)), ?_⟩
            refine ⟨_, _, rfl, short _ _ (fun b h1 h2 => by rw [upd_ne h1, upd_ne h2]) (by rw [upd_ne (Bp q mq).symm]; exact hS2) upd_same (by rw [putK_len hv]; exact t.len) ?_⟩
            rw [hqv] at ndq
            refine t.cts.put (fun y hy ne => ?_) ?_ (fun y _ ne => ?_)
            · obtain ⟨r1, hr1, hy⟩ := hy
              rw [e2] at hr1
              rcases List.mem_append.mp hr1 with m | m
              · exact ⟨r1, by rw [e1]; exact List.mem_append_left _ m, hy⟩
              · rcases List.mem_cons.mp m with m | m
                · rw [m, pz] at hy
                  exact ⟨z :: h' :: r', by rw [e1]; simp, List.mem_cons_of_mem _ hy⟩
                · exact ⟨r1, by rw [e1]; exact List.mem_append_right _ (List.mem_cons_of_mem _ m), hy⟩
            · show (Mg.cnt (Mg.mix z (lsOf ps) (i + 1)) h' : Int) = _
              rw [Mg.mix_cons hl ndq, if_pos rfl]
            · show (Mg.cnt (Mg.mix z (lsOf ps) (i + 1)) y : Int) = _
              rw [Mg.mix_cons hl ndq, if_neg ne]
        · rw [decide_eq_false fun e => hzx (V.int.inj e)]
          have nh : (z :: r).head? ≠ some x := fun e => hzx (Option.some.inj e)
          exact iteF ⟨_, kvs, rfl, idle (by rw [hqv]; unfold Mg.pull1; rw [if_neg nh]) (Mg.mix_none hl nh)⟩
    · rintro σ G ⟨v, kvs, rfl, t⟩
      have e : (refsOf ps).length = (lsOf ps).length := by rw [List.length_map, List.length_map]
      have tc := t.cts
      rw [e, Mg.mix_all] at tc
      refine k G kvs t.but ⟨by rw [taken_refs]; exact t.at_, fun p hp => ?_, by rw [taken_fst]; exact own.nd⟩ t.dic t.len tc
      obtain ⟨q, hq, e2⟩ := List.mem_map.mp (show p ∈ ps.map _ from hp)
      subst e2
      obtain ⟨n, hn⟩ := List.getElem?_of_mem hq
      exact t.new n q hn (by have := (List.getElem?_eq_some_iff.mp hn).1; rw [List.length_map]; exact this)
end
end Pr

set_option autoImplicit true
set_option autoImplicit false
namespace Mg
/-! ### the way that is gone -/
def hasIt (rs : List (List Int)) (x : Int) (i : Nat) : Bool := ((rs[i]?).getD []).tail.contains x
/-- the first rest in which x stands behind, and its first item -/
def nxt (rs : List (List Int)) (x : Int) : Int × Nat :=
  ((rs[((List.range rs.length).filter (hasIt rs x)).headD 0]?.getD []).headD 0, ((List.range rs.length).filter (hasIt rs x)).headD 0)
def wayOf (rs : List (List Int)) (x0 : Int) : Nat → List (Int × Nat)
  | 0 => []
  | m + 1 => wayOf rs x0 m ++ [nxt rs (((x0 :: (wayOf rs x0 m).map (·.1))[m]?).getD 0)]
theorem wayOf_len (rs : List (List Int)) (x0 : Int) : ∀ m, (wayOf rs x0 m).length = m
  | 0 => rfl
  | m + 1 => by
    show (wayOf rs x0 m ++ [_]).length = m + 1
    rw [List.length_append, wayOf_len rs x0 m]
    rfl
theorem wayOf_take (rs : List (List Int)) (x0 : Int) (m : Nat) : ∀ k, (wayOf rs x0 (m + k)).take m = wayOf rs x0 m
  | 0 => List.take_of_length_le (by rw [Nat.add_zero, wayOf_len]; exact Nat.le_refl _)
  | k + 1 => by
    show (wayOf rs x0 (m + k) ++ [_]).take m = _
    rw [List.take_append_of_le_length (by rw [wayOf_len]; omega)]
    exact wayOf_take rs x0 m k
abbrev xsW (rs : List (List Int)) (x0 : Int) (m : Nat) : List Int := x0 :: (wayOf rs x0 m).map (·.1)
theorem xsW_at (rs : List (List Int)) (x0 : Int) {m j : Nat} (h : j ≤ m) (k : Nat) : (xsW rs x0 (m + k))[j]? = (xsW rs x0 m)[j]? := by
  cases j with
  | zero => rfl
  | succ j =>
    show ((wayOf rs x0 (m + k)).map (·.1))[j]? = ((wayOf rs x0 m).map (·.1))[j]?
    rw [← wayOf_take rs x0 m k, List.map_take, List.getElem?_take_of_lt (by omega)]
/-- the ring that is found -/
def RingDet (rs : List (List Int)) (ring : List (Int × Nat)) : Prop := ∃ (x0 : Int) (m p : Nat), (heads rs).head? = some x0 ∧ ((xsW rs x0 m).take m).Nodup ∧ p < m ∧ (xsW rs x0 m)[p]? = (xsW rs x0 m)[m]? ∧ ring = ((wayOf rs x0 m).drop p).reverse
theorem nodup_get {l : List Int} {i j : Nat} {y : Int} (nd : l.Nodup) (hi : l[i]? = some y) (hj : l[j]? = some y) : i = j := by
  obtain ⟨l1, e1⟩ := List.getElem?_eq_some_iff.mp hi
  obtain ⟨l2, e2⟩ := List.getElem?_eq_some_iff.mp hj
  exact nodup_at nd l1 l2 (e1.trans e2.symm)
theorem ring_lt {rs : List (List Int)} {x0 : Int} {m k p : Nat} (nd : ((xsW rs x0 (m + (k + 1))).take (m + (k + 1))).Nodup) (hp : p < m) (hx : (xsW rs x0 m)[p]? = (xsW rs x0 m)[m]?) : False := by
  have lenm : (xsW rs x0 m).length = m + 1 := by simp [wayOf_len]
  obtain ⟨y, hy⟩ : ∃ y, (xsW rs x0 m)[m]? = some y := ⟨_, List.getElem?_eq_getElem (by omega)⟩
  have a : ((xsW rs x0 (m + (k + 1))).take (m + (k + 1)))[p]? = some y := by
    rw [List.getElem?_take_of_lt (by omega), xsW_at rs x0 (by omega), hx]; exact hy
  have b : ((xsW rs x0 (m + (k + 1))).take (m + (k + 1)))[m]? = some y := by
    rw [List.getElem?_take_of_lt (by omega), xsW_at rs x0 (by omega)]; exact hy
  have := nodup_get nd a b
  omega
theorem RingDet.unique {rs : List (List Int)} {r1 r2 : List (Int × Nat)} (h1 : RingDet rs r1) (h2 : RingDet rs r2) : r1 = r2 := by
  obtain ⟨x, m, p, a1, a2, a3, a4, a5⟩ := h1
  obtain ⟨x', m', p', b1, b2, b3, b4, b5⟩ := h2
  rw [a1] at b1
  cases b1
  have em : m = m' := by
    rcases Nat.lt_trichotomy m m' with h | h | h
    · obtain ⟨k, rfl⟩ := Nat.exists_eq_add_of_lt h
      exact (ring_lt (k := k) (by exact b2) a3 a4).elim
    · exact h
    · obtain ⟨k, rfl⟩ := Nat.exists_eq_add_of_lt h
      exact (ring_lt (k := k) (by exact a2) b3 b4).elim
  subst em
  have lenm : (xsW rs x m).length = m + 1 := by simp [wayOf_len]
  obtain ⟨y, hy⟩ : ∃ y, (xsW rs x m)[m]? = some y := ⟨_, List.getElem?_eq_getElem (by omega)⟩
  have ep : p = p' := nodup_get a2 (y := y) (by rw [List.getElem?_take_of_lt a3, a4]; exact hy) (by rw [List.getElem?_take_of_lt b3, b4]; exact hy)
  subst ep
  rw [a5, b5]
end Mg

set_option autoImplicit true
set_option Elab.async false
set_option linter.all false
set_option maxRecDepth 100000
set_option maxHeartbeats 4000000
namespace Pr
open PySem L2 Two
def tTru (K : PySem.W.Frag) (ta : TE) : TT := fun σ H Q => ta σ H fun x H' => ∃ k, TruV K x H' k ∧ Q k H'
theorem pt_tru {X : Cx} {a : Expr} {ta : TE} (ha : PE X a ta) (he : ∀ whole, isTrue a X.env whole = (do let v ← whole; standAt a.pos; holding [v] (truthy v)) := by intro _; rfl) : PT X a (tTru X.K ta) := pt_truth ha he
theorem inV_ints (x : Int) : ∀ l : List Int, inV (.int x) (l.map V.int) = l.contains x
  | [] => rfl
  | y :: l => by
    have ih := inV_ints x l
    unfold inV at ih ⊢
    rw [List.map_cons, List.any_cons, ih, List.contains_cons]
    congr 1
    show (y == x) = (x == y)
    exact Bool.beq_comm
theorem flat_ints : ∀ l : List Int, (l.map V.int).all flatV = true
  | [] => rfl
  | _ :: l => flat_ints l
theorem nodup_len : ∀ {l m : List Int}, l.Nodup → (∀ x ∈ l, x ∈ m) → l.length ≤ m.length
  | [], _, _, _ => Nat.zero_le _
  | a :: l, m, nd, h => by
    have nd := List.nodup_cons.mp nd
    have ha := h a List.mem_cons_self
    have q := nodup_len (l := l) (m := m.erase a) nd.2 fun x hx => (List.mem_erase_of_ne (fun e : x = a => nd.1 (by rw [← e]; exact hx))).mpr (h x (List.mem_cons_of_mem _ hx))
    have e := List.length_erase_of_mem ha
    have := List.length_pos_of_mem ha
    simp only [List.length_cons]
    omega
theorem heads_len (rs : List (List Int)) : (Mg.heads rs).length ≤ rs.length := List.length_filterMap_le _ _
def hasB (rs : List (List Int)) (x : Int) (i : Nat) : Bool := ((rs[i]?).getD []).tail.contains x
theorem range_snoc (j : Nat) : List.range (j + 1) = List.range j ++ [j] := List.range_succ
theorem cut_drop (xs : List V) (p : Nat) (h : p ≤ xs.length) : cutV xs (some (p : Int)) none = xs.drop p := by
  unfold cutV
  rw [HT.sIx_nat, HT.sIx_none, Nat.min_eq_left h]
  exact List.take_of_length_le (by rw [List.length_drop]; exact Nat.le_refl _)

/-- tuples (item, index) at the addresses beside them -/
def TupsAt (H : Hp) (us : List (Addr × Int × Nat)) : Prop := ∀ u ∈ us, H u.1 = some (.tup [.int u.2.1, .int (u.2.2 : Nat)])
abbrev tupRefs (us : List (Addr × Int × Nat)) : List V := us.map fun u => V.ref u.1
abbrev xsOf (x0 : Int) (us : List (Addr × Int × Nat)) : List Int := x0 :: (us.map (·.2)).map (·.1)
structure RingI (H0 H : Hp) (Wy Pl : Addr) (rs : List (List Int)) (x0 : Int) (us : List (Addr × Int × Nat)) (kvs : List (Key × V)) (cur : Int) : Prop where
  same : Same H0 H
  wy : H Wy = some (.lst (tupRefs us))
  tup : TupsAt H us
  pl : H Pl = some (.dK kvs)
  len : kvs.length = us.length
  way : Mg.Way rs x0 (us.map (·.2))
  cur : (xsOf x0 us)[us.length]? = some cur
  keys : ∀ (k : Nat) (y : Int), k < us.length → (xsOf x0 us)[k]? = some y → valV kvs (.inl y) = some (.int k)
  no : ∀ y, (∀ k, k < us.length → (xsOf x0 us)[k]? ≠ some y) → valV kvs (.inl y) = none
  nd : ((xsOf x0 us).take us.length).Nodup
  mem : ∀ y ∈ xsOf x0 us, y ∈ Mg.heads rs
  det : us.map (·.2) = Mg.wayOf rs x0 us.length
theorem RingI.few {H0 H : Hp} {Wy Pl : Addr} {rs : List (List Int)} {x0 cur : Int} {us : List (Addr × Int × Nat)} {kvs : List (Key × V)} (r : RingI H0 H Wy Pl rs x0 us kvs cur) : us.length ≤ rs.length := by
  have a := nodup_len r.nd fun y hy => r.mem y (List.mem_of_mem_take hy)
  have b := heads_len rs
  rw [List.length_take] at a
  simp only [List.length_cons, List.length_map] at a
  omega
def spRingOf (K : PySem.W.Frag) : Sp := fun vs H Q _ => ∃ (R : Addr) (ps : List (Addr × List Int)), vs = [.ref R] ∧ LofL K H R ps ∧ ps.length ≤ 30 ∧ (∀ p ∈ ps, p.2.Nodup) ∧ Mg.firstFree (lsOf ps) = none ∧ (∃ r ∈ lsOf ps, r ≠ []) ∧
  ∀ (H' : Hp) (q : Addr) (us : List (Addr × Int × Nat)) (x0 : Int) (way : List (Int × Nat)) (p : Nat), Same H H' → H q = none → H' q = some (.lst (tupRefs us)) → TupsAt H' us → Mg.Way (lsOf ps) x0 way → ((x0 :: way.map (·.1)).take way.length).Nodup → p < way.length →
    (x0 :: way.map (·.1))[p]? = (x0 :: way.map (·.1))[way.length]? → us.map (·.2) = (way.drop p).reverse → us.length ≤ 30 → Mg.RingDet (lsOf ps) (us.map (·.2)) → Q (.ref q) H'
section
variable {P : Program} {w : World} {K : PySem.W.Frag} {mg : Str → Option Value} {base : Heap}
theorem scRingOf : FnScope ["rests", "way", "places", "item", "index", "rest", "at"] ["rests"] (defScope sRingOf) := ⟨rfl, rfl, rfl, by decide +kernel, rfl, by decide +kernel, by decide +kernel⟩
def tHeadOf (K : PySem.W.Frag) : TE := tOp (rIxL K) (tVar 5) (tC (.int 0))
def tHasIt (K : PySem.W.Frag) : TT := tTest (tOp (rIn K false) (tVar 3) (tSl (rSlL K) (tVar 5) (tPart (tC (.int 1))) tNoPart))
theorem ok_ringOf {f : Addr} {fd : FuncData} (F : Fun K "_ring_of" "_ring_of" sRingOf f fd) (T : Txt mg) : FnOk P w K mg base CX0 1 f fd ["rests"] (spRingOf K) := by
  refine F.ok scRingOf (fun vs H Q E h => ?_) (fun cdv A outer s H vs Q E hr h => ?_)
  · obtain ⟨R, ps, rfl, _⟩ := h
    rfl
  · obtain ⟨R, ps, rfl, hL, few, nds, stuck, ⟨r1, hr1, ne1⟩, k⟩ := h
    have hu := hu_of hr
    have szR : (refsOf ps).length ≤ 30 := by rw [List.length_map]; exact few
    refine ⟨_, pss_cons (ps_set (i := 1) scRingOf.nd rfl (Or.inl rfl) (pe_lst pa_nil)) (pss_cons (ps_set (i := 2) scRingOf.nd rfl (Or.inl rfl) pe_dnewK)
      (pss_cons (ps_set (i := 3) scRingOf.nd rfl (Or.inr rfl) (pe_ix ix_list (pe_lc (own := [("rest", 5)]) (g := gName 5) (tt := tTru K (tVar 5)) (te := tHeadOf K) rfl scRingOf.nd (pi_list (pv 0)) (blkOk_by (N := ["rests", "way", "places", "item", "index", "rest", "at"]) (sc := defScope sRingOf) (by decide +kernel))
          (fun _ _ _ _ _ => pg_name (i := 5) scRingOf.nd rfl (Or.inl rfl)) (fun _ _ _ _ _ => pts_one (pt_tru (pv 5))) (fun _ _ _ _ _ => pe_ix ix_list (pv 5) pe_int (fun _ _ => rfl))) pe_int (fun _ _ => rfl)))
      (pss_cons (ps_while PassesOwn.never (pt_cmp (pc_dnotin hu (pv 3) (pv 2)))
        (pss_cons (ps_dput hu (pv 2) (pv 3) (pe_callB call_len_seq (by rfl) T.len PySem.boot_len (pa_cons (pv 1) pa_nil)) rfl)
        (pss_cons (ps_set (i := 4) scRingOf.nd rfl (Or.inl rfl) (pe_ix ix_list (pe_lc (own := [("at", 6), ("rest", 5)]) (g := gTup K 2 (gCons (gName 6) (gCons (gName 5) gNil))) (tt := tHasIt K) (te := tVar 6) rfl scRingOf.nd (pi_enum (by rfl) T.enum (pa_cons (pv 0) pa_nil)) (blkOk_by (N := ["rests", "way", "places", "item", "index", "rest", "at"]) (sc := defScope sRingOf) (by decide +kernel))
            (fun _ _ _ _ _ => pg_tup rfl (pgs_cons (pg_name (i := 6) scRingOf.nd rfl (Or.inl rfl)) (pgs_cons (pg_name (i := 5) scRingOf.nd rfl (Or.inl rfl)) pgs_nil))) (fun _ _ _ _ _ => pts_one (pt_cmpR op_in_seq (pv 3) (pe_slice sl_list (pv 5) (po_some pe_int) po_none) (by rfl))) (fun _ _ _ _ _ => pv 6)) pe_int (fun _ _ => rfl)))
        (pss_cons (ps_set (i := 3) scRingOf.nd rfl (Or.inr rfl) (pe_ix ix_list (pe_ix ix_list (pv 0) (pv 4) (fun _ _ => rfl)) pe_int (fun _ _ => rfl)))
        (pss_one (ps_expr (pe_bm PySem.F.plainAttrs_list PySem.F.slot_list_append PySem.F.type_list_append mt_append (pv 1) (pa_cons (pe_tup (pa_cons (pv 3) (pa_cons (pv 4) pa_nil))) pa_nil))))))))
      (pss_one (ps_ret (pe_revL (pe_slice sl_list (pv 1) (po_some (pe_dget hu (pv 2) (pv 3) (fun _ _ => rfl))) po_none))))))), ?_⟩
    refine ⟨Nat.zero_le _, fun Wy nWy => fun Pl nPl0 => ?_⟩
    have nPl : H Pl = none := none_of_same (same_new nWy) nPl0
    have WP : Wy ≠ Pl := fun e => by rw [← e, upd_same] at nPl0; cases nPl0
    have s0 : Same H (upd (upd H Wy (.lst [])) Pl (.dK [])) := same_upd (same_new nWy) nPl
    refine ⟨_, rfl, R, rfl, ⟨_, s0.seq hL.1⟩, fun D1 hD1 => lc_list (K := K) (a := R) (xs := refsOf ps) (fun j G => Same (upd (upd H Wy (.lst [])) Pl (.dK [])) G ∧ G D1 = some (.lst ((Mg.heads ((lsOf ps).take j)).map V.int)))
      ⟨same_new hD1, upd_same⟩ (fun j G _ p => (s0.trans p.1).seq hL.1) (fun j x G hx p => ?_) (fun G p => ?_)⟩
    · obtain ⟨q, hq, rfl⟩ := get_map hx
      have mq := List.mem_of_getElem? hq
      have hS := (s0.trans p.1).seq (hL.2 q mq)
      have hl := lsOf_at hq
      refine ⟨rfl, ?_⟩
      rcases hqv : q.2 with _ | ⟨z, t⟩
      · rw [hqv] at hS hl
        refine ⟨_, rfl, false, .inl ⟨_, hS, rfl⟩, iteF ⟨p.1, ?_⟩⟩
        rw [take_snoc hl, heads_snoc_nil]
        exact p.2
      · rw [hqv] at hS hl
        refine ⟨_, rfl, true, .inl ⟨_, hS, rfl⟩, iteT ⟨_, rfl, q.1, _, 0, .int z, rfl, rfl, hS, at0 _ _, _, p.2, ?_, same_upd p.1 hD1, ?_⟩⟩
        · have a1 := heads_len ((lsOf ps).take j)
          rw [List.length_map]
          refine small1000 ?_
          rw [List.length_take, List.length_map] at a1
          omega
        · rw [upd_same, take_snoc hl, heads_snoc, List.map_append]
          rfl
    · obtain ⟨s1, hD⟩ := p
      have e : (lsOf ps).take (refsOf ps).length = lsOf ps := List.take_of_length_le (by rw [List.length_map, List.length_map]; exact Nat.le_refl _)
      rw [e] at hD
      obtain ⟨x0, xt, hx0⟩ : ∃ x0 xt, Mg.heads (lsOf ps) = x0 :: xt := by
        cases hh : Mg.heads (lsOf ps) with
        | cons x0 xt => exact ⟨x0, xt, rfl⟩
        | nil =>
          exfalso
          cases r1 with
          | nil => exact ne1 rfl
          | cons z t =>
            have q : z ∈ Mg.heads (lsOf ps) := Mg.mem_heads.mpr ⟨z :: t, hr1, rfl⟩
            rw [hh] at q
            cases q
      have hD2 := hD
      rw [hx0] at hD2
      refine ⟨D1, _, 0, .int x0, rfl, rfl, SqL.of hD2, at0 _ _, ?_⟩
      have start : RingI H G Wy Pl (lsOf ps) x0 [] [] x0 := ⟨s0.trans s1, s1 _ _ (by rw [upd_ne WP]; exact upd_same), (fun u hu => nomatch hu), s1 _ _ upd_same, rfl, Mg.Way.nil, rfl, (fun k y h => nomatch h), fun y _ => rfl, List.nodup_nil, fun y hy => by
        rw [List.mem_singleton.mp hy, hx0]
        exact List.mem_cons_self, rfl⟩
      show tSeq _ _ _ ([some (.ref R), some (.ref Wy), some (.ref Pl), none, none, none, none].set 3 (some (.int x0))) G
      refine while_by (fun σ G => ∃ (v4 : Option V) (us : List (Addr × Int × Nat)) (kvs : List (Key × V)) (cur : Int), σ = [some (.ref R), some (.ref Wy), some (.ref Pl), some (.int cur), v4, none, none] ∧ RingI H G Wy Pl (lsOf ps) x0 us kvs cur)
        (fun σ G => match G Pl with | some (.dK kvs) => 31 - kvs.length | _ => 0) ⟨none, [], [], x0, rfl, start⟩ ?_ ?_
      · rintro σ G ⟨v4, us, kvs, cur, rfl, I⟩
        have fewU : us.length ≤ 30 := by have := I.few; rw [List.length_map] at this; omega
        refine ⟨_, rfl, _, rfl, Pl, _, rfl, DGet.k (k := Sum.inl cur) I.pl, _, rfl, ?_⟩
        cases hv : valV kvs (Sum.inl cur) with
        | some v =>
          refine iteF ?_
          -- the end
          obtain ⟨p, hp, hpx⟩ : ∃ p, p < us.length ∧ (xsOf x0 us)[p]? = some cur := Decidable.byContradiction fun n => by
            rw [I.no cur fun k hk e => n ⟨k, hk, e⟩] at hv
            cases hv
          have hv2 := I.keys p cur hp hpx
          have dg : DGet G Pl (.int cur) (some (.int (p : Nat))) := by rw [← hv2]; exact DGet.k (k := Sum.inl cur) I.pl
          refine ⟨_, rfl, _, rfl, _, rfl, Pl, .int (p : Nat), rfl, dg, (p : Nat), rfl, Wy, _, rfl, SqL.of I.wy, fun L hL2 => ?_⟩
          rw [cut_drop _ _ (by rw [List.length_map]; omega)]
          refine ⟨L, _, rfl, SqL.of upd_same, fun q hq => ?_⟩
          have sL : Same G (upd (upd G L (.lst ((tupRefs us).drop p))) q (.lst ((tupRefs us).drop p).reverse)) := same_upd (same_new hL2) (none_of_same (same_new hL2) hq)
          refine k _ q (us.drop p).reverse x0 (us.map (·.2)) p (I.same.trans sL) (none_of_same (I.same.trans (same_new hL2)) hq) ?_ (fun u hu => sL _ _ (I.tup u (List.mem_of_mem_drop (List.mem_reverse.mp hu)))) I.way ?_ (by rw [List.length_map]; exact hp) ?_ ?_ ?_ ?_
          · unfold tupRefs; rw [upd_same, List.map_reverse, List.map_drop]
          · rw [List.length_map]; exact I.nd
          · rw [List.length_map, I.cur]; exact hpx
          · rw [List.map_reverse, List.map_drop]
          · rw [List.length_reverse, List.length_drop]; omega
          · have e := I.det
            refine ⟨x0, us.length, p, by rw [hx0]; rfl, ?_, hp, ?_, ?_⟩
            · unfold Mg.xsW; rw [← e]; exact I.nd
            · unfold Mg.xsW; rw [← e]; exact hpx.trans I.cur.symm
            · rw [← e, List.map_reverse, List.map_drop]
        | none =>
          refine iteT ?_
          have curIn : cur ∈ Mg.heads (lsOf ps) := I.mem cur (List.mem_of_getElem? I.cur)
          have szU : (tupRefs us).length = us.length := by rw [List.length_map]
          refine ⟨_, rfl, Wy, _, rfl, .inl (SqL.of I.wy), _, rfl, _, rfl, Pl, _, rfl, DPut.k (k := Sum.inl cur) I.pl (small1000 (by rw [I.len]; omega)), ?_⟩
          rw [szU]
          obtain ⟨kvs2, hkv⟩ : ∃ z, z = putK kvs (Sum.inl cur) (.int (us.length : Nat)) := ⟨_, rfl⟩
          rw [← hkv]
          have len2 : kvs2.length = us.length + 1 := by rw [hkv, putK_new _ hv, List.length_append, I.len]; rfl
          obtain ⟨G1, hG1⟩ : ∃ z, z = upd G Pl (.dK kvs2) := ⟨_, rfl⟩
          rw [← hG1]
          have s1 : Same H G1 := by rw [hG1]; exact same_upd I.same nPl
          have wy1 : G1 Wy = some (.lst (tupRefs us)) := by rw [hG1, upd_ne WP]; exact I.wy
          have pl1 : G1 Pl = some (.dK kvs2) := by rw [hG1]; exact upd_same
          have tup1 : TupsAt G1 us := fun u hu => by rw [hG1, upd_ne (ne_of (I.tup u hu) I.pl (by intro e; cases e))]; exact I.tup u hu
          refine ⟨_, rfl, R, _, rfl, s1.seq hL.1, fun D2 hD2 => lc_it (walk_enum (K := K) (a := R) (xs := refsOf ps)) (fun j G' => Same G1 G' ∧ G' D2 = some (.lst (((List.range j).filter (hasB (lsOf ps) cur)).map fun i => V.int (i : Nat))))
            ⟨same_new hD2, upd_same⟩ (fun j G' _ p => (s1.trans p.1).seq hL.1) (fun j x G2 G3 hj p y => ?_) (fun G2 p => ?_)⟩
          · obtain ⟨T1, a1, y1, rfl, nT, rfl, e1, e2⟩ := y
            cases e1
            obtain ⟨q, hq, rfl⟩ := get_map e2
            have mq := List.mem_of_getElem? hq
            have nTD : D2 ≠ T1 := ne_of_none p.2 nT
            have s2 : Same G1 (upd G2 T1 (.tup [.int (j : Nat), .ref q.1])) := same_upd p.1 (none_of_same p.1 nT)
            refine ⟨T1, _, rfl, SqT.of upd_same, rfl, _, _, rfl, _, _, rfl, rfl, rfl, ?_⟩
            refine ⟨_, rfl, _, rfl, 1, rfl, q.1, _, rfl, (s1.trans s2).seq (hL.2 q mq), fun L hL2 => ?_⟩
            rw [cut_tail, ← List.map_tail]
            refine ⟨L, _, rfl, .inl (SqL.of upd_same), rfl, flat_ints _, _, rfl, ?_⟩
            rw [inV_ints]
            have e3 : q.2.tail.contains cur = hasB (lsOf ps) cur j := by unfold hasB; rw [lsOf_at hq]; rfl
            have s3 : Same G1 (upd (upd G2 T1 (.tup [.int (j : Nat), .ref q.1])) L (.lst (q.2.tail.map V.int))) := same_upd s2 (none_of_same s2 hL2)
            have d3 : (upd (upd G2 T1 (.tup [.int (j : Nat), .ref q.1])) L (.lst (q.2.tail.map V.int))) D2 = some (.lst (((List.range j).filter (hasB (lsOf ps) cur)).map fun i => V.int (i : Nat))) := by
              rw [upd_ne (ne_of_none (show (upd G2 T1 (.tup [.int (j : Nat), .ref q.1])) D2 = _ by rw [upd_ne nTD]; exact p.2) hL2), upd_ne nTD]
              exact p.2
            show if (if false = true then !q.2.tail.contains cur else q.2.tail.contains cur) = true then _ else _
            rw [if_neg Bool.false_ne_true, e3]
            cases hb : hasB (lsOf ps) cur j with
            | false =>
              refine iteF ⟨s3, ?_⟩
              rw [range_snoc, List.filter_append, List.filter_cons_of_neg (by rw [hb]; decide), d3]
              simp
            | true =>
              refine iteT ⟨_, rfl, _, d3, ?_, same_upd s3 hD2, ?_⟩
              · refine small1000 ?_
                have := List.length_filter_le (hasB (lsOf ps) cur) (List.range j)
                rw [List.length_range] at this
                rw [List.length_map]
                omega
              · rw [upd_same, range_snoc, List.filter_append, List.filter_cons_of_pos hb, List.map_append]
                rfl
          · obtain ⟨s2, hD3⟩ := p
            obtain ⟨i0, F', hF⟩ : ∃ i0 F', (List.range (refsOf ps).length).filter (hasB (lsOf ps) cur) = i0 :: F' := by
              cases hh : (List.range (refsOf ps).length).filter (hasB (lsOf ps) cur) with
              | cons i0 F' => exact ⟨i0, F', rfl⟩
              | nil =>
                exfalso
                obtain ⟨r, hr, hc⟩ := Mg.firstFree_none stuck curIn
                obtain ⟨n, hn⟩ := List.getElem?_of_mem hr
                have lt := (List.getElem?_eq_some_iff.mp hn).1
                have q := List.filter_eq_nil_iff.mp hh n (List.mem_range.mpr (by rw [List.length_map] at lt ⊢; exact lt))
                unfold hasB at q
                rw [hn] at q
                exact q (List.contains_iff_mem.mpr hc)
            have mF : i0 ∈ (List.range (refsOf ps).length).filter (hasB (lsOf ps) cur) := by rw [hF]; exact List.mem_cons_self
            obtain ⟨m1, m2⟩ := List.mem_filter.mp mF
            have lt0 : i0 < ps.length := by have := List.mem_range.mp m1; rw [List.length_map] at this; exact this
            have hq : ps[i0]? = some ps[i0] := List.getElem?_eq_getElem lt0
            generalize ps[i0] = q at hq
            have mq := List.mem_of_getElem? hq
            have hl := lsOf_at hq
            have cq : cur ∈ q.2.tail := by unfold hasB at m2; rw [hl] at m2; exact List.contains_iff_mem.mp m2
            obtain ⟨a, t, hqv⟩ : ∃ a t, q.2 = a :: t := by
              cases hh : q.2 with
              | nil => rw [hh] at cq; cases cq
              | cons a t => exact ⟨a, t, rfl⟩
            rw [hqv] at cq hl
            rw [hF] at hD3
            have hS := (s1.trans s2).seq (hL.2 q mq)
            rw [hqv] at hS
            have ref0 : (refsOf ps)[i0]? = some (V.ref q.1) := by rw [List.getElem?_map, hq]; rfl
            refine ⟨D2, _, 0, .int (i0 : Nat), rfl, rfl, SqL.of hD3, atI_nat (xs := (i0 :: F').map fun i => V.int (i : Nat)) (j := 0) rfl, ?_⟩
            refine ⟨_, rfl, _, rfl, R, _, (i0 : Nat), .ref q.1, rfl, rfl, (s1.trans s2).seq hL.1, atI_nat ref0, q.1, _, 0, .int a, rfl, rfl, hS, at0 _ _, ?_⟩
            have wy2 := s2 _ _ wy1
            refine ⟨_, rfl, .inl ⟨rfl, _, SqL.of wy2⟩, _, rfl, _, rfl, by show 2 ≤ sizeLine; decide, fun t' ht' => ?_⟩
            have W' : Wy ≠ t' := ne_of_none wy2 ht'
            refine ⟨Wy, _, _, rfl, rfl, by rw [upd_ne W']; exact wy2, small1000 (by rw [szU]; omega), ?_⟩
            have s4 : Same H (upd (upd G2 t' (.tup [.int a, .int (i0 : Nat)])) Wy (.lst (tupRefs us ++ [.ref t']))) := same_upd (same_upd (s1.trans s2) (none_of_same (s1.trans s2) ht')) nWy
            have pl4 : (upd (upd G2 t' (.tup [.int a, .int (i0 : Nat)])) Wy (.lst (tupRefs us ++ [.ref t']))) Pl = some (.dK kvs2) := by
              have pl2 := s2 _ _ pl1
              rw [upd_ne WP.symm, upd_ne (ne_of_none pl2 ht')]
              exact pl2
            have xs' : xsOf x0 (us ++ [(t', a, i0)]) = xsOf x0 us ++ [a] := by simp
            have lx : (xsOf x0 us).length = us.length + 1 := by simp
            have curAt : ∀ k y, k < us.length → (xsOf x0 us)[k]? = some y → y ≠ cur := fun k y hk hy e => by
              have q := I.keys k y hk hy
              rw [e, hv] at q
              cases q
            have aIn : a ∈ Mg.heads (lsOf ps) := Mg.mem_heads.mpr ⟨a :: t, List.mem_of_getElem? hl, rfl⟩
            refine ⟨⟨_, us ++ [(t', a, i0)], kvs2, a, rfl, ⟨s4, by unfold tupRefs; rw [upd_same, List.map_append]; rfl, fun u hu => ?_, pl4, by rw [len2, List.length_append]; rfl, ?_, ?_, fun k y hk hy => ?_, fun y hy => ?_, ?_, fun y hy => ?_, ?_⟩⟩, ?_⟩
            · rcases List.mem_append.mp hu with m | m
              · have t2 := s2 _ _ (tup1 u m)
                rw [upd_ne (ne_of t2 wy2 (by intro e; cases e)), upd_ne (ne_of_none t2 ht')]
                exact t2
              · rw [List.mem_singleton.mp m, upd_ne W'.symm]
                exact upd_same
            · rw [List.map_append]
              exact I.way.snoc (by rw [List.length_map]; exact I.cur) hl cq
            · rw [xs', List.length_append]
              rw [List.getElem?_append_right (by rw [lx]; simp)]
              simp
            · rw [List.length_append] at hk
              have hk : k < us.length + 1 := hk
              rw [xs', List.getElem?_append_left (by rw [lx]; exact hk)] at hy
              rw [hkv, valV_put]
              by_cases e : k < us.length
              · rw [if_neg (fun q => curAt k y e hy (Sum.inl.inj q))]
                exact I.keys k y e hy
              · have e2 : k = us.length := by omega
                subst e2
                rw [I.cur] at hy
                cases hy
                rw [if_pos rfl]
            · have ny : y ≠ cur := fun e => hy us.length (by rw [List.length_append]; simp) (by rw [xs', List.getElem?_append_left (by rw [lx]; omega), e]; exact I.cur)
              rw [hkv, valV_put, if_neg (fun q => ny (Sum.inl.inj q))]
              refine I.no y fun k hk e => hy k (by rw [List.length_append]; omega) ?_
              rw [xs', List.getElem?_append_left (by rw [lx]; omega)]
              exact e
            · have e : (xsOf x0 (us ++ [(t', a, i0)])).take (us ++ [(t', a, i0)]).length = (xsOf x0 us).take us.length ++ [cur] := by
                rw [xs', List.length_append]
                show ((xsOf x0 us) ++ [a]).take (us.length + 1) = _
                rw [List.take_append_of_le_length (by rw [lx]; exact Nat.le_refl _), take_snoc I.cur]
              rw [e]
              refine List.nodup_append.mpr ⟨I.nd, by simp, fun b hb c hc => ?_⟩
              rw [List.mem_singleton.mp hc]
              obtain ⟨n, hn⟩ := List.getElem?_of_mem hb
              have ln : n < us.length := by
                have := (List.getElem?_eq_some_iff.mp hn).1
                rw [List.length_take] at this
                omega
              rw [List.getElem?_take_of_lt ln] at hn
              exact curAt n b ln hn
            · rw [xs'] at hy
              rcases List.mem_append.mp hy with m | m
              · exact I.mem y m
              · rw [List.mem_singleton.mp m]
                exact aIn
            · have e : (us ++ [(t', a, i0)]).length = us.length + 1 := by rw [List.length_append]; rfl
              rw [e]
              show (us ++ [(t', a, i0)]).map (·.2) = Mg.wayOf (lsOf ps) x0 us.length ++ [_]
              rw [List.map_append, I.det]
              show _ ++ [(a, i0)] = _
              congr 2
              have ec : ((x0 :: (Mg.wayOf (lsOf ps) x0 us.length).map (·.1))[us.length]?).getD 0 = cur := by
                rw [← I.det]
                have c := I.cur
                unfold xsOf at c
                rw [c]
                rfl
              rw [ec]
              unfold Mg.nxt
              have ef : (List.range (lsOf ps).length).filter (Mg.hasIt (lsOf ps) cur) = i0 :: F' := by
                have z : (lsOf ps).length = (refsOf ps).length := by rw [List.length_map, List.length_map]
                rw [z]
                exact hF
              rw [ef]
              show (a, i0) = ((((lsOf ps)[i0]?).getD []).headD 0, i0)
              rw [hl]
              rfl
            · show (match (upd (upd G2 t' (.tup [.int a, .int (i0 : Nat)])) Wy (.lst (tupRefs us ++ [.ref t']))) Pl with | some (.dK kvs) => 31 - kvs.length | _ => 0) < (match G Pl with | some (.dK kvs) => 31 - kvs.length | _ => 0)
              rw [pl4, I.pl]
              show 31 - kvs2.length < 31 - kvs.length
              rw [len2, I.len]
              omega
      · rintro σ G Q1 Q2 imp ⟨x, hx, y, hy, a, o, h1, h2, c, h3, h4⟩
        exact ⟨x, hx, y, hy, a, o, h1, h2, c, h3, imp _ _ h4⟩
end
end Pr

set_option autoImplicit true
set_option Elab.async false
set_option linter.all false
set_option maxRecDepth 100000
set_option maxHeartbeats 4000000
namespace Pr
open PySem L2 Two
theorem while_m {c : TT} {tb : TS} {D : Ends} {σ : L2.St} {H : Hp} (W : Nat → L2.St → Hp → Prop) (h0 : ∃ m, W m σ H)
    (hs : ∀ m σ H, W m σ H → c σ H fun b H1 => if b = true then tb { D with nx := fun σ' H' => ∃ m', m' < m ∧ W m' σ' H', ct := fun σ' H' => ∃ m', m' < m ∧ W m' σ' H', bk := D.nx } σ H1 else D.nx σ H1)
    (mono : ∀ σ H Q Q', (∀ b H1, Q b H1 → Q' b H1) → c σ H Q → c σ H Q') : tWhile c tb D σ H := by
  refine ⟨W, h0, fun m σ H w => mono σ H _ _ (fun b H1 q => ?_) (hs m σ H w)⟩
  cases b with
  | true => exact ⟨_, fun σ' H' z => z, q⟩
  | false => exact q
def rListQ (K : PySem.W.Frag) : List V → Hp → VK → Prop := fun xs H Q => ∃ p ys, xs = [V.ref p] ∧ (SqL K H p ys ∨ SqT K H p ys) ∧ ∀ l, H l = none → Q (.ref l) (upd H l (.lst ys))
theorem call_listQ {X : Cx} : CallR X (.type "list") (rListQ X.K) := call_list_of
/-- lists of lists of ints as data -/
def intsD (l : List Int) : PyData := .list (l.map PyData.int)
def listsD (ls : List (List Int)) : PyData := .list (ls.map intsD)
theorem dp_ints {K : PySem.W.Frag} {H : Hp} : ∀ l : List Int, DpAll K H (l.map V.int) (l.map PyData.int)
  | [] => .nil
  | z :: l => .cons (.int z) (dp_ints l)
theorem dp_list {K : PySem.W.Frag} {H : Hp} {a : Addr} {l : List Int} (h : SqL K H a (l.map V.int)) : Dp K H (.ref a) (intsD l) := .lst h (dp_ints l)
theorem dp_lists {K : PySem.W.Frag} {H : Hp} {a : Addr} {ps : List (Addr × List Int)} (h : LofL K H a ps) : Dp K H (.ref a) (listsD (lsOf ps)) := by
  refine .lst h.1 ?_
  have q : ∀ qs : List (Addr × List Int), (∀ p ∈ qs, SqL K H p.1 (p.2.map V.int)) → DpAll K H (qs.map fun p => V.ref p.1) ((lsOf qs).map intsD) := by
    intro qs
    induction qs with
    | nil => intro _; exact .nil
    | cons p qs ih => intro hq; exact .cons (dp_list (hq p List.mem_cons_self)) (ih fun r hr => hq r (List.mem_cons_of_mem _ hr))
  exact q ps h.2
theorem plain_ints : ∀ l : List Int, PyData.plainAll (l.map PyData.int) = true
  | [] => rfl
  | _ :: l => by
    show (PyData.plain (.int _) && PyData.plainAll (l.map PyData.int)) = true
    rw [plain_ints l]
    rfl
theorem plain_lists : ∀ ls : List (List Int), PyData.plainAll (ls.map intsD) = true
  | [] => rfl
  | l :: ls => by
    show (PyData.plainAll (l.map PyData.int) && PyData.plainAll (ls.map intsD)) = true
    rw [plain_ints, plain_lists ls]
    rfl
theorem truthy_lists : ∀ ls : List (List Int), (ls.map intsD).any PyData.truthy = ls.any fun l => !l.isEmpty
  | [] => rfl
  | l :: ls => by
    rw [List.map_cons, List.any_cons, List.any_cons, truthy_lists ls]
    congr 1
    cases l <;> rfl

/-- what merge hands back -/
def MergeOut (H H' : Hp) (ls : List (List Int)) (v : V) : Prop := ∃ t q : Addr, v = .ref t ∧ H t = none ∧ H q = none ∧
  ((∃ n, (∀ r ∈ (Mg.st ls n).2, r = []) ∧ H' t = some (.tup [.str "order", .ref q]) ∧ H' q = some (.lst ((Mg.st ls n).1.map V.int))) ∨
   (∃ (n : Nat) (us : List (Addr × Int × Nat)), Mg.firstFree (Mg.st ls n).2 = none ∧ (∃ r ∈ (Mg.st ls n).2, r ≠ []) ∧ H' t = some (.tup [.str "ring", .ref q]) ∧ H' q = some (.lst (tupRefs us)) ∧ TupsAt H' us ∧ Mg.IsRing ls (us.map (·.2)) ∧ us.length ≤ 30 ∧ Mg.RingDet (Mg.st ls n).2 (us.map (·.2))))
def spMerge (K : PySem.W.Frag) : Sp := fun vs H Q _ => ∃ (a : Addr) (ps : List (Addr × List Int)), vs = [.ref a] ∧ LofL K H a ps ∧ Fit ps ∧ ∀ v H', Same H H' → MergeOut H H' (lsOf ps) v → Q v H'
theorem scMerge : FnScope ["lists", "rests", "behind", "order", "item", "items"] ["lists"] (defScope sMerge) := ⟨rfl, rfl, rfl, by decide +kernel, rfl, by decide +kernel, by decide +kernel⟩
/-- what holds between two turns of merge -/
structure MrgI (H G : Hp) (R B O : Addr) (ls : List (List Int)) (as : List Addr) (n : Nat) (qs : List (Addr × List Int)) (kvs : List (Key × V)) : Prop where
  same : Same H G
  own : Own G R qs
  fst : qs.map (·.1) = as
  snd : lsOf qs = (Mg.st ls n).2
  dic : G B = some (.dK kvs)
  len : kvs.length ≤ 900
  cts : Cts kvs (inL (lsOf qs)) (fun y => Mg.cnt (lsOf qs) y)
  ord : G O = some (.lst ((Mg.st ls n).1.map V.int))
theorem st_len_le (ls : List (List Int)) : ∀ n, ∀ (i : Nat) (r : List Int), (Mg.st ls n).2[i]? = some r → ∃ l ∈ ls, r.length ≤ l.length
  | 0, i, r, h => ⟨r, List.mem_of_getElem? h, Nat.le_refl _⟩
  | n + 1, i, r, h => by
    cases hf : Mg.firstFree (Mg.st ls n).2 with
    | none => rw [Mg.st_none hf] at h; exact st_len_le ls n i r h
    | some x =>
      rw [Mg.st_some hf] at h
      obtain ⟨r0, h0, rfl⟩ := get_map (f := Mg.pull1 x) h
      obtain ⟨l, hl, e⟩ := st_len_le ls n i r0 h0
      exact ⟨l, hl, Nat.le_trans (Mg.pull1_le x r0) e⟩
theorem st_short {ls : List (List Int)} (h : ∀ l ∈ ls, l.length ≤ 30) (n : Nat) : ∀ r ∈ (Mg.st ls n).2, r.length ≤ 30 := fun r hr => by
  obtain ⟨i, hi⟩ := List.getElem?_of_mem hr
  obtain ⟨l, hl, e⟩ := st_len_le ls n i r hi
  exact Nat.le_trans e (h l hl)
theorem sum_le (ls : List (List Int)) (h : ∀ l ∈ ls, l.length ≤ 30) : Mg.size ls ≤ 30 * ls.length := by
  induction ls with
  | nil => exact Nat.le_refl _
  | cons l ls ih =>
    have a := h l List.mem_cons_self
    have b := ih fun x hx => h x (List.mem_cons_of_mem _ hx)
    show l.length + Mg.size ls ≤ _
    rw [List.length_cons]
    omega
theorem st_ord_len (ls : List (List Int)) : ∀ n, (Mg.st ls n).1.length + Mg.size (Mg.st ls n).2 ≤ Mg.size ls
  | 0 => by show 0 + Mg.size ls ≤ _; omega
  | n + 1 => by
    have ih := st_ord_len ls n
    cases hf : Mg.firstFree (Mg.st ls n).2 with
    | none => rw [Mg.st_none hf]; exact ih
    | some x =>
      have q := Mg.size_step hf
      rw [Mg.st_some hf]
      simp only [List.length_append, List.length_singleton]
      omega
section
variable {P : Program} {w : World} {K : PySem.W.Frag} {mg : Str → Option Value} {base : Heap}
theorem ok_merge {f fC fT fF fK fR : Addr} {fd fdC fdT fdF fdK fdR : FuncData} (F : Fun K "merge" "merge" sMerge f fd) (T : Txt mg)
    (gC : mg "_check_lists" = some (.ref fC)) (kC : PySem.W.keepIn K (.ref fC) = true) (bC : Binds K fdC ["lists"] []) (GC : FnOk P w K mg base CX0 3 fC fdC ["lists"] (spCheck K))
    (gT : mg "_times_behind" = some (.ref fT)) (kT : PySem.W.keepIn K (.ref fT) = true) (bT : Binds K fdT ["lists"] []) (GT : FnOk P w K mg base CX0 1 fT fdT ["lists"] (spTimes K))
    (gF : mg "_first_free" = some (.ref fF)) (kF : PySem.W.keepIn K (.ref fF) = true) (bF : Binds K fdF ["rests", "behind"] []) (GF : FnOk P w K mg base CX0 1 fF fdF ["rests", "behind"] (spFree K))
    (gK : mg "_take" = some (.ref fK)) (kK : PySem.W.keepIn K (.ref fK) = true) (bK : Binds K fdK ["item", "rests", "behind"] []) (GK : FnOk P w K mg base CX0 1 fK fdK ["item", "rests", "behind"] spTake)
    (gR : mg "_ring_of" = some (.ref fR)) (kR : PySem.W.keepIn K (.ref fR) = true) (bR : Binds K fdR ["rests"] []) (GR : FnOk P w K mg base CX0 1 fR fdR ["rests"] (spRingOf K)) :
    FnOk P w K mg base CX0 4 f fd ["lists"] (spMerge K) := by
  refine F.ok scMerge (fun vs H Q E h => ?_) (fun cdv A outer s H vs Q E hr h => ?_)
  · obtain ⟨a, ps, rfl, _⟩ := h
    rfl
  · obtain ⟨a, ps, rfl, hL, fit, k⟩ := h
    have hu := hu_of hr
    have hr1 : Room 1 _ := hr.mono (by decide)
    refine ⟨_, pss_cons (ps_expr (pe_call GC hr rfl gC kC bC .nil pass0 (pa_cons (pv 0) pa_nil)))
      (pss_cons (ps_setLc (i := 1) (own := [("items", 5)]) (g := gName 5) (tt := tYes) (te := tCB (rListQ K) (tCons (tVar 5) tNil)) rfl scMerge.nd rfl rfl (sw_true rfl rfl rfl (by decide +kernel)) (pi_list (pv 0)) (blkOk_by (N := ["lists", "rests", "behind", "order", "item", "items"]) (sc := defScope sMerge) (by decide +kernel))
          (fun _ _ _ _ _ => pg_name (i := 5) scMerge.nd rfl (Or.inl rfl)) (fun _ _ _ _ _ => pts_nil) (fun _ _ _ _ _ => pe_callTy call_listQ (by rfl) T.list (by decide +kernel) (pa_cons (pv 5) pa_nil)))
      (pss_cons (ps_set (i := 2) scMerge.nd rfl (Or.inl rfl) (pe_call GT hr1 rfl gT kT bT .nil pass0 (pa_cons (pv 0) pa_nil)))
      (pss_cons (ps_set (i := 3) scMerge.nd rfl (Or.inl rfl) (pe_lst pa_nil))
      (pss_cons (ps_while PassesOwn.never (pt_val (pe_callB (cr_anyD rfl) (by rfl) T.any (by decide +kernel) (pa_cons (pv 1) pa_nil)))
        (pss_cons (ps_set (i := 4) scMerge.nd rfl (Or.inl rfl) (pe_call GF hr1 rfl gF kF bF .nil pass0 (pa_cons (pv 1) (pa_cons (pv 2) pa_nil))))
        (pss_cons (ps_if (pt_cmpR op_isN (pv 4) pe_non (nomark _)) (pss_one (ps_ret (pe_tup (pa_cons pe_str (pa_cons (pe_call GR hr1 rfl gR kR bR .nil pass0 (pa_cons (pv 1) pa_nil)) pa_nil))))) pss_nil)
        (pss_cons (ps_expr (pe_bm PySem.F.plainAttrs_list PySem.F.slot_list_append PySem.F.type_list_append mt_append (pv 3) (pa_cons (pv 4) pa_nil)))
        (pss_one (ps_expr (pe_call GK hr1 rfl gK kK bK .nil pass0 (pa_cons (pv 4) (pa_cons (pv 1) (pa_cons (pv 2) pa_nil))))))))))
      (pss_one (ps_ret (pe_tup (pa_cons pe_str (pa_cons (pv 3) pa_nil))))))))), ?_⟩
    have fewL : (lsOf ps).length ≤ 30 := by rw [List.length_map]; exact fit.few
    have shortL : ∀ l ∈ lsOf ps, l.length ≤ 30 := fun l hl => by obtain ⟨p, hp, rfl⟩ := List.mem_map.mp hl; exact fit.short p hp
    have ndL : ∀ l ∈ lsOf ps, l.Nodup := fun l hl => by obtain ⟨p, hp, rfl⟩ := List.mem_map.mp hl; exact fit.nd p hp
    have sumL := sum_le (lsOf ps) shortL
    refine ⟨_, rfl, a, ps, rfl, hL, fit, fun H1 s1 => ?_⟩
    refine ⟨_, rfl, a, rfl, ⟨_, s1.seq hL.1⟩, fun R hR => lc_list (K := K) (a := a) (xs := refsOf ps) (fun j G => ∃ qs : List (Addr × List Int), Same H1 G ∧ G R = some (.lst (refsOf qs)) ∧ (∀ q ∈ qs, G q.1 = some (.lst (q.2.map V.int)) ∧ H1 q.1 = none ∧ q.1 ≠ R) ∧ (qs.map (·.1)).Nodup ∧ lsOf qs = (lsOf ps).take j)
      ⟨[], same_new hR, upd_same, (fun q hq => nomatch hq), List.nodup_nil, rfl⟩ (fun j G _ ⟨_, p, _⟩ => (s1.trans p).seq hL.1) (fun j x G hx p => ?_) (fun G p => ?_)⟩
    · obtain ⟨p0, hp0, rfl⟩ := get_map hx
      have mp := List.mem_of_getElem? hp0
      obtain ⟨qs, s2, hGR, each, nd, lq⟩ := p
      have hS := (s1.trans s2).seq (hL.2 p0 mp)
      refine ⟨rfl, ?_⟩
      unfold tYes
      simp only [if_true]
      refine ⟨_, rfl, p0.1, _, rfl, .inl hS, fun l hl => ⟨_, by rw [upd_ne (ne_of_none hGR hl)]; exact hGR, ?_, qs ++ [(l, p0.2)], same_upd (same_upd s2 (none_of_same s2 hl)) hR, ?_, fun q hq => ?_, ?_, ?_⟩⟩
      · refine small1000 ?_
        have e := congrArg List.length lq
        rw [List.length_map, List.length_take, List.length_map] at e
        have := fit.few
        rw [List.length_map]
        omega
      · unfold refsOf
        rw [upd_same, List.map_append]
        rfl
      · rcases List.mem_append.mp hq with m | m
        · obtain ⟨e1, e2, e3⟩ := each q m
          exact ⟨by rw [upd_ne e3, upd_ne (ne_of_none e1 hl)]; exact e1, e2, e3⟩
        · rw [List.mem_singleton.mp m]
          exact ⟨by rw [upd_ne (ne_of_none hGR hl).symm]; exact upd_same, none_of_same s2 hl, (ne_of_none hGR hl).symm⟩
      · rw [List.map_append]
        refine List.nodup_append.mpr ⟨nd, by simp, fun b hb c hc => ?_⟩
        obtain ⟨q, hq, rfl⟩ := List.mem_map.mp hb
        rw [List.mem_singleton.mp hc]
        exact ne_of_none (each q hq).1 hl
      · unfold lsOf
        rw [List.map_append]
        show lsOf qs ++ [p0.2] = _
        rw [lq, take_snoc (lsOf_at hp0)]
    · obtain ⟨qs0, s2, hGR, each, nd, lq⟩ := p
      have e0 : (lsOf ps).take (refsOf ps).length = lsOf ps := List.take_of_length_le (by rw [List.length_map, List.length_map]; exact Nat.le_refl _)
      rw [e0] at lq
      have own0 : Own G R qs0 := ⟨hGR, fun q hq => (each q hq).1, nd⟩
      show tSeq _ _ _ ([some (.ref a), none, none, none, none, none].set 1 (some (.ref R))) G
      refine ⟨_, rfl, a, ps, rfl, hL.keep (s1.trans s2), fit, fun H3 B kvs s3 nB hB hlen hc => ?_⟩
      refine ⟨Nat.zero_le _, fun O hO => ?_⟩
      have s03 : Same H H3 := (s1.trans s2).trans s3
      have nBH : H B = none := none_of_same (s1.trans s2) nB
      have nOH : H O = none := none_of_same s03 hO
      have nR : H R = none := none_of_same s1 hR
      have nq : ∀ b ∈ qs0.map (·.1), H b = none := fun b hb => by
        obtain ⟨q, hq, rfl⟩ := List.mem_map.mp hb
        exact none_of_same s1 (each q hq).2.1
      have O3 : ∀ {b : Addr} {o : HO}, H3 b = some o → (upd H3 O (.lst [])) b = some o := fun {b o} e => by rw [upd_ne (ne_of_none e hO)]; exact e
      have start : MrgI H (upd H3 O (.lst [])) R B O (lsOf ps) (qs0.map (·.1)) 0 qs0 kvs :=
        ⟨same_upd s03 nOH, ⟨O3 (s3 _ _ own0.at_), fun q hq => O3 (s3 _ _ (own0.each q hq)), nd⟩, rfl, lq, O3 hB, hlen, by rw [lq]; exact hc, upd_same⟩
      have OR : O ≠ R := (ne_of_none (s3 _ _ hGR) hO).symm
      have OB : O ≠ B := (ne_of_none hB hO).symm
      have Oq : O ∉ qs0.map (·.1) := fun m => by
        obtain ⟨q, hq, e⟩ := List.mem_map.mp m
        exact ne_of_none (s3 _ _ (own0.each q hq)) hO e
      refine while_m (fun m σ G => ∃ (v4 : Option V) (n : Nat) (qs : List (Addr × List Int)) (kvs : List (Key × V)), m = Mg.size (lsOf qs) ∧ σ = [some (.ref a), some (.ref R), some (.ref B), some (.ref O), v4, none] ∧ MrgI H G R B O (lsOf ps) (qs0.map (·.1)) n qs kvs)
        ⟨_, none, 0, qs0, kvs, rfl, rfl, start⟩ ?_ ?_
      · rintro m σ G ⟨v4, n, qs, kvs, rfl, rfl, I⟩
        have ok := Mg.ok_st ndL n
        have okl : (lsOf qs).length = (lsOf ps).length := by rw [I.snd]; exact ok.len
        have shortQ : ∀ r ∈ lsOf qs, r.length ≤ 30 := by rw [I.snd]; exact st_short shortL n
        have ndQ : ∀ r ∈ lsOf qs, r.Nodup := by rw [I.snd]; exact ok.nodups ndL
        have lofl := I.own.lofl (K := K)
        refine ⟨_, rfl, R, _, rfl, dp_lists lofl, plain_lists _, fun d hd => ?_, _, rfl, ?_⟩
        · obtain ⟨r, hr', rfl⟩ := List.mem_map.mp hd
          show ((r.map PyData.int).length : Int) < 2 ^ 63
          have := shortQ r hr'
          rw [List.length_map]
          omega
        rw [truthy_lists]
        cases hany : (lsOf qs).any fun l => !l.isEmpty with
        | false =>
          refine iteF ?_
          have empty : ∀ r ∈ (Mg.st (lsOf ps) n).2, r = [] := fun r hr' => by
            rw [← I.snd] at hr'
            have q := List.any_eq_false.mp hany r hr'
            cases r with
            | nil => rfl
            | cons z t => exact absurd rfl q
          refine ⟨_, rfl, by show 2 ≤ sizeLine; decide, fun t ht => ?_⟩
          refine k _ _ (same_upd I.same (none_of_same I.same ht)) ⟨t, O, rfl, none_of_same I.same ht, nOH, .inl ⟨n, empty, upd_same, ?_⟩⟩
          rw [upd_ne (ne_of_none I.ord ht)]
          exact I.ord
        | true =>
          refine iteT ?_
          obtain ⟨r1, hr1', hne⟩ := List.any_eq_true.mp hany
          have ne1 : r1 ≠ [] := fun e => by rw [e] at hne; cases hne
          refine ⟨_, rfl, _, rfl, R, B, qs, kvs, rfl, lofl, I.dic, I.cts, ?_⟩
          cases hf : Mg.firstFree (lsOf qs) with
          | none =>
            refine ⟨_, rfl, rfl, _, rfl, ?_⟩
            refine iteT ?_
            have hf' := hf
            rw [I.snd] at hf'
            refine ⟨_, rfl, R, qs, rfl, lofl, by rw [List.length_map, List.length_map] at okl; rw [okl]; exact fit.few, fun p hp => ndQ _ (List.mem_map.mpr ⟨p, hp, rfl⟩), hf, ⟨r1, hr1', ne1⟩, fun H4 q us x0 way pp s4 nq4 hq4 tp hw hnd hp1 hp2 hus hsz det => ?_⟩
            refine ⟨by show 2 ≤ sizeLine; decide, fun t ht => ?_⟩
            have s5 : Same H H4 := I.same.trans s4
            refine k _ _ (same_upd s5 (none_of_same s5 ht)) ⟨t, q, rfl, none_of_same s5 ht, none_of_same I.same nq4, .inr ⟨n, us, hf', ⟨r1, by rw [← I.snd]; exact hr1', ne1⟩, upd_same, by rw [upd_ne (ne_of_none hq4 ht)]; exact hq4, fun u hu => by rw [upd_ne (ne_of_none (tp u hu) ht)]; exact tp u hu, ?_, hsz, by rw [← I.snd]; exact det⟩⟩
            rw [hus]
            refine Mg.ring_of_way (rs := lsOf qs) hw ?_ ndQ hnd hp1 hp2
            rw [I.snd]
            exact ok.suf
          | some x =>
            refine ⟨_, rfl, rfl, _, rfl, ?_⟩
            refine iteF ?_
            have hf' := hf
            rw [I.snd] at hf'
            have ordLen := st_ord_len (lsOf ps) n
            refine ⟨_, rfl, .inl ⟨rfl, _, SqL.of I.ord⟩, _, rfl, O, _, _, rfl, rfl, I.ord, small1000 (by rw [List.length_map]; omega), ?_⟩
            have OR2 : ∀ {b : Addr} {o : HO}, b ≠ O → G b = some o → (upd G O (.lst ((Mg.st (lsOf ps) n).1.map V.int ++ [.int x]))) b = some o := fun {b o} ne e => by rw [upd_ne ne]; exact e
            have qO : ∀ q ∈ qs, q.1 ≠ O := fun q hq e => Oq (by rw [← I.fst]; exact List.mem_map.mpr ⟨q, hq, e⟩)
            refine ⟨_, rfl, _, rfl, _, rfl, x, R, B, qs, kvs, rfl, ⟨OR2 OR.symm I.own.at_, fun q hq => OR2 (qO q hq) (I.own.each q hq), I.own.nd⟩, OR2 OB.symm I.dic, I.len, I.cts, fun p hp => ⟨ndQ _ (List.mem_map.mpr ⟨p, hp, rfl⟩), shortQ _ (List.mem_map.mpr ⟨p, hp, rfl⟩)⟩, fun H4 kvs4 but own4 hB4 hl4 hc4 => ?_⟩
            refine ⟨Mg.size (lsOf (taken x qs)), by rw [taken_ls]; exact Mg.size_step hf, _, n + 1, taken x qs, kvs4, rfl, rfl, fun b o e => ?_, own4, by rw [taken_fst]; exact I.fst, by rw [taken_ls, I.snd, Mg.st_some hf'], hB4, hl4, by rw [taken_ls]; exact hc4, ?_⟩
            · have bO : b ≠ O := ne_of_none e nOH
              refine but b o (fun z => z.elim (ne_of_none e nBH) fun m => ?_) (OR2 bO (I.same b o e))
              rw [I.fst] at m
              exact absurd (nq b m) (by rw [e]; exact fun z => nomatch z)
            · have hO4 := but O _ (fun z => z.elim OB fun m => Oq (by rw [← I.fst]; exact m)) (upd_same (H := G) (a := O) (o := .lst ((Mg.st (lsOf ps) n).1.map V.int ++ [.int x])))
              rw [hO4, Mg.st_some hf', List.map_append]
              rfl
      · rintro σ G Q1 Q2 imp ⟨x, hx, a1, ds, h1, h2, h3, h4, c, h5, h6⟩
        exact ⟨x, hx, a1, ds, h1, h2, h3, h4, c, h5, imp _ _ h6⟩
end
end Pr

set_option autoImplicit true
set_option Elab.async false
set_option linter.all false
set_option maxRecDepth 100000
set_option maxHeartbeats 4000000
namespace Pr
open PySem L2 Two
/-! ### data of ints -/
theorem canLay_ints : ∀ l : List Int, PyData.canLayAll0 (l.map PyData.int) = true
  | [] => rfl
  | _ :: l => by
    show (PyData.canLay0 (.int _) && PyData.canLayAll0 (l.map PyData.int)) = true
    rw [canLay_ints l]
    rfl
theorem depth_ints : ∀ l : List Int, PyData.depthAll (l.map PyData.int) = 0
  | [] => rfl
  | _ :: l => by
    show max 0 (PyData.depthAll (l.map PyData.int)) = 0
    rw [depth_ints l]
    rfl
theorem shaped_ints (l : List Int) : SeqAt.shaped (intsD l) = true := by
  unfold SeqAt.shaped
  have a : (intsD l).canLay0 = true := canLay_ints l
  have b : (intsD l).depth = 1 := by show PyData.depthAll (l.map PyData.int) + 1 = 1; rw [depth_ints]
  rw [a, b]
  rfl
/-- a word and a list of ints, as a pair -/
def pairD (x : Str) (l : List Int) : PyData := .tuple [.str x, intsD l]
theorem shaped_pair {x : Str} (hx : PyData.canLay0 (.str x) = true) (l : List Int) : SeqAt.shaped (pairD x l) = true := by
  unfold SeqAt.shaped
  have a : (pairD x l).canLay0 = true := by
    show (PyData.canLay0 (.str x) && ((intsD l).canLay0 && true)) = true
    rw [hx, show (intsD l).canLay0 = true from canLay_ints l]
    rfl
  have b : (pairD x l).depth = 2 := by
    show max 0 (max (intsD l).depth 0) + 1 = 2
    have c : (intsD l).depth = 1 := by show PyData.depthAll (l.map PyData.int) + 1 = 1; rw [depth_ints]
    rw [c]
    rfl
  rw [a, b]
  rfl
theorem dp_pair {K : PySem.W.Frag} {H : Hp} {t q : Addr} {x : Str} {l : List Int} (h : H t = some (.tup [.str x, .ref q])) (hq : SqL K H q (l.map V.int)) : Dp K H (.ref t) (pairD x l) :=
  .tup (SqT.of h) (.cons (.str x) (.cons (dp_list hq) .nil))
theorem tyx_tup {K : PySem.W.Frag} {H : Hp} {a : Addr} {xs : List V} (h : H a = some (.tup xs)) : TyX K H (.ref a) (.type "tuple") := .base (.tup h)

section
variable {P : Program} {w : World} {K : PySem.W.Frag} {mg : Str → Option Value} {base : Heap}
/-! ### is_ring -/
theorem oneS_list {w : World} {K : PySem.W.Frag} {a : Addr} {xs : List V} {g : TG} {te : TE} {vs : List Nat} {D : Addr} {σ : L2.St} {Qd : Hp → Prop} {G : Hp} (Pv : Nat → Hp → Prop) (h0 : Pv 0 G) (hl : ∀ i H, i ≤ xs.length → Pv i H → SqL K H a xs)
    (hs : ∀ i x H, xs[i]? = some x → Pv i H → g x (wipe σ vs) H fun σ2 H2 => wipe σ2 vs = wipe σ vs ∧ te σ2 H2 fun y H4 => ∃ (k : Int) (S : Int → Bool) (n : Nat), y = .int k ∧ H4 D = some (SetO w D S n) ∧ n + 1 < scanBound ∧
      Pv (i + 1) (upd H4 D (SetO w D (fun j => S j || decide (j = k)) (if S k = true then n else n + 1)))) (hd : ∀ H, Pv xs.length H → Qd H) : oneS w (Itl K a) g te vs D σ Qd G := by
  refine ⟨fun i m H => m = xs.length - i ∧ i ≤ xs.length ∧ Pv i H, ⟨xs.length, by simp, Nat.zero_le _, h0⟩, ?_⟩
  rintro i m H ⟨rfl, hi, p⟩
  have q := hl i H hi p
  by_cases lt : i < xs.length
  · refine .inr ⟨⟨xs, xs[i], q, by simp [lt]⟩, Pv (i + 1), fun H2 p2 => ⟨xs.length - (i + 1), by omega, rfl, lt, p2⟩, fun x H2 y => ?_⟩
    obtain ⟨e, y⟩ := y
    subst e
    exact hs i x _ (y xs q) p
  · have e : i = xs.length := by omega
    subst e
    exact .inl ⟨⟨xs, q, Nat.le_refl _⟩, hd H p⟩
def spIsRing (K : PySem.W.Frag) : Sp := fun vs H Q _ => ∃ (a q : Addr) (ps : List (Addr × List Int)) (us : List (Addr × Int × Nat)), vs = [.ref a, .ref q] ∧ LofL K H a ps ∧ Fit ps ∧ H q = some (.lst (tupRefs us)) ∧ TupsAt H us ∧ Mg.IsRing (lsOf ps) (us.map (·.2)) ∧ us.length ≤ 30 ∧
  ∀ H', Same H H' → Q (.bl true) H'
theorem cut_one (xs : List V) : cutV xs none (some 1) = xs.take 1 := by
  unfold cutV
  have e : HT.sIx xs.length xs.length (some 1) = min 1 xs.length := HT.sIx_nat xs.length xs.length 1
  rw [e, HT.sIx_none]
  cases xs with
  | nil => rfl
  | cons x xs => simp
theorem turn_get {α : Type} {xs : List α} {k : Nat} (h : k < xs.length) : (xs.tail ++ xs.take 1)[k]? = xs[(k + 1) % xs.length]? := by
  cases xs with
  | nil => simp at h
  | cons x l =>
    simp only [List.length_cons] at h
    by_cases e : k + 1 < (x :: l).length
    · rw [Nat.mod_eq_of_lt e]
      simp only [List.length_cons] at e
      show (l ++ [x])[k]? = (x :: l)[k + 1]?
      rw [List.getElem?_append_left (by omega), List.getElem?_cons_succ]
    · simp only [List.length_cons] at e
      have e2 : k = l.length := by omega
      subst e2
      show (l ++ [x])[l.length]? = (x :: l)[(l.length + 1) % (l.length + 1)]?
      rw [Nat.mod_self]
      simp
def tItem0 (K : PySem.W.Frag) (i : Nat) : TE := tOp (rIxT K) (tVar i) (tC (.int 0))
def tItem1 (K : PySem.W.Frag) (i : Nat) : TE := tOp (rIxT K) (tVar i) (tC (.int 1))
end
end Pr

set_option autoImplicit true
set_option Elab.async false
set_option linter.all false
set_option maxRecDepth 100000
set_option maxHeartbeats 4000000
/-! The helpers that the laws of merges share: cells, sources, draws. -/
namespace Lw
open PySem L2 Two Pr
abbrev sCell : Stmt := top 23
abbrev sSource : Stmt := top 24
abbrev sDraw : Stmt := top 25
abbrev sPick : Stmt := top 26
/-- a source of draws -/
def Src (H : Hp) (l : Addr) (n : Nat) : Prop := ∃ x y c : Int, H l = some (.lst [.int x, .int y, .int c]) ∧ 0 ≤ x ∧ 0 ≤ y ∧ y < 2147483647 ∧ 0 ≤ c ∧ c ≤ (n : Int)
theorem Src.more {H : Hp} {l : Addr} {n m : Nat} (s : Src H l n) (h : n ≤ m) : Src H l m := by
  obtain ⟨x, y, c, e, a1, a2, a3, a4, a5⟩ := s
  exact ⟨x, y, c, e, a1, a2, a3, a4, by omega⟩
theorem Src.keep {H H' : Hp} {l : Addr} {n : Nat} (s : Src H l n) (k : Same H H') : Src H' l n := by
  obtain ⟨x, y, c, e, r⟩ := s
  exact ⟨x, y, c, k _ _ e, r⟩
section
variable {P : Program} {w : World} {K : PySem.W.Frag} {mg : Str → Option Value} {base : Heap}
/-! ### _law_cell_at -/
def spCell (K : PySem.W.Frag) : Sp := fun vs H Q _ => ∃ (a : Addr) (ns : List Int) (k : Nat), vs = [.ref a, .int k] ∧ SqL K H a (ns.map V.int) ∧ ns.length ≤ 1000 ∧ ∀ z : Int, Q (.int z) H
theorem scCell : FnScope ["_law_script", "_law_k"] ["_law_script", "_law_k"] (defScope sCell) := ⟨rfl, rfl, rfl, by decide +kernel, rfl, by decide +kernel, by decide +kernel⟩
theorem ok_cell {f : Addr} {fd : FuncData} (F : Fun K "_law_cell_at" "_law_cell_at" sCell f fd) (T : Txt mg) : FnOk P w K mg base CX0 1 f fd ["_law_script", "_law_k"] (spCell K) := by
  refine F.ok scCell (fun vs H Q E h => ?_) (fun cdv A outer s H vs Q E hr h => ?_)
  · obtain ⟨a, ns, k, rfl, _⟩ := h
    rfl
  · obtain ⟨a, ns, j, rfl, hS, hl, k⟩ := h
    refine ⟨_, pss_cons (ps_if (pt_cmpR op_lt (pv 1) (pe_callB call_len_seq (by rfl) T.len PySem.boot_len (pa_cons (pv 0) pa_nil)) (nomark _)) (pss_one (ps_ret (pe_ix ix_list (pv 0) (pv 1) (fun _ _ => rfl)))) pss_nil) (pss_one (ps_ret pe_int)), ?_⟩
    refine ⟨_, rfl, _, rfl, a, _, rfl, .inl hS, _, _, rfl, rfl, _, rfl, ?_⟩
    by_cases h : j < ns.length
    · rw [decide_eq_true (by rw [List.length_map]; omega)]
      refine iteT ⟨_, rfl, _, rfl, a, _, (j : Nat), .int ns[j], rfl, rfl, hS, atI_nat (by rw [List.getElem?_map, List.getElem?_eq_getElem h]; rfl), k _⟩
    · rw [decide_eq_false (by rw [List.length_map]; omega)]
      exact iteF (k 0)
/-! ### _law_source -/
def spSource : Sp := fun vs H Q _ => ∃ z : Int, vs = [.int z] ∧ ∀ (H' : Hp) (l : Addr), Same H H' → H l = none → Src H' l 0 → Q (.ref l) H'
theorem scSource : FnScope ["_law_cell"] ["_law_cell"] (defScope sSource) := ⟨rfl, rfl, rfl, by decide +kernel, rfl, by decide +kernel, by decide +kernel⟩
theorem ok_source {f : Addr} {fd : FuncData} (F : Fun K "_law_source" "_law_source" sSource f fd) (T : Txt mg) : FnOk P w K mg base CX0 1 f fd ["_law_cell"] spSource := by
  refine F.ok scSource (fun vs H Q E h => ?_) (fun cdv A outer s H vs Q E hr h => ?_)
  · obtain ⟨z, rfl, _⟩ := h
    rfl
  · obtain ⟨z, rfl, k⟩ := h
    refine ⟨_, pss_one (ps_ret (pe_lst (pa_cons (pe_op op_mul (pv 0) (pe_callTy call_int1 (by rfl) T.int (by decide +kernel) (pa_cons (pe_cmpR op_ge (pv 0) (pe_op op_pow pe_int pe_int) (nomark _)) pa_nil)))
      (pa_cons (pe_op op_mod (pv 0) pe_int) (pa_cons pe_int pa_nil))))), ?_⟩
    refine ⟨_, rfl, _, rfl, _, _, rfl, rfl, by unfold CPow; decide, _, _, rfl, rfl, .inr ⟨_, rfl, ?_⟩⟩
    have pos : 0 ≤ z * (if decide ((10 : Int) ^ (18 : Int).toNat ≤ z) = true then 1 else 0) := by
      by_cases h : (10 : Int) ^ (18 : Int).toNat ≤ z
      · rw [decide_eq_true h, if_pos rfl]
        have : (0 : Int) ≤ 10 ^ (18 : Int).toNat := by decide
        omega
      · rw [decide_eq_false h, if_neg Bool.false_ne_true]
        omega
    refine ⟨_, _, rfl, rfl, .inr ?_, ?_⟩
    · split <;> decide
    refine ⟨_, rfl, _, _, rfl, rfl, (by show (0 : Int) < 2147483647; decide), by show 3 ≤ sizeLine; decide, fun l hl => ?_⟩
    exact k _ l (same_new hl) hl ⟨_, _, _, upd_same, pos, by omega, by omega, by omega, by omega⟩
/-! ### _law_draw -/
def spDraw : Sp := fun vs H Q _ => ∃ (l : Addr) (m : Int) (n : Nat), vs = [.ref l, .int m] ∧ 0 < m ∧ m < 1000000 ∧ Src H l n ∧ n ≤ 1000000 ∧
  ∀ (H' : Hp) (d : Int), But (· = l) H H' → Src H' l (n + 1) → 0 ≤ d → d < m → Q (.int d) H'
theorem scDraw : FnScope ["_law_source_here", "_law_size", "_law_digit", "_law_number"] ["_law_source_here", "_law_size"] (defScope sDraw) := ⟨rfl, rfl, rfl, by decide +kernel, rfl, by decide +kernel, by decide +kernel⟩
theorem but_upd {H : Hp} {l : Addr} {o : HO} : But (· = l) H (upd H l o) := fun b u h e => by rw [upd_ne h]; exact e
theorem ok_draw {f : Addr} {fd : FuncData} (F : Fun K "_law_draw" "_law_draw" sDraw f fd) (T : Txt mg) : FnOk P w K mg base CX0 1 f fd ["_law_source_here", "_law_size"] spDraw := by
  refine F.ok scDraw (fun vs H Q E h => ?_) (fun cdv A outer s H vs Q E hr h => ?_)
  · obtain ⟨l, m, n, rfl, _⟩ := h
    rfl
  · obtain ⟨l, m, n, rfl, hm0, hm1, ⟨x, y, c, hl, hx, hy0, hy1, hc0, hc1⟩, hn, k⟩ := h
    have at0 : atI [V.int x, .int y, .int c] 0 = some (.int x) := rfl
    refine ⟨_, pss_cons (ps_if (pt_cmpR op_gt (pe_ix ix_list (pv 0) pe_int (fun _ _ => rfl)) pe_int (nomark _))
        (pss_cons (ps_set (i := 2) scDraw.nd rfl (Or.inl rfl) (pe_op op_mod (pe_ix ix_list (pv 0) pe_int (fun _ _ => rfl)) (pv 1)))
        (pss_cons (ps_asg (pe_op op_fdiv (pe_ix ix_list (pv 0) pe_int (fun _ _ => rfl)) (pv 1)) (pg_sub (pv 0) pe_int set_list))
        (pss_one (ps_ret (pv 2))))) pss_nil)
      (pss_cons (ps_asg (pe_op op_add (pe_ix ix_list (pv 0) pe_int (fun _ _ => rfl)) pe_int) (pg_sub (pv 0) pe_int set_list))
      (pss_cons (ps_set (i := 3) scDraw.nd rfl (Or.inl rfl) (pe_op op_mod (pe_op op_pow (pe_op op_add (pe_op op_add (pe_ix ix_list (pv 0) pe_int (fun _ _ => rfl)) (pe_op op_mul pe_int (pe_ix ix_list (pv 0) pe_int (fun _ _ => rfl)))) pe_int) pe_int) pe_int))
      (pss_cons (ps_set (i := 3) scDraw.nd rfl (Or.inl rfl) (pe_op op_mod (pe_op op_mul (pv 3) (pe_op op_add (pe_op op_add (pe_op op_fdiv (pv 3) pe_int) pe_int) (pe_ix ix_list (pv 0) pe_int (fun _ _ => rfl)))) pe_int))
      (pss_one (ps_ret (pe_op op_mod (pe_op op_fdiv (pe_op op_mod (pe_op op_mul (pv 3) (pe_op op_add (pe_op op_fdiv (pv 3) pe_int) pe_int)) pe_int) pe_int) (pv 1))))))), ?_⟩
    refine ⟨_, rfl, l, _, 0, .int x, rfl, rfl, SqL.of hl, at0, _, _, rfl, rfl, _, rfl, ?_⟩
    by_cases hx1 : 0 < x
    · rw [decide_eq_true hx1]
      refine iteT ?_
      refine ⟨_, rfl, l, _, 0, .int x, rfl, rfl, SqL.of hl, at0, _, rfl, _, _, rfl, rfl, hm0, ?_⟩
      refine ⟨_, rfl, l, _, 0, .int x, rfl, rfl, SqL.of hl, at0, _, rfl, _, _, rfl, rfl, ⟨hm0, by omega⟩, ?_⟩
      refine ⟨_, rfl, l, _, 0, 0, rfl, rfl, hl, rfl, ?_⟩
      refine ⟨_, rfl, ?_⟩
      refine k _ _ but_upd ⟨_, _, _, upd_same, Int.ediv_nonneg hx (by omega), hy0, hy1, hc0, by omega⟩ (Int.emod_nonneg _ (by omega)) (Int.emod_lt_of_pos _ hm0)
    · rw [decide_eq_false hx1]
      refine iteF ?_
      refine ⟨_, rfl, l, _, 2, .int c, rfl, rfl, SqL.of hl, rfl, _, _, rfl, rfl, ?_⟩
      refine ⟨_, rfl, l, _, 2, 2, rfl, rfl, hl, rfl, ?_⟩
      have hl2 : upd H l (.lst ([V.int x, .int y, .int c].set 2 (.int (c + 1)))) l = some (.lst [.int x, .int y, .int (c + 1)]) := upd_same
      have b2 : But (· = l) H (upd H l (.lst ([V.int x, .int y, .int c].set 2 (.int (c + 1))))) := but_upd
      generalize upd H l (.lst ([V.int x, .int y, .int c].set 2 (.int (c + 1)))) = H2 at hl2 b2
      have sq := SqL.of (K := K) hl2
      refine ⟨_, rfl, l, _, 1, .int y, rfl, rfl, sq, rfl, _, rfl, l, _, 2, .int (c + 1), rfl, rfl, sq, rfl, _, _, rfl, rfl, .inl (by decide), _, _, rfl, rfl, _, _, rfl, rfl, _, _, rfl, rfl, ?_, _, _, rfl, rfl, (by show (0 : Int) < 2147483629; decide), ?_⟩
      · show (0 : Int) ≤ 5 ∧ (5 : Int) ≤ 1000000 ∧ (y + 7919 * (c + 1) + 1).natAbs < 2 ^ 64
        refine ⟨by decide, by decide, ?_⟩
        omega
      obtain ⟨n1, e1⟩ : ∃ z, z = (y + 7919 * (c + 1) + 1) ^ (5 : Int).toNat % 2147483629 := ⟨_, rfl⟩
      have p1 : 0 ≤ n1 := by rw [e1]; exact Int.emod_nonneg _ (by decide)
      have q1 : n1 < 2147483629 := by rw [e1]; exact Int.emod_lt_of_pos _ (by decide)
      show tSeq _ _ _ ([some (.ref l), some (.int m), none, none].set 3 (some (.int ((y + 7919 * (c + 1) + 1) ^ (5 : Int).toNat % 2147483629)))) H2
      rw [← e1]
      refine ⟨_, rfl, _, rfl, _, _, rfl, rfl, ⟨by decide, by decide⟩, _, _, rfl, rfl, _, rfl, l, _, 2, .int (c + 1), rfl, rfl, sq, rfl, _, _, rfl, rfl, _, _, rfl, rfl, .inl (by omega), _, _, rfl, rfl, (by show (0 : Int) < 2147483587; decide), ?_⟩
      obtain ⟨n2, e2⟩ : ∃ z, z = n1 * (n1 / 1009 + 69621 + (c + 1)) % 2147483587 := ⟨_, rfl⟩
      have p2 : 0 ≤ n2 := by rw [e2]; exact Int.emod_nonneg _ (by decide)
      have q2 : n2 < 2147483587 := by rw [e2]; exact Int.emod_lt_of_pos _ (by decide)
      show gName 3 (V.int (n1 * (n1 / 1009 + 69621 + (c + 1)) % 2147483587)) _ _ _
      rw [← e2]
      refine ⟨_, rfl, _, rfl, _, _, rfl, rfl, ⟨by decide, by decide⟩, _, _, rfl, rfl, _, _, rfl, rfl, .inl (by omega), _, _, rfl, rfl, (by show (0 : Int) < 2147483579; decide), _, _, rfl, rfl, ⟨by decide, by decide⟩, _, rfl, _, _, rfl, rfl, hm0, ?_⟩
      exact k H2 _ b2 ⟨_, _, _, hl2, hx, hy0, hy1, by omega, by omega⟩ (Int.emod_nonneg _ (by omega)) (Int.emod_lt_of_pos _ hm0)
/-! ### _law_pick -/
def spPick (K : PySem.W.Frag) : Sp := fun vs H Q _ => ∃ (l b : Addr) (n : Nat) (xs : List V), vs = [.ref l, .ref b] ∧ Src H l n ∧ n ≤ 1000000 ∧ SqL K H b xs ∧ b ≠ l ∧ xs ≠ [] ∧ xs.length ≤ 1000 ∧
  ∀ (H' : Hp) (x : V), But (· = l) H H' → Src H' l (n + 1) → x ∈ xs → Q x H'
theorem scPick : FnScope ["_law_source_here", "_law_items_here"] ["_law_source_here", "_law_items_here"] (defScope sPick) := ⟨rfl, rfl, rfl, by decide +kernel, rfl, by decide +kernel, by decide +kernel⟩
theorem but_seq {H H' : Hp} {l b : Addr} {xs : List V} (k : But (· = l) H H') (ne : b ≠ l) (h : SqL K H b xs) : SqL K H' b xs := by
  rcases h with (h | ⟨o, h⟩) | h
  · exact .inl (.inl (k _ _ ne h))
  · exact .inl (.inr ⟨o, k _ _ ne h⟩)
  · exact .inr h
theorem ok_pick {f fD : Addr} {fd fdD : FuncData} (F : Fun K "_law_pick" "_law_pick" sPick f fd) (T : Txt mg) (gD : mg "_law_draw" = some (.ref fD)) (kD : PySem.W.keepIn K (.ref fD) = true) (bD : Binds K fdD ["_law_source_here", "_law_size"] [])
    (GD : FnOk P w K mg base CX0 1 fD fdD ["_law_source_here", "_law_size"] spDraw) : FnOk P w K mg base CX0 2 f fd ["_law_source_here", "_law_items_here"] (spPick K) := by
  refine F.ok scPick (fun vs H Q E h => ?_) (fun cdv A outer s H vs Q E hr h => ?_)
  · obtain ⟨l, b, n, xs, rfl, _⟩ := h
    rfl
  · obtain ⟨l, b, n, xs, rfl, src, hn, hS, ne, hx, hz, k⟩ := h
    have pos : 0 < xs.length := List.length_pos_iff.mpr hx
    refine ⟨_, pss_one (ps_ret (pe_ix ix_list (pv 1) (pe_call GD hr rfl gD kD bD .nil pass0 (pa_cons (pv 0) (pa_cons (pe_callB call_len_seq (by rfl) T.len PySem.boot_len (pa_cons (pv 1) pa_nil)) pa_nil))) (fun _ _ => rfl))), ?_⟩
    refine ⟨_, rfl, _, rfl, _, rfl, b, _, rfl, .inl hS, l, _, n, rfl, by omega, by omega, src, hn, fun H' d but src' h0 h1 => ?_⟩
    obtain ⟨d', rfl⟩ := Int.eq_ofNat_of_zero_le h0
    have hd : d' < xs.length := by omega
    exact ⟨b, xs, (d' : Nat), xs[d'], rfl, rfl, but_seq but ne hS, atI_nat (by simp [hd]), k H' _ but src' (List.getElem_mem hd)⟩
end
end Lw

set_option autoImplicit true
set_option autoImplicit false
namespace Mg
def ne (r : List Int) : Bool := !r.isEmpty
def nonE (rs : List (List Int)) : List (List Int) := rs.filter ne
theorem ne_iff {r : List Int} : ne r = true ↔ r ≠ [] := by cases r <;> simp [ne]
theorem heads_nonE : ∀ rs : List (List Int), heads (nonE rs) = heads rs
  | [] => rfl
  | [] :: rs => by
    show heads (nonE rs) = heads ([[]] ++ rs)
    rw [heads_append, heads_nonE rs]
    rfl
  | (z :: t) :: rs => by
    show heads ([z :: t] ++ nonE rs) = heads ([z :: t] ++ rs)
    rw [heads_append, heads_append, heads_nonE rs]
theorem clear_nonE (rs : List (List Int)) (x : Int) : clear (nonE rs) x = clear rs x := by
  have h : (clear (nonE rs) x = true) ↔ (clear rs x = true) := by
    rw [clear_iff, clear_iff]
    refine ⟨fun h r hr => ?_, fun h r hr => h r (List.mem_filter.mp hr).1⟩
    by_cases e : r = []
    · rw [e]
      simp
    · exact h r (List.mem_filter.mpr ⟨hr, ne_iff.mpr e⟩)
  cases h1 : clear (nonE rs) x <;> cases h2 : clear rs x
  · rfl
  · rw [h.mpr h2] at h1; cases h1
  · rw [h.mp h1] at h2; cases h2
  · rfl
theorem free_nonE (rs : List (List Int)) : firstFree (nonE rs) = firstFree rs := by
  unfold firstFree
  rw [heads_nonE]
  congr 1
  funext x
  exact clear_nonE rs x
theorem free_head (rs : List (List Int)) : firstFree rs = ((heads rs).filter (clear rs)).head? := by
  unfold firstFree
  rw [List.head?_filter]
def drop1 (x : Int) (r : List Int) : List Int := r.filter fun y => decide (y ≠ x)
theorem drop1_pull {x : Int} {r : List Int} (nd : r.Nodup) (h : x ∉ r.tail) : drop1 x r = pull1 x r := by
  unfold drop1
  rcases pull1_cases (x := x) r with ⟨t, e, q⟩ | ⟨n, q⟩
  · rw [q, e, List.filter_cons_of_neg (by simp)]
    have nt : x ∉ t := by rw [e] at nd; exact (List.nodup_cons.mp nd).1
    exact List.filter_eq_self.mpr fun y hy => decide_eq_true fun k => nt (k ▸ hy)
  · rw [q]
    have nr := not_mem_of n h
    exact List.filter_eq_self.mpr fun y hy => decide_eq_true fun k => nr (k ▸ hy)
theorem nonE_pull {x : Int} : ∀ {rs : List (List Int)}, (∀ r ∈ rs, r.Nodup ∧ x ∉ r.tail) → nonE ((nonE rs).map (drop1 x)) = nonE (pull x rs)
  | [], _ => rfl
  | r :: rs, h => by
    have ih := nonE_pull (rs := rs) fun q hq => h q (List.mem_cons_of_mem _ hq)
    obtain ⟨a, b⟩ := h r List.mem_cons_self
    have e := drop1_pull a b
    cases r with
    | nil => exact ih
    | cons z t =>
      show (drop1 x (z :: t) :: (nonE rs).map (drop1 x)).filter ne = (pull1 x (z :: t) :: pull x rs).filter ne
      rw [e]
      have ih : ((nonE rs).map (drop1 x)).filter ne = (pull x rs).filter ne := ih
      by_cases c : ne (pull1 x (z :: t)) = true
      · rw [List.filter_cons_of_pos c, List.filter_cons_of_pos c, ih]
      · rw [List.filter_cons_of_neg c, List.filter_cons_of_neg c, ih]
theorem nonE_empty {rs : List (List Int)} : nonE rs = [] ↔ ∀ r ∈ rs, r = [] := by
  unfold nonE
  rw [List.filter_eq_nil_iff]
  refine ⟨fun h r hr => Decidable.byContradiction fun k => h r hr (ne_iff.mpr k), fun h r hr k => ne_iff.mp k (h r hr)⟩
end Mg

set_option autoImplicit true
set_option Elab.async false
set_option linter.all false
set_option maxRecDepth 100000
set_option maxHeartbeats 4000000
namespace Lw
open PySem L2 Two Pr
/-- [f of x for x in xs if c of x], nothing made that stands in the way -/
theorem lc_sel {α : Type} {K : PySem.W.Frag} {a : Addr} {ps : List α} {gv : α → V} {te : TE} {tt : TT} {vs : List Nat} {σ : L2.St} {H1 : Hp} {D : Addr} {Qd : Hp → Prop} (i : Nat) (f : α → V) (c : α → Bool) (hS : SqL K H1 a (ps.map gv)) (hz : ps.length < sizeLine) (hD : H1 D = none)
    (hw : ∀ x, wipe ((wipe σ vs).set i (some x)) vs = wipe σ vs)
    (tstep : ∀ (j : Nat) (x : α) (H : Hp) (Q : Bool → Hp → Prop), ps[j]? = some x → Same H1 H → (∀ H', Same H H' → Q (c x) H') → tt ((wipe σ vs).set i (some (gv x))) H Q)
    (estep : ∀ (j : Nat) (x : α) (H : Hp) (Q : VK), ps[j]? = some x → c x = true → Same H1 H → (∀ H', Same H H' → Q (f x) H') → te ((wipe σ vs).set i (some (gv x))) H Q)
    (done : ∀ H, Same H1 H → H D = some (.lst ((ps.filter c).map f)) → Qd H) :
    ∃ W : Nat → Nat → Hp → Prop, (∃ m, W 0 m (upd H1 D (.lst []))) ∧ ∀ i' m H, W i' m H →
      ((Itl K a).stop i' H ∧ Qd H) ∨ ((Itl K a).go i' H ∧ ∃ Nx : Hp → Prop, (∀ H', Nx H' → ∃ m', m' < m ∧ W (i' + 1) m' H') ∧ ∀ x H', (Itl K a).yld i' H x H' → gName i x (wipe σ vs) H' fun σ2 H2 => wipe σ2 vs = wipe σ vs ∧ tt σ2 H2 fun b H3 =>
        if b = true then te σ2 H3 fun y H4 => ∃ acc, H4 D = some (.lst acc) ∧ acc.length < sizeLine ∧ Nx (upd H4 D (.lst (acc ++ [y]))) else Nx H3) := by
  refine lc_list (xs := ps.map gv) (fun j H => Same H1 H ∧ H D = some (.lst (((ps.take j).filter c).map f))) ⟨same_new hD, upd_same⟩ (fun j H _ p => p.1.seq hS) (fun j x H hx p => ?_)
    fun H p => done H p.1 (by rw [List.length_map, List.take_length] at p; exact p.2)
  obtain ⟨x, hx1, rfl⟩ := get_map hx
  refine ⟨hw _, tstep j x H _ hx1 p.1 fun H' s => ?_⟩
  have s1 := p.1.trans s
  have d1 := s _ _ p.2
  cases hc : c x with
  | false =>
    refine iteF ⟨s1, ?_⟩
    rw [d1, take_snoc hx1, List.filter_append, List.filter_cons_of_neg (by rw [hc]; decide)]
    simp
  | true =>
    refine iteT (estep j x H' _ hx1 hc s1 fun H2 s2 => ⟨_, s2 _ _ d1, ?_, same_upd (s1.trans s2) hD, ?_⟩)
    · have a1 := List.length_filter_le c (ps.take j)
      have a2 := (List.getElem?_eq_some_iff.mp hx1).1
      rw [List.length_take] at a1
      rw [List.length_map]
      omega
    · rw [upd_same, take_snoc hx1, List.filter_append, List.filter_cons_of_pos hc, List.map_append]
      rfl
theorem eqv_nil (l : List Int) : PyData.eqv (intsD l) (.list []) = l.isEmpty := by
  cases l <;> rfl
theorem eqvs_nil (ls : List (List Int)) : PyData.eqv (listsD ls) (.list []) = ls.isEmpty := by
  cases ls <;> rfl
theorem canLay_lists : ∀ ls : List (List Int), PyData.canLayAll0 (ls.map intsD) = true
  | [] => rfl
  | l :: ls => by
    show ((intsD l).canLay0 && PyData.canLayAll0 (ls.map intsD)) = true
    rw [canLay_lists ls, show (intsD l).canLay0 = true from canLay_ints l]
    rfl
theorem depth_lists : ∀ ls : List (List Int), PyData.depthAll (ls.map intsD) ≤ 1
  | [] => Nat.zero_le _
  | l :: ls => by
    show max (intsD l).depth (PyData.depthAll (ls.map intsD)) ≤ 1
    have a := depth_lists ls
    have b : (intsD l).depth = 1 := by show PyData.depthAll (l.map PyData.int) + 1 = 1; rw [depth_ints]
    omega
theorem shaped_lists (ls : List (List Int)) : SeqAt.shaped (listsD ls) = true := by
  unfold SeqAt.shaped
  have a : (listsD ls).canLay0 = true := canLay_lists ls
  have b : (listsD ls).depth ≤ 64 := by
    have := depth_lists ls
    show PyData.depthAll (ls.map intsD) + 1 ≤ 64
    omega
  rw [a, decide_eq_true b]
  rfl
theorem dp_nil {K : PySem.W.Frag} {H : Hp} {a : Addr} (h : H a = some (.lst [])) : Dp K H (.ref a) (.list []) := .lst (SqL.of h) .nil
theorem shaped_nil : SeqAt.shaped (.list []) = true := rfl
/-- an object at a that stands apart from l, or is of the written part -/
def Off (K : PySem.W.Frag) (l a : Addr) (xs : List V) : Prop := a ≠ l ∨ ∀ H', SqL K H' a xs
theorem Off.of {K : PySem.W.Frag} {H : Hp} {l a : Addr} {xs : List V} (h : SqL K H a xs) (n : H l = none) : Off K l a xs := by
  rcases h with (h | ⟨o, h⟩) | h
  · exact .inl (ne_of_none h n)
  · exact .inl (ne_of_none h n)
  · exact .inr fun H' => .inr h
theorem Off.seq {K : PySem.W.Frag} {H H' : Hp} {l a : Addr} {xs : List V} (o : Off K l a xs) (b : But (· = l) H H') (h : SqL K H a xs) : SqL K H' a xs := o.elim (fun ne => but_seq b ne h) fun k => k H'
abbrev sMerged : Stmt := top 31
/-- the test x != [] of a list of ints -/
def tNe (K : PySem.W.Frag) (i : Nat) : TT := tTest (tOp (rNeD K) (tVar i) (tLst tNil))
theorem tNe_step {K : PySem.W.Frag} {i : Nat} {σ : L2.St} {H : Hp} {a : Addr} {l : List Int} {Q : Bool → Hp → Prop} (hi : σ[i]? = some (some (.ref a))) (h : SqL K H a (l.map V.int)) (q : ∀ H', Same H H' → Q (Mg.ne l) H') : tNe K i σ H Q := by
  refine ⟨_, hi, Nat.zero_le _, fun p hp => ⟨intsD l, .list [], dp_list ((same_new hp).seq h), dp_nil upd_same, shaped_ints l, shaped_nil, _, rfl, ?_⟩⟩
  rw [eqv_nil]
  exact q _ (same_new hp)
def tFirst (K : PySem.W.Frag) (i : Nat) : TE := tOp (rIxL K) (tVar i) (tC (.int 0))
/-- one[0] in other[1:] -/
def tBeh (K : PySem.W.Frag) : TT := tTest (tOp (rIn K false) (tFirst K 4) (tSl (rSlL K) (tVar 5) (tPart (tC (.int 1))) tNoPart))
/-- [other for other in left if one[0] in other[1:]] == [] -/
def tFreeT (K : PySem.W.Frag) : TT := tTest (tOp (rEqD K) (tLc (iList K (tVar 1)) (gName 5) (tBeh K) (tVar 5) [5]) (tLst tNil))
/-- [item for item in one if item != free[0]] -/
def tDropE (K : PySem.W.Frag) : TE := tLc (iList K (tVar 4)) (gName 6) (tTest (tOp rNe (tVar 6) (tFirst K 3))) (tVar 6) [6]
/-- what the law's own merge hands back -/
def LMOut (H H' : Hp) (ls : List (List Int)) (v : V) : Prop :=
  (∃ n q, (∀ r ∈ (Mg.st ls n).2, r = []) ∧ v = .ref q ∧ H q = none ∧ H' q = some (.lst ((Mg.st ls n).1.map V.int))) ∨ (∃ n, Mg.firstFree (Mg.st ls n).2 = none ∧ (∃ r ∈ (Mg.st ls n).2, r ≠ []) ∧ v = .non)
def spLMerged (K : PySem.W.Frag) : Sp := fun vs H Q _ => ∃ (a : Addr) (ps : List (Addr × List Int)), vs = [.ref a] ∧ LofL K H a ps ∧ Fit ps ∧ ∀ v H', Same H H' → LMOut H H' (lsOf ps) v → Q v H'
abbrev nMerged : List Str := ["_law_lists_here", "_law_left", "_law_found", "_law_free", "_law_one", "_law_other", "_law_item"]
theorem scMerged : FnScope nMerged ["_law_lists_here"] (defScope sMerged) := ⟨rfl, rfl, rfl, by decide +kernel, rfl, by decide +kernel, by decide +kernel⟩
section
variable {P : Program} {w : World} {K : PySem.W.Frag} {mg : Str → Option Value} {base : Heap}
theorem ok_merged {f : Addr} {fd : FuncData} (F : Fun K "_law_merged" "_law_merged" sMerged f fd) (T : Txt mg) : FnOk P w K mg base CX0 1 f fd ["_law_lists_here"] (spLMerged K) := by
  refine F.ok scMerged (fun vs H Q E h => ?_) (fun cdv A outer s H vs Q E hr h => ?_)
  · obtain ⟨a, ps, rfl, _⟩ := h
    rfl
  · obtain ⟨a, ps, rfl, hL, fit, k⟩ := h
    refine ⟨_, pss_cons (ps_set (i := 1) scMerged.nd rfl (Or.inr rfl) (pe_lc (own := [("_law_one", 4)]) (g := gName 4) (tt := tNe K 4) (te := tVar 4) rfl scMerged.nd (pi_list (pv 0)) (blkOk_by (N := nMerged) (sc := defScope sMerged) (by decide +kernel))
          (fun _ _ _ _ _ => pg_name (i := 4) scMerged.nd rfl (Or.inl rfl)) (fun _ _ _ _ _ => pts_one (pt_cmpR (op_neD hr.units) (pv 4) (pe_lst pa_nil) (nomark _))) (fun _ _ _ _ _ => pv 4)))
      (pss_cons (ps_set (i := 2) scMerged.nd rfl (Or.inl rfl) (pe_lst pa_nil))
      (pss_cons (ps_while PassesOwn.never (pt_cmpR (op_neD hr.units) (pv 1) (pe_lst pa_nil) (nomark _))
        (pss_cons (ps_set (i := 3) scMerged.nd rfl (Or.inr rfl) (pe_lc (own := [("_law_one", 4)]) (g := gName 4) (tt := tFreeT K) (te := tFirst K 4) rfl scMerged.nd (pi_list (pv 1)) (blkOk_by (N := nMerged) (sc := defScope sMerged) (by decide +kernel))
            (fun _ _ _ _ _ => pg_name (i := 4) scMerged.nd rfl (Or.inr rfl)) (fun _ _ _ _ _ => pts_one (pt_cmpR (op_eqD hr.units) (pe_lc (own := [("_law_other", 5)]) (g := gName 5) (tt := tBeh K) (te := tVar 5) rfl scMerged.nd (pi_list (pv 1)) (show BlkOk nMerged (relS _ (defScope sMerged)) _ _ from blkOk_by (by decide +kernel))
                (fun _ _ _ _ _ => pg_name (i := 5) scMerged.nd rfl (Or.inl rfl)) (fun _ _ _ _ _ => pts_one (pt_cmpR op_in_seq (pe_ix ix_list (pv 4) pe_int (fun _ _ => rfl)) (pe_slice sl_list (pv 5) (po_some pe_int) po_none) (by rfl))) (fun _ _ _ _ _ => pv 5)) (pe_lst pa_nil) (nomark _)))
            (fun _ _ _ _ _ => pe_ix ix_list (pv 4) pe_int (fun _ _ => rfl))))
        (pss_cons (ps_if (pt_cmpR (op_eqD hr.units) (pv 3) (pe_lst pa_nil) (nomark _)) (pss_one (ps_ret pe_non)) pss_nil)
        (pss_cons (ps_expr (pe_bm PySem.F.plainAttrs_list PySem.F.slot_list_append PySem.F.type_list_append mt_append (pv 2) (pa_cons (pe_ix ix_list (pv 3) pe_int (fun _ _ => rfl)) pa_nil)))
        (pss_cons (ps_set (i := 1) scMerged.nd rfl (Or.inr rfl) (pe_lc (own := [("_law_one", 4)]) (g := gName 4) (tt := tYes) (te := tDropE K) rfl scMerged.nd (pi_list (pv 1)) (blkOk_by (N := nMerged) (sc := defScope sMerged) (by decide +kernel))
            (fun _ _ _ _ _ => pg_name (i := 4) scMerged.nd rfl (Or.inl rfl)) (fun _ _ _ _ _ => pts_nil) (fun _ _ _ _ _ => pe_lc (own := [("_law_item", 6)]) (g := gName 6) (tt := tTest (tOp rNe (tVar 6) (tFirst K 3))) (te := tVar 6) rfl scMerged.nd (pi_list (pv 4)) (show BlkOk nMerged (relS _ (defScope sMerged)) _ _ from blkOk_by (by decide +kernel))
              (fun _ _ _ _ _ => pg_name (i := 6) scMerged.nd rfl (Or.inl rfl)) (fun _ _ _ _ _ => pts_one (pt_cmpR op_ne (pv 6) (pe_ix ix_list (pv 3) pe_int (fun _ _ => rfl)) (nomark _))) (fun _ _ _ _ _ => pv 6))))
        (pss_one (ps_set (i := 1) scMerged.nd rfl (Or.inr rfl) (pe_lc (own := [("_law_one", 4)]) (g := gName 4) (tt := tNe K 4) (te := tVar 4) rfl scMerged.nd (pi_list (pv 1)) (blkOk_by (N := nMerged) (sc := defScope sMerged) (by decide +kernel))
            (fun _ _ _ _ _ => pg_name (i := 4) scMerged.nd rfl (Or.inl rfl)) (fun _ _ _ _ _ => pts_one (pt_cmpR (op_neD hr.units) (pv 4) (pe_lst pa_nil) (nomark _))) (fun _ _ _ _ _ => pv 4)))))))))
      (pss_one (ps_ret (pv 2))))), ?_⟩
    have fewP : ps.length ≤ 30 := fit.few
    have ndL : ∀ l ∈ lsOf ps, l.Nodup := fun l hl => by obtain ⟨p, hp, rfl⟩ := List.mem_map.mp hl; exact fit.nd p hp
    have shortL : ∀ l ∈ lsOf ps, l.length ≤ 30 := fun l hl => by obtain ⟨p, hp, rfl⟩ := List.mem_map.mp hl; exact fit.short p hp
    have sumL := sum_le (lsOf ps) shortL
    have fewL : (lsOf ps).length ≤ 30 := by rw [List.length_map]; exact fit.few
    refine ⟨_, rfl, a, rfl, ⟨_, hL.1⟩, fun L0 hL0 => lc_sel (K := K) (ps := ps) (gv := fun p => V.ref p.1) 4 (fun p => V.ref p.1) (fun p => Mg.ne p.2) hL.1 (small1000 (by omega)) hL0 (fun _ => rfl)
      (fun j p G Q1 hp s q => tNe_step rfl (s.seq (hL.2 p (List.mem_of_getElem? hp))) q) (fun j p G Q1 hp _ s q => ⟨_, rfl, q _ (Same.refl _)⟩) fun G s1 hG => ?_⟩
    refine ⟨Nat.zero_le _, fun Fd hFd => ?_⟩
    have nFd : H Fd = none := none_of_same s1 hFd
    have s2 : Same H (upd G Fd (.lst [])) := same_upd s1 nFd
    have LF : L0 ≠ Fd := ne_of_none hG hFd
    have lq0 : lsOf (ps.filter fun p => Mg.ne p.2) = Mg.nonE (lsOf ps) := by
      unfold Mg.nonE lsOf
      rw [List.filter_map]
      rfl
    refine while_m (fun m σ G => ∃ (L : Addr) (v3 : Option V) (n : Nat) (qs : List (Addr × List Int)), m = Mg.size (Mg.st (lsOf ps) n).2 ∧ σ = [some (.ref a), some (.ref L), some (.ref Fd), v3, none, none, none] ∧
        Same H G ∧ LofL K G L qs ∧ lsOf qs = Mg.nonE (Mg.st (lsOf ps) n).2 ∧ G Fd = some (.lst ((Mg.st (lsOf ps) n).1.map V.int)) ∧
        L ≠ Fd ∧ ∀ p ∈ qs, Off K Fd p.1 (p.2.map V.int))
      ⟨_, L0, none, 0, ps.filter fun p => Mg.ne p.2, rfl, rfl, s2, ⟨SqL.of (by rw [upd_ne LF]; exact hG), fun p hp => s2.seq (hL.2 p (List.mem_filter.mp hp).1)⟩, lq0, upd_same, LF, fun p hp => Off.of (hL.2 p (List.mem_filter.mp hp).1) nFd⟩ ?_ ?_
    · rintro m σ G ⟨L, v3, n, qs, rfl, rfl, s3, hQ, lq, hOrd, LFd, off⟩
      have ok := Mg.ok_st ndL n
      have fewQ : qs.length ≤ 30 := by
        have e := congrArg List.length lq
        have e2 := List.length_filter_le Mg.ne (Mg.st (lsOf ps) n).2
        have e3 := ok.len
        unfold Mg.nonE at e
        rw [List.length_map] at e
        omega
      have neQ : ∀ p ∈ qs, ∃ z t, p.2 = z :: t := fun p hp => by
        have m : p.2 ∈ Mg.nonE (Mg.st (lsOf ps) n).2 := by rw [← lq]; exact List.mem_map.mpr ⟨p, hp, rfl⟩
        have e := Mg.ne_iff.mp (List.mem_filter.mp m).2
        cases h : p.2 with
        | nil => exact absurd h e
        | cons z t => exact ⟨z, t, rfl⟩
      refine ⟨_, rfl, Nat.zero_le _, fun p1 hp1 => ⟨listsD (lsOf qs), .list [], dp_lists (hQ.keep (same_new hp1)), dp_nil upd_same, shaped_lists _, shaped_nil, _, rfl, ?_⟩⟩
      rw [eqvs_nil]
      have s4 : Same G (upd G p1 (.lst [])) := same_new hp1
      generalize upd G p1 (.lst []) = G1 at s4
      cases hem : (lsOf qs).isEmpty with
      | true =>
        refine iteF ?_
        have e : lsOf qs = [] := List.isEmpty_iff.mp hem
        rw [lq] at e
        exact ⟨_, rfl, k _ _ (s3.trans s4) (.inl ⟨n, Fd, Mg.nonE_empty.mp e, rfl, nFd, s4 _ _ hOrd⟩)⟩
      | false =>
        refine iteT ?_
        have hQ1 := hQ.keep s4
        refine ⟨_, rfl, L, rfl, ⟨_, hQ1.1⟩, fun D hD => lc_sel (K := K) (ps := qs) (gv := fun p => V.ref p.1) 4 (fun p => V.int (p.2.headD 0)) (fun p => Mg.clear (lsOf qs) (p.2.headD 0)) hQ1.1 (small1000 (by omega)) hD (fun _ => rfl)
          (fun j p G2 Q1 hp s q => ?_) (fun j p G2 Q1 hp _ s q => ?_) fun G2 s5 hF => ?_⟩
        · obtain ⟨z, t, hz⟩ := neQ p (List.mem_of_getElem? hp)
          have hQ2 := hQ1.keep s
          have hS := hQ2.2 p (List.mem_of_getElem? hp)
          rw [hz] at q hS
          refine ⟨_, rfl, L, rfl, ⟨_, hQ2.1⟩, fun D2 hD2 => lc_sel (K := K) (ps := qs) (gv := fun p => V.ref p.1) 5 (fun o => V.ref o.1) (fun o => o.2.tail.contains z) hQ2.1 (small1000 (by omega)) hD2 (fun _ => rfl)
            (fun i o G3 Q2 ho s' q' => ?_) (fun i o G3 Q2 ho _ s' q' => ⟨_, rfl, q' _ (Same.refl _)⟩) fun G3 s' h3 => ?_⟩
          · refine ⟨_, rfl, p.1, _, 0, .int z, rfl, rfl, s'.seq hS, at0 _ _, _, rfl, 1, rfl, o.1, _, rfl, (hQ2.keep s').2 o (List.mem_of_getElem? ho), fun L3 hL3 => ⟨L3, _, rfl, .inl (SqL.of upd_same), rfl, ?_, _, rfl, ?_⟩⟩
            · rw [cut_tail, ← List.map_tail]; exact flat_ints _
            · rw [cut_tail, ← List.map_tail, inV_ints]
              exact q' _ (same_new hL3)
          · refine ⟨Nat.zero_le _, fun p2 hp2 => ⟨listsD (lsOf (qs.filter fun o => o.2.tail.contains z)), .list [], dp_lists ⟨SqL.of (by rw [upd_ne (ne_of_none h3 hp2)]; exact h3), fun o ho => ((hQ2.keep s').keep (same_new hp2)).2 o (List.mem_filter.mp ho).1⟩, dp_nil upd_same, shaped_lists _, shaped_nil, _, rfl, ?_⟩⟩
            rw [eqvs_nil]
            have e : (lsOf (qs.filter fun o => o.2.tail.contains z)).isEmpty = Mg.clear (lsOf qs) z := by
              have h : (lsOf (qs.filter fun o => o.2.tail.contains z)).isEmpty = true ↔ Mg.clear (lsOf qs) z = true := by
                rw [List.isEmpty_iff, List.map_eq_nil_iff, List.filter_eq_nil_iff, Mg.clear_iff]
                refine ⟨fun h r hr => ?_, fun h o ho hc => h o.2 (List.mem_map.mpr ⟨o, ho, rfl⟩) (List.contains_iff_mem.mp hc)⟩
                obtain ⟨o, ho, rfl⟩ := List.mem_map.mp hr
                exact fun c => h o ho (List.contains_iff_mem.mpr c)
              cases h1 : (lsOf (qs.filter fun o => o.2.tail.contains z)).isEmpty <;> cases h2 : Mg.clear (lsOf qs) z
              · rfl
              · rw [h.mpr h2] at h1; cases h1
              · rw [h.mp h1] at h2; cases h2
              · rfl
            rw [e]
            exact q _ (s'.trans (same_new hp2))
        · obtain ⟨z, t, hz⟩ := neQ p (List.mem_of_getElem? hp)
          have hS := (hQ1.keep s).2 p (List.mem_of_getElem? hp)
          rw [hz] at q hS
          exact ⟨_, rfl, p.1, _, 0, .int z, rfl, rfl, hS, at0 _ _, q _ (Same.refl _)⟩
        · -- the free items
          have fr : ((qs.filter fun p => Mg.clear (lsOf qs) (p.2.headD 0)).map fun p => V.int (p.2.headD 0)) = ((Mg.heads (lsOf qs)).filter (Mg.clear (lsOf qs))).map V.int := by
            have g : ∀ (c : Int → Bool) (l : List (Addr × List Int)), (∀ p ∈ l, ∃ z t, p.2 = z :: t) → ((l.filter fun p => c (p.2.headD 0)).map fun p => V.int (p.2.headD 0)) = ((Mg.heads (lsOf l)).filter c).map V.int := by
              intro c l
              induction l with
              | nil => intro _; rfl
              | cons p l ih =>
                intro h
                obtain ⟨z, t, hz⟩ := h p List.mem_cons_self
                have ih := ih fun q hq => h q (List.mem_cons_of_mem _ hq)
                have e : Mg.heads (lsOf (p :: l)) = z :: Mg.heads (lsOf l) := by
                  show Mg.heads (p.2 :: lsOf l) = _
                  rw [hz]
                  rfl
                have e0 : p.2.headD 0 = z := by rw [hz]; rfl
                rw [e]
                by_cases hc : c z = true
                · rw [List.filter_cons_of_pos (by rw [e0]; exact hc), List.filter_cons_of_pos hc, List.map_cons, List.map_cons, ih, e0]
                · rw [List.filter_cons_of_neg (by rw [e0]; exact hc), List.filter_cons_of_neg hc, ih]
            exact g _ qs neQ
          rw [fr] at hF
          have hd := Mg.free_head (lsOf qs)
          have same : Mg.firstFree (lsOf qs) = Mg.firstFree (Mg.st (lsOf ps) n).2 := by rw [lq, Mg.free_nonE]
          generalize (Mg.heads (lsOf qs)).filter (Mg.clear (lsOf qs)) = frees at hF hd
          refine ⟨_, rfl, Nat.zero_le _, fun p3 hp3 => ⟨intsD frees, .list [], dp_list (SqL.of (by rw [upd_ne (ne_of_none hF hp3)]; exact hF)), dp_nil upd_same, shaped_ints _, shaped_nil, _, rfl, ?_⟩⟩
          rw [eqv_nil]
          have s6 : Same G2 (upd G2 p3 (.lst [])) := same_new hp3
          have hF3 := s6 _ _ hF
          generalize upd G2 p3 (.lst []) = G3 at s6 hF3
          have s7 : Same G G3 := s4.trans (s5.trans s6)
          cases frees with
          | nil =>
            refine iteT (k _ _ (s3.trans s7) (.inr ⟨n, by rw [← same, hd]; rfl, ?_, rfl⟩))
            cases hq : lsOf qs with
            | nil => rw [hq] at hem; cases hem
            | cons r rs =>
              have m : r ∈ Mg.nonE (Mg.st (lsOf ps) n).2 := by rw [← lq, hq]; exact List.mem_cons_self
              exact ⟨r, (List.mem_filter.mp m).1, Mg.ne_iff.mp (List.mem_filter.mp m).2⟩
          | cons x fr' =>
            have ff : Mg.firstFree (Mg.st (lsOf ps) n).2 = some x := by rw [← same, hd]; rfl
            have ordLen := st_ord_len (lsOf ps) n
            refine iteF ?_
            refine ⟨_, rfl, .inl ⟨rfl, _, SqL.of (s7 _ _ hOrd)⟩, _, rfl, D, _, 0, .int x, rfl, rfl, SqL.of hF3, at0 _ _, Fd, _, _, rfl, rfl, s7 _ _ hOrd, small1000 (by rw [List.length_map]; omega), ?_⟩
            have DF : D ≠ Fd := (ne_of_none (s4 _ _ hOrd) hD).symm
            have s8 : Same H (upd G3 Fd (.lst ((Mg.st (lsOf ps) n).1.map V.int ++ [.int x]))) := same_upd (s3.trans s7) nFd
            have hF4 : (upd G3 Fd (.lst ((Mg.st (lsOf ps) n).1.map V.int ++ [.int x]))) D = some (.lst ((x :: fr').map V.int)) := by rw [upd_ne DF]; exact hF3
            have hO4 : (upd G3 Fd (.lst ((Mg.st (lsOf ps) n).1.map V.int ++ [.int x]))) Fd = some (.lst ((Mg.st (lsOf ps) n).1.map V.int ++ [.int x])) := upd_same
            have b4 : But (· = Fd) G3 (upd G3 Fd (.lst ((Mg.st (lsOf ps) n).1.map V.int ++ [.int x]))) := but_upd
            have hQ3 := hQ.keep s7
            have hQ4 : LofL K (upd G3 Fd (.lst ((Mg.st (lsOf ps) n).1.map V.int ++ [.int x]))) L qs := ⟨but_seq b4 LFd hQ3.1, fun p hp => (off p hp).seq b4 (hQ3.2 p hp)⟩
            generalize upd G3 Fd (.lst ((Mg.st (lsOf ps) n).1.map V.int ++ [.int x])) = G4 at s8 hF4 hO4 hQ4
            refine ⟨_, rfl, L, rfl, ⟨_, hQ4.1⟩, fun E1 hE1 => lc_list (K := K) (a := L) (xs := refsOf qs) (fun j G' => ∃ ts : List (Addr × List Int), Same G4 G' ∧ G' E1 = some (.lst (refsOf ts)) ∧ (∀ t ∈ ts, G' t.1 = some (.lst (t.2.map V.int))) ∧ (∀ t ∈ ts, G4 t.1 = none) ∧ lsOf ts = ((lsOf qs).take j).map (Mg.drop1 x))
              ⟨[], same_new hE1, upd_same, (fun t ht => nomatch ht), (fun t ht => nomatch ht), rfl⟩ (fun j G' _ ⟨_, s, _⟩ => s.seq hQ4.1) (fun j y G' hy p => ?_) fun G' p => ?_⟩
            · obtain ⟨q, hq, rfl⟩ := get_map hy
              obtain ⟨ts, s9, hE, each, fresh, lt⟩ := p
              have mq := List.mem_of_getElem? hq
              refine ⟨rfl, ?_⟩
              unfold tYes
              simp only [if_true]
              have hS := (hQ4.keep s9).2 q mq
              have shortq : q.2.length ≤ 30 := by
                have m : q.2 ∈ Mg.nonE (Mg.st (lsOf ps) n).2 := by rw [← lq]; exact List.mem_map.mpr ⟨q, mq, rfl⟩
                exact st_short shortL n _ (List.mem_filter.mp m).1
              refine ⟨_, rfl, q.1, rfl, ⟨_, hS⟩, fun D3 hD3 => lc_sel (K := K) (ps := q.2) (gv := V.int) 6 V.int (fun y => decide (y ≠ x)) hS (small1000 (by omega)) hD3 (fun _ => rfl)
                (fun i y G5 Q2 _ s' q' => ?_) (fun i y G5 Q2 _ _ s' q' => ⟨_, rfl, q' _ (Same.refl _)⟩) fun G5 s' h5 => ?_⟩
              · refine ⟨_, rfl, _, rfl, D, _, 0, .int x, rfl, rfl, SqL.of (s' _ _ (s9 _ _ hF4)), at0 _ _, rfl, _, rfl, ?_⟩
                have e : (!decide (V.int y = V.int x)) = decide (y ≠ x) := by
                  by_cases h : y = x
                  · rw [h]; simp
                  · rw [decide_eq_false (fun e => h (V.int.inj e)), decide_eq_true h]; rfl
                rw [e]
                exact q' _ (Same.refl _)
              · have E5 := s' _ _ hE
                have DE : D3 ≠ E1 := (ne_of_none hE hD3).symm
                refine ⟨_, E5, ?_, ts ++ [(D3, Mg.drop1 x q.2)], same_upd (s9.trans s') hE1, ?_, fun t ht => ?_, fun t ht => ?_, ?_⟩
                · have e := congrArg List.length lt
                  rw [List.length_map, List.length_map, List.length_take, List.length_map] at e
                  rw [List.length_map]
                  exact small1000 (by omega)
                · unfold refsOf
                  rw [upd_same, List.map_append]
                  rfl
                · rcases List.mem_append.mp ht with m | m
                  · have e1 := s' _ _ (each t m)
                    have ne1 : t.1 ≠ E1 := fun e => by
                      have f := fresh t m
                      have e2 := each t m
                      rw [e, hE] at e2
                      cases hts : ts with
                      | nil => rw [hts] at m; cases m
                      | cons t0 ts' =>
                        rw [hts] at e2
                        have e3 := HO.lst.inj (Option.some.inj e2)
                        cases h2 : t.2 with
                        | nil => rw [h2] at e3; cases e3
                        | cons z r => rw [h2] at e3; cases e3
                    rw [upd_ne ne1]
                    exact e1
                  · rw [List.mem_singleton.mp m, upd_ne DE]
                    exact h5
                · rcases List.mem_append.mp ht with m | m
                  · exact fresh t m
                  · rw [List.mem_singleton.mp m]
                    exact none_of_same s9 hD3
                · unfold lsOf
                  rw [List.map_append]
                  show lsOf ts ++ [Mg.drop1 x q.2] = _
                  rw [lt, take_snoc (lsOf_at hq), List.map_append]
                  rfl
            · obtain ⟨ts, s9, hE, each, fresh, lt⟩ := p
              have e0 : (lsOf qs).take (refsOf qs).length = lsOf qs := List.take_of_length_le (by rw [List.length_map, List.length_map]; exact Nat.le_refl _)
              rw [e0] at lt
              have lenT : ts.length = qs.length := by
                have e := congrArg List.length lt
                rw [List.length_map, List.length_map, List.length_map] at e
                exact e
              refine ⟨_, rfl, E1, rfl, ⟨_, SqL.of hE⟩, fun E2 hE2 => lc_sel (K := K) (ps := ts) (gv := fun p => V.ref p.1) 4 (fun p => V.ref p.1) (fun p => Mg.ne p.2) (SqL.of hE) (small1000 (by omega)) hE2 (fun _ => rfl)
                (fun j p G5 Q1 hp s q => tNe_step rfl (SqL.of (s _ _ (each p (List.mem_of_getElem? hp)))) q) (fun j p G5 Q1 hp _ s q => ⟨_, rfl, q _ (Same.refl _)⟩) fun G5 s10 h5 => ?_⟩
              have clearX := (Mg.firstFree_some ff).2
              refine ⟨Mg.size (Mg.st (lsOf ps) (n + 1)).2, by rw [Mg.st_some ff]; exact Mg.size_step ff, E2, _, n + 1, ts.filter fun p => Mg.ne p.2, rfl, rfl, s8.trans (s9.trans s10), ⟨SqL.of h5, fun p hp => SqL.of (s10 _ _ (each p (List.mem_filter.mp hp).1))⟩, ?_, ?_, ?_, fun p hp => .inl ?_⟩
              · have e : lsOf (ts.filter fun p => Mg.ne p.2) = Mg.nonE (lsOf ts) := by
                  unfold Mg.nonE lsOf
                  rw [List.filter_map]
                  rfl
                rw [e, lt, lq, Mg.nonE_pull (fun r hr => ⟨ok.nodups ndL r hr, Mg.clear_iff.mp clearX r hr⟩), Mg.st_some ff]
              · rw [s10 _ _ (s9 _ _ hO4), Mg.st_some ff, List.map_append]
                rfl
              · exact (ne_of_none (s9 _ _ hO4) hE2).symm
              · exact fun e => by
                  have f := fresh p (List.mem_filter.mp hp).1
                  rw [e, hO4] at f
                  cases f
    · rintro σ G Q1 Q2 imp ⟨x, hx, z, h⟩
      exact ⟨x, hx, z, fun p hp => let ⟨d, e, h1, h2, h3, h4, c, h5, h6⟩ := h p hp; ⟨d, e, h1, h2, h3, h4, c, h5, imp _ _ h6⟩⟩
end
end Lw

set_option autoImplicit true
set_option Elab.async false
set_option linter.all false
set_option maxRecDepth 100000
set_option maxHeartbeats 4000000
namespace Lw
open PySem L2 Two Pr
abbrev sLInt : Stmt := top 32
abbrev sLRing : Stmt := top 33
section
variable {P : Program} {w : World} {K : PySem.W.Frag} {mg : Str → Option Value} {base : Heap}
theorem scLInt : FnScope ["_law_value"] ["_law_value"] (defScope sLInt) := ⟨rfl, rfl, rfl, by decide +kernel, rfl, by decide +kernel, by decide +kernel⟩
theorem ok_lInt {f : Addr} {fd : FuncData} (F : Fun K "_law_is_integer" "_law_is_integer" sLInt f fd) (T : Txt mg) : FnOk P w K mg base CX0 1 f fd ["_law_value"] (spIsInt K) := by
  refine F.ok scLInt (fun vs H Q E h => ?_) (fun cdv A outer s H vs Q E hr h => ?_)
  · obtain ⟨x, _, _, _, rfl, _⟩ := h
    rfl
  · obtain ⟨x, t, b1, b2, rfl, ty, h1, h2, k⟩ := h
    refine ⟨_, pss_one (ps_ret (pe_and (pe_callB call_isi (by rfl) T.isinstance (by decide +kernel) (pa_cons (pv 0) (pa_cons (pe_bltn (v := .ty "int") (by rfl) T.int (by decide +kernel) rfl) pa_nil)))
      (pe_one (pe_not (pe_callB call_isi (by rfl) T.isinstance (by decide +kernel) (pa_cons (pv 0) (pa_cons (pe_bltn (v := .ty "bool") (by rfl) T.bool (by decide +kernel) rfl) pa_nil))))))), ?_⟩
    refine ⟨x, rfl, x, .ty "int", t, .type "int", b1, rfl, .ty _, ty, h1, b1, rfl, ?_⟩
    cases b1 with
    | false => exact iteF k
    | true => exact iteT ⟨x, rfl, x, .ty "bool", t, .type "bool", b2, rfl, .ty _, ty, h2, b2, rfl, k⟩

/-! ### _law_is_ring, where it is one -/
abbrev nLRing : List Str := ["_law_lists_here", "_law_ring", "_law_link", "_law_items_here", "_law_k", "_law_one", "_law_ahead", "_law_behind"]
theorem scLRing : FnScope nLRing ["_law_lists_here", "_law_ring"] (defScope sLRing) := ⟨rfl, rfl, rfl, by decide +kernel, rfl, by decide +kernel, by decide +kernel⟩
theorem ok_lRing {f fI : Addr} {fd fdI : FuncData} (F : Fun K "_law_is_ring" "_law_is_ring" sLRing f fd) (T : Txt mg) (gI : mg "_law_is_integer" = some (.ref fI)) (kI : PySem.W.keepIn K (.ref fI) = true) (bI : Binds K fdI ["_law_value"] [])
    (GI : FnOk P w K mg base CX0 1 fI fdI ["_law_value"] (spIsInt K)) : FnOk P w K mg base CX0 2 f fd ["_law_lists_here", "_law_ring"] (spIsRing K) := by
  refine F.ok scLRing (fun vs H Q E h => ?_) (fun cdv A outer s H vs Q E hr h => ?_)
  · obtain ⟨a, q, ps, us, rfl, _⟩ := h
    rfl
  · obtain ⟨a, q, ps, us, rfl, hL, fit, hq, tp, ring, hsz, k⟩ := h
    refine ⟨_, pss_cons (ps_if (PW.pt (pw_or (pt_not (pt_val (pe_callB call_isi (by rfl) T.isinstance (by decide +kernel) (pa_cons (pv 1) (pa_cons (pe_bltn (v := .ty "list") (by rfl) T.list (by decide +kernel) rfl) pa_nil)))))
        (pw_or1 (pt_cmpR op_lt (pe_callB call_len_seq (by rfl) T.len PySem.boot_len (pa_cons (pv 1) pa_nil)) pe_int (nomark _))))) pss_never pss_nil)
      (pss_cons (ps_for PassesOwn.never rfl (pi_list (pv 1)) (pg_name (i := 2) scLRing.nd rfl (Or.inl rfl))
        (pss_cons (ps_if (PW.pt (pw_or (pt_not (pt_val (pe_callB call_isi (by rfl) T.isinstance (by decide +kernel) (pa_cons (pv 2) (pa_cons (pe_bltn (v := .ty "tuple") (by rfl) T.tuple (by decide +kernel) rfl) pa_nil)))))
            (pw_or1 (pt_cmpR op_ne (pe_callB call_len_seq (by rfl) T.len PySem.boot_len (pa_cons (pv 2) pa_nil)) pe_int (nomark _))))) pss_never pss_nil)
        (pss_cons (ps_if (PW.pt (pw_or (pt_not (pt_val (pe_call GI hr rfl gI kI bI .nil pass0 (pa_cons (pe_ix ix_tup (pv 2) pe_int (fun _ _ => rfl)) pa_nil))))
            (pw_or1 (pt_not (pt_val (pe_call GI hr rfl gI kI bI .nil pass0 (pa_cons (pe_ix ix_tup (pv 2) pe_int (fun _ _ => rfl)) pa_nil))))))) pss_never pss_nil)
        (pss_one (ps_if (pt_not (pt_chain op_le op_lt pe_int (pe_ix ix_tup (pv 2) pe_int (fun _ _ => rfl)) (pe_callB call_len_seq (by rfl) T.len PySem.boot_len (pa_cons (pv 0) pa_nil)))) pss_never pss_nil)))))
      (pss_cons (ps_setLc (i := 3) (own := [("_law_link", 2)]) (g := gName 2) (tt := tYes) (te := tItem0 K 2) rfl scLRing.nd rfl rfl (sw_true rfl rfl rfl (by decide +kernel)) (pi_list (pv 1)) (blkOk_by (N := nLRing) (sc := defScope sLRing) (by decide +kernel))
          (fun _ _ _ _ _ => pg_name (i := 2) scLRing.nd rfl (Or.inl rfl)) (fun _ _ _ _ _ => pts_nil) (fun _ _ _ _ _ => pe_ix ix_tup (pv 2) pe_int (fun _ _ => rfl)))
      (pss_cons (ps_if (pt_cmpR op_lt (RZ.pe_lenSetI (by rfl) T.len (by rfl) T.set (pv 3)) (pe_callB call_len_seq (by rfl) T.len PySem.boot_len (pa_cons (pv 3) pa_nil)) (nomark _)) pss_never pss_nil)
      (pss_cons (ps_for PassesOwn.never rfl (pi_range1 rfl T.range (pa_cons (pe_callB call_len_seq (by rfl) T.len PySem.boot_len (pa_cons (pv 1) pa_nil)) pa_nil)) (pg_name (i := 4) scLRing.nd rfl (Or.inl rfl))
        (pss_cons (ps_set (i := 5) scLRing.nd rfl (Or.inl rfl) (pe_ix ix_list (pv 0) (pe_ix ix_tup (pe_ix ix_list (pv 1) (pv 4) (fun _ _ => rfl)) pe_int (fun _ _ => rfl)) (fun _ _ => rfl)))
        (pss_cons (ps_par (i := 6) (j := 7) rfl scLRing.nd rfl rfl (by decide) rfl rfl (pa_cons (pe_ix ix_list (pv 3) (pv 4) (fun _ _ => rfl)) (pa_cons (pe_ix ix_list (pv 3) (pe_op op_mod (pe_op op_add (pv 4) pe_int) (pe_callB call_len_seq (by rfl) T.len PySem.boot_len (pa_cons (pv 1) pa_nil))) (fun _ _ => rfl)) pa_nil)) (by rfl))
        (pss_one (ps_if (PW.pt (pw_or (pt_cmpR op_notIn_seq (pv 6) (pv 5) (by rfl)) (pw_or (pt_cmpR op_notIn_seq (pv 7) (pv 5) (by rfl))
          (pw_or1 (pt_cmpR op_ge (pe_bm PySem.F.plainAttrs_list PySem.F.slot_list_index PySem.F.type_list_index mt_index (pv 5) (pa_cons (pv 6) pa_nil)) (pe_bm PySem.F.plainAttrs_list PySem.F.slot_list_index PySem.F.type_list_index mt_index (pv 5) (pa_cons (pv 7) pa_nil)) (nomark _)))))) pss_never pss_nil)))))
      (pss_one (ps_ret pe_bl)))))), ?_⟩
    have szq : (tupRefs us).length = us.length := by rw [List.length_map]
    have two : 2 ≤ us.length := by have := ring.two; rw [List.length_map] at this; exact this
    refine ⟨_, rfl, _, .ty "list", .type "list", .type "list", true, rfl, .ty _, tyx_list (SqL.of hq), kit_ty (by decide +kernel), true, rfl, iteF ?_⟩
    refine ⟨_, rfl, q, _, rfl, .inl (SqL.of hq), _, _, rfl, rfl, _, rfl, ?_⟩
    rw [decide_eq_false (by rw [szq]; omega)]
    refine iteF ?_
    have link : ∀ (j : Nat) (u : Addr × Int × Nat), us[j]? = some u → u.2.2 < ps.length := fun j u hu => by
      obtain ⟨a1, i1, b1, j1, l1, e1, e2, e3, e4⟩ := ring.link j (by rw [List.length_map]; exact (List.getElem?_eq_some_iff.mp hu).1)
      rw [List.getElem?_map, hu] at e1
      have e1 : some u.2 = some (a1, i1) := e1
      have e5 : u.2.2 = i1 := by rw [Option.some.inj e1]
      rw [e5]
      have := (List.getElem?_eq_some_iff.mp e3).1
      rw [List.length_map] at this
      exact this
    refine ⟨_, rfl, q, rfl, ⟨_, SqL.of hq⟩, for_list (K := K) (a := q) (xs := tupRefs us) (fun i σ G => G = H ∧ ∃ v : Option V, σ = [some (.ref a), some (.ref q), v, none, none, none, none, none]) ⟨rfl, none, rfl⟩ (fun i σ G _ p => by rw [p.1]; exact SqL.of hq) ?_ ?_⟩
    · rintro j x σ G hx ⟨rfl, v, rfl⟩
      obtain ⟨u, hu, rfl⟩ := get_map hx
      have ht := tp u (List.mem_of_getElem? hu)
      have hlk := link j u hu
      refine ⟨_, rfl, _, .ty "tuple", .type "tuple", .type "tuple", true, rfl, .ty _, tyx_tup ht, kit_ty (by decide +kernel), true, rfl, iteF ?_⟩
      refine ⟨_, rfl, u.1, _, rfl, .inr (SqT.of ht), rfl, _, rfl, iteF ?_⟩
      refine ⟨_, rfl, u.1, _, 0, .int u.2.1, rfl, rfl, SqT.of ht, rfl, .int u.2.1, .type "int", true, false, rfl, .base (.int _), kit_ty (by decide +kernel), kit_ty (by decide +kernel), true, rfl, iteF ?_⟩
      refine ⟨_, rfl, u.1, _, 1, .int (u.2.2 : Nat), rfl, rfl, SqT.of ht, rfl, .int (u.2.2 : Nat), .type "int", true, false, rfl, .base (.int _), kit_ty (by decide +kernel), kit_ty (by decide +kernel), true, rfl, iteF ?_⟩
      refine ⟨_, rfl, u.1, _, 1, .int (u.2.2 : Nat), rfl, rfl, SqT.of ht, rfl, 0, _, rfl, rfl, _, rfl, ?_⟩
      rw [decide_eq_true (by omega)]
      refine iteT ⟨_, rfl, a, _, rfl, .inl hL.1, _, _, rfl, rfl, _, rfl, ?_⟩
      rw [decide_eq_true (by rw [List.length_map]; omega)]
      exact iteF ⟨rfl, _, rfl⟩
    · rintro σ G ⟨rfl, v, rfl⟩
      refine ⟨_, rfl, q, rfl, ⟨_, SqL.of hq⟩, fun D hD => lc_sel (K := K) (ps := us) (gv := fun u => V.ref u.1) 2 (fun u => V.int u.2.1) (fun _ => true) (SqL.of hq) (small1000 (by omega)) hD (fun _ => rfl)
        (fun j u G1 Q1 _ s q' => q' _ (Same.refl _)) (fun j u G1 Q1 hu _ s q' => ⟨_, rfl, u.1, _, 0, .int u.2.1, rfl, rfl, SqT.of (s _ _ (tp u (List.mem_of_getElem? hu))), rfl, q' _ (Same.refl _)⟩) fun G1 s1 h1 => ?_⟩
      rw [List.filter_eq_self.mpr fun _ _ => rfl] at h1
      have items : us.map (fun u => V.int u.2.1) = (((us.map (·.2)).map (·.1))).map V.int := by
        rw [List.map_map, List.map_map]
        rfl
      rw [items] at h1
      generalize hits : (us.map (·.2)).map (·.1) = its at h1
      have lenI : its.length = us.length := by rw [← hits, List.length_map, List.length_map]
      have ndI : its.Nodup := by rw [← hits]; exact ring.nd
      refine ⟨_, rfl, D, its, rfl, SqL.of h1, ndI, by omega, _, rfl, D, _, rfl, .inl (SqL.of h1), _, _, rfl, rfl, _, rfl, ?_⟩
      rw [decide_eq_false (by rw [List.length_map]; omega)]
      refine iteF ?_
      have hq1 := s1 _ _ hq
      refine ⟨_, rfl, q, _, rfl, .inl (SqL.of hq1), _, rfl, by omega, by rw [szq]; omega, for_range (lo := 0) (n := (((tupRefs us).length : Nat) : Int).toNat) (fun i σ G => G = G1 ∧ ∃ (v2 v4 v5 v6 v7 : Option V), σ = [some (.ref a), some (.ref q), v2, some (.ref D), v4, v5, v6, v7]) ⟨rfl, _, _, _, _, _, rfl⟩ ?_ ?_⟩
      · rintro j σ G hj ⟨rfl, v2, v4, v5, v6, v7, rfl⟩
        rw [szq] at hj
        have hj : j < us.length := by omega
        obtain ⟨a1, i1, b1, j1, l1, g1, g2, g3, g4⟩ := ring.link j (by rw [List.length_map]; exact hj)
        rw [List.length_map] at g2
        obtain ⟨u, hu, e1⟩ := get_map g1
        obtain ⟨p0, hp0, e0⟩ := get_map g3
        have mp := List.mem_of_getElem? hp0
        have ht := s1 _ _ (tp u (List.mem_of_getElem? hu))
        rw [← e1] at ht
        have hS := s1.seq (hL.2 p0 mp)
        rw [← e0] at hS
        have short1 : l1.length ≤ 30 := by rw [e0]; exact fit.short p0 mp
        obtain ⟨ia, ib, ha, hb, hab, na, nb⟩ := g4.at (by rw [e0]; exact fit.nd p0 mp)
        have rp : (refsOf ps)[i1]? = some (V.ref p0.1) := by rw [List.getElem?_map, hp0]; rfl
        have ru : (tupRefs us)[j]? = some (V.ref u.1) := by rw [List.getElem?_map, hu]; rfl
        have z0 : (0 : Int) + (j : Nat) = ((j : Nat) : Int) := by omega
        have itA : its[j]? = some a1 := by rw [← hits, List.getElem?_map, g1]; rfl
        have itB : its[(j + 1) % us.length]? = some b1 := by rw [← hits, List.getElem?_map, g2]; rfl
        have z1 : ((j : Nat) + 1 : Int) % (((tupRefs us).length : Nat) : Int) = (((j + 1) % us.length : Nat) : Int) := by rw [szq]; exact (Int.natCast_emod (j + 1) us.length).symm
        rw [z0]
        refine ⟨_, rfl, _, rfl, _, rfl, q, _, (j : Nat), .ref u.1, rfl, rfl, SqL.of hq1, atI_nat ru, u.1, _, 1, .int (i1 : Nat), rfl, rfl, SqT.of ht, rfl, a, _, (i1 : Nat), .ref p0.1, rfl, rfl, s1.seq hL.1, atI_nat rp, ?_⟩
        refine ⟨_, rfl, _, rfl, D, _, (j : Nat), .int a1, rfl, rfl, SqL.of h1, atI_nat (by rw [List.getElem?_map, itA]; rfl), _, rfl, _, rfl, _, _, rfl, rfl, _, rfl, q, _, rfl, .inl (SqL.of hq1), _, _, rfl, rfl, (by show (0 : Int) < (((tupRefs us).length : Nat) : Int); rw [szq]; omega), D, _, _, .int b1, rfl, rfl, SqL.of h1, ?_, _, _, rfl, ?_⟩
        · rw [z1]
          exact atI_nat (by rw [List.getElem?_map, itB]; rfl)
        refine ⟨_, rfl, _, rfl, p0.1, _, rfl, .inl hS, rfl, flat_ints _, _, rfl, ?_⟩
        show if (!inV (.int a1) (l1.map V.int)) = true then _ else _
        rw [inV_ints, List.contains_iff_mem.mpr (List.mem_of_getElem? ha)]
        refine iteF ?_
        refine ⟨_, rfl, _, rfl, p0.1, _, rfl, .inl hS, rfl, flat_ints _, _, rfl, ?_⟩
        show if (!inV (.int b1) (l1.map V.int)) = true then _ else _
        rw [inV_ints, List.contains_iff_mem.mpr (List.mem_of_getElem? hb)]
        refine iteF ?_
        have idx : ∀ (z : Int) (n : Nat), l1[n]? = some z → (∀ m, m < n → l1[m]? ≠ some z) → ∀ (m : Nat) (z' : V), m < n → (l1.map V.int)[m]? = some z' → eqV z' (.int z) = false := fun z n _ no m z' hm hz => by
          obtain ⟨y, hy, rfl⟩ := get_map hz
          show (y == z) = false
          exact beq_eq_false_iff_ne.mpr fun e => no m hm (by rw [hy, e])
        refine ⟨_, rfl, .inl ⟨rfl, _, hS⟩, _, rfl, p0.1, _, .int a1, ia, .int a1, rfl, rfl, hS, rfl, flat_ints _, by rw [List.getElem?_map, ha]; rfl, beq_self_eq_true a1, idx a1 ia ha na, ?_⟩
        refine ⟨_, rfl, .inl ⟨rfl, _, hS⟩, _, rfl, p0.1, _, .int b1, ib, .int b1, rfl, rfl, hS, rfl, flat_ints _, by rw [List.getElem?_map, hb]; rfl, beq_self_eq_true b1, idx b1 ib hb nb, _, _, rfl, rfl, _, rfl, ?_⟩
        rw [decide_eq_false (by omega)]
        exact iteF ⟨rfl, _, _, _, _, _, rfl⟩
      · rintro σ G ⟨rfl, _⟩
        exact k _ s1
end
end Lw

set_option autoImplicit true
set_option Elab.async false
set_option linter.all false
set_option maxRecDepth 100000
set_option maxHeartbeats 8000000
/-! set(xs) of a list of ints. -/
namespace Two
open PySem PySem.Spec PyProof.Rows L2
section
variable {P : Program} {w : World} {A : Around} {E : Value → Shared → Prop} {s : Shared}
/-- the object of an empty set -/
abbrev setOb (w : World) : Obj := { cls := .type "set", dict := none, data := .set #[] 0 (.fresh 0 0 (!w.params.followText "set-order")) }
theorem call_set_lstI {l : Addr} {its : Array Value} (ns : List Int) {Q : Value → Shared → Prop} (hh : A.handled = none) (hl : s.heap.IsList l its) (hi : IntsAre its.toList ns) (hb : ns.length + 1 < scanBound)
    (h : ∀ (h' : Heap) (tk c : Nat), SetR w h' s.heap.objs.size (fun j => decide (j ∈ ns)) c → (∀ b o, s.heap.get? b = some o → h'.get? b = some o) → Q (.ref s.heap.objs.size) { s with heap := h', toks := tk }) :
    wpAny (model P w) A (call (.type "set") [.ref l]) Q E s := by
  have size : its.size = ns.length := by have q := hi.length; rwa [Array.length_toList] at q
  obtain ⟨c, tl, hmro⟩ := F.called_set.mro
  have hmade := F.called_set.made
  have hsub := F.called_set.sub
  refine wpAny_call (codeAny_of_tree ?_)
  show wpAny _ _ (callAny (.type "set") _) _ _ _
  refine wpAny_pure ⟨Code.quiet_builtin _ (by decide +kernel), codeAny_builtin F.entry_type_call ?_⟩
  rw [Around.under_plain (weight_type_call_type "set" [.ref l] []) rfl]
  have h1 := F.called_set.notType
  have h2 := F.called_set.canCreate
  have h3 := F.typeCall_set_1 (.ref l)
  repeat (any_goals (first | assumption | wp_step))
  refine codeAny_mono (code_set_led1 (.ref l) (E := E) (Q₁ := fun ob z => ob = .ref s.heap.objs.size ∧ z = { s with heap := s.heap.push (setOb w) }) ⟨rfl, rfl⟩) fun r z hr => ?_
  match r, hr with
  | .error e, hr => exact hr
  | .ok .next, hr => exact hr.elim
  | .ok .brk, hr => exact hr.elim
  | .ok .cont, hr => exact hr.elim
  | .ok (.ret ob), hr =>
    obtain ⟨rfl, rfl⟩ := hr
    have new : (s.heap.push (setOb w)).get? s.heap.objs.size = some (setOb w) := Heap.get?_push_size _ rfl
    have hT : Shared.TypeIs { s with heap := s.heap.push (setOb w) } (.ref s.heap.objs.size) "set" := ⟨_, new, rfl⟩
    have i1 := F.called_set.init.lookup
    have i2 := F.called_set.init.bind (.ref s.heap.objs.size)
    repeat (any_goals (first | assumption | wp_step))
    refine codeAny_mono (codeAny_call_builtin (R := wants (fun r y => r = .none ∧ ∃ h' tk c, y = { s with heap := h', toks := tk } ∧ SetR w h' s.heap.objs.size (fun j => decide (j ∈ ns)) c ∧ (∀ b o, s.heap.get? b = some o → h'.get? b = some o)) E)
      F.called_set.init.plain F.entry_set_init (check_set_init_1 hT ?_)) fun r y hr => ?_
    · obtain ⟨⟨ocls, odict, odata, oslots⟩, hol, hcl, nl, hdl⟩ := hl
      have hcl : ocls = .type "list" := hcl
      have hdl : odata = .seq its nl := hdl
      subst hcl hdl
      have kept : (s.heap.push (setOb w)).get? l = some { cls := .type "list", dict := odict, data := .seq its nl, slots := oslots } := Heap.get?_push_of_some _ hol
      have t1 := F.sub_list_set
      have t2 := F.sub_list_frozenset
      have t3 : (Value.type "list" == Value.type "dict") = false := by decide
      have isL : (s.heap.push (setOb w)).IsList l its := ⟨_, kept, rfl, nl, rfl⟩
      unfold Builtin.«set.__init__» noKeywords Builtin.Frozenset.updateFrom
      generalize hPI : pyIter = PI
      wp_walk
      subst hPI
      refine wpAny_pyIter_list isL ?_
      refine wpAny_bind (wpAny_runValue ?_)
      have lS : l < s.heap.objs.size := Heap.lt_size hol
      have hh3 : A.in1.in1.in1.handled = none := by simp [hh]
      have ne1 : l ≠ (s.heap.push (setOb w)).objs.size := by rw [Heap.size_push]; exact Nat.ne_of_lt (Nat.lt_succ_of_lt lS)
      have out : s.heap.objs.size ∉ [(s.heap.push (setOb w)).objs.size, l] := by
        rw [Heap.size_push]
        simp only [List.mem_cons, List.not_mem_nil, or_false, not_or]
        exact ⟨Nat.ne_of_lt (Nat.lt_succ_self _), Nat.ne_of_gt lS⟩
      have val : ∀ (i : Nat) (v : Value), its[i]? = some v → ∃ k t, ns[i]? = some k ∧ v = .int k t := fun i v hv => by
        have lt : i < ns.length := by rw [← size]; exact (Array.getElem?_eq_some_iff.mp hv).1
        obtain ⟨t, e⟩ := hi.int_at i v (by rw [Array.getElem?_toList]; exact hv)
        exact ⟨ns[i], t, List.getElem?_eq_getElem lt, by rw [e, List.getD_eq_getElem?_getD, List.getElem?_eq_getElem lt] <;> rfl⟩
      refine set_update_ints ((Walks.list hh3 _ l ne1 its).toS) s.heap.objs.size out ns size hb val (its.size - 0) 0 _ (by omega) (Nat.zero_le _) ⟨⟨_, Heap.get?_push_size _ rfl, rfl, rfl⟩, isL.push _⟩
        ⟨0, Nat.le_refl 0, setR_new_at (Heap.get?_push_of_some _ new)⟩ ?_
      intro y c' hm hc' hS
      obtain ⟨h', g2, d', tk', os'⟩ := y
      obtain rfl : g2 = s.gens := hm.gens
      obtain rfl : d' = s.drawn := hm.drawn
      obtain rfl : os' = s.os := hm.os
      show wpAny _ _ _ _ _ _
      refine wpAny_pure ?_
      show wpAny _ _ (ret Value.none) _ _ _
      refine wpAny_pure ⟨rfl, h', tk', c', rfl, hS, fun b o e => ?_⟩
      have lt0 : b < s.heap.objs.size := Heap.lt_size e
      refine hm.heap b o ?_ (Heap.get?_push_of_some _ (Heap.get?_push_of_some _ e))
      simp only [List.mem_cons, List.not_mem_nil, or_false, not_or]
      exact ⟨Nat.ne_of_lt lt0, by rw [Heap.size_push]; exact Nat.ne_of_lt (Nat.lt_succ_of_lt lt0)⟩
    · match r, hr with
      | .error e, hr => exact hr
      | .ok .next, hr => exact hr.elim
      | .ok .brk, hr => exact hr.elim
      | .ok .cont, hr => exact hr.elim
      | .ok (.ret r), hr =>
        obtain ⟨rfl, h', tk, c', rfl, hS, hk⟩ := hr
        repeat (any_goals (first | assumption | wp_step))
        exact h _ _ _ hS hk
end
theorem nodup_le_len : ∀ {l m : List Int}, l.Nodup → (∀ x ∈ l, x ∈ m) → l.length ≤ m.length
  | [], _, _, _ => Nat.zero_le _
  | a :: l, m, nd, h => by
    have nd := List.nodup_cons.mp nd
    have ha := h a List.mem_cons_self
    have q := nodup_le_len (l := l) (m := m.erase a) nd.2 fun x hx => (List.mem_erase_of_ne (fun e : x = a => nd.1 (by rw [← e]; exact hx))).mpr (h x (List.mem_cons_of_mem _ hx))
    have e := List.length_erase_of_mem ha
    have := List.length_pos_of_mem ha
    simp only [List.length_cons]
    omega
section
variable {X : Cx}
/-- set(xs), xs a list of ints that are all of U -/
def rSetL (K : PySem.W.Frag) (w : World) : List V → Hp → VK → Prop := fun vs H Q => ∃ (a : Addr) (ns U : List Int), vs = [V.ref a] ∧ SqL K H a (ns.map V.int) ∧ ns.length ≤ 1000 ∧ (∀ z ∈ ns, z ∈ U) ∧
  ∀ (p : Addr) (c : Nat), H p = none → c ≤ U.length → Q (.ref p) (upd H p (SetO w p (fun j => decide (j ∈ ns)) c))
theorem cr_setL (hc : X.calm = true) : CallR X (.type "set") (rSetL X.K X.w) := by
  intro pins s σ H vs us Q I r h
  obtain ⟨a, ns, U, rfl, hs, hz, hU, q⟩ := h
  rw [Vals.ref1 r]
  obtain ⟨its, rv, pl, _⟩ := I.list hs
  refine call_set_lstI ns (I.ok.hd hc) pl.isList (by simpa using RZ.intsAre_vals rv) (by unfold scanBound; omega) fun h' tk c R k => ?_
  have few : c ≤ U.length := by
    obtain ⟨o, es, ep, t, _, _, _, _, nd, mem, _, _, hn, _⟩ := R
    have e : (es.toList.map keyOf).length = c := by rw [List.length_map, Array.length_toList, hn]
    rw [← e]
    exact nodup_le_len nd fun x hx => hU x (of_decide_eq_true ((mem x).mpr hx))
  exact ⟨.ref _, _, I.laid (t' := tk) k (Nat.le_refl _) (setO_new R), rfl, q _ c (I.hok.fresh (Nat.le_refl _)) few⟩
end
end Two

set_option autoImplicit true
set_option Elab.async false
set_option linter.all false
set_option maxRecDepth 100000
set_option maxHeartbeats 4000000
namespace Lw
open PySem L2 Two Pr
abbrev sItems : Stmt := top 27
abbrev sSome : Stmt := top 28
abbrev sTurned : Stmt := top 29
abbrev sLists : Stmt := top 30
structure TxtL (mg : Str → Option Value) : Prop where
  base : Txt mg
  sorted : mg "sorted" = none
  repr : mg "repr" = none
def Big (z : Int) : Prop := z.natAbs ≤ 10 ^ 30
def rMul : R2 := rI CMul fun i j => .int (i * j)
def rSub : R2 := rI0 fun i j => .int (i - j)
def rLt : R2 := rI0 fun i j => .bl (decide (i < j))
theorem but_trans {l : Addr} {H H1 H2 : Hp} (a : But (· = l) H H1) (b : But (· = l) H1 H2) : But (· = l) H H2 := fun p o n e => b p o n (a p o n e)
theorem but_same {l : Addr} {H H1 : Hp} (a : Same H H1) : But (· = l) H H1 := fun p o _ e => a p o e
theorem but_new {l p : Addr} {H H1 : Hp} {o : HO} (a : But (· = l) H H1) (n : H p = none) : But (· = l) H (upd H1 p o) := fun b u nb e => by
  rw [upd_ne (ne_of_none e n)]
  exact a b u nb e
theorem but_none {l p : Addr} {H H1 : Hp} (a : But (· = l) H H1) (n : H1 p = none) (ne : p ≠ l) : H p = none := by
  cases h : H p with
  | none => rfl
  | some o => rw [a p o ne h] at n; cases n
theorem src_none {H : Hp} {l p : Addr} {n : Nat} (s : Src H l n) (h : H p = none) : p ≠ l := fun e => by
  obtain ⟨x, y, c, e2, _⟩ := s
  rw [e, e2] at h
  cases h
theorem Src.upd {H : Hp} {l p : Addr} {n : Nat} {o : HO} (s : Src H l n) (h : p ≠ l) : Src (upd H p o) l n := by
  obtain ⟨x, y, c, e2, r⟩ := s
  exact ⟨x, y, c, by rw [upd_ne h.symm]; exact e2, r⟩
section
variable {P : Program} {w : World} {K : PySem.W.Frag} {mg : Str → Option Value} {base : Heap}
/-! ### _law_items -/
def spItems : Sp := fun vs H Q _ => ∃ (l : Addr) (m n : Nat), vs = [.ref l, .int m] ∧ m ≤ 20 ∧ Src H l n ∧ n ≤ 900000 ∧
  ∀ (H' : Hp) (r : Addr) (its : List Int), But (· = l) H H' → Src H' l (n + 64) → H r = none → H' r = some (.lst (its.map V.int)) → its.Nodup → its.length ≤ m + 2 → (∀ z ∈ its, Big z) → Q (.ref r) H'
abbrev nItems : List Str := ["_law_source_here", "_law_count", "_law_left", "_law_found", "_law_k"]
theorem scItems : FnScope nItems ["_law_source_here", "_law_count"] (defScope sItems) := ⟨rfl, rfl, rfl, by decide +kernel, rfl, by decide +kernel, by decide +kernel⟩
/-- k * pick(source, [1, 7]) - draw(source, 3) * 100 -/
def tDrawn (K : PySem.W.Frag) : TE := tOp rSub (tOp rMul (tVar 4) (tCall (spPick K) [] E0 (tCons (tVar 0) (tCons (tLst (tCons (tC (.int 1)) (tCons (tC (.int 7)) tNil))) tNil)))) (tOp rMul (tCall spDraw [] E0 (tCons (tVar 0) (tCons (tC (.int 3)) tNil))) (tC (.int 100)))
theorem pair_lt_nodup {l : List Int} (h : l.Pairwise (· < ·)) : l.Nodup := List.Pairwise.imp (fun {a b} (k : a < b) => by omega) h
theorem erase_perm' : ∀ {l : List Int} {k : Nat} {y : Int}, l[k]? = some y → (y :: l.eraseIdx k).Perm l
  | [], k, y, h => by simp at h
  | a :: l, 0, y, h => by
    have e : a = y := Option.some.inj h
    rw [e]
    exact List.Perm.refl _
  | a :: l, k + 1, y, h => (List.Perm.swap a y _).trans ((erase_perm' (l := l) (k := k) (y := y) h).cons a)
theorem map_erase' {α β : Type} (f : α → β) : ∀ (l : List α) (k : Nat), (l.map f).eraseIdx k = (l.eraseIdx k).map f
  | [], _ => rfl
  | _ :: _, 0 => rfl
  | a :: l, k + 1 => congrArg (f a :: ·) (map_erase' f l k)
theorem seq_nat' {n k : Nat} (h : k < n) : seqIndex? (k : Int) n = some k := by
  unfold seqIndex?
  have a : ¬ (k : Int) < 0 := by omega
  simp only [a, if_false]
  have b : (0 ≤ (k : Int)) := by omega
  have c : ((k : Int) < n) := by omega
  rw [decide_eq_true b, decide_eq_true c]
  rfl
theorem ok_items {f fD fP : Addr} {fd dD dP : FuncData} (F : Fun K "_law_items" "_law_items" sItems f fd) (T : TxtL mg)
    (gD : mg "_law_draw" = some (.ref fD)) (kD : PySem.W.keepIn K (.ref fD) = true) (bD : Binds K dD ["_law_source_here", "_law_size"] []) (GD : FnOk P w K mg base CX0 1 fD dD ["_law_source_here", "_law_size"] spDraw)
    (gP : mg "_law_pick" = some (.ref fP)) (kP : PySem.W.keepIn K (.ref fP) = true) (bP : Binds K dP ["_law_source_here", "_law_items_here"] []) (GP : FnOk P w K mg base CX0 2 fP dP ["_law_source_here", "_law_items_here"] (spPick K)) :
    FnOk P w K mg base CX0 3 f fd ["_law_source_here", "_law_count"] spItems := by
  refine F.ok scItems (fun vs H Q E h => ?_) (fun cdv A outer s H vs Q E hr h => ?_)
  · obtain ⟨l, m, n, rfl, _⟩ := h
    rfl
  · obtain ⟨l, m, n, rfl, hm, src, hn, k⟩ := h
    have hr1 : Room 1 _ := hr.mono (by decide)
    refine ⟨_, pss_cons (ps_setLc (i := 2) (own := [("_law_k", 4)]) (g := gName 4) (tt := tYes) (te := tDrawn K) rfl scItems.nd rfl rfl (sw_true rfl rfl rfl (by decide +kernel)) (pi_range1 rfl T.base.range (pa_cons (pv 1) pa_nil)) (blkOk_by (N := nItems) (sc := defScope sItems) (by decide +kernel))
          (fun _ _ _ _ _ => pg_name (i := 4) scItems.nd rfl (Or.inl rfl)) (fun _ _ _ _ _ => pts_nil) (fun _ _ _ _ _ => pe_op op_sub (pe_op op_mul (pv 4) (pe_call GP hr rfl gP kP bP .nil pass0 (pa_cons (pv 0) (pa_cons (pe_lst (pa_cons pe_int (pa_cons pe_int pa_nil))) pa_nil))))
            (pe_op op_mul (pe_call GD hr1 rfl gD kD bD .nil pass0 (pa_cons (pv 0) (pa_cons pe_int pa_nil))) pe_int)))
      (pss_cons (ps_set (i := 2) scItems.nd rfl (Or.inl rfl) (pe_callB (cr_sortedSet rfl) (by rfl) T.sorted (by decide +kernel) (pa_cons (pe_callTy (cr_setL rfl) (by rfl) T.base.set (by decide +kernel) (pa_cons (pe_op op_cat (pv 2) (pe_lst (pa_cons (pe_op op_pow pe_int pe_int) (pa_cons (pe_op op_sub pe_int (pe_op op_pow pe_int pe_int)) pa_nil)))) pa_nil)) pa_nil)))
      (pss_cons (ps_set (i := 3) scItems.nd rfl (Or.inl rfl) (pe_lst pa_nil))
      (pss_cons (ps_while PassesOwn.never (pt_cmpR (op_neD hr.units) (pv 2) (pe_lst pa_nil) (nomark _))
        (pss_one (ps_expr (pe_bm PySem.F.plainAttrs_list PySem.F.slot_list_append PySem.F.type_list_append mt_append (pv 3) (pa_cons (pe_bm PySem.F.plainAttrs_list PySem.F.slot_list_pop PySem.F.type_list_pop mt_popAt (pv 2)
          (pa_cons (pe_call GD hr1 rfl gD kD bD .nil pass0 (pa_cons (pv 0) (pa_cons (pe_callB call_len_seq (by rfl) T.base.len PySem.boot_len (pa_cons (pv 2) pa_nil)) pa_nil))) pa_nil)) pa_nil)))))
      (pss_one (ps_ret (pv 3)))))), ?_⟩
    have tn : ((m : Nat) : Int).toNat = m := rfl
    refine ⟨_, rfl, _, rfl, by omega, by omega, ?_⟩
    rw [tn]
    refine fun D hD => lc_range (lo := 0) (n := m) (fun j G => ∃ zs : List Int, But (· = l) H G ∧ Src G l (n + 2 * j) ∧ G D = some (.lst (zs.map V.int)) ∧ zs.length = j ∧ ∀ z ∈ zs, z.natAbs ≤ 1000)
      ⟨[], but_new (but_same (Same.refl H)) hD, src.upd (src_none src hD), upd_same, rfl, fun z hz => nomatch hz⟩ (fun j G hj p => ?_) (fun G p => ?_)
    · obtain ⟨zs, b1, src1, hG, lz, hz⟩ := p
      refine ⟨rfl, ?_⟩
      unfold tYes
      simp only [if_true]
      refine ⟨_, rfl, _, rfl, by show 2 ≤ sizeLine; decide, fun p hp => ?_⟩
      have pl := src_none src1 hp
      refine ⟨l, p, n + 2 * j, _, rfl, src1.upd pl, by omega, SqL.of upd_same, pl, by simp, by show 2 ≤ 1000; decide, fun G2 x b2 src2 hx => ?_⟩
      obtain ⟨xi, rfl, x0, x1⟩ : ∃ xi : Int, x = .int xi ∧ 0 ≤ xi ∧ xi ≤ 7 := by
        rcases List.mem_cons.mp hx with rfl | hx
        · exact ⟨1, rfl, by decide, by decide⟩
        · rw [List.mem_singleton.mp hx]; exact ⟨7, rfl, by decide, by decide⟩
      refine ⟨_, _, rfl, rfl, .inr ⟨by omega, by omega⟩, ?_⟩
      refine ⟨_, rfl, l, 3, n + 2 * j + 1, rfl, by decide, by decide, src2, by omega, fun G3 d b3 src3 d0 d1 => ?_⟩
      refine ⟨_, _, rfl, rfl, .inr ⟨by decide, by decide⟩, _, _, rfl, rfl, ?_⟩
      have DL : D ≠ l := src_none src hD
      have pD : D ≠ p := ne_of_none hG hp
      have hG3 : G3 D = some (.lst (zs.map V.int)) := b3 _ _ DL (b2 _ _ DL (by rw [upd_ne pD]; exact hG))
      refine ⟨_, hG3, small1000 (by rw [List.length_map]; omega), zs ++ [((0 : Int) + (j : Nat)) * xi - d * 100], but_new (but_trans b1 (but_trans (but_same (same_new hp)) (but_trans b2 b3))) hD, (src3.upd DL).more (by omega), by rw [upd_same, List.map_append]; rfl, by rw [List.length_append, lz]; rfl, fun z hz' => ?_⟩
      rcases List.mem_append.mp hz' with q | q
      · exact hz z q
      · rw [List.mem_singleton.mp q]
        have h1 : (0 + (j : Int)) * xi ≤ 20 * 7 := Int.mul_le_mul (by omega) x1 x0 (by decide)
        have h2 : 0 ≤ (0 + (j : Int)) * xi := Int.mul_nonneg (by omega) x0
        omega
    · obtain ⟨zs, b1, src1, hG, lz, hz⟩ := p
      have DL : D ≠ l := src_none src hD
      refine ⟨_, rfl, _, _, rfl, rfl, by unfold CPow; decide, _, _, rfl, rfl, by unfold CPow; decide, _, _, rfl, rfl, by show 2 ≤ sizeLine; decide, fun p hp => ?_⟩
      have pD : D ≠ p := ne_of_none hG hp
      have s2 : Same G (upd G p (.lst [.int ((10 : Int) ^ (30 : Int).toNat), .int (0 - (10 : Int) ^ (20 : Int).toNat)])) := same_new hp
      refine ⟨D, p, _, _, rfl, rfl, s2 _ _ hG, upd_same, by rw [List.length_map]; exact Nat.le_of_lt (small1000 (by show zs.length + 2 ≤ 1000; omega)), fun q hq => ?_⟩
      have s3 := s2.trans (same_new (o := .lst (zs.map V.int ++ [.int ((10 : Int) ^ (30 : Int).toNat), .int (0 - (10 : Int) ^ (20 : Int).toNat)])) hq)
      obtain ⟨all, hall⟩ : ∃ all : List Int, all = zs ++ [(10 : Int) ^ (30 : Int).toNat, 0 - (10 : Int) ^ (20 : Int).toNat] := ⟨_, rfl⟩
      have eall : zs.map V.int ++ [.int ((10 : Int) ^ (30 : Int).toNat), .int (0 - (10 : Int) ^ (20 : Int).toNat)] = all.map V.int := by rw [hall, List.map_append]; rfl
      rw [eall] at s3 ⊢
      have lall : all.length = m + 2 := by rw [hall, List.length_append, lz]; rfl
      have bigA : ∀ z ∈ all, Big z := fun z hz' => by
        rw [hall] at hz'
        unfold Big
        rcases List.mem_append.mp hz' with h | h
        · have := hz z h
          have : (1000 : Nat) ≤ 10 ^ 30 := by decide
          omega
        · rcases List.mem_cons.mp h with rfl | h
          · decide
          · rw [List.mem_singleton.mp h]; decide
      refine ⟨q, all, all, rfl, SqL.of upd_same, by omega, fun z h => h, fun S c hS hc => ?_⟩
      have s4 := s3.trans (same_new (o := SetO w S (fun j => decide (j ∈ all)) c) hS)
      refine ⟨S, _, c, rfl, upd_same, by omega, fun ys Lf pw mem len hLf => ?_⟩
      have s5 := s4.trans (same_new (o := .lst (ys.map V.int)) hLf)
      have hLf5 : (upd (upd (upd (upd G p (.lst [.int ((10 : Int) ^ (30 : Int).toNat), .int (0 - (10 : Int) ^ (20 : Int).toNat)])) q (.lst (all.map V.int))) S (SetO w S (fun j => decide (j ∈ all)) c)) Lf (.lst (ys.map V.int))) Lf = some (.lst (ys.map V.int)) := upd_same
      have src5 := src1.keep s5
      have Lfl : Lf ≠ l := src_none (src1.keep s4) hLf
      refine ⟨Nat.zero_le _, fun Fd hFd => ?_⟩
      have b5 := but_trans b1 (but_same s5)
      have nFd : H Fd = none := but_none b5 hFd (src_none src5 hFd)
      have Fdl := src_none src5 hFd
      have nLf : H Lf = none := but_none (but_trans b1 (but_same s4)) hLf Lfl
      have FL : Lf ≠ Fd := ne_of_none hLf5 hFd
      have bigY : ∀ y ∈ ys, Big y := fun y hy => bigA y (of_decide_eq_true ((mem y).mp hy))
      have ndY := pair_lt_nodup pw
      refine while_m (fun j σ G => ∃ (left found : List Int) (n' : Nat), j = left.length ∧ σ = [some (.ref l), some (.int m), some (.ref Lf), some (.ref Fd), none] ∧ But (· = l) H G ∧ Src G l n' ∧ G Lf = some (.lst (left.map V.int)) ∧ G Fd = some (.lst (found.map V.int)) ∧ (found ++ left).Perm ys ∧ n' + left.length ≤ n + 2 * m + ys.length)
        ⟨_, ys, [], n + 2 * m, rfl, rfl, but_new b5 nFd, src5.upd Fdl, by rw [upd_ne FL]; exact hLf5, upd_same, List.Perm.refl _, Nat.le_refl _⟩ ?_ ?_
      · rintro j σ G6 ⟨left, found, n', rfl, rfl, b6, src6, hL6, hF6, pm, bud⟩
        refine ⟨_, rfl, Nat.zero_le _, fun p1 hp1 => ⟨intsD left, .list [], dp_list (SqL.of (by rw [upd_ne (ne_of_none hL6 hp1)]; exact hL6)), dp_nil upd_same, shaped_ints _, shaped_nil, _, rfl, ?_⟩⟩
        rw [eqv_nil]
        have s7 : Same G6 (upd G6 p1 (.lst [])) := same_new hp1
        generalize upd G6 p1 (.lst []) = G7 at s7
        have b7 := but_trans b6 (but_same s7)
        cases left with
        | nil =>
          refine iteF ?_
          rw [List.append_nil] at pm
          exact ⟨_, rfl, k G7 Fd found b7 ((src6.keep s7).more (by omega)) nFd (s7 _ _ hF6) (pm.nodup_iff.mpr ndY) (by rw [pm.length_eq]; omega) fun z hz => bigY z (pm.mem_iff.mp hz)⟩
        | cons y0 left' =>
          refine iteT ?_
          have lenp := pm.length_eq
          rw [List.length_append] at lenp
          have lenY : ys.length ≤ 22 := by omega
          refine ⟨_, rfl, .inl ⟨rfl, _, SqL.of (s7 _ _ hF6)⟩, _, rfl, .inl ⟨rfl, _, SqL.of (s7 _ _ hL6)⟩, _, rfl, _, rfl, Lf, _, rfl, .inl (SqL.of (s7 _ _ hL6)), l, _, n', rfl, by rw [List.length_map, List.length_cons]; omega, by rw [List.length_map]; omega, src6.keep s7, by omega, fun G8 d b8 src8 d0 d1 => ?_⟩
          rw [List.length_map] at d1
          obtain ⟨d', rfl⟩ := Int.eq_ofNat_of_zero_le d0
          have dl : d' < (y0 :: left').length := by omega
          have hget : (y0 :: left')[d']? = some (y0 :: left')[d'] := List.getElem?_eq_getElem dl
          generalize (y0 :: left')[d'] = y at hget
          have hL8 := b8 _ _ Lfl (s7 _ _ hL6)
          have hF8 := b8 _ _ Fdl (s7 _ _ hF6)
          refine ⟨Lf, _, (d' : Nat), d', .int y, rfl, rfl, hL8, by omega, by omega, by rw [List.length_map]; exact seq_nat' dl, by rw [List.getElem?_map, hget]; rfl, ?_⟩
          refine ⟨Fd, _, .int y, rfl, rfl, by rw [upd_ne FL.symm]; exact hF8, small1000 (by rw [List.length_map]; omega), ?_⟩
          have el : ((y0 :: left').eraseIdx d').length + 1 = (y0 :: left').length := by
            have q := (erase_perm' hget).length_eq
            rw [List.length_cons] at q
            exact q
          refine ⟨((y0 :: left').eraseIdx d').length, by omega, (y0 :: left').eraseIdx d', found ++ [y], n' + 1, rfl, rfl, but_new (but_new (but_trans b7 b8) nLf) nFd, (src8.upd Lfl).upd Fdl, by rw [upd_ne FL, upd_same, map_erase'], by rw [upd_same, List.map_append]; rfl, ?_, by omega⟩
          have q : ((found ++ [y]) ++ (y0 :: left').eraseIdx d').Perm (found ++ (y0 :: left')) := by
            rw [List.append_assoc]
            exact (erase_perm' hget).append_left found
          exact q.trans pm
      · rintro σ G Q1 Q2 imp ⟨x, hx, z, h⟩
        exact ⟨x, hx, z, fun p hp => let ⟨d, e, h1, h2, h3, h4, c, h5, h6⟩ := h p hp; ⟨d, e, h1, h2, h3, h4, c, h5, imp _ _ h6⟩⟩
end
end Lw

set_option autoImplicit true
set_option Elab.async false
set_option linter.all false
set_option maxRecDepth 100000
set_option maxHeartbeats 4000000
namespace Lw
open PySem L2 Two Pr
section
variable {P : Program} {w : World} {K : PySem.W.Frag} {mg : Str → Option Value} {base : Heap}
/-! ### _law_some -/
def spSome (K : PySem.W.Frag) : Sp := fun vs H Q _ => ∃ (l b : Addr) (n : Nat) (its : List Int), vs = [.ref l, .ref b] ∧ Src H l n ∧ n ≤ 900000 ∧ SqL K H b (its.map V.int) ∧ b ≠ l ∧ its.length ≤ 30 ∧
  ∀ (H' : Hp) (r : Addr) (ts : List Int), But (· = l) H H' → Src H' l (n + 31) → H r = none → H' r = some (.lst (ts.map V.int)) → ts.Sublist its → Q (.ref r) H'
abbrev nSome : List Str := ["_law_source_here", "_law_items_here", "_law_share", "_law_item"]
theorem scSome : FnScope nSome ["_law_source_here", "_law_items_here"] (defScope sSome) := ⟨rfl, rfl, rfl, by decide +kernel, rfl, by decide +kernel, by decide +kernel⟩
theorem ok_some {f fD : Addr} {fd dD : FuncData} (F : Fun K "_law_some" "_law_some" sSome f fd) (T : Txt mg)
    (gD : mg "_law_draw" = some (.ref fD)) (kD : PySem.W.keepIn K (.ref fD) = true) (bD : Binds K dD ["_law_source_here", "_law_size"] []) (GD : FnOk P w K mg base CX0 1 fD dD ["_law_source_here", "_law_size"] spDraw) :
    FnOk P w K mg base CX0 2 f fd ["_law_source_here", "_law_items_here"] (spSome K) := by
  refine F.ok scSome (fun vs H Q E h => ?_) (fun cdv A outer s H vs Q E hr h => ?_)
  · obtain ⟨l, b, n, its, rfl, _⟩ := h
    rfl
  · obtain ⟨l, b, n, its, rfl, src, hn, hS, ne, hl, k⟩ := h
    refine ⟨_, pss_cons (ps_set (i := 2) scSome.nd rfl (Or.inr rfl) (pe_op op_add pe_int (pe_call GD hr rfl gD kD bD .nil pass0 (pa_cons (pv 0) (pa_cons pe_int pa_nil)))))
      (pss_one (ps_ret (pe_lc (own := [("_law_item", 3)]) (g := gName 3) (tt := tTest (tOp rLt (tCall spDraw [] E0 (tCons (tVar 0) (tCons (tC (.int 4)) tNil))) (tVar 2))) (te := tVar 3) rfl scSome.nd (pi_list (pv 1)) (blkOk_by (N := nSome) (sc := defScope sSome) (by decide +kernel))
          (fun _ _ _ _ _ => pg_name (i := 3) scSome.nd rfl (Or.inl rfl)) (fun _ _ _ _ _ => pts_one (pt_cmpR op_lt (pe_call GD hr rfl gD kD bD .nil pass0 (pa_cons (pv 0) (pa_cons pe_int pa_nil))) (pv 2) (nomark _))) (fun _ _ _ _ _ => pv 3)))), ?_⟩
    refine ⟨_, rfl, l, 4, n, rfl, by decide, by decide, src, by omega, fun H1 d b1 src1 d0 d1 => ?_⟩
    refine ⟨_, _, rfl, rfl, ?_⟩
    refine ⟨_, rfl, b, rfl, ⟨_, but_seq b1 ne hS⟩, fun D hD => ?_⟩
    have nD : H D = none := but_none b1 hD (src_none src1 hD)
    have Dl := src_none src1 hD
    refine lc_list (K := K) (a := b) (xs := its.map V.int) (fun j G => ∃ ts : List Int, But (· = l) H G ∧ Src G l (n + 1 + j) ∧ G D = some (.lst (ts.map V.int)) ∧ ts.Sublist (its.take j))
      ⟨[], but_new b1 nD, src1.upd Dl, upd_same, List.nil_sublist _⟩ (fun j G _ ⟨_, p, _⟩ => but_seq p ne hS) (fun j x G hx p => ?_) (fun G p => ?_)
    · obtain ⟨ts, b2, src2, hG, sub⟩ := p
      obtain ⟨z, hz, rfl⟩ := get_map hx
      have hj := (List.getElem?_eq_some_iff.mp hz).1
      refine ⟨rfl, ?_⟩
      refine ⟨_, rfl, l, 4, n + 1 + j, rfl, by decide, by decide, src2, by omega, fun G2 e b3 src3 e0 e1 => ?_⟩
      refine ⟨_, rfl, _, _, rfl, rfl, _, rfl, ?_⟩
      have hG2 := b3 _ _ Dl hG
      have lts := sub.length_le
      rw [List.length_take] at lts
      cases hb : decide (e < 1 + d) with
      | false =>
        refine iteF ⟨ts, but_trans b2 b3, src3, hG2, ?_⟩
        rw [take_snoc hz]
        exact sub.trans (List.sublist_append_left _ _)
      | true =>
        refine iteT ⟨_, rfl, _, hG2, small1000 (by rw [List.length_map]; omega), ts ++ [z], but_new (but_trans b2 b3) nD, src3.upd Dl, by rw [upd_same, List.map_append]; rfl, ?_⟩
        rw [take_snoc hz]
        exact sub.append (List.Sublist.refl _)
    · obtain ⟨ts, b2, src2, hG, sub⟩ := p
      rw [List.length_map] at src2 sub
      rw [List.take_length] at sub
      exact k G D ts b2 (src2.more (by omega)) nD hG sub
/-! ### _law_turned -/
def spTurned (K : PySem.W.Frag) : Sp := fun vs H Q _ => ∃ (l b : Addr) (n : Nat) (its : List Int), vs = [.ref l, .ref b] ∧ Src H l n ∧ n ≤ 900000 ∧ SqL K H b (its.map V.int) ∧ b ≠ l ∧ its.length ≤ 30 ∧
  ∀ (H' : Hp) (r : Addr) (ts : List Int), But (· = l) H H' → Src H' l (n + 3) → H r = none → H' r = some (.lst (ts.map V.int)) → ts.Perm its → Q (.ref r) H'
abbrev nTurned : List Str := ["_law_source_here", "_law_items_here", "_law_found", "_law_at", "_law_other"]
theorem scTurned : FnScope nTurned ["_law_source_here", "_law_items_here"] (defScope sTurned) := ⟨rfl, rfl, rfl, by decide +kernel, rfl, by decide +kernel, by decide +kernel⟩
theorem ixN_nat' {n k : Nat} (h : k < n) : ixN n (k : Int) = some k := by
  unfold ixN
  rw [if_pos (by omega), if_pos (by omega)]
  rfl
theorem map_set' {α β : Type} (f : α → β) : ∀ (l : List α) (k : Nat) (x : α), (l.map f).set k (f x) = (l.set k x).map f
  | [], _, _ => rfl
  | _ :: _, 0, _ => rfl
  | a :: l, k + 1, x => congrArg (f a :: ·) (map_set' f l k x)
theorem ok_turned {f fD fP : Addr} {fd dD dP : FuncData} (F : Fun K "_law_turned" "_law_turned" sTurned f fd) (T : Txt mg)
    (gD : mg "_law_draw" = some (.ref fD)) (kD : PySem.W.keepIn K (.ref fD) = true) (bD : Binds K dD ["_law_source_here", "_law_size"] []) (GD : FnOk P w K mg base CX0 1 fD dD ["_law_source_here", "_law_size"] spDraw)
    (gP : mg "_law_pick" = some (.ref fP)) (kP : PySem.W.keepIn K (.ref fP) = true) (bP : Binds K dP ["_law_source_here", "_law_items_here"] []) (GP : FnOk P w K mg base CX0 2 fP dP ["_law_source_here", "_law_items_here"] (spPick K)) :
    FnOk P w K mg base CX0 3 f fd ["_law_source_here", "_law_items_here"] (spTurned K) := by
  refine F.ok scTurned (fun vs H Q E h => ?_) (fun cdv A outer s H vs Q E hr h => ?_)
  · obtain ⟨l, b, n, its, rfl, _⟩ := h
    rfl
  · obtain ⟨l, b, n, its, rfl, src, hn, hS, ne, hl, k⟩ := h
    have hr1 : Room 1 _ := hr.mono (by decide)
    refine ⟨_, pss_cons (ps_set (i := 2) scTurned.nd rfl (Or.inl rfl) (pe_callTy call_listQ (by rfl) T.list (by decide +kernel) (pa_cons (pv 1) pa_nil)))
      (pss_cons (ps_if (pt_cmpR op_gt (pe_callB call_len_seq (by rfl) T.len PySem.boot_len (pa_cons (pv 2) pa_nil)) pe_int (nomark _))
        (pss_cons (ps_set (i := 3) scTurned.nd rfl (Or.inl rfl) (pe_call GD hr1 rfl gD kD bD .nil pass0 (pa_cons (pv 0) (pa_cons (pe_op op_sub (pe_callB call_len_seq (by rfl) T.len PySem.boot_len (pa_cons (pv 2) pa_nil)) pe_int) pa_nil))))
        (pss_cons (ps_set (i := 4) scTurned.nd rfl (Or.inl rfl) (pe_call GP hr rfl gP kP bP .nil pass0 (pa_cons (pv 0) (pa_cons (pe_lst (pa_cons (pe_op op_add (pv 3) pe_int) (pa_cons (pe_call GD hr1 rfl gD kD bD .nil pass0 (pa_cons (pv 0) (pa_cons (pe_callB call_len_seq (by rfl) T.len PySem.boot_len (pa_cons (pv 2) pa_nil)) pa_nil))) pa_nil))) pa_nil))))
        (pss_one (ps_asg (pe_tup (pa_cons (pe_ix ix_list (pv 2) (pv 4) (fun _ _ => rfl)) (pa_cons (pe_ix ix_list (pv 2) (pv 3) (fun _ _ => rfl)) pa_nil)))
          (pg_tup rfl (pgs_cons (pg_sub (pv 2) (pv 3) set_list) (pgs_cons (pg_sub (pv 2) (pv 4) set_list) pgs_nil)))))))
        pss_nil)
      (pss_one (ps_ret (pv 2)))), ?_⟩
    refine ⟨_, rfl, b, _, rfl, .inl hS, fun R hR => ?_⟩
    have Rl := src_none src hR
    have h1 : upd H R (.lst (its.map V.int)) R = some (.lst (its.map V.int)) := upd_same
    have b1 : But (· = l) H (upd H R (.lst (its.map V.int))) := but_same (same_new hR)
    have src1 : Src (upd H R (.lst (its.map V.int))) l n := src.upd Rl
    refine ⟨_, rfl, R, _, rfl, .inl (SqL.of h1), _, _, rfl, rfl, _, rfl, ?_⟩
    by_cases h2 : 1 < its.length
    · rw [decide_eq_true (by rw [List.length_map]; omega)]
      refine iteT ?_
      refine ⟨_, rfl, _, rfl, R, _, rfl, .inl (SqL.of h1), _, _, rfl, rfl, l, _, n, rfl, by rw [List.length_map]; omega, by rw [List.length_map]; omega, src1, by omega, fun H2 d b2 src2 d0 d1 => ?_⟩
      rw [List.length_map] at d1
      obtain ⟨i, rfl⟩ := Int.eq_ofNat_of_zero_le d0
      have hi : i + 1 < its.length := by omega
      have h2 := b2 _ _ Rl h1
      refine ⟨_, rfl, _, rfl, _, _, rfl, rfl, _, rfl, _, rfl, R, _, rfl, .inl (SqL.of h2), l, _, n + 1, rfl, by rw [List.length_map]; omega, by rw [List.length_map]; omega, src2, by omega, fun H3 e b3 src3 e0 e1 => ?_⟩
      rw [List.length_map] at e1
      obtain ⟨j, rfl⟩ := Int.eq_ofNat_of_zero_le e0
      have hj : j < its.length := by omega
      have h3 := b3 _ _ Rl h2
      refine ⟨by show 2 ≤ sizeLine; decide, fun p hp => ?_⟩
      have pl := src_none src3 hp
      have pR : R ≠ p := ne_of_none h3 hp
      refine ⟨l, p, n + 2, _, rfl, src3.upd pl, by omega, SqL.of upd_same, pl, by simp, by show 2 ≤ 1000; decide, fun H4 x b4 src4 hx => ?_⟩
      obtain ⟨o, rfl, ho⟩ : ∃ o : Nat, x = .int (o : Nat) ∧ o < its.length := by
        rcases List.mem_cons.mp hx with rfl | hx
        · exact ⟨i + 1, rfl, hi⟩
        · rw [List.mem_singleton.mp hx]; exact ⟨j, rfl, hj⟩
      have h4 := b4 _ _ Rl (show upd H3 p _ R = _ by rw [upd_ne pR]; exact h3)
      have bA : But (· = l) H H4 := but_trans b1 (but_trans b2 (but_trans b3 (but_trans (but_same (same_new hp)) b4)))
      have iL : i < its.length := by omega
      have ei : (its.map V.int)[i]? = some (.int its[i]) := by rw [List.getElem?_map, List.getElem?_eq_getElem iL]; rfl
      have eo : (its.map V.int)[o]? = some (.int its[o]) := by rw [List.getElem?_map, List.getElem?_eq_getElem ho]; rfl
      refine ⟨_, rfl, _, rfl, R, _, (o : Nat), .int its[o], rfl, rfl, SqL.of h4, atI_nat eo, _, rfl, _, rfl, R, _, (i : Nat), .int its[i], rfl, rfl, SqL.of h4, atI_nat ei, by show 2 ≤ sizeLine; decide, fun t ht => ?_⟩
      have tR : R ≠ t := ne_of_none h4 ht
      have tl := src_none src4 ht
      refine ⟨t, _, rfl, SqT.of upd_same, rfl, ?_⟩
      have h5 : upd H4 t (.tup [.int its[o], .int its[i]]) R = some (.lst (its.map V.int)) := by rw [upd_ne tR]; exact h4
      refine ⟨_, _, rfl, _, rfl, _, rfl, R, _, (i : Nat), i, rfl, rfl, h5, by rw [List.length_map]; exact ixN_nat' iL, ?_⟩
      refine ⟨_, _, rfl, _, rfl, _, rfl, R, _, (o : Nat), o, rfl, rfl, upd_same, by rw [List.length_set, List.length_map]; exact ixN_nat' ho, rfl, ?_⟩
      refine ⟨_, rfl, ?_⟩
      refine k _ R ((its.set i its[o]).set o its[i]) ?_ (((src4.upd tl).upd Rl).upd Rl |>.more (by omega)) hR (by rw [upd_same, map_set', map_set']) (List.set_set_perm iL ho)
      exact but_new (but_new (but_trans bA (but_same (same_new ht))) hR) hR
    · rw [decide_eq_false (by rw [List.length_map]; omega)]
      exact iteF ⟨_, rfl, k _ R its b1 (src1.more (by omega)) hR h1 (List.Perm.refl _)⟩
end
end Lw

set_option autoImplicit true
set_option Elab.async false
set_option linter.all false
set_option maxRecDepth 100000
set_option maxHeartbeats 4000000
namespace Lw
open PySem L2 Two Pr
/-- lists as the law draws them -/
structure Drawn (ps : List (Addr × List Int)) (U : List Int) : Prop where
  few : ps.length ≤ 15
  short : ∀ p ∈ ps, p.2.length ≤ 15
  nd : ∀ p ∈ ps, p.2.Nodup
  big : ∀ p ∈ ps, ∀ z ∈ p.2, Big z
  all : ∀ p ∈ ps, ∀ z ∈ p.2, z ∈ U
  uni : U.length ≤ 60
theorem Drawn.fit {ps U} (d : Drawn ps U) : Fit ps := ⟨by have := d.few; omega, fun p hp => by have := d.short p hp; omega, d.nd⟩
section
variable {P : Program} {w : World} {K : PySem.W.Frag} {mg : Str → Option Value} {base : Heap}
def spLists (K : PySem.W.Frag) : Sp := fun vs H Q _ => ∃ (l : Addr), vs = [.ref l, .int 6] ∧ Src H l 0 ∧
  ∀ (H' : Hp) (R : Addr) (ps : List (Addr × List Int)) (U : List Int), But (· = l) H H' → Src H' l 2000 → H' R = some (.lst (refsOf ps)) → (∀ p ∈ ps, H' p.1 = some (.lst (p.2.map V.int)) ∧ p.1 ≠ R ∧ p.1 ≠ l) → R ≠ l → ps.length ≤ 6 → (∀ p ∈ ps, p.2.length ≤ 12) → Drawn ps U → Q (.ref R) H'
abbrev nLists : List Str := ["_law_source_here", "_law_most", "_law_items_here", "_law_way", "_law_found", "_law_k", "_law_some_here"]
theorem scLists : FnScope nLists ["_law_source_here", "_law_most"] (defScope sLists) := ⟨rfl, rfl, rfl, by decide +kernel, rfl, by decide +kernel, by decide +kernel⟩
/-- what the loop of _law_lists keeps -/
structure LstInv (l R I : Addr) (its : List Int) (way : Int) (H G : Hp) (j : Nat) (qs : List (Addr × List Int)) : Prop where
  but : But (· = l) H G
  src : Src G l (200 + 200 * j)
  lst : G R = some (.lst (refsOf qs))
  each : ∀ q ∈ qs, G q.1 = some (.lst (q.2.map V.int))
  apart : ∀ q ∈ qs, q.1 ≠ R ∧ q.1 ≠ l
  hits : G I = some (.lst (its.map V.int))
  len : qs.length = j
  short : ∀ q ∈ qs, q.2.length ≤ 12
  nd : ∀ q ∈ qs, q.2.Nodup
  big : ∀ q ∈ qs, ∀ z ∈ q.2, Big z
  from' : (way ≠ 3 ∧ ∀ q ∈ qs, ∀ z ∈ q.2, z ∈ its) ∨ (way = 3 ∧ ∀ q ∈ qs, q.2.length ≤ 7)
theorem flat_len {B : Nat} : ∀ (qs : List (Addr × List Int)), (∀ q ∈ qs, q.2.length ≤ B) → ((qs.map (·.2)).flatten).length ≤ B * qs.length
  | [], _ => Nat.zero_le _
  | q :: qs, h => by
    have a := h q List.mem_cons_self
    have b := flat_len qs fun x hx => h x (List.mem_cons_of_mem _ hx)
    simp only [List.map_cons, List.flatten_cons, List.length_append, List.length_cons]
    rw [Nat.mul_succ]
    omega
/-- a new list at the end -/
theorem LstInv.add {l R I : Addr} {its : List Int} {way : Int} {H G G2 : Hp} {j : Nat} {qs : List (Addr × List Int)} (L : LstInv l R I its way H G j qs) (Rl : R ≠ l) (Il : I ≠ l) (RI : R ≠ I) (nR : H R = none) {r : Addr} {ts : List Int}
    (b : But (· = l) G G2) (src : Src G2 l (200 + 200 * j + 200)) (hr : G r = none) (h : G2 r = some (.lst (ts.map V.int))) (rl : r ≠ l) (short : ts.length ≤ 12) (nd : ts.Nodup) (big : ∀ z ∈ ts, Big z) (fr : (way ≠ 3 ∧ ∀ z ∈ ts, z ∈ its) ∨ (way = 3 ∧ ts.length ≤ 7)) :
    LstInv l R I its way H (upd G2 R (.lst (refsOf qs ++ [.ref r]))) (j + 1) (qs ++ [(r, ts)]) := by
  have Rr : R ≠ r := ne_of_none L.lst hr
  refine ⟨but_new (but_trans L.but b) nR, (src.upd Rl).more (by omega), ?_, fun q hq => ?_, fun q hq => ?_, ?_, by rw [List.length_append, L.len]; rfl, fun q hq => ?_, fun q hq => ?_, fun q hq => ?_, ?_⟩
  · rw [upd_same]
    unfold refsOf
    rw [List.map_append]
    rfl
  · rcases List.mem_append.mp hq with m | m
    · obtain ⟨a1, a2⟩ := L.apart q m
      rw [upd_ne a1]
      exact b _ _ a2 (L.each q m)
    · rw [List.mem_singleton.mp m, upd_ne Rr.symm]
      exact h
  · rcases List.mem_append.mp hq with m | m
    · exact L.apart q m
    · rw [List.mem_singleton.mp m]
      exact ⟨Rr.symm, rl⟩
  · rw [upd_ne RI.symm]
    exact b _ _ Il L.hits
  · rcases List.mem_append.mp hq with m | m
    · exact L.short q m
    · rw [List.mem_singleton.mp m]; exact short
  · rcases List.mem_append.mp hq with m | m
    · exact L.nd q m
    · rw [List.mem_singleton.mp m]; exact nd
  · rcases List.mem_append.mp hq with m | m
    · exact L.big q m
    · rw [List.mem_singleton.mp m]; exact big
  · rcases fr with ⟨n3, k⟩ | ⟨e3, k⟩
    · refine .inl ⟨n3, fun q hq => ?_⟩
      rcases List.mem_append.mp hq with m | m
      · exact L.from'.elim (fun f => f.2 q m) fun f => absurd f.1 n3
      · rw [List.mem_singleton.mp m]; exact k
    · refine .inr ⟨e3, fun q hq => ?_⟩
      rcases List.mem_append.mp hq with m | m
      · exact L.from'.elim (fun f => absurd e3 f.1) fun f => f.2 q m
      · rw [List.mem_singleton.mp m]; exact k
theorem seqJ {s1 s2 : TS} {D : Ends} {σ : L2.St} {H : Hp} (I : L2.St → Hp → Prop) (h2 : ∀ σ' H', I σ' H' → s2 D σ' H') (h1 : ∀ N : L2.St → Hp → Prop, (∀ σ' H', I σ' H' → N σ' H') → s1 { D with nx := N } σ H) : tSeq s1 s2 D σ H := h1 _ h2
theorem ok_lists {f fD fI fS fT : Addr} {fd dD dI dS dT : FuncData} (F : Fun K "_law_lists" "_law_lists" sLists f fd) (T : Txt mg)
    (gD : mg "_law_draw" = some (.ref fD)) (kD : PySem.W.keepIn K (.ref fD) = true) (bD : Binds K dD ["_law_source_here", "_law_size"] []) (GD : FnOk P w K mg base CX0 1 fD dD ["_law_source_here", "_law_size"] spDraw)
    (gI : mg "_law_items" = some (.ref fI)) (kI : PySem.W.keepIn K (.ref fI) = true) (bI : Binds K dI ["_law_source_here", "_law_count"] []) (GI : FnOk P w K mg base CX0 3 fI dI ["_law_source_here", "_law_count"] spItems)
    (gS : mg "_law_some" = some (.ref fS)) (kS : PySem.W.keepIn K (.ref fS) = true) (bS : Binds K dS ["_law_source_here", "_law_items_here"] []) (GS : FnOk P w K mg base CX0 2 fS dS ["_law_source_here", "_law_items_here"] (spSome K))
    (gT : mg "_law_turned" = some (.ref fT)) (kT : PySem.W.keepIn K (.ref fT) = true) (bT : Binds K dT ["_law_source_here", "_law_items_here"] []) (GT : FnOk P w K mg base CX0 3 fT dT ["_law_source_here", "_law_items_here"] (spTurned K)) :
    FnOk P w K mg base CX0 4 f fd ["_law_source_here", "_law_most"] (spLists K) := by
  refine F.ok scLists (fun vs H Q E h => ?_) (fun cdv A outer s H vs Q E hr h => ?_)
  · obtain ⟨l, rfl, _⟩ := h
    rfl
  · obtain ⟨l, rfl, src, k⟩ := h
    have hr1 : Room 1 _ := hr.mono (by decide)
    have hr2 : Room 2 _ := hr.mono (by decide)
    refine ⟨_, pss_cons (ps_set (i := 2) scLists.nd rfl (Or.inl rfl) (pe_call GI hr rfl gI kI bI .nil pass0 (pa_cons (pv 0) (pa_cons (pe_op op_add pe_int (pe_call GD hr1 rfl gD kD bD .nil pass0 (pa_cons (pv 0) (pa_cons pe_int pa_nil)))) pa_nil))))
      (pss_cons (ps_set (i := 3) scLists.nd rfl (Or.inl rfl) (pe_call GD hr1 rfl gD kD bD .nil pass0 (pa_cons (pv 0) (pa_cons pe_int pa_nil))))
      (pss_cons (ps_set (i := 4) scLists.nd rfl (Or.inl rfl) (pe_lst pa_nil))
      (pss_cons (ps_for PassesOwn.never rfl (pi_range1 rfl T.range (pa_cons (pe_call GD hr1 rfl gD kD bD .nil pass0 (pa_cons (pv 0) (pa_cons (pe_op op_add (pv 1) pe_int) pa_nil))) pa_nil)) (pg_name (i := 5) scLists.nd rfl (Or.inl rfl))
        (pss_cons (ps_set (i := 6) scLists.nd rfl (Or.inl rfl) (pe_call GS hr2 rfl gS kS bS .nil pass0 (pa_cons (pv 0) (pa_cons (pv 2) pa_nil))))
        (pss_cons (ps_if (PW.pt (pw_or (PW.pt (pw_and (pt_cmpR op_eq (pv 3) pe_int (nomark _)) (pw_and1 (pt_cmpR op_eq (pv 5) pe_int (nomark _))))) (pw_or1 (PW.pt (pw_and (pt_cmpR op_eq (pv 3) pe_int (nomark _)) (pw_and1 (pt_cmpR op_eq (pe_call GD hr1 rfl gD kD bD .nil pass0 (pa_cons (pv 0) (pa_cons pe_int pa_nil))) pe_int (nomark _))))))))
            (pss_one (ps_set (i := 6) scLists.nd rfl (Or.inl rfl) (pe_call GT hr rfl gT kT bT .nil pass0 (pa_cons (pv 0) (pa_cons (pv 6) pa_nil))))) pss_nil)
        (pss_cons (ps_if (pt_cmpR op_eq (pv 3) pe_int (nomark _))
            (pss_one (ps_set (i := 6) scLists.nd rfl (Or.inl rfl) (pe_call GS hr2 rfl gS kS bS .nil pass0 (pa_cons (pv 0) (pa_cons (pe_call GI hr rfl gI kI bI .nil pass0 (pa_cons (pv 0) (pa_cons pe_int pa_nil))) pa_nil))))) pss_nil)
        (pss_one (ps_expr (pe_bm PySem.F.plainAttrs_list PySem.F.slot_list_append PySem.F.type_list_append mt_append (pv 4) (pa_cons (pv 6) pa_nil))))))))
      (pss_one (ps_ret (pv 4)))))), ?_⟩
    refine ⟨_, rfl, _, rfl, l, 10, 0, rfl, by decide, by decide, src, by decide, fun H1 d b1 src1 d0 d1 => ?_⟩
    obtain ⟨c, rfl⟩ := Int.eq_ofNat_of_zero_le d0
    refine ⟨_, _, rfl, rfl, l, 1 + c, 1, by rw [Int.natCast_add]; rfl, by omega, src1, by decide, fun H2 I its b2 src2 nI hI ndI lenI bigI => ?_⟩
    have Il := src_none src1 nI
    have nI0 : H I = none := but_none b1 nI Il
    refine ⟨_, rfl, l, 4, 1 + 64, rfl, by decide, by decide, src2, by decide, fun H3 way b3 src3 w0 w1 => ?_⟩
    refine ⟨Nat.zero_le _, fun R hR => ?_⟩
    have Rl := src_none src3 hR
    have hI3 := b3 _ _ Il hI
    have RI : R ≠ I := (ne_of_none hI3 hR).symm
    have bH3 : But (· = l) H H3 := but_trans b1 (but_trans b2 b3)
    have nR : H R = none := but_none bH3 hR Rl
    refine ⟨_, rfl, _, rfl, _, _, rfl, rfl, ?_⟩
    refine ⟨l, _, 1 + 64 + 1, rfl, by decide, by decide, src3.upd Rl, by decide, fun H4 e b4 src4 e0 e1 => ?_⟩
    obtain ⟨t, rfl⟩ := Int.eq_ofNat_of_zero_le e0
    have e1 : (t : Int) < 6 + 1 := e1
    have b04 : But (· = l) H H4 := but_trans (but_new bH3 nR) b4
    refine ⟨_, rfl, by omega, by omega, for_range (lo := 0) (n := t) (fun j σ G => ∃ (v5 v6 : Option V) (qs : List (Addr × List Int)), σ = [some (.ref l), some (.int 6), some (.ref I), some (.int way), some (.ref R), v5, v6] ∧ LstInv l R I its way H G j qs)
      ⟨_, _, [], rfl, b04, src4.more (by omega), b4 _ _ Rl upd_same, (fun q hq => nomatch hq), (fun q hq => nomatch hq), b4 _ _ Il (by rw [upd_ne RI.symm]; exact hI3), rfl, (fun q hq => nomatch hq), (fun q hq => nomatch hq), (fun q hq => nomatch hq), if h3 : way = 3 then .inr ⟨h3, fun q hq => nomatch hq⟩ else .inl ⟨h3, fun q hq => nomatch hq⟩⟩ ?_ ?_⟩
    · rintro j σ G hj ⟨v5, v6, qs, rfl, L⟩
      refine ⟨_, rfl, _, rfl, l, I, _, its, rfl, L.src, by omega, SqL.of L.hits, Il, by omega, fun G1 r ts c1 s1 nr hr1 sub => ?_⟩
      have rl := src_none L.src nr
      have lts := sub.length_le
      have ndT := sub.nodup ndI
      have inT : ∀ z ∈ ts, z ∈ its := fun z hz => sub.subset hz
      have fewQ : (refsOf qs).length < sizeLine := small1000 (by rw [List.length_map, L.len]; omega)
      have bG : But (· = l) H G := L.but
      dsimp only [gName]
      refine seqJ (fun σ' G' => ∃ (r2 : Addr) (ts2 : List Int), σ' = [some (.ref l), some (.int 6), some (.ref I), some (.int way), some (.ref R), some (.int (0 + (j : Nat))), some (.ref r2)] ∧ But (· = l) G G' ∧ Src G' l (200 + 200 * j + 40) ∧ G r2 = none ∧ r2 ≠ l ∧ G' r2 = some (.lst (ts2.map V.int)) ∧ ts2.length ≤ 12 ∧ ts2.Nodup ∧ ∀ z ∈ ts2, z ∈ its) ?_ ?_
      · rintro σ' G2 ⟨r2, ts2, rfl, c2, s2, n2, l2, h2, len2, nd2, in2⟩
        refine seqJ (fun σ' G' => ∃ (r3 : Addr) (ts3 : List Int), σ' = [some (.ref l), some (.int 6), some (.ref I), some (.int way), some (.ref R), some (.int (0 + (j : Nat))), some (.ref r3)] ∧ But (· = l) G G' ∧ Src G' l (200 + 200 * j + 200) ∧ G r3 = none ∧ r3 ≠ l ∧ G' r3 = some (.lst (ts3.map V.int)) ∧ ts3.length ≤ 12 ∧ ts3.Nodup ∧ (∀ z ∈ ts3, Big z) ∧ ((way ≠ 3 ∧ ∀ z ∈ ts3, z ∈ its) ∨ (way = 3 ∧ ts3.length ≤ 7))) ?_ ?_
        · rintro σ3 G3 ⟨r3, ts3, rfl, c3, s3, n3, l3, h3, len3, nd3, big3, fr⟩
          exact ⟨_, rfl, .inl ⟨rfl, _, SqL.of (c3 _ _ Rl L.lst)⟩, _, rfl, R, _, .ref r3, rfl, rfl, c3 _ _ Rl L.lst, fewQ, _, _, _, rfl, L.add Rl Il RI nR c3 s3 n3 h3 l3 len3 nd3 big3 fr⟩
        · intro N hN
          refine ⟨_, rfl, rfl, _, rfl, ?_⟩
          by_cases w3 : way = 3
          · rw [decide_eq_true (congrArg V.int w3)]
            refine iteT ?_
            refine ⟨_, rfl, _, rfl, l, 5, _, rfl, by decide, s2, by omega, fun G4 I4 its4 c4 s4 nI4 hI4 ndI4 lenI4 bigI4 => ?_⟩
            have I4l := src_none s2 nI4
            refine ⟨l, I4, _, its4, rfl, s4, by omega, SqL.of hI4, I4l, by omega, fun G5 r5 ts5 c5 s5 nr5 hr5 sub5 => ?_⟩
            have r5l := src_none s4 nr5
            have lts5 := sub5.length_le
            exact hN _ _ ⟨r5, ts5, rfl, but_trans c2 (but_trans c4 c5), s5.more (by omega), but_none (but_trans c2 c4) nr5 r5l, r5l, hr5, by omega, sub5.nodup ndI4, fun z hz => bigI4 z (sub5.subset hz), .inr ⟨w3, by omega⟩⟩
          · rw [decide_eq_false (fun e => w3 (V.int.inj e))]
            exact iteF (hN _ _ ⟨r2, ts2, rfl, c2, s2.more (by omega), n2, l2, h2, len2, nd2, fun z hz => bigI z (in2 z hz), .inl ⟨w3, in2⟩⟩)
      · intro N hN
        have stay : N [some (.ref l), some (.int 6), some (.ref I), some (.int way), some (.ref R), some (.int (0 + (j : Nat))), some (.ref r)] G1 := hN _ _ ⟨r, ts, rfl, c1, s1.more (by omega), nr, rl, hr1, by omega, ndT, inT⟩
        have turn : ∀ (G2 : Hp) (m : Nat), But (· = l) G1 G2 → Src G2 l m → m ≤ 200 + 200 * j + 37 → spTurned K [.ref l, .ref r] G2 (fun x H' => N [some (.ref l), some (.int 6), some (.ref I), some (.int way), some (.ref R), some (.int (0 + (j : Nat))), some x] H') E0 := fun G2 m c2 s2 hm =>
          ⟨l, r, m, ts, rfl, s2, by omega, SqL.of (c2 _ _ rl hr1), rl, by omega, fun G3 r3 ts3 c3 s3 n3 h3 pm => by
            have r3l := src_none s2 n3
            exact hN _ _ ⟨r3, ts3, rfl, but_trans c1 (but_trans c2 c3), s3.more (by omega), but_none (but_trans c1 c2) n3 r3l, r3l, h3, by rw [pm.length_eq]; omega, pm.nodup_iff.mpr ndT, fun z hz => inT z (pm.mem_iff.mp hz)⟩⟩
        have same1 : But (· = l) G1 G1 := fun p o _ e => e
        refine ⟨_, rfl, rfl, _, rfl, ?_⟩
        by_cases a1 : way = 1
        · rw [decide_eq_true (congrArg V.int a1)]
          refine iteT ⟨_, rfl, rfl, _, rfl, ?_⟩
          cases decide (V.int (0 + (j : Nat)) = V.int 1) with
          | true => exact iteT (iteT ⟨_, rfl, _, rfl, turn G1 _ same1 s1 (by omega)⟩)
          | false =>
            refine iteF ⟨_, rfl, rfl, _, rfl, ?_⟩
            rw [decide_eq_false (fun e => by have := V.int.inj e; omega)]
            exact iteF (iteF stay)
        · rw [decide_eq_false (fun e => a1 (V.int.inj e))]
          refine iteF (iteF ⟨_, rfl, rfl, _, rfl, ?_⟩)
          cases decide (V.int way = V.int 2) with
          | false => exact iteF (iteF stay)
          | true =>
            refine iteT ⟨_, rfl, l, 4, _, rfl, by decide, by decide, s1, by omega, fun G2 e c2 s2 e0 e1 => ⟨rfl, _, rfl, ?_⟩⟩
            cases decide (V.int e = V.int 0) with
            | true => exact iteT ⟨_, rfl, _, rfl, turn G2 _ c2 s2 (by omega)⟩
            | false => exact iteF (hN _ _ ⟨r, ts, rfl, but_trans c1 c2, s2.more (by omega), nr, rl, c2 _ _ rl hr1, by omega, ndT, inT⟩)
    · rintro σ G ⟨v5, v6, qs, rfl, L⟩
      refine ⟨_, rfl, ?_⟩
      have lq := L.len
      have ea : ∀ p ∈ qs, G p.1 = some (.lst (p.2.map V.int)) ∧ p.1 ≠ R ∧ p.1 ≠ l := fun p hp => ⟨L.each p hp, L.apart p hp⟩
      rcases L.from' with ⟨_, f⟩ | ⟨_, f⟩
      · exact k G R qs its L.but (L.src.more (by omega)) L.lst ea Rl (by omega) L.short ⟨by omega, fun p hp => by have := L.short p hp; omega, L.nd, L.big, f, by omega⟩
      · refine k G R qs (qs.map (·.2)).flatten L.but (L.src.more (by omega)) L.lst ea Rl (by omega) L.short ⟨by omega, fun p hp => by have := L.short p hp; omega, L.nd, L.big, fun p hp z hz => List.mem_flatten.mpr ⟨p.2, List.mem_map.mpr ⟨p, hp, rfl⟩, hz⟩, ?_⟩
        have := flat_len (B := 7) qs f
        omega
end
end Lw

set_option autoImplicit true
set_option Elab.async false
set_option linter.all false
set_option maxRecDepth 100000
set_option maxHeartbeats 4000000
/-! sum(lists, []), and len(set(items)). -/
namespace Two
open PySem PySem.Spec PyProof.Rows L2
section
variable {prog : Program} {w : World} {A : Around} {R : Result → Shared → Prop} {I S : Addr} {fp wr : List Addr} {n : Nat} {Pv : Nat → Value → Prop} {St : Nat → Heap → Prop}
/-- the lists that are added up, and what they come to -/
structure Adds (h : Heap) (la : Nat → Addr) (its : Nat → Array Value) (acc : Nat → Array Value) (n : Nat) : Prop where
  at_ : ∀ i, i < n → ∃ c, IsL h (la i) (its i) c
  step : ∀ i, i < n → acc (i + 1) = acc i ++ its i
  few : ∀ i, i < n → (acc i).size + (its i).size ≤ sizeLine
theorem loop_lists (W : Walks prog w A.in1 I fp wr n Pv St) (la : Nat → Addr) (its acc : Nat → Array Value) (h0 : Heap) (D : Adds h0 la its acc n) (hv : ∀ i v, i < n → Pv i v → v = Value.ref (la i)) (hI : ∀ i, i < n → la i ∉ wr ∧ la i ≠ S) (hSf : S ∉ fp) (lw : ∀ b ∈ wr, b < S) (r0 : Addr) :
    ∀ (k i : Nat) (s : Shared) (r : Addr) (c c2 : Nat), n - i = k → i ≤ n → St i s.heap → s.heap.get? S = some { cls := .type "list", dict := none, data := .seq #[.ref r] c, slots := #[] } → r ∉ wr → r ≠ S → IsL s.heap r (acc i) c2 → (0 < i → S ≤ r) → (i = 0 → r = r0) →
    (∀ b o, b ∉ wr → b ≠ S → h0.get? b = some o → s.heap.get? b = some o) →
    (∀ h' tk r c2, (∀ b o, b ∉ wr → b ≠ S → h0.get? b = some o → h'.get? b = some o) → (0 < n → S ≤ r) → (n = 0 → r = r0) → IsL h' r (acc n) c2 → R (.ok (.ret (.ref r))) { s with heap := h', toks := tk }) →
    codeAny (model prog w) A (.builtin "sum.loop" ⟨[.ref I, .ref S, rawInt 2, rawInt 0], []⟩) R s := by
  have hSw : S ∉ wr := fun h => hSf (W.sub _ h)
  intro k
  induction k with
  | zero =>
    intro i s r c c2 hk hi hst hS rw_ rS hr br bz ext hR
    have hin : i = n := by omega
    subst hin
    refine codeAny_builtin F.entry_sum_loop ?_
    rw [Around.under_plainId F.plain_sum_loop _]
    show wpAny _ A.in1 (seqItems? (.ref S) >>= _) _ _ s
    refine wpAny_bind (wpAny_seqItems hS rfl ?_)
    show wpAny _ A.in1 (tryCatch (pyNext (.ref I)) _ >>= _) _ _ s
    refine wpAny_bind (wpAny_tryCatch (W.done s _ _ hst fun h' tk hk' => ?_))
    exact wpAny_pure (hR h' tk r c2 (fun b o hbw hbS e => hk' b o hbw (ext b o hbw hbS e)) br bz (hk' r _ rw_ hr))
  | succ k ih =>
    intro i s r c c2 hk hi hst hS rw_ rS hr br bz ext hR
    have hlt : i < n := by omega
    refine codeAny_builtin F.entry_sum_loop ?_
    rw [Around.under_plainId F.plain_sum_loop _]
    show wpAny _ A.in1 (seqItems? (.ref S) >>= _) _ _ s
    refine wpAny_bind (wpAny_seqItems hS rfl ?_)
    show wpAny _ A.in1 (tryCatch (pyNext (.ref I)) _ >>= _) _ _ s
    refine wpAny_bind (wpAny_tryCatch (W.item i s _ _ hlt hst fun v h' tk hP hst' hk' => ?_))
    obtain rfl := hv i v hlt hP
    have hS' := hk' S _ hSw hS
    obtain ⟨c3, hl⟩ := D.at_ i hlt
    have hl' : IsL h' (la i) (its i) c3 := hk' _ _ (hI i hlt).1 (ext _ _ (hI i hlt).1 (hI i hlt).2 hl)
    have hr' : IsL h' r (acc i) c2 := hk' _ _ rw_ hr
    show wpAny _ A.in1 ((holding [Value.ref (la i)] (binaryOp .Add (.ref r) (.ref (la i)))).attempt >>= _) _ _ _
    refine wpAny_bind (wpAny_attempt (wpAny_holding (PySem.P.add_list hr' hl' ?_ (D.few i hlt))))
    have new : (h'.push { cls := .type "list", data := .seq (acc i ++ its i) }).get? h'.objs.size = some { cls := .type "list", data := .seq (acc i ++ its i) } := Heap.get?_push_size _ rfl
    have hS3 : (h'.push { cls := .type "list", data := .seq (acc i ++ its i) }).get? S = some { cls := .type "list", dict := none, data := .seq #[.ref r] c, slots := #[] } := Heap.get?_push_of_some _ hS'
    show wpAny _ A.in1 (updateSeq S (fun _ => #[.ref h'.objs.size]) >>= _) _ _ _
    have Slt : S < h'.objs.size := Heap.lt_size hS'
    refine wpAny_bind ?_
    refine wpAny_updateSeq hS3 rfl ?_
    have hS4 := Heap.get?_update_self (Obj.mapSeq fun _ => #[Value.ref h'.objs.size]) hS3 rfl
    refine wpAny_bind (wpAny_letGo ?_)
    refine wpAny_bind ?_
    refine wpAny_updateSeq hS4 rfl (wpAny_pure ⟨plainId_quiet F.plain_sum_loop _, ih (i + 1) _ h'.objs.size _ 0 (by omega) hlt (W.frame _ _ _ hst' fun b hb o e => ?_) (Heap.get?_update_self _ hS4 rfl) (fun m => Nat.lt_irrefl _ (Nat.lt_trans (lw _ m) Slt)) (Nat.ne_of_gt Slt) ?_ (fun _ => Nat.le_of_lt Slt) (fun z => nomatch z) (fun b o hbw hbS e => ?_) fun h'' tk'' r'' c'' hk'' => ?_⟩)
    · exact (Heap.get?_update_other _ _ (fun h : S = b => hSf (by rw [h]; exact hb))).trans ((Heap.get?_update_other _ _ (fun h : S = b => hSf (by rw [h]; exact hb))).trans (Heap.get?_push_of_some _ e))
    · rw [D.step i hlt]
      exact (Heap.get?_update_other _ _ (Nat.ne_of_lt Slt)).trans ((Heap.get?_update_other _ _ (Nat.ne_of_lt Slt)).trans new)
    · exact (Heap.get?_update_other _ _ (Ne.symm hbS)).trans ((Heap.get?_update_other _ _ (Ne.symm hbS)).trans (Heap.get?_push_of_some _ (hk' b o hbw (ext b o hbw hbS e))))
    · exact hR h'' tk'' r'' c'' hk''

theorem args_sum2 (a b : Value) : argsOk "sum" ⟨[a, b], []⟩ := by unfold argsOk; kernel_rfl
end
section
variable {prog : Program} {w : World} {A : Around} {E : Value → Shared → Prop} {s : Shared}
theorem sub_list_bytearray : isSubtype (.type "list") (.type "bytearray") = pure false := by rw [isSubtype_type]; kernel_rfl
theorem call_sum_lists {l z : Addr} {items : Array Value} {c0 : Nat} {Q : Value → Shared → Prop} (hh : A.handled = none) (hl : s.heap.IsList l items) (hz : IsL s.heap z #[] c0) (la : Nat → Addr) (its acc : Nat → Array Value) (D : Adds s.heap la its acc items.size) (hla : ∀ i v, items[i]? = some v → v = Value.ref (la i)) (e0 : acc 0 = #[])
    (h : ∀ h' tk r c, (∀ b o, s.heap.get? b = some o → h'.get? b = some o) → (0 < items.size → s.heap.objs.size ≤ r) → (items.size = 0 → r = z) → IsL h' r (acc items.size) c → Q (.ref r) { s with heap := h', toks := tk }) :
    wpAny (model prog w) A (call (.builtin "sum") [.ref l, .ref z]) Q E s := by
  refine call_function_tree F.kind_sum F.plain_sum F.entry_sum (args_sum2 _ _) ?_
  unfold Builtin.«sum»
  simp only [List.length_cons, List.length_nil]
  rw [if_neg (by decide)]
  refine wpAny_bind (wpAny_of_eq (show Builtin.Builtins.bindParams "sum" ["start"] 0 ⟨[Value.ref z], []⟩ = pure [some (Value.ref z)] from rfl) ?_)
  have hlt : l < s.heap.objs.size := by obtain ⟨_, e, _⟩ := hl; exact Heap.lt_size e
  have zlt : z < s.heap.objs.size := Heap.lt_size hz
  refine wpAny_bind (wpAny_pyIter_list hl ?_)
  refine wpAny_bind (wpAny_pure ?_)
  have tz : Shared.TypeIs { s with heap := s.heap.push { cls := .type "list_iterator", data := .fields #[.ref l, .int 0 0] } } (.ref z) "list" := ⟨_, Heap.get?_push_of_some _ hz, rfl⟩
  simp only [List.forIn_cons, List.forIn_nil]
  refine wpAny_bind (wpAny_bind (wpAny_bind (wpAny_isInstance (T := "list") (b := false) tz F.sub_list_str ?_)))
  simp only [Bool.false_eq_true, if_false]
  refine wpAny_pure (wpAny_bind (wpAny_bind (wpAny_isInstance (T := "list") (b := false) tz F.sub_list_bytes ?_)))
  simp only [Bool.false_eq_true, if_false]
  refine wpAny_pure (wpAny_bind (wpAny_bind (wpAny_isInstance (T := "list") (b := false) tz sub_list_bytearray ?_)))
  simp only [Bool.false_eq_true, if_false]
  refine wpAny_pure (wpAny_pure ?_)
  refine wpAny_bind (wpAny_newObj_type ?_)
  have ls : l ≠ s.heap.objs.size := Nat.ne_of_lt hlt
  have sz2 : (s.heap.push { cls := .type "list_iterator", data := .fields #[.ref l, .int 0 0] }).objs.size = s.heap.objs.size + 1 := Heap.size_push _ _
  have nI : ∀ b o, s.heap.get? b = some o → b < s.heap.objs.size := fun b o e => Heap.lt_size e
  refine wpAny_pure ⟨plainId_quiet F.plain_sum_loop _, loop_lists (S := (s.heap.push { cls := .type "list_iterator", data := .fields #[.ref l, .int 0 0] }).objs.size) (Walks.list (A := A.in1) hh s.heap.objs.size l ls items) la its acc s.heap D (fun i v _ e => hla i v e) (fun i hi => ?_) (fun m => ?_) (fun b hb => ?_) z items.size 0 _ z 0 c0 rfl (Nat.zero_le _) ⟨⟨_, Heap.get?_push_of_some _ (Heap.get?_push_size _ rfl), rfl, rfl⟩, (hl.push _).push _⟩ ?_ ?_ ?_ ?_ (fun h => absurd h (Nat.lt_irrefl _)) (fun _ => rfl) (fun b o _ _ e => Heap.get?_push_of_some _ (Heap.get?_push_of_some _ e)) fun h' tk r c k1 k2 kz k3 => ?_⟩
  · obtain ⟨c, e⟩ := D.at_ i hi
    have h1 := nI _ _ e
    exact ⟨fun m => Nat.ne_of_lt h1 (List.mem_singleton.mp m), Nat.ne_of_lt (by rw [sz2]; exact Nat.lt_succ_of_lt h1)⟩
  · rw [sz2] at m
    rcases List.mem_cons.mp m with h1 | h1
    · exact Nat.succ_ne_self _ h1
    · exact Nat.ne_of_gt (Nat.lt_succ_of_lt hlt) (List.mem_singleton.mp h1)
  · rw [List.mem_singleton.mp hb, sz2]
    exact Nat.lt_succ_self _
  · exact Heap.get?_push_size _ rfl
  · exact fun m => Nat.ne_of_lt zlt (List.mem_singleton.mp m)
  · rw [sz2]
    exact Nat.ne_of_lt (Nat.lt_succ_of_lt zlt)
  · rw [e0]
    exact Heap.get?_push_of_some _ (Heap.get?_push_of_some _ hz)
  · refine h h' tk r c (fun b o e => k1 b o (fun m => ?_) ?_ e) (fun pos => ?_) kz k3
    · exact Nat.ne_of_lt (nI _ _ e) (List.mem_singleton.mp m)
    · rw [sz2]
      exact Nat.ne_of_lt (Nat.lt_succ_of_lt (nI _ _ e))
    · exact Nat.le_of_lt (Nat.lt_of_lt_of_le (by rw [sz2]; exact Nat.lt_succ_self _) (k2 pos))
end
section
variable {X : Cx}
/-- sum(lists, []) -/
def catL (ps : List (Addr × List V)) : List V := (ps.map (·.2)).flatten
theorem catL_snoc {ps : List (Addr × List V)} {i : Nat} {p : Addr × List V} (h : ps[i]? = some p) : catL (ps.take (i + 1)) = catL (ps.take i) ++ p.2 := by
  unfold catL
  have e : ps.take (i + 1) = ps.take i ++ [p] := by
    rw [List.take_succ, h]
    rfl
  rw [e, List.map_append, List.flatten_append]
  simp
theorem catL_le {ps : List (Addr × List V)} (i : Nat) : (catL (ps.take i)).length ≤ (catL ps).length := by
  have e : catL ps = catL (ps.take i) ++ catL (ps.drop i) := by
    unfold catL
    rw [← List.flatten_append, ← List.map_append, List.take_append_drop]
  rw [e, List.length_append]
  omega
def rSumL : List V → Hp → VK → Prop := fun vs H Q => ∃ (a b : Addr) (ps : List (Addr × List V)), vs = [.ref a, .ref b] ∧ H a = some (.lst (ps.map fun p => V.ref p.1)) ∧ H b = some (.lst []) ∧ (∀ p ∈ ps, H p.1 = some (.lst p.2)) ∧ (catL ps).length ≤ sizeLine ∧
  (ps = [] → Q (.ref b) H) ∧ (ps ≠ [] → ∀ p, H p = none → Q (.ref p) (upd H p (.lst (catL ps))))
theorem cr_sumL (hc : X.calm = true) : CallR X (.builtin "sum") rSumL := by
  intro pins s σ H vs us Q I r h
  obtain ⟨a, b, ps, rfl, hA, hB, hP, hz, qz, q⟩ := h
  cases r with
  | cons r1 r =>
  cases r with
  | cons r2 r =>
  cases r
  cases r1
  cases r2
  obtain ⟨z1, its, n, rv, hl, e⟩ := I.lstM hA
  obtain ⟨z2, its2, n2, rv2, hl2, e2⟩ := I.lstM hB
  have e2' : its2 = [] := by
    cases its2 with
    | nil => rfl
    | cons _ _ => cases hl2
  subst e2'
  have len : its.toArray.size = ps.length := by rw [List.size_toArray, ← hl, List.length_map]
  have each : ∀ i, i < ps.length → ∃ p ys m, ps[i]? = some p ∧ Vals p.2 ys ∧ IsL s.heap p.1 ys.toArray m := fun i hi => by
    obtain ⟨p, hp⟩ : ∃ p, ps[i]? = some p := ⟨_, List.getElem?_eq_getElem hi⟩
    obtain ⟨_, ys, m, rv3, _, e3⟩ := I.lstM (hP p (List.mem_of_getElem? hp))
    exact ⟨p, ys, m, hp, rv3, e3⟩
  obtain ⟨ff, hff⟩ : ∃ ff : Nat → Addr × List Value × Nat, ∀ i, i < ps.length → ∃ p, ps[i]? = some p ∧ p.1 = (ff i).1 ∧ Vals p.2 (ff i).2.1 ∧ IsL s.heap (ff i).1 (ff i).2.1.toArray (ff i).2.2 := by
    have : ∀ i, ∃ x : Addr × List Value × Nat, i < ps.length → ∃ p, ps[i]? = some p ∧ p.1 = x.1 ∧ Vals p.2 x.2.1 ∧ IsL s.heap x.1 x.2.1.toArray x.2.2 := fun i => by
      by_cases hi : i < ps.length
      · obtain ⟨p, ys, m, h1, h2, h3⟩ := each i hi
        exact ⟨(p.1, ys, m), fun _ => ⟨p, h1, rfl, h2, h3⟩⟩
      · exact ⟨(0, [], 0), fun h => absurd h hi⟩
    exact ⟨fun i => (this i).choose, fun i => (this i).choose_spec⟩
  let acc : Nat → List Value := fun i => Nat.rec [] (fun i a => a ++ (ff i).2.1) i
  have accV : ∀ i, i ≤ ps.length → Vals (catL (ps.take i)) (acc i) := by
    intro i
    induction i with
    | zero => exact fun _ => .nil
    | succ i ih =>
      intro hi
      obtain ⟨p, hp, _, v, _⟩ := hff i hi
      rw [catL_snoc hp]
      exact (ih (Nat.le_of_lt hi)).append v
  refine call_sum_lists (I.ok.hd hc) (items := its.toArray) ⟨_, e, rfl, n, rfl⟩ e2 (fun i => (ff i).1) (fun i => (ff i).2.1.toArray) (fun i => (acc i).toArray) ⟨fun i hi => ?_, fun i hi => ?_, fun i hi => ?_⟩ (fun i v hv => ?_) rfl fun h' tk r c k1 k2 kz k3 => ?_
  · obtain ⟨_, _, _, _, e3⟩ := hff i (by omega)
    exact ⟨_, e3⟩
  · show (acc i ++ (ff i).2.1).toArray = _
    simp
  · obtain ⟨p, hp, _, v, _⟩ := hff i (by omega)
    have h1 := (accV i (by omega)).length
    have h2 := v.length
    have h3 := catL_snoc hp
    have h4 := catL_le (ps := ps) (i + 1)
    rw [h3, List.length_append] at h4
    rw [List.size_toArray, List.size_toArray]
    omega
  · have hi : i < ps.length := by
      have := (Array.getElem?_eq_some_iff.mp hv).1
      omega
    obtain ⟨p, hp, e3, _, _⟩ := hff i hi
    have hv2 : its[i]? = some v := by rw [← hv]; exact (List.getElem?_toArray ..).symm
    obtain ⟨u, hu, rx⟩ := rv.get (i := i) (x := V.ref p.1) (by rw [List.getElem?_map, hp]; rfl)
    rw [hv2] at hu
    cases hu
    rw [← e3]
    exact rx
  · rw [len] at k2 kz k3
    have v := accV ps.length (Nat.le_refl _)
    rw [List.take_length] at v
    by_cases e0 : ps = []
    · obtain rfl := kz (by rw [e0]; rfl)
      exact ⟨.ref r, H, I.kept (t' := tk) k1, rfl, qz e0⟩
    · have k2 := k2 (Nat.pos_of_ne_zero fun z => e0 (List.eq_nil_of_length_eq_zero z))
      exact ⟨.ref r, _, I.laid (o := .lst (catL ps)) (t' := tk) k1 k2 ⟨hz, _, c, v, k3⟩, rfl, q e0 _ (I.hok.fresh k2)⟩
/-- set(xs), xs a list of ints, with its count -/
def rSetX (K : PySem.W.Frag) (w : World) : List V → Hp → VK → Prop := fun vs H Q => ∃ (a : Addr) (ns : List Int), vs = [V.ref a] ∧ SqL K H a (ns.map V.int) ∧ ns.length ≤ 1000 ∧
  ∀ (p : Addr) (c : Nat), H p = none → (c < ns.length ↔ ¬ ns.Nodup) → Q (.ref p) (upd H p (SetO w p (fun j => decide (j ∈ ns)) c))
theorem dup_cut : ∀ {ns : List Int}, ¬ ns.Nodup → ∃ us : List Int, us.length < ns.length ∧ ∀ x ∈ ns, x ∈ us
  | [], h => absurd List.nodup_nil h
  | x :: ns, h => by
    by_cases m : x ∈ ns
    · exact ⟨ns, Nat.lt_succ_self _, fun y hy => (List.mem_cons.mp hy).elim (fun e => e ▸ m) id⟩
    · obtain ⟨us, h1, h2⟩ := dup_cut (ns := ns) fun nd => h (List.nodup_cons.mpr ⟨m, nd⟩)
      exact ⟨x :: us, Nat.succ_lt_succ h1, fun y hy => (List.mem_cons.mp hy).elim (fun e => e ▸ List.mem_cons_self) fun h => List.mem_cons_of_mem _ (h2 y h)⟩
theorem cr_setX (hc : X.calm = true) : CallR X (.type "set") (rSetX X.K X.w) := by
  intro pins s σ H vs us Q I r h
  obtain ⟨a, ns, rfl, hs, hz, q⟩ := h
  rw [Vals.ref1 r]
  obtain ⟨its, rv, pl, _⟩ := I.list hs
  refine call_set_lstI ns (I.ok.hd hc) pl.isList (by simpa using RZ.intsAre_vals rv) (by unfold scanBound; omega) fun h' tk c R k => ?_
  have few : c < ns.length ↔ ¬ ns.Nodup := by
    obtain ⟨o, es, ep, t, _, _, _, _, nd, mem, _, _, hn, _⟩ := R
    have e : (es.toList.map keyOf).length = c := by rw [List.length_map, Array.length_toList, hn]
    constructor
    · intro lt ndn
      have := nodup_le_len ndn fun x hx => (mem x).mp (decide_eq_true hx)
      omega
    · intro nn
      obtain ⟨us, h1, h2⟩ := dup_cut nn
      have := nodup_le_len nd fun x hx => h2 x (of_decide_eq_true ((mem x).mpr hx))
      omega
  exact ⟨.ref _, _, I.laid (t' := tk) k (Nat.le_refl _) (setO_new R), rfl, q _ c (I.hok.fresh (Nat.le_refl _)) few⟩
end
end Two

set_option autoImplicit true
set_option Elab.async false
set_option linter.all false
set_option maxRecDepth 100000
set_option maxHeartbeats 1000000
/-! repr of any data, dicts too. -/
namespace Two
open PySem PySem.Spec PyProof.Rows L2
def keyD : Key → PyData
  | .inl i => .int i
  | .inr x => .str x
mutual
inductive Dq (K : PySem.W.Frag) (H : Hp) : V → PyData → Prop
  | non : Dq K H .non .none
  | bl (b : Bool) : Dq K H (.bl b) (.bool b)
  | int (i : Int) : Dq K H (.int i) (.int i)
  | str (x : Str) : Dq K H (.str x) (.str x)
  | lst {a : Addr} {xs : List V} {ds : List PyData} : SqL K H a xs → a ≠ 1 → DqAll K H xs ds → Dq K H (.ref a) (.list ds)
  | tup {a : Addr} {xs : List V} {ds : List PyData} : SqT K H a xs → DqAll K H xs ds → Dq K H (.ref a) (.tuple ds)
  | dic {a : Addr} {kvs : List (Key × Int)} : H a = some (.dK (kvs.map fun p => (p.1, V.int p.2))) → Dq K H (.ref a) (.dict (kvs.map fun p => (keyD p.1, PyData.int p.2)))
inductive DqAll (K : PySem.W.Frag) (H : Hp) : List V → List PyData → Prop
  | nil : DqAll K H [] []
  | cons {v : V} {vs : List V} {d : PyData} {ds : List PyData} : Dq K H v d → DqAll K H vs ds → DqAll K H (v :: vs) (d :: ds)
end
theorem DqAll.len {K : PySem.W.Frag} {H : Hp} : ∀ {vs : List V} {ds : List PyData}, DqAll K H vs ds → vs.length = ds.length
  | [], _, h => by cases h; rfl
  | _ :: _, _, h => by
    cases h with
    | cons h1 h2 => exact congrArg (· + 1) h2.len
section
variable {X : Cx} {pins : List (Addr × Obj)} {σ : L2.St} {H : Hp} {s : Shared}
theorem keys_read {h : Heap} : ∀ {es : List DictEntry} {vs : List (Key × Value)} {kvs : List (Key × Int)}, Pairs (mixKind X.prog X.w) es vs → KV (kvs.map fun p => (p.1, V.int p.2)) vs →
    ReadsAll h (es.map (·.key)) (kvs.map fun p => keyD p.1) [] ∧ ReadsAll h (es.map (·.val)) (kvs.map fun p => PyData.int p.2) []
  | [], _, [], p, k => ⟨.nil, .nil⟩
  | [], _, _ :: _, p, k => by
    cases p
    cases k
  | e :: es, _, [], p, k => by
    cases k
    cases p
  | e :: es, _, (a, i) :: kvs, p, k => by
    cases p with
    | cons h1 h2 h3 =>
      cases k with
      | cons k1 k2 =>
        obtain ⟨r1, r2⟩ := keys_read h3 k2
        have h1 : keyIs _ e.key = true := h1
        rw [← k1.1] at h1
        have one : Reads h e.key (keyD a) [] := by
          rcases keyIs_shape h1 with ⟨i, t, e1, e2⟩ | ⟨x, t, e1, e2⟩
          · have e1 : a = .inl i := e1
            rw [e1, e2]; exact Reads.int i t
          · have e1 : a = .inr x := e1
            rw [e1, e2]; exact Reads.str x t
        have two : Reads h e.val (.int i) [] := by
          obtain ⟨t, et⟩ := k1.2
          rw [h2, et]
          exact Reads.int i t
        exact ⟨ReadsAll.cons (as := []) (bs := []) one r1, ReadsAll.cons (as := []) (bs := []) two r2⟩
mutual
theorem Dq.reads (I : Inv X pins σ H s) : ∀ (d : PyData) (v : V) (u : Value), Dq X.K H v d → RelV v u → ∃ as, Reads s.heap u d as ∧ sysModules ∉ as
  | .none, _, _, h, r => by
    cases h
    cases r
    exact ⟨_, Reads.none, (fun m => nomatch m)⟩
  | .bool b, _, _, h, r => by
    cases h
    cases r
    exact ⟨_, Reads.bool b, (fun m => nomatch m)⟩
  | .int i, _, _, h, r => by
    cases h
    obtain ⟨t, rfl⟩ := r
    exact ⟨_, Reads.int i t, (fun m => nomatch m)⟩
  | .str x, _, _, h, r => by
    cases h
    obtain ⟨t, rfl⟩ := r
    exact ⟨_, Reads.str x t, (fun m => nomatch m)⟩
  | .list ds, _, _, h, r => by
    cases h with
    | lst hs ne ha =>
      cases r
      obtain ⟨its, rv, ⟨o, n, ho, hc, _, hd⟩, _⟩ := I.list hs
      obtain ⟨as, hr, hn⟩ := Dq.readsAll I ds _ its ha rv
      refine ⟨_, Reads.list ho hc hd hr, fun m => ?_⟩
      rcases List.mem_cons.mp m with m | m
      · exact ne m.symm
      · exact hn m
  | .tuple ds, _, _, h, r => by
    cases h with
    | tup hs ha =>
      cases r
      obtain ⟨its, rv, ⟨o, ho, hc, n, hd⟩, _⟩ := I.tuple hs
      obtain ⟨as, hr, hn⟩ := Dq.readsAll I ds _ its ha rv
      exact ⟨_, Reads.tuple ho hc hd hr, hn⟩
  | .dict ps, _, _, h, r => by
    generalize e0 : PyData.dict ps = d0 at h
    cases h with
    | @dic a kvs hs =>
      cases r
      obtain ⟨_, hm, vs, rel, o, es, ep, ho, hx, hd, _, pr, _⟩ := dk_of I.hok hs
      obtain ⟨r1, r2⟩ := keys_read (X := X) (h := s.heap) pr rel
      refine ⟨_, Reads.dict (as := []) (bs := []) ho hx.1 hd (by rw [List.map_map]; exact r1) (by rw [List.map_map]; exact r2), fun m => ?_⟩
      rcases List.mem_cons.mp m with m | m
      · rw [← m] at hm; cases hm
      · cases m
    | _ => cases e0
theorem Dq.readsAll (I : Inv X pins σ H s) : ∀ (ds : List PyData) (vs : List V) (us : List Value), DqAll X.K H vs ds → Vals vs us → ∃ as, ReadsAll s.heap us ds as ∧ sysModules ∉ as
  | [], _, _, h, r => by
    cases h
    cases r
    exact ⟨_, ReadsAll.nil, (fun m => nomatch m)⟩
  | d :: ds, _, _, h, r => by
    cases h with
    | cons h1 h2 =>
      cases r with
      | cons r1 r2 =>
        obtain ⟨as, q1, n1⟩ := Dq.reads I d _ _ h1 r1
        obtain ⟨bs, q2, n2⟩ := Dq.readsAll I ds _ _ h2 r2
        exact ⟨_, ReadsAll.cons q1 q2, fun m => (List.mem_append.mp m).elim n1 n2⟩
end
end
section
variable {X : Cx}
def rReprQ (K : PySem.W.Frag) : List V → Hp → VK → Prop := fun vs H Q => ∃ (x : V) (d : PyData), vs = [x] ∧ Dq K H x d ∧ d.showable = true ∧ d.depth ≤ 32 ∧ d.shown.length ≤ sizeLine ∧ Q (.str d.shown) H
theorem cr_reprQ (hg : X.A.guards = some []) (hu : X.A.units + 64 < cLine) : CallR X (.builtin "repr") (rReprQ X.K) := by
  intro pins s σ H vs us Q I r h
  obtain ⟨x, d, rfl, hd, hs, hp, hz, q⟩ := h
  obtain ⟨u, rfl, ru⟩ := r.one
  have refs : ∀ a : Addr, x = .ref a → wpAny (model X.prog X.w) X.A (call (.builtin "repr") [u]) (EP X pins σ Q) X.xe s := fun a e => by
    subst e
    obtain ⟨as, rr, hn⟩ := Dq.reads I d _ u hd ru
    cases (show u = Value.ref a from ru)
    exact repr_of_reads' rr hs (fun _ => hn) hg (by omega) (fun _ _ e => e) (fun h' u tk hk => ⟨.str d.shown, H, I.kept hk, ⟨u, rfl⟩, q⟩) hz
  cases hd with
  | non =>
    cases (show u = Value.none from ru)
    exact PySem.P.repr_of_none ⟨.str _, H, I.tok _, ⟨_, rfl⟩, q⟩
  | bl b =>
    cases (show u = Value.bool b from ru)
    exact PySem.P.repr_of_bool ⟨.str _, H, I.tok _, ⟨_, rfl⟩, q⟩
  | int i =>
    obtain ⟨t, rfl⟩ := ru
    exact PySem.P.repr_of_int (of_decide_eq_true hs) ⟨.str _, H, I.tok _, ⟨_, rfl⟩, q⟩
  | str y =>
    obtain ⟨t, rfl⟩ := ru
    exact PySem.P.repr_of_str ⟨.str _, H, I.tok _, ⟨_, rfl⟩, q⟩ hz
  | lst _ _ _ => exact refs _ rfl
  | tup _ _ => exact refs _ rfl
  | dic _ => exact refs _ rfl
end
end Two

set_option autoImplicit true
set_option Elab.async false
set_option linter.all false
set_option maxRecDepth 100000
set_option maxHeartbeats 1000000
/-! repr tells data apart: none, truth values, ints, texts of plain signs, lists, tuples, the empty dict. -/
namespace Rp
open PySem PySem.Spec PyProof.Rows
abbrev pts (x : Str) : List Nat := x.cps.toList
theorem pts_app (a b : Str) : pts (a ++ b) = pts a ++ pts b := by
  show (a.cps ++ b.cps).toList = _
  rw [Array.toList_append]
/-- where an item's text may end -/
def EndO (r : List Nat) : Prop := r = [] ∨ ∃ c t, r = c :: t ∧ (c = 44 ∨ c = 41 ∨ c = 93)
theorem span_eq {p : Nat → Prop} : ∀ {a b r s : List Nat}, (∀ c ∈ a, p c) → (∀ c ∈ b, p c) → (∀ c t, r = c :: t → ¬ p c) → (∀ c t, s = c :: t → ¬ p c) → a ++ r = b ++ s → a = b ∧ r = s
  | [], [], r, s, _, _, _, _, e => ⟨rfl, e⟩
  | [], y :: b, r, s, _, hb, hr, _, e => absurd (hb y List.mem_cons_self) (hr y (b ++ s) e)
  | x :: a, [], r, s, ha, _, _, hs, e => absurd (ha x List.mem_cons_self) (hs x (a ++ r) e.symm)
  | x :: a, y :: b, r, s, ha, hb, hr, hs, e => by
    obtain ⟨e1, e2⟩ := List.cons.inj e
    obtain ⟨e3, e4⟩ := span_eq (fun c hc => ha c (List.mem_cons_of_mem _ hc)) (fun c hc => hb c (List.mem_cons_of_mem _ hc)) hr hs e2
    exact ⟨by rw [e1, e3], e4⟩
/-- signs that repr writes as they are, and that are no quotes -/
def plainC (c : Nat) : Bool := (decide (48 ≤ c) && decide (c ≤ 57)) || (decide (97 ≤ c) && decide (c ≤ 122)) || (decide (65 ≤ c) && decide (c ≤ 90)) || decide (c = 32)
mutual
def okD : PyData → Bool
  | .none => true
  | .bool _ => true
  | .int _ => true
  | .str x => x.cps.toList.all plainC
  | .list xs => okAll xs
  | .tuple xs => okAll xs
  | .dict kvs => kvs.isEmpty
def okAll : List PyData → Bool
  | [] => true
  | x :: xs => okD x && okAll xs
end
theorem repr_plain : ∀ c : Nat, plainC c = true → Builtin.Str.reprChar 39 c = [c] := by
  have h : ∀ c : Fin 128, plainC c.val = true → Builtin.Str.reprChar 39 c.val = [c.val] := by decide +kernel
  intro c hc
  have lt : c < 128 := by
    unfold plainC at hc
    simp only [Bool.or_eq_true, Bool.and_eq_true, decide_eq_true_eq] at hc
    omega
  exact h ⟨c, lt⟩ hc
theorem fold_plain : ∀ (l : List Nat) (acc : Array Nat), l.all plainC = true → l.foldl (fun out c => out ++ (Builtin.Str.reprChar 39 c).toArray) acc = acc ++ l.toArray
  | [], acc, _ => by simp
  | c :: l, acc, h => by
    rw [List.all_cons, Bool.and_eq_true] at h
    rw [List.foldl_cons, repr_plain c h.1, fold_plain l _ h.2]
    apply Array.toList_inj.mp
    simp
theorem pts_str {x : Str} (h : x.cps.toList.all plainC = true) : pts (reprText x) = 39 :: pts x ++ [39] := by
  have q : reprQuote x = 39 := by
    unfold reprQuote
    have n : x.cps.contains 39 = false := by
      rw [Bool.eq_false_iff]
      intro z
      have m : 39 ∈ x.cps.toList := by simpa using z
      have := List.all_eq_true.mp h 39 m
      exact absurd this (by decide)
    rw [n]
    rfl
  show ((x.cps.foldl (fun out c => out ++ (Builtin.Str.reprChar (reprQuote x) c).toArray) #[reprQuote x]).push (reprQuote x)).toList = _
  rw [q, ← Array.foldl_toList, fold_plain _ _ h]
  simp
/-- texts with a comma and a space between -/
def sep : List Str → List Nat
  | [] => []
  | [t] => pts t
  | t :: u :: r => pts t ++ 44 :: 32 :: sep (u :: r)
theorem pts_from : ∀ (ts : List Str) (k : Nat) (acc : Str), 0 < k → pts (textFrom k acc ts) = pts acc ++ (ts.map fun t => 44 :: 32 :: pts t).flatten
  | [], k, acc, _ => by simp [textFrom]
  | t :: ts, k, acc, h => by
    unfold textFrom
    rw [pts_from ts (k + 1) _ (Nat.succ_pos k), if_pos h, pts_app, pts_app]
    have e : pts ((", " : String) : Str) = [44, 32] := by decide +kernel
    rw [e]
    simp
theorem sep_flat : ∀ (t : Str) (ts : List Str), sep (t :: ts) = pts t ++ (ts.map fun t => 44 :: 32 :: pts t).flatten
  | t, [] => by simp [sep]
  | t, u :: r => by
    unfold sep
    rw [sep_flat u r]
    simp
theorem pts_list (ts : List Str) : pts (listText ts) = 91 :: (sep ts ++ [93]) := by
  unfold listText
  rw [pts_app]
  have e1 : pts ("]" : Str) = [93] := by decide +kernel
  have e2 : pts ("[" : Str) = [91] := by decide +kernel
  rw [e1]
  cases ts with
  | nil =>
    show pts ("[" : Str) ++ [93] = _
    rw [e2]
    rfl
  | cons t ts =>
    unfold textFrom
    rw [pts_from ts 1 _ (by decide), sep_flat]
    have e3 : ((if (0 : Nat) > 0 then ", " else "" : String) : Str) = (("" : String) : Str) := by rw [if_neg (by decide)]
    rw [e3, pts_app, pts_app, e2]
    have e4 : pts ((("" : String) : Str)) = [] := by decide +kernel
    rw [e4]
    simp
theorem pts_join : ∀ ts : List Str, pts (Str.join ", " ts) = sep ts
  | [] => by decide +kernel
  | [t] => rfl
  | t :: u :: r => by
    show pts (t ++ ", " ++ Str.join ", " (u :: r)) = _
    rw [pts_app, pts_app, pts_join (u :: r)]
    have e : pts ((", " : String) : Str) = [44, 32] := by decide +kernel
    rw [e]
    simp [sep]
theorem pts_tuple (ts : List Str) : pts (tupleText ts) = 40 :: (sep ts ++ (if ts.length == 1 then [44, 41] else [41])) := by
  unfold tupleText
  rw [pts_app, pts_app, pts_join]
  have e1 : pts ("(" : Str) = [40] := by decide +kernel
  rw [e1]
  cases h : (ts.length == 1) with
  | true =>
    have e : pts ((if true = true then ",)" else ")" : String) : Str) = [44, 41] := by decide +kernel
    rw [e]
    simp
  | false =>
    have e : pts ((if false = true then ",)" else ")" : String) : Str) = [41] := by decide +kernel
    rw [e]
    simp
/-- what a text's first sign says of its data -/
def clsC (c : Nat) : Nat := if c = 78 then 0 else if c = 84 then 1 else if c = 70 then 2 else if c = 45 ∨ (48 ≤ c ∧ c ≤ 57) then 3 else if c = 39 then 4 else if c = 91 then 5 else if c = 40 then 6 else if c = 123 then 7 else 9
def tagOf : PyData → Nat
  | .none => 0
  | .bool true => 1
  | .bool false => 2
  | .int _ => 3
  | .str _ => 4
  | .list _ => 5
  | .tuple _ => 6
  | .dict _ => 7
theorem sh_none : pts (PyData.none).shown = [78, 111, 110, 101] := by decide +kernel
theorem sh_true : pts (PyData.bool true).shown = [84, 114, 117, 101] := by decide +kernel
theorem sh_false : pts (PyData.bool false).shown = [70, 97, 108, 115, 101] := by decide +kernel
theorem sh_int (i : Int) : pts (PyData.int i).shown = pts ((toString i : String) : Str) := rfl
theorem sh_str {x : Str} (h : x.cps.toList.all plainC = true) : pts (PyData.str x).shown = 39 :: (pts x ++ [39]) := pts_str h
theorem sh_list (xs : List PyData) : pts (PyData.list xs).shown = 91 :: (sep (PyData.shownAll xs) ++ [93]) := pts_list _
theorem sh_tuple (xs : List PyData) : pts (PyData.tuple xs).shown = 40 :: (sep (PyData.shownAll xs) ++ (if (PyData.shownAll xs).length == 1 then [44, 41] else [41])) := pts_tuple _
theorem sh_dict : pts (PyData.dict []).shown = [123, 125] := by decide +kernel
theorem int_signs (i : Int) : ∀ c ∈ pts (PyData.int i).shown, c = 45 ∨ (48 ≤ c ∧ c ≤ 57) := fun c hc => by
  by_cases h : c ≠ 45 ∧ (c < 48 ∨ 57 < c)
  · exact absurd hc (shown_int_free' h i)
  · omega
theorem int_ne (i : Int) : pts (PyData.int i).shown ≠ [] := by
  rw [sh_int]
  unfold pts
  rw [signs_ofString]
  intro h
  have h1 : (toString i).toList = [] := List.map_eq_nil_iff.mp h
  have h2 : toString i = "" := by
    rw [← String.toList_inj]
    exact h1
  cases i with
  | ofNat n =>
    have h3 : Nat.repr n = "" := h2
    have h4 := congrArg String.toList h3
    rw [Nat.toList_repr] at h4
    exact Nat.toDigits_ne_nil h4
  | negSucc n =>
    have h3 := congrArg String.toList h2
    have h4 : ("-" ++ Nat.repr (n + 1)).toList = [] := h3
    rw [String.toList_append] at h4
    exact absurd (List.append_eq_nil_iff.mp h4).1 (by decide)
theorem int_inj {i j : Int} (h : pts (PyData.int i).shown = pts (PyData.int j).shown) : i = j := by
  rw [sh_int, sh_int] at h
  unfold pts at h
  rw [signs_ofString, signs_ofString] at h
  have h1 : (toString i).toList = (toString j).toList := List.map_inj_right (fun a b e => Char.toNat_inj.mp e) |>.mp h
  have h2 : toString i = toString j := String.toList_inj.mp h1
  exact Int.repr_inj.mp h2
theorem head_ok : ∀ {d : PyData}, okD d = true → ∃ c t, pts d.shown = c :: t ∧ clsC c = tagOf d
  | .none, _ => ⟨_, _, sh_none, rfl⟩
  | .bool true, _ => ⟨_, _, sh_true, rfl⟩
  | .bool false, _ => ⟨_, _, sh_false, rfl⟩
  | .int i, _ => by
    cases h : pts (PyData.int i).shown with
    | nil => exact absurd h (int_ne i)
    | cons c t =>
      refine ⟨c, t, rfl, ?_⟩
      have hc := int_signs i c (by rw [h]; exact List.mem_cons_self)
      unfold clsC tagOf
      rw [if_neg (by omega), if_neg (by omega), if_neg (by omega), if_pos hc]
  | .str x, h => ⟨_, _, sh_str (by unfold okD at h; exact h), rfl⟩
  | .list xs, _ => ⟨_, _, sh_list xs, rfl⟩
  | .tuple xs, _ => ⟨_, _, sh_tuple xs, rfl⟩
  | .dict [], _ => ⟨_, _, sh_dict, rfl⟩
  | .dict (_ :: _), h => by
    unfold okD at h
    cases h
theorem tag_le : ∀ d : PyData, tagOf d ≤ 7
  | .none => Nat.zero_le _
  | .bool true => by show 1 ≤ 7; decide
  | .bool false => by show 2 ≤ 7; decide
  | .int _ => by show 3 ≤ 7; decide
  | .str _ => by show 4 ≤ 7; decide
  | .list _ => by show 5 ≤ 7; decide
  | .tuple _ => by show 6 ≤ 7; decide
  | .dict _ => Nat.le_refl 7
theorem head_out {d : PyData} (h : okD d = true) {c : Nat} {r t : List Nat} (hc : c = 44 ∨ c = 41 ∨ c = 93 ∨ c = 32) : c :: r ≠ pts d.shown ++ t := fun e => by
  obtain ⟨x, u, e1, e2⟩ := head_ok h
  rw [e1] at e
  have e3 : c = x := (List.cons.inj e).1
  have := tag_le d
  rw [← e2, ← e3] at this
  rcases hc with rfl | rfl | rfl | rfl <;> exact absurd this (by decide)
theorem EndO.stop {r : List Nat} (h : EndO r) : ∀ c t, r = c :: t → ¬ (c = 45 ∨ (48 ≤ c ∧ c ≤ 57)) := fun c t e => by
  rcases h with h | ⟨c2, t2, h, hc⟩
  · rw [h] at e; cases e
  · rw [h] at e
    have : c2 = c := (List.cons.inj e).1
    omega
theorem plain_q {l : List Nat} (h : l.all plainC = true) : ∀ c ∈ l, c ≠ 39 := fun c hc e => by
  have := List.all_eq_true.mp h c hc
  rw [e] at this
  exact absurd this (by decide)
theorem all_len : ∀ xs : List PyData, (PyData.shownAll xs).length = xs.length
  | [] => rfl
  | _ :: xs => by
    show (PyData.shownAll xs).length + 1 = _
    rw [all_len xs]
    rfl
/-- what stands behind the first of some -/
def flat (xs : List PyData) : List Nat := ((PyData.shownAll xs).map fun t => 44 :: 32 :: pts t).flatten
theorem sep_cons (x : PyData) (xs : List PyData) : sep (PyData.shownAll (x :: xs)) = pts x.shown ++ flat xs := sep_flat _ _
theorem flat_cons (x : PyData) (xs : List PyData) : flat (x :: xs) = 44 :: 32 :: sep (PyData.shownAll (x :: xs)) := by
  rw [sep_cons]
  show 44 :: 32 :: (pts x.shown ++ flat xs) = _
  rfl
theorem end_flat {xs : List PyData} {u : List Nat} (h : xs = [] → EndO u) : EndO (flat xs ++ u) := by
  cases xs with
  | nil => exact h rfl
  | cons x xs =>
    rw [flat_cons]
    exact .inr ⟨44, _, rfl, .inl rfl⟩
def tupE (xs : List PyData) : List Nat := if xs.isEmpty then [44, 41] else [41]
theorem sh_tup1 (x : PyData) (xs : List PyData) (r : List Nat) : pts (PyData.tuple (x :: xs)).shown ++ r = 40 :: (pts x.shown ++ (flat xs ++ (tupE xs ++ r))) := by
  rw [sh_tuple, sep_cons, all_len]
  cases xs with
  | nil => simp [tupE]
  | cons y ys => simp [tupE]
mutual
theorem apart : ∀ (d e : PyData), okD d = true → okD e = true → ∀ r s : List Nat, EndO r → EndO s → pts d.shown ++ r = pts e.shown ++ s → d = e ∧ r = s
  | d, e, hd, he, r, s, hr, hs, h => by
    obtain ⟨c, t, e1, e2⟩ := head_ok hd
    obtain ⟨c2, t2, e3, e4⟩ := head_ok he
    have tag : tagOf d = tagOf e := by
      have h2 := h
      rw [e1, e3] at h2
      have : c = c2 := (List.cons.inj h2).1
      rw [← e2, ← e4, this]
    match d, e, hd, he, tag, h with
    | .none, .none, _, _, _, h => exact ⟨rfl, List.append_cancel_left h⟩
    | .bool true, .bool true, _, _, _, h => exact ⟨rfl, List.append_cancel_left h⟩
    | .bool false, .bool false, _, _, _, h => exact ⟨rfl, List.append_cancel_left h⟩
    | .int i, .int j, _, _, _, h =>
      obtain ⟨a, b⟩ := span_eq (p := fun c => c = 45 ∨ (48 ≤ c ∧ c ≤ 57)) (int_signs i) (int_signs j) hr.stop hs.stop h
      exact ⟨by rw [int_inj a], b⟩
    | .str x, .str y, hd, he, _, h =>
      unfold okD at hd he
      rw [sh_str hd, sh_str he] at h
      have h2 : pts x ++ 39 :: r = pts y ++ 39 :: s := by
        have := (List.cons.inj h).2
        simpa using this
      obtain ⟨a, b⟩ := span_eq (p := fun c => c ≠ 39) (plain_q hd) (plain_q he) (fun c t e k => k (List.cons.inj e).1.symm) (fun c t e k => k (List.cons.inj e).1.symm) h2
      refine ⟨?_, (List.cons.inj b).2⟩
      have : x = y := by
        cases x
        cases y
        congr 1
        exact Array.toList_inj.mp a
      rw [this]
    | .list xs, .list ys, hd, he, _, h =>
      unfold okD at hd he
      rw [sh_list, sh_list] at h
      have h2 : sep (PyData.shownAll xs) ++ 93 :: r = sep (PyData.shownAll ys) ++ 93 :: s := by
        have := (List.cons.inj h).2
        simpa using this
      obtain ⟨a, b⟩ := apartL xs ys hd he 93 (.inr rfl) r s h2
      exact ⟨by rw [a], b⟩
    | .tuple [], .tuple [], _, _, _, h => exact ⟨rfl, List.append_cancel_left h⟩
    | .tuple [], .tuple (y :: ys), _, he, _, h =>
      unfold okD okAll at he
      rw [Bool.and_eq_true] at he
      rw [sh_tup1] at h
      exact absurd (List.cons.inj h).2 (head_out he.1 (.inr (.inl rfl)))
    | .tuple (x :: xs), .tuple [], hd, _, _, h =>
      unfold okD okAll at hd
      rw [Bool.and_eq_true] at hd
      rw [sh_tup1] at h
      exact absurd (List.cons.inj h).2.symm (head_out hd.1 (.inr (.inl rfl)))
    | .tuple (x :: xs), .tuple (y :: ys), hd, he, _, h =>
      unfold okD okAll at hd he
      rw [Bool.and_eq_true] at hd he
      rw [sh_tup1, sh_tup1] at h
      have endT : ∀ (zs : List PyData) (u : List Nat), EndO (flat zs ++ (tupE zs ++ u)) := fun zs u => end_flat fun z => by
        rw [z]
        exact .inr ⟨44, _, rfl, .inl rfl⟩
      obtain ⟨exy, rest⟩ := apart x y hd.1 he.1 _ _ (endT xs r) (endT ys s) (List.cons.inj h).2
      subst exy
      match xs, ys, hd, he, rest with
      | [], [], _, _, rest =>
        have h1 : 44 :: 41 :: r = 44 :: 41 :: s := rest
        exact ⟨rfl, (List.cons.inj (List.cons.inj h1).2).2⟩
      | [], w :: ys, _, _, rest =>
        rw [flat_cons] at rest
        have h1 : 41 = 32 := (List.cons.inj (List.cons.inj rest).2).1
        exact absurd h1 (by decide)
      | z :: xs, [], _, _, rest =>
        rw [flat_cons] at rest
        have h1 : 32 = 41 := (List.cons.inj (List.cons.inj rest).2).1
        exact absurd h1 (by decide)
      | z :: xs, w :: ys, hd, he, rest =>
        rw [flat_cons, flat_cons] at rest
        have h1 : sep (PyData.shownAll (z :: xs)) ++ 41 :: r = sep (PyData.shownAll (w :: ys)) ++ 41 :: s := (List.cons.inj (List.cons.inj rest).2).2
        obtain ⟨a, b⟩ := apartL (z :: xs) (w :: ys) hd.2 he.2 41 (.inl rfl) r s h1
        exact ⟨by rw [a], b⟩
    | .dict [], .dict [], _, _, _, h => exact ⟨rfl, List.append_cancel_left h⟩
    | .dict (_ :: _), _, hd, _, _, _ => unfold okD at hd; cases hd
    | .dict [], .dict (_ :: _), _, he, _, _ => unfold okD at he; cases he
theorem apartL : ∀ (xs ys : List PyData), okAll xs = true → okAll ys = true → ∀ c : Nat, (c = 41 ∨ c = 93) → ∀ r s : List Nat, sep (PyData.shownAll xs) ++ c :: r = sep (PyData.shownAll ys) ++ c :: s → xs = ys ∧ r = s
  | [], [], _, _, c, hc, r, s, h => ⟨rfl, (List.cons.inj h).2⟩
  | [], y :: ys, _, he, c, hc, r, s, h => by
    unfold okAll at he
    rw [Bool.and_eq_true] at he
    rw [sep_cons, List.append_assoc] at h
    exact absurd h (head_out he.1 (by omega))
  | x :: xs, [], hd, _, c, hc, r, s, h => by
    unfold okAll at hd
    rw [Bool.and_eq_true] at hd
    rw [sep_cons, List.append_assoc] at h
    exact absurd h.symm (head_out hd.1 (by omega))
  | x :: xs, y :: ys, hd, he, c, hc, r, s, h => by
    unfold okAll at hd he
    rw [Bool.and_eq_true] at hd he
    rw [sep_cons, sep_cons, List.append_assoc, List.append_assoc] at h
    have endC : ∀ (zs : List PyData) (u : List Nat), EndO (flat zs ++ c :: u) := fun zs u => end_flat fun _ => .inr ⟨c, u, rfl, by omega⟩
    obtain ⟨exy, rest⟩ := apart x y hd.1 he.1 _ _ (endC xs r) (endC ys s) h
    subst exy
    match xs, ys, hd, he, rest with
    | [], [], _, _, rest => exact ⟨rfl, (List.cons.inj rest).2⟩
    | [], w :: ys, _, _, rest =>
      rw [flat_cons] at rest
      have h1 : c = 44 := (List.cons.inj rest).1
      omega
    | z :: xs, [], _, _, rest =>
      rw [flat_cons] at rest
      have h1 : 44 = c := (List.cons.inj rest).1
      omega
    | z :: xs, w :: ys, hd, he, rest =>
      rw [flat_cons, flat_cons] at rest
      have h1 : sep (PyData.shownAll (z :: xs)) ++ c :: r = sep (PyData.shownAll (w :: ys)) ++ c :: s := (List.cons.inj (List.cons.inj rest).2).2
      obtain ⟨a, b⟩ := apartL (z :: xs) (w :: ys) hd.2 he.2 c hc r s h1
      exact ⟨by rw [a], b⟩
end
/-- repr tells plain data apart -/
theorem shown_inj {d e : PyData} (hd : okD d = true) (he : okD e = true) (h : d.shown = e.shown) : d = e :=
  (apart d e hd he [] [] (.inl rfl) (.inl rfl) (by rw [h])).1
theorem shown_iff {d e : PyData} (hd : okD d = true) (he : okD e = true) : d.shown = e.shown ↔ d = e := ⟨shown_inj hd he, fun h => by rw [h]⟩
end Rp

set_option autoImplicit true
set_option Elab.async false
set_option linter.all false
set_option maxRecDepth 100000
set_option maxHeartbeats 1000000
/-! Data that can be shown, and is told apart by what is shown. -/
namespace Rp
open PySem PySem.Spec PyProof.Rows
mutual
def fineD : PyData → Bool
  | .none => true
  | .bool _ => true
  | .int i => decide (i.natAbs < 10 ^ 31)
  | .str x => x.cps.toList.all plainC && decide (x.cps.size ≤ 40)
  | .list xs => fineAll xs
  | .tuple xs => fineAll xs
  | .dict kvs => kvs.isEmpty
def fineAll : List PyData → Bool
  | [] => true
  | x :: xs => fineD x && fineAll xs
end
mutual
def nodes : PyData → Nat
  | .none => 1
  | .bool _ => 1
  | .int _ => 1
  | .str _ => 1
  | .list xs => 1 + nodesAll xs
  | .tuple xs => 1 + nodesAll xs
  | .dict _ => 1
def nodesAll : List PyData → Nat
  | [] => 0
  | x :: xs => nodes x + nodesAll xs
end
theorem fine_cons {x : PyData} {xs : List PyData} (h : fineAll (x :: xs) = true) : fineD x = true ∧ fineAll xs = true := by
  unfold fineAll at h
  rwa [Bool.and_eq_true] at h
mutual
theorem fine_ok : ∀ d : PyData, fineD d = true → okD d = true
  | .none, _ => rfl
  | .bool _, _ => rfl
  | .int _, _ => rfl
  | .str x, h => by
    unfold fineD at h
    rw [Bool.and_eq_true] at h
    exact h.1
  | .list xs, h => by
    unfold fineD at h
    exact fineAll_ok xs h
  | .tuple xs, h => by
    unfold fineD at h
    exact fineAll_ok xs h
  | .dict kvs, h => by
    unfold fineD at h
    exact h
theorem fineAll_ok : ∀ xs : List PyData, fineAll xs = true → okAll xs = true
  | [], _ => rfl
  | x :: xs, h => by
    obtain ⟨a, b⟩ := fine_cons h
    unfold okAll
    rw [fine_ok x a, fineAll_ok xs b]
    rfl
end
theorem log_small {i : Int} (h1 : i.natAbs < 10 ^ 31) : i.natAbs.log2 < 1920 := by
  by_cases z : i.natAbs = 0
  · rw [z]; decide
  · refine (Nat.log2_lt z).mpr (Nat.lt_of_lt_of_le (show i.natAbs < 2 ^ 110 from Nat.lt_of_lt_of_le h1 (by decide)) (Nat.pow_le_pow_right (by decide) (by decide)))
theorem big_len {i : Int} (h : i.natAbs < 10 ^ 31) : (PyData.shown (.int i)).length ≤ 32 := by
  have e := int_text_length_le10 (k := 31) (by decide) h
  show (Str.ofString (toString i)).length ≤ 32
  rw [PySem.ofString_length]
  exact e
theorem fine_int {i : Int} (h1 : -1000000 ≤ i) (h2 : i ≤ 1000000) : fineD (.int i) = true := by
  unfold fineD
  refine decide_eq_true (Nat.lt_of_le_of_lt (show i.natAbs ≤ 1000000 by omega) (by decide))
mutual
theorem fine_show : ∀ d : PyData, fineD d = true → d.showable = true
  | .none, _ => rfl
  | .bool _, _ => rfl
  | .str _, _ => rfl
  | .int i, h => by
    unfold fineD at h
    exact decide_eq_true (log_small (of_decide_eq_true h))
  | .list xs, h => by
    unfold fineD at h
    exact fineAll_show xs h
  | .tuple xs, h => by
    unfold fineD at h
    exact fineAll_show xs h
  | .dict [], _ => rfl
  | .dict (_ :: _), h => by
    unfold fineD at h
    cases h
theorem fineAll_show : ∀ xs : List PyData, fineAll xs = true → PyData.showableAll xs = true
  | [], _ => rfl
  | x :: xs, h => by
    obtain ⟨a, b⟩ := fine_cons h
    unfold PyData.showableAll
    rw [fine_show x a, fineAll_show xs b]
    rfl
end
theorem plain_small {c : Nat} (h : plainC c = true) : c < 16 ^ 8 := by
  unfold plainC at h
  simp only [Bool.or_eq_true, Bool.and_eq_true, decide_eq_true_eq] at h
  omega
mutual
theorem fine_short : ∀ d : PyData, fineD d = true → d.leavesShort 32 = true
  | .none, _ => rfl
  | .bool _, _ => rfl
  | .str x, h => by
    unfold fineD at h
    rw [Bool.and_eq_true] at h
    unfold PyData.leavesShort
    rw [List.all_eq_true]
    exact fun c hc => decide_eq_true (plain_small (List.all_eq_true.mp h.1 c hc))
  | .int i, h => by
    unfold fineD at h
    exact decide_eq_true (big_len (of_decide_eq_true h))
  | .list xs, h => by
    unfold fineD at h
    exact fineAll_short xs h
  | .tuple xs, h => by
    unfold fineD at h
    exact fineAll_short xs h
  | .dict [], _ => rfl
  | .dict (_ :: _), h => by
    unfold fineD at h
    cases h
theorem fineAll_short : ∀ xs : List PyData, fineAll xs = true → PyData.leavesShortAll 32 xs = true
  | [], _ => rfl
  | x :: xs, h => by
    obtain ⟨a, b⟩ := fine_cons h
    unfold PyData.leavesShortAll
    rw [fine_short x a, fineAll_short xs b]
    rfl
end
mutual
theorem fine_bulk : ∀ d : PyData, fineD d = true → d.bulk + 1 ≤ 42 * nodes d
  | .none, _ => by show 0 + 1 ≤ 42 * 1; decide
  | .bool _, _ => by show 0 + 1 ≤ 42 * 1; decide
  | .int _, _ => by show 0 + 1 ≤ 42 * 1; decide
  | .str x, h => by
    unfold fineD at h
    rw [Bool.and_eq_true, decide_eq_true_iff] at h
    show x.cps.size + 1 ≤ 42 * 1
    omega
  | .list xs, h => by
    unfold fineD at h
    have := fineAll_bulk xs h
    show PyData.bulkAll xs + 1 ≤ 42 * (1 + nodesAll xs)
    omega
  | .tuple xs, h => by
    unfold fineD at h
    have := fineAll_bulk xs h
    show PyData.bulkAll xs + 1 ≤ 42 * (1 + nodesAll xs)
    omega
  | .dict [], _ => by show 0 + 1 ≤ 42 * 1; decide
  | .dict (_ :: _), h => by
    unfold fineD at h
    cases h
theorem fineAll_bulk : ∀ xs : List PyData, fineAll xs = true → PyData.bulkAll xs ≤ 42 * nodesAll xs
  | [], _ => Nat.le_refl _
  | x :: xs, h => by
    obtain ⟨a, b⟩ := fine_cons h
    have h1 := fine_bulk x a
    have h2 := fineAll_bulk xs b
    show x.bulk + 1 + PyData.bulkAll xs ≤ 42 * (nodes x + nodesAll xs)
    omega
end
end Rp
namespace Two
open PySem PySem.Spec PyProof.Rows L2
mutual
theorem Dq.keep {K : PySem.W.Frag} {H H' : Hp} (s : Same H H') : ∀ {v : V} {d : PyData}, Dq K H v d → Dq K H' v d
  | _, _, .non => .non
  | _, _, .bl b => .bl b
  | _, _, .int i => .int i
  | _, _, .str x => .str x
  | _, _, .lst h n a => .lst (s.seq h) n (DqAll.keep s a)
  | _, _, .tup h a => .tup (by
      rcases h with (h | ⟨o, h⟩) | h
      · exact .inl (.inl (s _ _ h))
      · exact .inl (.inr ⟨o, s _ _ h⟩)
      · exact .inr h) (DqAll.keep s a)
  | _, _, .dic h => .dic (s _ _ h)
theorem DqAll.keep {K : PySem.W.Frag} {H H' : Hp} (s : Same H H') : ∀ {v : List V} {d : List PyData}, DqAll K H v d → DqAll K H' v d
  | _, _, .nil => .nil
  | _, _, .cons a b => .cons (Dq.keep s a) (DqAll.keep s b)
end
end Two
namespace Lw
open PySem L2 Two Pr Rp
/-- v can be shown as d, and is told apart by it -/
structure Pap (K : PySem.W.Frag) (H : Hp) (v : V) (d : PyData) : Prop where
  dq : Dq K H v d
  fine : fineD d = true
  few : nodes d ≤ 1000
  dp : d.depth ≤ 20
theorem Pap.keep {K : PySem.W.Frag} {H H' : Hp} {v : V} {d : PyData} (h : Pap K H v d) (s : Same H H') : Pap K H' v d := ⟨h.dq.keep s, h.fine, h.few, h.dp⟩
theorem Pap.repr {K : PySem.W.Frag} {H : Hp} {v : V} {d : PyData} {Q : VK} (h : Pap K H v d) (q : Q (.str d.shown) H) : rReprQ K [v] H Q := by
  refine ⟨v, d, rfl, h.dq, fine_show _ h.fine, Nat.le_trans h.dp (by decide), ?_, q⟩
  have h1 := fine_bulk d h.fine
  have h2 := h.few
  have h3 := PyData.shown_le_bulk 32 (by decide) d (fine_short _ h.fine)
  rw [sizeLine_eq]
  omega
theorem Pap.same {K : PySem.W.Frag} {H H' : Hp} {v w : V} {d e : PyData} (h : Pap K H v d) (g : Pap K H' w e) : d.shown = e.shown ↔ d = e := shown_iff (fine_ok _ h.fine) (fine_ok _ g.fine)
end Lw

set_option autoImplicit true
set_option Elab.async false
set_option linter.all false
set_option maxRecDepth 100000
set_option maxHeartbeats 1000000
/-! What the program asks of data. -/
namespace Lw
open PySem L2 Two Pr Rp
theorem tyx_sqt {K : PySem.W.Frag} {H : Hp} {a : Addr} {xs : List V} (h : SqT K H a xs) : TyX K H (.ref a) (.type "tuple") := by
  rcases h with (h | ⟨o, h⟩) | ⟨o, its, n, h, c, _⟩
  · exact .base (.tup h)
  · exact .fTuple h
  · exact .kTuple h c
def intD : PyData → Bool
  | .int _ => true
  | _ => false
def tupD : PyData → Bool
  | .tuple _ => true
  | _ => false
def tagT : PyData → String
  | .none => "NoneType"
  | .bool _ => "bool"
  | .int _ => "int"
  | .str _ => "str"
  | .list _ => "list"
  | .tuple _ => "tuple"
  | .dict _ => "dict"
section
variable {K : PySem.W.Frag} {H : Hp}
theorem dq_ty : ∀ {v : V} {d : PyData}, Dq K H v d → TyX K H v (.type (tagT d))
  | _, _, .non => .base .non
  | _, _, .bl b => .base (.bl b)
  | _, _, .int i => .base (.int i)
  | _, _, .str x => .base (.str x)
  | _, _, .lst h _ _ => tyx_list h
  | _, _, .tup h _ => tyx_sqt h
  | _, _, .dic h => .base (.dK h)
theorem kit_tup (d : PyData) : PySem.W.kitOne K (.type (tagT d)) (.type "tuple") = some (tupD d) := by
  cases d with
  | none =>
    show PySem.W.kitOne K (.type "NoneType") (.type "tuple") = some false
    exact kit_ty (by decide +kernel)
  | bool b =>
    show PySem.W.kitOne K (.type "bool") (.type "tuple") = some false
    exact kit_ty (by decide +kernel)
  | int i =>
    show PySem.W.kitOne K (.type "int") (.type "tuple") = some false
    exact kit_ty (by decide +kernel)
  | str x =>
    show PySem.W.kitOne K (.type "str") (.type "tuple") = some false
    exact kit_ty (by decide +kernel)
  | list xs =>
    show PySem.W.kitOne K (.type "list") (.type "tuple") = some false
    exact kit_ty (by decide +kernel)
  | tuple xs =>
    show PySem.W.kitOne K (.type "tuple") (.type "tuple") = some true
    exact kit_ty (by decide +kernel)
  | dict kvs =>
    show PySem.W.kitOne K (.type "dict") (.type "tuple") = some false
    exact kit_ty (by decide +kernel)
theorem kit_int (d : PyData) : ∃ b1 b2, PySem.W.kitOne K (.type (tagT d)) (.type "int") = some b1 ∧ PySem.W.kitOne K (.type (tagT d)) (.type "bool") = some b2 ∧ (b1 && !b2) = intD d := by
  cases d with
  | none => exact ⟨false, false, show PySem.W.kitOne K (.type "NoneType") (.type "int") = some false from kit_ty (by decide +kernel), show PySem.W.kitOne K (.type "NoneType") (.type "bool") = some false from kit_ty (by decide +kernel), rfl⟩
  | bool b => exact ⟨true, true, show PySem.W.kitOne K (.type "bool") (.type "int") = some true from kit_ty (by decide +kernel), show PySem.W.kitOne K (.type "bool") (.type "bool") = some true from kit_ty (by decide +kernel), rfl⟩
  | int i => exact ⟨true, false, show PySem.W.kitOne K (.type "int") (.type "int") = some true from kit_ty (by decide +kernel), show PySem.W.kitOne K (.type "int") (.type "bool") = some false from kit_ty (by decide +kernel), rfl⟩
  | str x => exact ⟨false, false, show PySem.W.kitOne K (.type "str") (.type "int") = some false from kit_ty (by decide +kernel), show PySem.W.kitOne K (.type "str") (.type "bool") = some false from kit_ty (by decide +kernel), rfl⟩
  | list xs => exact ⟨false, false, show PySem.W.kitOne K (.type "list") (.type "int") = some false from kit_ty (by decide +kernel), show PySem.W.kitOne K (.type "list") (.type "bool") = some false from kit_ty (by decide +kernel), rfl⟩
  | tuple xs => exact ⟨false, false, show PySem.W.kitOne K (.type "tuple") (.type "int") = some false from kit_ty (by decide +kernel), show PySem.W.kitOne K (.type "tuple") (.type "bool") = some false from kit_ty (by decide +kernel), rfl⟩
  | dict kvs => exact ⟨false, false, show PySem.W.kitOne K (.type "dict") (.type "int") = some false from kit_ty (by decide +kernel), show PySem.W.kitOne K (.type "dict") (.type "bool") = some false from kit_ty (by decide +kernel), rfl⟩
/-- is_int of data -/
theorem isInt_d {v : V} {d : PyData} {Q : VK} {E : XK} (h : Dq K H v d) (k : Q (.bl (intD d)) H) : spIsInt K [v] H Q E := by
  obtain ⟨b1, b2, h1, h2, e⟩ := kit_int (K := K) d
  exact ⟨v, _, b1, b2, rfl, dq_ty h, h1, h2, by rw [e]; exact k⟩
theorem sqt_keep {H' : Hp} {a : Addr} {xs : List V} (h : SqT K H a xs) (s : Same H H') : SqT K H' a xs := by
  rcases h with (h | ⟨o, h⟩) | h
  · exact .inl (.inl (s _ _ h))
  · exact .inl (.inr ⟨o, s _ _ h⟩)
  · exact .inr h
theorem dqAll_get : ∀ {vs : List V} {ds : List PyData}, DqAll K H vs ds → ∀ {i : Nat} {v : V}, vs[i]? = some v → ∃ d, ds[i]? = some d ∧ Dq K H v d
  | _, _, .nil, i, v, e => by simp at e
  | _, _, .cons a b, 0, v, e => by
    cases e
    exact ⟨_, rfl, a⟩
  | _, _, .cons a b, i + 1, v, e => dqAll_get b (i := i) e
theorem fine_mem : ∀ {ds : List PyData}, fineAll ds = true → ∀ d ∈ ds, fineD d = true
  | x :: xs, h, d, m => by
    obtain ⟨a, b⟩ := fine_cons h
    rcases List.mem_cons.mp m with rfl | m
    · exact a
    · exact fine_mem b d m
theorem nodes_len : ∀ ds : List PyData, ds.length ≤ nodesAll ds
  | [] => Nat.le_refl _
  | d :: ds => by
    have := nodes_len ds
    have h : 1 ≤ nodes d := by
      cases d <;> first | exact Nat.le_refl _ | exact Nat.le_add_right _ _
    show ds.length + 1 ≤ nodes d + nodesAll ds
    omega
theorem dq_three {xs : List V} {ds : List PyData} (h : DqAll K H xs ds) (l : xs.length = 3) : ∃ x1 x2 x3 d1 d2 d3, xs = [x1, x2, x3] ∧ ds = [d1, d2, d3] ∧ Dq K H x1 d1 ∧ Dq K H x2 d2 ∧ Dq K H x3 d3 := by
  cases h with
  | nil => cases l
  | cons h1 h =>
    cases h with
    | nil => cases l
    | cons h2 h =>
      cases h with
      | nil => cases l
      | cons h3 h =>
        cases h with
        | nil => exact ⟨_, _, _, _, _, _, rfl, rfl, h1, h2, h3⟩
        | cons _ _ => simp at l
/-- a list of truth values, one for each item of a tuple of data -/
theorem bools_lc {a : Addr} {xs : List V} {ds : List PyData} {f : PyData → Bool} {vs : List Nat} {σ : L2.St} {te : TE} {D : Addr} {Qd : Hp → Prop} (i : Nat) (hT : SqT K H a xs) (hd : DqAll K H xs ds) (few : ds.length ≤ 1000) (nD : H D = none)
    (hw : ∀ v, wipe ((wipe σ vs).set i (some v)) vs = wipe σ vs)
    (step : ∀ (v : V) (d : PyData) (G : Hp) (Q : VK), d ∈ ds → Same H G → Dq K G v d → (∀ G', Same G G' → Q (.bl (f d)) G') → te ((wipe σ vs).set i (some v)) G Q)
    (done : ∀ G, Same H G → G D = some (.lst ((ds.map f).map V.bl)) → Qd G) :
    ∃ W : Nat → Nat → Hp → Prop, (∃ m, W 0 m (upd H D (.lst []))) ∧ ∀ j m G, W j m G →
      ((Itt K a).stop j G ∧ Qd G) ∨ ((Itt K a).go j G ∧ ∃ Nx : Hp → Prop, (∀ H', Nx H' → ∃ m', m' < m ∧ W (j + 1) m' H') ∧ ∀ x H', (Itt K a).yld j G x H' → gName i x (wipe σ vs) H' fun σ2 H2 => wipe σ2 vs = wipe σ vs ∧ tYes σ2 H2 fun b H3 =>
        if b = true then te σ2 H3 fun y H4 => ∃ acc, H4 D = some (.lst acc) ∧ acc.length < sizeLine ∧ Nx (upd H4 D (.lst (acc ++ [y]))) else Nx H3) := by
  have ll : xs.length = ds.length := hd.len
  refine lc_it (walk_tup (K := K) (a := a) (xs := xs)) (fun j G => Same H G ∧ G D = some (.lst (((ds.take j).map f).map V.bl))) ⟨same_new nD, upd_same⟩ (fun j G _ p => sqt_keep hT p.1) (fun j x G G' hj p y => ?_) (fun G p => ?_)
  · obtain ⟨rfl, hx⟩ := y
    obtain ⟨d, ed, hq⟩ := dqAll_get hd hx
    refine ⟨hw x, ?_⟩
    unfold tYes
    simp only [if_true]
    refine step x d _ _ (List.mem_of_getElem? ed) p.1 (hq.keep p.1) fun G2 s2 => ?_
    refine ⟨_, s2 _ _ p.2, ?_, same_upd (p.1.trans s2) nD, ?_⟩
    · refine small1000 ?_
      rw [List.length_map, List.length_map, List.length_take]
      omega
    · rw [upd_same, take_snoc ed, List.map_append, List.map_append]
      rfl
  · obtain ⟨s, e⟩ := p
    rw [ll, List.take_length] at e
    exact done G s e
end
/-- a list of truth values, one for each item of a list of data -/
theorem bools_lcl {K : PySem.W.Frag} {H : Hp} {a : Addr} {xs : List V} {ds : List PyData} {f : PyData → Bool} {vs : List Nat} {σ : L2.St} {te : TE} {D : Addr} {Qd : Hp → Prop} (i : Nat) (hT : SqL K H a xs) (hd : DqAll K H xs ds) (few : ds.length ≤ 1000) (nD : H D = none)
    (hw : ∀ v, wipe ((wipe σ vs).set i (some v)) vs = wipe σ vs)
    (step : ∀ (v : V) (d : PyData) (G : Hp) (Q : VK), d ∈ ds → Same H G → Dq K G v d → (∀ G', Same G G' → Q (.bl (f d)) G') → te ((wipe σ vs).set i (some v)) G Q)
    (done : ∀ G, Same H G → G D = some (.lst ((ds.map f).map V.bl)) → Qd G) :
    ∃ W : Nat → Nat → Hp → Prop, (∃ m, W 0 m (upd H D (.lst []))) ∧ ∀ j m G, W j m G →
      ((Itl K a).stop j G ∧ Qd G) ∨ ((Itl K a).go j G ∧ ∃ Nx : Hp → Prop, (∀ H', Nx H' → ∃ m', m' < m ∧ W (j + 1) m' H') ∧ ∀ x H', (Itl K a).yld j G x H' → gName i x (wipe σ vs) H' fun σ2 H2 => wipe σ2 vs = wipe σ vs ∧ tYes σ2 H2 fun b H3 =>
        if b = true then te σ2 H3 fun y H4 => ∃ acc, H4 D = some (.lst acc) ∧ acc.length < sizeLine ∧ Nx (upd H4 D (.lst (acc ++ [y]))) else Nx H3) := by
  have ll : xs.length = ds.length := hd.len
  refine lc_list (K := K) (a := a) (xs := xs) (fun j G => Same H G ∧ G D = some (.lst (((ds.take j).map f).map V.bl))) ⟨same_new nD, upd_same⟩ (fun j G _ p => p.1.seq hT) (fun j x G hx p => ?_) (fun G p => ?_)
  · obtain ⟨d, ed, hq⟩ := dqAll_get hd hx
    refine ⟨hw x, ?_⟩
    unfold tYes
    simp only [if_true]
    refine step x d _ _ (List.mem_of_getElem? ed) p.1 (hq.keep p.1) fun G2 s2 => ?_
    refine ⟨_, s2 _ _ p.2, ?_, same_upd (p.1.trans s2) nD, ?_⟩
    · refine small1000 ?_
      rw [List.length_map, List.length_map, List.length_take]
      omega
    · rw [upd_same, take_snoc ed, List.map_append, List.map_append]
      rfl
  · obtain ⟨s, e⟩ := p
    rw [ll, List.take_length] at e
    exact done G s e
end Lw

set_option autoImplicit true
set_option Elab.async false
set_option linter.all false
set_option maxRecDepth 100000
set_option maxHeartbeats 1000000
/-! Rings as data. -/
namespace Lw
open PySem L2 Two Pr Rp
theorem ad {H G : Hp} {p : Addr} {o : HO} (s : Same H G) (n : G p = none) : Same H (upd G p o) := s.trans (same_new n)
theorem app {H : Hp} {p q : Addr} {o u : HO} (h : H q = some u) (n : H p = none) : (upd H p o) q = some u := by rw [upd_ne (ne_of_none h n)]; exact h
theorem ite_true_of {c : Bool} {A B : Prop} (h : c = true) (a : A) : if c = true then A else B := by rw [if_pos h]; exact a
theorem ite_false_of {c : Bool} {A B : Prop} (h : c = false) (b : B) : if c = true then A else B := by rw [h]; exact b
def link2 (m : Nat) : PyData → PyData → Option (Int × Nat)
  | .int x, .int i => if 0 ≤ i ∧ i < (m : Nat) then some (x, i.toNat) else none
  | _, _ => none
def link1 (m : Nat) : List PyData → Option (Int × Nat)
  | [a, b] => link2 m a b
  | _ => none
def linkD (m : Nat) : PyData → Option (Int × Nat)
  | .tuple ds => link1 m ds
  | _ => none
/-- y stands somewhere behind x, where x stands first -/
def aheadB : List Int → Int → Int → Bool
  | [], _, _ => false
  | z :: l, x, y => if z = x then decide (y ∈ l) else aheadB l x y
def aheadAt (ls : List (List Int)) (us : List (Int × Nat)) (k : Nat) : Bool := match us[k]?, us[(k + 1) % us.length]? with
  | some a, some b => aheadB ((ls[a.2]?).getD []) a.1 b.1
  | _, _ => false
def ringU (ls : List (List Int)) (us : List (Int × Nat)) : Bool := decide (us.map (·.1)).Nodup && ((List.range us.length).map (aheadAt ls us)).all id
def ringL (ls : List (List Int)) (ds : List PyData) : Bool := decide (2 ≤ ds.length) && ((ds.map fun e => (linkD ls.length e).isSome).all id && ringU ls (ds.filterMap (linkD ls.length)))
def ringD (ls : List (List Int)) : PyData → Bool
  | .list ds => ringL ls ds
  | _ => false
def lnkD (u : Int × Nat) : PyData := .tuple [.int u.1, .int (u.2 : Nat)]
theorem linkD_lnk {m : Nat} {u : Int × Nat} (h : u.2 < m) : linkD m (lnkD u) = some u := by
  show (if 0 ≤ ((u.2 : Nat) : Int) ∧ ((u.2 : Nat) : Int) < (m : Nat) then some (u.1, ((u.2 : Nat) : Int).toNat) else none) = _
  rw [if_pos ⟨by omega, by omega⟩, Int.toNat_natCast]
theorem linkD_some {m : Nat} {d : PyData} {u : Int × Nat} (h : linkD m d = some u) : d = lnkD u ∧ u.2 < m := by
  cases d with
  | tuple ds =>
    have h1 : link1 m ds = some u := h
    match ds, h1 with
    | [a, b], h1 =>
      have h2 : link2 m a b = some u := h1
      cases a with
      | int x =>
        cases b with
        | int i =>
          have h3 : (if 0 ≤ i ∧ i < (m : Nat) then some (x, i.toNat) else none) = some u := h2
          by_cases c : 0 ≤ i ∧ i < (m : Nat)
          · rw [if_pos c] at h3
            cases h3
            refine ⟨?_, by show i.toNat < m; omega⟩
            show PyData.tuple [.int x, .int i] = .tuple [.int x, .int (i.toNat : Nat)]
            rw [Int.toNat_of_nonneg c.1]
          · rw [if_neg c] at h3
            cases h3
        | _ => cases h2
      | _ => cases h2
    | [], h1 => cases h1
    | [_], h1 => cases h1
    | _ :: _ :: _ :: _, h1 => cases h1
  | _ => cases h
theorem links_all {m : Nat} : ∀ {ds : List PyData}, (∀ e ∈ ds, (linkD m e).isSome = true) → ∃ us : List (Int × Nat), ds = us.map lnkD ∧ ds.filterMap (linkD m) = us ∧ ∀ u ∈ us, u.2 < m
  | [], _ => ⟨[], rfl, rfl, fun _ h => nomatch h⟩
  | d :: ds, h => by
    obtain ⟨us, h1, h2, h3⟩ := links_all (m := m) (ds := ds) fun e he => h e (List.mem_cons_of_mem _ he)
    obtain ⟨u, hu⟩ := Option.isSome_iff_exists.mp (h d List.mem_cons_self)
    obtain ⟨h4, h5⟩ := linkD_some hu
    refine ⟨u :: us, by rw [List.map_cons, ← h1, ← h4], ?_, fun v hv => ?_⟩
    · rw [List.filterMap_cons, hu, h2]
    · rcases List.mem_cons.mp hv with rfl | hv
      · exact h5
      · exact h3 v hv
theorem all_map_id {α : Type} {f : α → Bool} {l : List α} : (l.map f).all id = true ↔ ∀ x ∈ l, f x = true := by
  rw [List.all_map, List.all_eq_true]
  exact Iff.rfl
theorem aheadB_out : ∀ {l : List Int} {x y : Int}, x ∉ l → aheadB l x y = false
  | [], _, _, _ => rfl
  | z :: l, x, y, h => by
    have h1 : z ≠ x := fun e => h (e ▸ List.mem_cons_self)
    show (if z = x then decide (y ∈ l) else aheadB l x y) = false
    rw [if_neg h1]
    exact aheadB_out fun m => h (List.mem_cons_of_mem _ m)
theorem aheadB_at {x y : Int} {v : List Int} : ∀ {u : List Int}, x ∉ u → aheadB (u ++ x :: v) x y = decide (y ∈ v)
  | [], _ => by
    show (if x = x then decide (y ∈ v) else aheadB v x y) = _
    rw [if_pos rfl]
  | z :: u, h => by
    have h1 : z ≠ x := fun e => h (e ▸ List.mem_cons_self)
    show (if z = x then decide (y ∈ u ++ x :: v) else aheadB (u ++ x :: v) x y) = _
    rw [if_neg h1]
    exact aheadB_at fun m => h (List.mem_cons_of_mem _ m)
theorem split_first {x : Int} : ∀ {l : List Int}, x ∈ l → ∃ u v, l = u ++ x :: v ∧ x ∉ u
  | z :: l, h => by
    by_cases e : x = z
    · exact ⟨[], l, by rw [e]; rfl, fun h => nomatch h⟩
    · obtain ⟨u, v, h1, h2⟩ := split_first ((List.mem_cons.mp h).resolve_left e)
      exact ⟨z :: u, v, by rw [h1]; rfl, fun m => (List.mem_cons.mp m).elim e h2⟩
theorem ahead_iff {l : List Int} (nd : l.Nodup) {x y : Int} : aheadB l x y = true ↔ Mg.Ahead l x y := by
  constructor
  · intro h
    by_cases m : x ∈ l
    · obtain ⟨u, v, rfl, hu⟩ := split_first m
      rw [aheadB_at hu] at h
      exact ⟨u, v, rfl, of_decide_eq_true h⟩
    · rw [aheadB_out m] at h
      cases h
  · rintro ⟨u, v, rfl, hy⟩
    have hu : x ∉ u := fun m => (List.nodup_append.mp nd).2.2 x m x List.mem_cons_self rfl
    rw [aheadB_at hu]
    exact decide_eq_true hy
/-- by places -/
theorem ahead_idx {l : List Int} (nd : l.Nodup) {x y : Int} {u v u' v' : List Int} (h1 : l = u ++ x :: v) (h2 : l = u' ++ y :: v') : aheadB l x y = decide (u.length < u'.length) := by
  have hu : x ∉ u := fun m => by rw [h1] at nd; exact (List.nodup_append.mp nd).2.2 x m x List.mem_cons_self rfl
  have ey : l[u'.length]? = some y := by rw [h2]; simp
  have e : aheadB l x y = decide (y ∈ v) := by rw [h1]; exact aheadB_at hu
  rw [e]
  congr 1
  refine propext ⟨fun m => ?_, fun lt => ?_⟩
  · obtain ⟨j, hj⟩ := List.getElem?_of_mem m
    have ej : l[u.length + (j + 1)]? = some y := by
      rw [h1, List.getElem?_append_right (Nat.le_add_right _ _), Nat.add_sub_cancel_left, List.getElem?_cons_succ]
      exact hj
    obtain ⟨l1, a1⟩ := List.getElem?_eq_some_iff.mp ey
    obtain ⟨l2, a2⟩ := List.getElem?_eq_some_iff.mp ej
    have := Mg.nodup_at nd l1 l2 (a1.trans a2.symm)
    omega
  · rw [h1, List.getElem?_append_right (Nat.le_of_lt lt)] at ey
    have : u'.length - u.length = (u'.length - u.length - 1) + 1 := by omega
    rw [this, List.getElem?_cons_succ] at ey
    exact List.mem_of_getElem? ey
theorem ring_true {ls : List (List Int)} (nd : ∀ l ∈ ls, l.Nodup) {us : List (Int × Nat)} (R : Mg.IsRing ls us) : ringD ls (.list (us.map lnkD)) = true := by
  have lt : ∀ u ∈ us, u.2 < ls.length := fun u hu => by
    obtain ⟨k, hk⟩ := List.getElem?_of_mem hu
    obtain ⟨a, i, b, j, l, h1, h2, h3, h4⟩ := R.link k (List.getElem?_eq_some_iff.mp hk).1
    rw [hk] at h1
    cases h1
    exact (List.getElem?_eq_some_iff.mp h3).1
  have fm : (us.map lnkD).filterMap (linkD ls.length) = us := by
    clear R
    induction us with
    | nil => rfl
    | cons u us ih =>
      rw [List.map_cons, List.filterMap_cons, linkD_lnk (lt u List.mem_cons_self)]
      show u :: _ = _
      rw [ih fun v hv => lt v (List.mem_cons_of_mem _ hv)]
  show (decide (2 ≤ (us.map lnkD).length) && (((us.map lnkD).map fun e => (linkD ls.length e).isSome).all id && ringU ls ((us.map lnkD).filterMap (linkD ls.length)))) = true
  rw [fm, List.length_map, decide_eq_true R.two, Bool.true_and, Bool.and_eq_true]
  refine ⟨all_map_id.mpr fun e he => ?_, ?_⟩
  · obtain ⟨u, hu, rfl⟩ := List.mem_map.mp he
    rw [linkD_lnk (lt u hu)]
    rfl
  · unfold ringU
    rw [decide_eq_true R.nd, Bool.true_and]
    refine all_map_id.mpr fun k hk => ?_
    obtain ⟨a, i, b, j, l, h1, h2, h3, h4⟩ := R.link k (List.mem_range.mp hk)
    unfold aheadAt
    rw [h1, h2]
    show aheadB ((ls[i]?).getD []) a b = true
    rw [h3]
    exact (ahead_iff (nd l (List.mem_of_getElem? h3))).mpr h4
end Lw

set_option autoImplicit true
set_option Elab.async false
set_option linter.all false
set_option maxRecDepth 100000
set_option maxHeartbeats 2000000
/-! is_ring of data. -/
namespace Lw
open PySem L2 Two Pr Rp
theorem dq_two {K : PySem.W.Frag} {H : Hp} {xs : List V} {ds : List PyData} (h : DqAll K H xs ds) (l : xs.length = 2) : ∃ x1 x2 d1 d2, xs = [x1, x2] ∧ ds = [d1, d2] ∧ Dq K H x1 d1 ∧ Dq K H x2 d2 := by
  cases h with
  | nil => cases l
  | cons h1 h =>
    cases h with
    | nil => cases l
    | cons h2 h =>
      cases h with
      | nil => exact ⟨_, _, _, _, rfl, rfl, h1, h2⟩
      | cons _ _ => simp at l
theorem link_len {m : Nat} {ds : List PyData} (h : ds.length ≠ 2) : linkD m (.tuple ds) = none := by
  match ds, h with
  | [], _ => rfl
  | [_], _ => rfl
  | [_, _], h => exact absurd rfl h
  | _ :: _ :: _ :: _, _ => rfl
theorem link_no1 {m : Nat} {d1 d2 : PyData} (h : intD d1 = false) : linkD m (.tuple [d1, d2]) = none := by
  cases d1 <;> first | rfl | cases h
theorem link_no2 {m : Nat} {d1 d2 : PyData} (h : intD d2 = false) : linkD m (.tuple [d1, d2]) = none := by
  cases d2 <;> cases d1 <;> first | rfl | cases h
def spPart (K : PySem.W.Frag) : Sp := fun vs H Q _ => ∃ (v : V) (d : PyData) (m : Nat), vs = [v, .int (m : Nat)] ∧ Dq K H v d ∧ ∀ H', Same H H' → Q (.bl (linkD m d).isSome) H'
theorem scPart : FnScope ["part", "many"] ["part", "many"] (defScope sIsPart) := ⟨rfl, rfl, rfl, by decide +kernel, rfl, by decide +kernel, by decide +kernel⟩
section
variable {P : Program} {w : World} {K : PySem.W.Frag} {mg : Str → Option Value} {base : Heap}
theorem ok_part {f fI : Addr} {fd fdI : FuncData} (F : Fun K "_is_part" "_is_part" sIsPart f fd) (T : Txt mg) (gI : mg "is_int" = some (.ref fI)) (kI : PySem.W.keepIn K (.ref fI) = true) (bI : Binds K fdI ["thing"] []) (GI : FnOk P w K mg base CX0 1 fI fdI ["thing"] (spIsInt K)) :
    FnOk P w K mg base CX0 2 f fd ["part", "many"] (spPart K) := by
  refine F.ok scPart (fun vs H Q E h => ?_) (fun cdv A outer s H vs Q E hr h => ?_)
  · obtain ⟨v, d, m, rfl, _⟩ := h
    rfl
  · obtain ⟨v, d, m, rfl, dq, k⟩ := h
    refine ⟨_, pss_cons (ps_if (PW.pt (pw_or (pt_not (pt_val (pe_callB call_isi (by rfl) T.isinstance (by decide +kernel) (pa_cons (pv 0) (pa_cons (pe_bltn (v := .ty "tuple") (by rfl) T.tuple (by decide +kernel) rfl) pa_nil)))))
        (pw_or1 (pt_cmpR op_ne (pe_callB call_len_seq (by rfl) T.len PySem.boot_len (pa_cons (pv 0) pa_nil)) pe_int (nomark _))))) (pss_one (ps_ret pe_bl)) pss_nil)
      (pss_one (ps_ret (pe_and (pe_call GI hr rfl gI kI bI .nil pass0 (pa_cons (pe_ix ix_tup (pv 0) pe_int (fun _ _ => rfl)) pa_nil))
        (pe_and (pe_call GI hr rfl gI kI bI .nil pass0 (pa_cons (pe_ix ix_tup (pv 0) pe_int (fun _ _ => rfl)) pa_nil))
          (pe_one (pe_chain op_le op_lt pe_int (pe_ix ix_tup (pv 0) pe_int (fun _ _ => rfl)) (pv 1))))))), ?_⟩
    have no : linkD m d = none → Q (.bl false) H := fun e => by have := k H (Same.refl _); rw [e] at this; exact this
    refine ⟨_, rfl, v, .ty "tuple", _, .type "tuple", _, rfl, .ty _, dq_ty dq, kit_tup d, _, rfl, ?_⟩
    cases dq with
    | non => exact ite_true_of rfl (no rfl)
    | bl b => exact ite_true_of rfl (no rfl)
    | int i => exact ite_true_of rfl (no rfl)
    | str x => exact ite_true_of rfl (no rfl)
    | lst _ _ _ => exact ite_true_of rfl (no rfl)
    | dic _ => exact ite_true_of rfl (no rfl)
    | @tup a xs ds hT hd =>
      refine ite_false_of rfl ?_
      have ll := hd.len
      refine ⟨_, rfl, a, xs, rfl, .inr hT, rfl, _, rfl, ?_⟩
      by_cases c3 : xs.length = 2
      · have e3 : (!decide (V.int ((xs.length : Nat) : Int) = V.int 2)) = false := by rw [c3]; rfl
        refine ite_false_of e3 ?_
        obtain ⟨x1, x2, d1, d2, exs, eds, h1, h2⟩ := dq_two hd c3
        subst exs eds
        obtain ⟨b1, b2, kb1, kb2, eb12⟩ := kit_int (K := K) d1
        obtain ⟨b3, b4, kb3, kb4, eb34⟩ := kit_int (K := K) d2
        refine ⟨_, rfl, a, _, 0, x1, rfl, rfl, hT, rfl, x1, _, b1, b2, rfl, dq_ty h1, kb1, kb2, _, rfl, ?_⟩
        rw [eb12]
        cases c1 : intD d1 with
        | false => exact ite_false_of rfl (no (link_no1 c1))
        | true =>
          refine ite_true_of rfl ?_
          refine ⟨_, rfl, a, _, 1, x2, rfl, rfl, hT, rfl, x2, _, b3, b4, rfl, dq_ty h2, kb3, kb4, _, rfl, ?_⟩
          rw [eb34]
          cases c2 : intD d2 with
          | false => exact ite_false_of rfl (no (link_no2 c2))
          | true =>
            refine ite_true_of rfl ?_
            cases h1 with
            | non => cases c1
            | bl b => cases c1
            | str x => cases c1
            | lst _ _ _ => cases c1
            | tup _ _ => cases c1
            | dic _ => cases c1
            | int x =>
              cases h2 with
              | non => cases c2
              | bl b => cases c2
              | str x => cases c2
              | lst _ _ _ => cases c2
              | tup _ _ => cases c2
              | dic _ => cases c2
              | int i =>
                have kk := k H (Same.refl _)
                have e4 : linkD m (.tuple [.int x, .int i]) = if 0 ≤ i ∧ i < (m : Nat) then some (x, i.toNat) else none := rfl
                refine ⟨_, rfl, a, _, 1, .int i, rfl, rfl, hT, rfl, 0, i, rfl, rfl, _, rfl, ?_⟩
                by_cases c4 : (0 : Int) ≤ i
                · rw [decide_eq_true c4]
                  refine ite_true_of rfl ⟨_, rfl, i, (m : Nat), rfl, rfl, ?_⟩
                  by_cases c5 : i < (m : Nat)
                  · rw [e4, if_pos ⟨c4, c5⟩] at kk
                    show Q (.bl (decide (i < (m : Nat)))) H
                    rw [decide_eq_true c5]
                    exact kk
                  · rw [e4, if_neg fun z => c5 z.2] at kk
                    show Q (.bl (decide (i < (m : Nat)))) H
                    rw [decide_eq_false c5]
                    exact kk
                · rw [e4, if_neg fun z => c4 z.1] at kk
                  rw [decide_eq_false c4]
                  exact ite_false_of rfl kk
      · have e3 : (!decide (V.int ((xs.length : Nat) : Int) = V.int 2)) = true := by
          rw [Bool.not_eq_true', decide_eq_false_iff_not]
          intro z
          have := V.int.inj z
          omega
        exact ite_true_of e3 (no (link_len (by omega)))
/-! ### _stands_ahead -/
def spAhead (K : PySem.W.Frag) : Sp := fun vs H Q _ => ∃ (a b : Int) (l : Addr) (ns : List Int), vs = [.int a, .int b, .ref l] ∧ SqL K H l (ns.map V.int) ∧ ∀ H', Same H H' → Q (.bl (aheadB ns a b)) H'
theorem scAhead : FnScope ["item", "follower", "items"] ["item", "follower", "items"] (defScope sAhead) := ⟨rfl, rfl, rfl, by decide +kernel, rfl, by decide +kernel, by decide +kernel⟩
theorem ok_ahead {f : Addr} {fd : FuncData} (F : Fun K "_stands_ahead" "_stands_ahead" sAhead f fd) (T : Txt mg) : FnOk P w K mg base CX0 1 f fd ["item", "follower", "items"] (spAhead K) := by
  refine F.ok scAhead (fun vs H Q E h => ?_) (fun cdv A outer s H vs Q E hr h => ?_)
  · obtain ⟨a, b, l, ns, rfl, _⟩ := h
    rfl
  · obtain ⟨a, b, l, ns, rfl, hS, k⟩ := h
    refine ⟨_, pss_one (ps_ret (pe_and (pe_cmpR op_in_seq (pv 0) (pv 2) (by rfl)) (pe_one (pe_cmpR op_in_seq (pv 1) (pe_slice sl_list (pv 2)
      (po_some (pe_op op_add (pe_bm PySem.F.plainAttrs_list PySem.F.slot_list_index PySem.F.type_list_index mt_index (pv 2) (pa_cons (pv 0) pa_nil)) pe_int)) po_none) (by rfl))))), ?_⟩
    refine ⟨_, rfl, _, rfl, l, _, rfl, .inl hS, rfl, flat_ints _, _, rfl, ?_⟩
    show if inV (.int a) (ns.map V.int) = true then _ else _
    rw [inV_ints]
    by_cases mem : a ∈ ns
    · rw [List.contains_iff_mem.mpr mem]
      refine ite_true_of rfl ?_
      obtain ⟨u, v, rfl, nau⟩ := split_first mem
      refine ⟨_, rfl, _, rfl, _, rfl, .inl ⟨rfl, _, hS⟩, _, rfl, l, _, .int a, u.length, .int a, rfl, rfl, hS, rfl, flat_ints _, ?_, ?_, ?_, ?_⟩
      · rw [List.getElem?_map]
        simp
      · show (a == a) = true
        exact beq_self_eq_true a
      · intro m z' hm hz
        obtain ⟨z, hz1, rfl⟩ := get_map hz
        rw [List.getElem?_append_left hm] at hz1
        show (z == a) = false
        exact beq_eq_false_iff_ne.mpr fun e => nau (e ▸ List.mem_of_getElem? hz1)
      · have e : ((u.length : Nat) : Int) + 1 = ((u.length + 1 : Nat) : Int) := by omega
        have e2 : (u ++ a :: v).drop (u.length + 1) = v := by
          rw [List.drop_append]
          simp
        refine ⟨_, _, rfl, rfl, _, rfl, l, _, rfl, hS, fun p hp => ⟨p, _, rfl, .inl (SqL.of upd_same), rfl, ?_, ?_⟩⟩
        · rw [e, cut_drop _ _ (by rw [List.length_map]; simp), ← List.map_drop]
          exact flat_ints _
        · rw [e, cut_drop _ _ (by rw [List.length_map]; simp), ← List.map_drop, e2]
          show Q (.bl (inV (.int b) (v.map V.int))) _
          rw [inV_ints]
          have kk := k _ (same_new (o := .lst (v.map V.int)) hp)
          rw [aheadB_at nau] at kk
          have e5 : v.contains b = decide (b ∈ v) := by rw [Bool.eq_iff_iff, List.contains_iff_mem, decide_eq_true_iff]
          rw [e5]
          exact kk
    · have e1 : ns.contains a = false := by rw [Bool.eq_false_iff]; exact fun h => mem (List.contains_iff_mem.mp h)
      rw [e1]
      have kk := k H (Same.refl _)
      rw [aheadB_out mem] at kk
      exact ite_false_of rfl kk
end
end Lw

set_option autoImplicit true
set_option Elab.async false
set_option linter.all false
set_option maxRecDepth 100000
set_option maxHeartbeats 4000000
/-! is_ring of data: the whole. -/
namespace Lw
open PySem L2 Two Pr Rp
theorem kit_lst {K : PySem.W.Frag} {H : Hp} {v : V} {d : PyData} (h : Dq K H v d) : (∃ a xs ds, v = .ref a ∧ d = .list ds ∧ SqL K H a xs ∧ DqAll K H xs ds ∧ PySem.W.kitOne K (.type (tagT d)) (.type "list") = some true) ∨ ((∀ ls, ringD ls d = false) ∧ PySem.W.kitOne K (.type (tagT d)) (.type "list") = some false) := by
  cases h with
  | non => exact .inr ⟨fun _ => rfl, show PySem.W.kitOne K (.type "NoneType") (.type "list") = some false from kit_ty (by decide +kernel)⟩
  | bl b => exact .inr ⟨fun _ => rfl, show PySem.W.kitOne K (.type "bool") (.type "list") = some false from kit_ty (by decide +kernel)⟩
  | int i => exact .inr ⟨fun _ => rfl, show PySem.W.kitOne K (.type "int") (.type "list") = some false from kit_ty (by decide +kernel)⟩
  | str x => exact .inr ⟨fun _ => rfl, show PySem.W.kitOne K (.type "str") (.type "list") = some false from kit_ty (by decide +kernel)⟩
  | tup _ _ => exact .inr ⟨fun _ => rfl, show PySem.W.kitOne K (.type "tuple") (.type "list") = some false from kit_ty (by decide +kernel)⟩
  | dic _ => exact .inr ⟨fun _ => rfl, show PySem.W.kitOne K (.type "dict") (.type "list") = some false from kit_ty (by decide +kernel)⟩
  | lst h _ a => exact .inl ⟨_, _, _, rfl, rfl, h, a, show PySem.W.kitOne K (.type "list") (.type "list") = some true from kit_ty (by decide +kernel)⟩
theorem dq_lnk {K : PySem.W.Frag} {H : Hp} {v : V} {u : Int × Nat} (h : Dq K H v (lnkD u)) : ∃ t, v = .ref t ∧ SqT K H t [.int u.1, .int (u.2 : Nat)] := by
  cases h with
  | @tup a xs _ h b =>
    cases b with
    | cons h1 b =>
      cases b with
      | cons h2 b =>
        cases b
        cases h1
        cases h2
        exact ⟨_, rfl, h⟩
theorem dq_links {K : PySem.W.Frag} {H : Hp} {xs : List V} {us : List (Int × Nat)} (h : DqAll K H xs (us.map lnkD)) {i : Nat} {x : V} (hx : xs[i]? = some x) : ∃ u t, us[i]? = some u ∧ x = .ref t ∧ SqT K H t [.int u.1, .int (u.2 : Nat)] := by
  obtain ⟨d, hd, q⟩ := dqAll_get h hx
  rw [List.getElem?_map] at hd
  obtain ⟨u, hu, rfl⟩ := Option.map_eq_some_iff.mp hd
  obtain ⟨t, e, s⟩ := dq_lnk q
  exact ⟨u, t, hu, e, s⟩
theorem nodup_snoc {l : List Int} {x : Int} : (l ++ [x]).Nodup ↔ l.Nodup ∧ x ∉ l := by
  rw [List.nodup_append]
  constructor
  · rintro ⟨a, _, c⟩
    exact ⟨a, fun m => c x m x List.mem_cons_self rfl⟩
  · rintro ⟨a, c⟩
    exact ⟨a, by simp, fun y hy z hz e => by rw [List.mem_singleton.mp hz] at e; exact c (e ▸ hy)⟩
theorem ring_cut {ls : List (List Int)} {ds : List PyData} (h : ringL ls ds = false → False) : 2 ≤ ds.length := by
  refine Nat.le_of_not_lt fun lt => h ?_
  unfold ringL
  rw [decide_eq_false (by omega)]
  rfl
def spRing (K : PySem.W.Frag) : Sp := fun vs H Q _ => ∃ (a : Addr) (v : V) (d : PyData) (ps : List (Addr × List Int)), vs = [.ref a, v] ∧ LofL K H a ps ∧ ps.length ≤ 1000 ∧ Pap K H v d ∧ ∀ H', Same H H' → Q (.bl (ringD (lsOf ps) d)) H'
theorem scRing : FnScope ["lists", "ring", "nexts", "part", "follower"] ["lists", "ring"] (defScope sIsRing) := ⟨rfl, rfl, rfl, by decide +kernel, rfl, by decide +kernel, by decide +kernel⟩
section
variable {P : Program} {w : World} {K : PySem.W.Frag} {mg : Str → Option Value} {base : Heap}
theorem ok_ring {f fP fA : Addr} {fd fdP fdA : FuncData} (F : Fun K "is_ring" "is_ring" sIsRing f fd) (T : Txt mg)
    (gP : mg "_is_part" = some (.ref fP)) (kP : PySem.W.keepIn K (.ref fP) = true) (bP : Binds K fdP ["part", "many"] []) (GP : FnOk P w K mg base CX0 2 fP fdP ["part", "many"] (spPart K))
    (gA : mg "_stands_ahead" = some (.ref fA)) (kA : PySem.W.keepIn K (.ref fA) = true) (bA : Binds K fdA ["item", "follower", "items"] []) (GA : FnOk P w K mg base CX0 1 fA fdA ["item", "follower", "items"] (spAhead K)) :
    FnOk P w K mg base CX0 3 f fd ["lists", "ring"] (spRing K) := by
  refine F.ok scRing (fun vs H Q E h => ?_) (fun cdv A outer s H vs Q E hr h => ?_)
  · obtain ⟨a, v, d, ps, rfl, _⟩ := h
    rfl
  · obtain ⟨a, v, d, ps, rfl, hL, fewL, hP, k⟩ := h
    have hr1 : Room 1 _ := hr.mono (by decide)
    refine ⟨_, pss_cons (ps_if (PW.pt (pw_or (pt_not (pt_val (pe_callB call_isi (by rfl) T.isinstance (by decide +kernel) (pa_cons (pv 1) (pa_cons (pe_bltn (v := .ty "list") (by rfl) T.list (by decide +kernel) rfl) pa_nil)))))
        (pw_or1 (pt_cmpR op_lt (pe_callB call_len_seq (by rfl) T.len PySem.boot_len (pa_cons (pv 1) pa_nil)) pe_int (nomark _))))) (pss_one (ps_ret pe_bl)) pss_nil)
      (pss_cons (ps_if (pt_not (pt_val (pe_callB (cr_all rfl) (by rfl) T.all (by decide +kernel) (pa_cons (pe_lc (own := [("part", 3)]) (g := gName 3) (tt := tYes) (te := tCall (spPart K) [] E0 (tCons (tVar 3) (tCons (tCB (rLenQ K) (tCons (tVar 0) tNil)) tNil))) rfl scRing.nd (pi_list (pv 1)) (blkOk_by (N := ["lists", "ring", "nexts", "part", "follower"]) (sc := defScope sIsRing) (by decide +kernel))
          (fun _ _ _ _ _ => pg_name (i := 3) scRing.nd rfl (Or.inl rfl)) (fun _ _ _ _ _ => pts_nil) (fun _ _ _ _ _ => pe_call GP hr rfl gP kP bP .nil pass0 (pa_cons (pv 3) (pa_cons (pe_callB call_lenQ (by rfl) T.len PySem.boot_len (pa_cons (pv 0) pa_nil)) pa_nil)))) pa_nil)))) (pss_one (ps_ret pe_bl)) pss_nil)
      (pss_cons (ps_if (pt_cmpR op_lt (pe_callB cr_lenS (by rfl) T.len PySem.boot_len (pa_cons (pe_scI (own := [("part", 3)]) (g := gName 3) (te := tItem0 K 3) rfl scRing.nd (pi_list (pv 1)) (blkOk_by (N := ["lists", "ring", "nexts", "part", "follower"]) (sc := defScope sIsRing) (by decide +kernel))
          (fun _ _ _ _ _ => pg_name (i := 3) scRing.nd rfl (Or.inl rfl)) (fun _ _ _ _ _ => pe_ix ix_tup (pv 3) pe_int (fun _ _ => rfl))) pa_nil)) (pe_callB call_len_seq (by rfl) T.len PySem.boot_len (pa_cons (pv 1) pa_nil)) (nomark _)) (pss_one (ps_ret pe_bl)) pss_nil)
      (pss_cons (ps_set (i := 2) scRing.nd rfl (Or.inl rfl) (pe_op op_cat (pe_slice sl_list (pv 1) (po_some pe_int) po_none) (pe_slice sl_list (pv 1) po_none (po_some pe_int))))
      (pss_one (ps_ret (pe_callB (cr_all rfl) (by rfl) T.all (by decide +kernel) (pa_cons (pe_lc (own := [("part", 3), ("follower", 4)]) (g := gTup K 2 (gCons (gName 3) (gCons (gName 4) gNil))) (tt := tYes)
          (te := tCall (spAhead K) [] E0 (tCons (tItem0 K 3) (tCons (tItem0 K 4) (tCons (tOp (rIxL K) (tVar 0) (tItem1 K 3)) tNil)))) rfl scRing.nd (pi_zip (by rfl) T.zip (pa_cons (pv 1) (pa_cons (pv 2) pa_nil))) (blkOk_by (N := ["lists", "ring", "nexts", "part", "follower"]) (sc := defScope sIsRing) (by decide +kernel))
          (fun _ _ _ _ _ => pg_tup rfl (pgs_cons (pg_name (i := 3) scRing.nd rfl (Or.inl rfl)) (pgs_cons (pg_name (i := 4) scRing.nd rfl (Or.inl rfl)) pgs_nil))) (fun _ _ _ _ _ => pts_nil)
          (fun _ _ _ _ _ => pe_call GA hr1 rfl gA kA bA .nil pass0 (pa_cons (pe_ix ix_tup (pv 3) pe_int (fun _ _ => rfl)) (pa_cons (pe_ix ix_tup (pv 4) pe_int (fun _ _ => rfl)) (pa_cons (pe_ix ix_list (pv 0) (pe_ix ix_tup (pv 3) pe_int (fun _ _ => rfl)) (fun _ _ => rfl)) pa_nil))))) pa_nil))))))), ?_⟩
    have no : ∀ G, Same H G → ringD (lsOf ps) d = false → Q (.bl false) G := fun G s e => by have := k G s; rw [e] at this; exact this
    obtain ⟨dq, fine, few, dp⟩ := hP
    rcases kit_lst dq with ⟨q, xs, ds, rfl, rfl, hT, hd, ek⟩ | ⟨nr, ek⟩
    case inr => exact ⟨_, rfl, v, .ty "list", _, .type "list", _, rfl, .ty _, dq_ty dq, ek, _, rfl, ite_true_of rfl (no _ (Same.refl _) (nr _))⟩
    refine ⟨_, rfl, _, .ty "list", _, .type "list", _, rfl, .ty _, dq_ty dq, ek, _, rfl, ite_false_of rfl ?_⟩
    have ll := hd.len
    have fewd : ds.length ≤ 1000 := by
      have h1 := nodes_len ds
      have h2 : 1 + nodesAll ds ≤ 1000 := few
      omega
    refine ⟨_, rfl, q, xs, rfl, .inl hT, _, _, rfl, rfl, _, rfl, ?_⟩
    by_cases two : 2 ≤ ds.length
    case neg =>
      refine ite_true_of (decide_eq_true (by omega)) (no _ (Same.refl _) ?_)
      show ringL (lsOf ps) ds = false
      unfold ringL
      rw [decide_eq_false two]
      rfl
    refine ite_false_of (decide_eq_false (by omega)) ?_
    have lsl : (lsOf ps).length = ps.length := List.length_map _
    have rl : (refsOf ps).length = ps.length := List.length_map _
    have eR : ringD (lsOf ps) (.list ds) = ((ds.map fun e => (linkD (lsOf ps).length e).isSome).all id && ringU (lsOf ps) (ds.filterMap (linkD (lsOf ps).length))) := by
      show ringL (lsOf ps) ds = _
      unfold ringL
      rw [decide_eq_true two, Bool.true_and]
    rw [eR] at k no
    refine ⟨_, rfl, q, rfl, ⟨_, hT⟩, fun D hD => bools_lcl (f := fun e => (linkD (lsOf ps).length e).isSome) 3 hT hd fewd hD (fun _ => rfl) (fun x e G Q1 _ s1 hq q1 => ?_) (fun H1 s1 e1 => ?_)⟩
    · refine ⟨_, rfl, _, rfl, a, _, rfl, .inl (s1.seq hL.1), x, e, ps.length, ?_, hq, fun G' s' => ?_⟩
      · rw [rl]
        rfl
      · have := q1 G' s'
        rw [lsl] at this
        exact this
    refine ⟨D, _, rfl, SqL.of e1, ?_⟩
    cases c1 : (ds.map fun e => (linkD (lsOf ps).length e).isSome).all id with
    | false => exact ⟨_, rfl, ite_true_of rfl (no _ s1 (by rw [c1]; rfl))⟩
    | true =>
    refine ⟨_, rfl, ite_false_of rfl ?_⟩
    rw [c1] at k no
    obtain ⟨us, eus, efm, ltu⟩ := links_all (m := (lsOf ps).length) (ds := ds) (all_map_id.mp c1)
    rw [efm] at k no
    subst eus
    rw [List.length_map] at ll two fewd
    have hd1 := hd.keep s1
    have hT1 := s1.seq hT
    refine ⟨_, rfl, q, rfl, ⟨_, hT1⟩, fun S hS => oneS_list (K := K) (xs := xs) (fun i G => Same H1 G ∧ ∃ (F : Int → Bool) (n : Nat), G S = some (SetO w S F n) ∧ (∀ z, F z = true ↔ z ∈ (us.take i).map (·.1)) ∧ n ≤ i ∧ (n = i ↔ ((us.take i).map (·.1)).Nodup))
      ⟨same_new hS, fun _ => false, 0, upd_same, fun z => ⟨fun h => (by cases h), fun h => (by cases h)⟩, Nat.le_refl _, ⟨fun _ => List.nodup_nil, fun _ => rfl⟩⟩ (fun i G _ p => p.1.seq hT1) (fun i x G hx p => ?_) (fun G p => ?_)⟩
    · obtain ⟨s2, F, n, hF, hz, ni, nn⟩ := p
      obtain ⟨u, t, hu, rfl, et⟩ := dq_links (hd1.keep s2) hx
      have il := (List.getElem?_eq_some_iff.mp hu).1
      refine ⟨rfl, _, rfl, t, _, 0, .int u.1, rfl, rfl, et, rfl, u.1, F, n, rfl, hF, by unfold scanBound; omega, same_upd s2 hS, _, _, upd_same, fun z => ?_, ?_, ?_⟩
      · rw [take_snoc hu, List.map_append, List.mem_append, Bool.or_eq_true, hz, decide_eq_true_iff]
        show _ ∨ _ ↔ _ ∨ z ∈ [u.1]
        rw [List.mem_singleton]
      · by_cases c : F u.1 = true
        · rw [if_pos c]; omega
        · rw [if_neg c]; omega
      · rw [take_snoc hu, List.map_append]
        show _ ↔ (_ ++ [u.1]).Nodup
        rw [nodup_snoc, ← hz]
        by_cases c : F u.1 = true
        · rw [if_pos c]
          exact ⟨fun e => by omega, fun e => absurd c e.2⟩
        · rw [if_neg c, ← nn]
          exact ⟨fun e => ⟨by omega, c⟩, fun e => by omega⟩
    obtain ⟨s2, F, n, hF, hz, ni, nn⟩ := p
    rw [ll, List.take_length] at nn
    refine ⟨S, F, n, rfl, hF, ?_⟩
    have s02 := s1.trans s2
    have hT2 := s02.seq hT
    refine ⟨_, rfl, q, _, rfl, .inl hT2, _, _, rfl, rfl, _, rfl, ?_⟩
    by_cases nd : (us.map (·.1)).Nodup
    case neg =>
      have : n ≠ us.length := fun z => nd (nn.mp z)
      refine ite_true_of (decide_eq_true (by omega)) (no _ s02 ?_)
      unfold ringU
      rw [decide_eq_false nd]
      rfl
    have : n = us.length := nn.mpr nd
    refine ite_false_of (decide_eq_false (by omega)) ?_
    have eU : (true && ringU (lsOf ps) us) = ((List.range us.length).map (aheadAt (lsOf ps) us)).all id := by
      unfold ringU
      rw [decide_eq_true nd]
      rfl
    rw [eU] at k
    clear eU no nn
    -- nexts
    refine ⟨_, rfl, _, rfl, q, _, rfl, hT2, fun L1 hL1 => ?_⟩
    have s3 := s02.trans (same_new (o := .lst (cutV xs (some 1) none)) hL1)
    refine ⟨_, rfl, _, rfl, q, _, rfl, s3.seq hT, fun L2 hL2 => ?_⟩
    have s4 := s3.trans (same_new (o := .lst (cutV xs none (some 1))) hL2)
    refine ⟨L1, L2, _, _, rfl, rfl, by rw [upd_ne (ne_of_none upd_same hL2)]; exact upd_same, upd_same, ?_, fun Nx hNx => ?_⟩
    · have a1 := cutV_length xs (some 1) none
      have a2 := cutV_length xs none (some 1)
      have lz : xs.length ≤ 1000 := by omega
      have : sizeLine = sizeLine := rfl
      exact Nat.le_trans (show _ ≤ 2000 by omega) (by decide)
    rw [cut_tail, cut_one]
    have s5 := s4.trans (same_new (o := .lst (xs.tail ++ xs.take 1)) hNx)
    rw [cut_tail, cut_one] at s5
    have lenN : (xs.tail ++ xs.take 1).length = xs.length := by
      rw [List.length_append, List.length_tail, List.length_take]
      omega
    generalize hG5 : upd (upd (upd G L1 (.lst xs.tail)) L2 (.lst (xs.take 1))) Nx (.lst (xs.tail ++ xs.take 1)) = G5 at s5 ⊢
    have hN5 : G5 Nx = some (.lst (xs.tail ++ xs.take 1)) := by rw [← hG5]; exact upd_same
    refine ⟨_, rfl, _, rfl, q, Nx, _, _, rfl, s5.seq hT, SqL.of hN5, fun D2 hD2 => lc_it (walk_zip (K := K) (a := q) (b := Nx) (xs := xs) (ys := xs.tail ++ xs.take 1) (n := us.length) (by rw [lenN]; omega))
      (fun j G' => Same G5 G' ∧ G' D2 = some (.lst (((List.range j).map (aheadAt (lsOf ps) us)).map V.bl))) ⟨same_new hD2, upd_same⟩ (fun j G' _ p => ⟨(s5.trans p.1).seq hT, SqL.of (p.1 _ _ hN5)⟩) (fun j x G' G6 hj p y => ?_) (fun G' p => ?_)⟩
    · obtain ⟨T1, x1, y1, rfl, nT, rfl, e1, e2⟩ := y
      have e2 : (xs.tail ++ xs.take 1)[j]? = some y1 := e2
      rw [turn_get (by omega)] at e2
      have s6 : Same H (upd G' T1 (.tup [x1, y1])) := (s5.trans p.1).trans (same_new nT)
      obtain ⟨u, t1, hu, rfl, q1⟩ := dq_links (hd.keep s6) e1
      obtain ⟨u2, t2, hu2, rfl, q2⟩ := dq_links (hd.keep s6) e2
      rw [ll] at hu2
      obtain ⟨p0, hp0⟩ : ∃ p0, ps[u.2]? = some p0 := ⟨_, List.getElem?_eq_getElem (by have := ltu u (List.mem_of_getElem? hu); omega)⟩
      have rp : (refsOf ps)[u.2]? = some (V.ref p0.1) := by rw [List.getElem?_map, hp0]; rfl
      refine ⟨T1, _, rfl, SqT.of upd_same, rfl, _, _, rfl, _, _, rfl, rfl, rfl, ?_⟩
      unfold tYes
      simp only [if_true]
      refine ⟨_, rfl, t1, _, 0, .int u.1, rfl, rfl, q1, rfl, _, rfl, t2, _, 0, .int u2.1, rfl, rfl, q2, rfl, ?_⟩
      refine ⟨_, rfl, _, rfl, t1, _, 1, .int (u.2 : Nat), rfl, rfl, q1, rfl, a, _, (u.2 : Nat), .ref p0.1, rfl, rfl, s6.seq hL.1, atI_nat rp, ?_⟩
      refine ⟨u.1, u2.1, p0.1, p0.2, rfl, s6.seq (hL.2 p0 (List.mem_of_getElem? hp0)), fun G7 s7 => ?_⟩
      have s8 : Same G5 G7 := (p.1.trans (same_new nT)).trans s7
      have d7 := s7 _ _ (app p.2 nT)
      refine ⟨_, d7, ?_, same_upd s8 hD2, ?_⟩
      · rw [List.length_map, List.length_map, List.length_range]
        exact small1000 (by omega)
      · rw [upd_same, range_snoc, List.map_append, List.map_append]
        have ea : aheadAt (lsOf ps) us j = aheadB p0.2 u.1 u2.1 := by
          unfold aheadAt
          rw [hu, hu2]
          show aheadB (((lsOf ps)[u.2]?).getD []) u.1 u2.1 = _
          rw [show (lsOf ps)[u.2]? = some p0.2 from by unfold lsOf; rw [List.getElem?_map, hp0]; rfl]
          rfl
        show some (HO.lst (_ ++ [V.bl (aheadB p0.2 u.1 u2.1)])) = some (HO.lst (_ ++ [V.bl (aheadAt (lsOf ps) us j)]))
        rw [ea]
    · obtain ⟨s6, d6⟩ := p
      refine ⟨D2, _, rfl, SqL.of d6, ?_⟩
      exact k _ (s5.trans s6)
end
end Lw

set_option autoImplicit true
set_option Elab.async false
set_option linter.all false
set_option maxRecDepth 100000
set_option maxHeartbeats 4000000
/-! _law_is_integer, _law_is_ring. -/
namespace Lw
open PySem L2 Two Pr Rp
abbrev sLIntD : Stmt := top 32
abbrev sLRingD : Stmt := top 33
theorem scLIntD : FnScope ["_law_value"] ["_law_value"] (defScope sLIntD) := ⟨rfl, rfl, rfl, by decide +kernel, rfl, by decide +kernel, by decide +kernel⟩
abbrev nLRingD : List Str := ["_law_lists_here", "_law_ring", "_law_link", "_law_items_here", "_law_k", "_law_one", "_law_ahead", "_law_behind"]
theorem scLRingD : FnScope nLRingD ["_law_lists_here", "_law_ring"] (defScope sLRingD) := ⟨rfl, rfl, rfl, by decide +kernel, rfl, by decide +kernel, by decide +kernel⟩
def spLRing (K : PySem.W.Frag) : Sp := fun vs H Q _ => ∃ (a : Addr) (v : V) (d : PyData) (ps : List (Addr × List Int)), vs = [.ref a, v] ∧ LofL K H a ps ∧ ps.length ≤ 1000 ∧ (∀ p ∈ ps, p.2.Nodup) ∧ Pap K H v d ∧ ∀ H', Same H H' → Q (.bl (ringD (lsOf ps) d)) H'
section
variable {P : Program} {w : World} {K : PySem.W.Frag} {mg : Str → Option Value} {base : Heap}
theorem ok_lIntD {f : Addr} {fd : FuncData} (F : Fun K "_law_is_integer" "_law_is_integer" sLIntD f fd) (T : Txt mg) : FnOk P w K mg base CX0 1 f fd ["_law_value"] (spIsInt K) := by
  refine F.ok scLIntD (fun vs H Q E h => ?_) (fun cdv A outer s H vs Q E hr h => ?_)
  · obtain ⟨x, _, _, _, rfl, _⟩ := h
    rfl
  · obtain ⟨x, t, b1, b2, rfl, ty, h1, h2, k⟩ := h
    refine ⟨_, pss_one (ps_ret (pe_and (pe_callB call_isi (by rfl) T.isinstance (by decide +kernel) (pa_cons (pv 0) (pa_cons (pe_bltn (v := .ty "int") (by rfl) T.int (by decide +kernel) rfl) pa_nil)))
      (pe_one (pe_not (pe_callB call_isi (by rfl) T.isinstance (by decide +kernel) (pa_cons (pv 0) (pa_cons (pe_bltn (v := .ty "bool") (by rfl) T.bool (by decide +kernel) rfl) pa_nil))))))), ?_⟩
    refine ⟨x, rfl, x, .ty "int", t, .type "int", b1, rfl, .ty _, ty, h1, b1, rfl, ?_⟩
    cases b1 with
    | false => exact iteF k
    | true => exact iteT ⟨x, rfl, x, .ty "bool", t, .type "bool", b2, rfl, .ty _, ty, h2, b2, rfl, k⟩
theorem ok_lRingD {f fI : Addr} {fd fdI : FuncData} (F : Fun K "_law_is_ring" "_law_is_ring" sLRingD f fd) (T : Txt mg) (gI : mg "_law_is_integer" = some (.ref fI)) (kI : PySem.W.keepIn K (.ref fI) = true) (bI : Binds K fdI ["_law_value"] []) (GI : FnOk P w K mg base CX0 1 fI fdI ["_law_value"] (spIsInt K)) :
    FnOk P w K mg base CX0 2 f fd ["_law_lists_here", "_law_ring"] (spLRing K) := by
  refine F.ok scLRingD (fun vs H Q E h => ?_) (fun cdv A outer s H vs Q E hr h => ?_)
  · obtain ⟨a, v, d, ps, rfl, _⟩ := h
    rfl
  · obtain ⟨a, v, d, ps, rfl, hL, fewL, nds, hP, k⟩ := h
    refine ⟨_, pss_cons (ps_if (PW.pt (pw_or (pt_not (pt_val (pe_callB call_isi (by rfl) T.isinstance (by decide +kernel) (pa_cons (pv 1) (pa_cons (pe_bltn (v := .ty "list") (by rfl) T.list (by decide +kernel) rfl) pa_nil)))))
        (pw_or1 (pt_cmpR op_lt (pe_callB call_len_seq (by rfl) T.len PySem.boot_len (pa_cons (pv 1) pa_nil)) pe_int (nomark _))))) (pss_one (ps_ret pe_bl)) pss_nil)
      (pss_cons (ps_for PassesOwn.never rfl (pi_list (pv 1)) (pg_name (i := 2) scLRingD.nd rfl (Or.inl rfl))
        (pss_cons (ps_if (PW.pt (pw_or (pt_not (pt_val (pe_callB call_isi (by rfl) T.isinstance (by decide +kernel) (pa_cons (pv 2) (pa_cons (pe_bltn (v := .ty "tuple") (by rfl) T.tuple (by decide +kernel) rfl) pa_nil)))))
          (pw_or1 (pt_cmpR op_ne (pe_callB call_len_seq (by rfl) T.len PySem.boot_len (pa_cons (pv 2) pa_nil)) pe_int (nomark _))))) (pss_one (ps_ret pe_bl)) pss_nil)
        (pss_cons (ps_if (PW.pt (pw_or (pt_not (pt_val (pe_call GI (hr.mono (by decide)) rfl gI kI bI .nil pass0 (pa_cons (pe_ix ix_tup (pv 2) pe_int (fun _ _ => rfl)) pa_nil))))
          (pw_or1 (pt_not (pt_val (pe_call GI (hr.mono (by decide)) rfl gI kI bI .nil pass0 (pa_cons (pe_ix ix_tup (pv 2) pe_int (fun _ _ => rfl)) pa_nil))))))) (pss_one (ps_ret pe_bl)) pss_nil)
        (pss_one (ps_if (pt_not (pt_chain op_le op_lt pe_int (pe_ix ix_tup (pv 2) pe_int (fun _ _ => rfl)) (pe_callB call_lenQ (by rfl) T.len PySem.boot_len (pa_cons (pv 0) pa_nil)))) (pss_one (ps_ret pe_bl)) pss_nil)))))
      (pss_cons (ps_setLc (i := 3) (own := [("_law_link", 2)]) (g := gName 2) (tt := tYes) (te := tItem0 K 2) rfl scLRingD.nd rfl rfl (sw_true rfl rfl rfl (by decide +kernel)) (pi_list (pv 1)) (blkOk_by (N := nLRingD) (sc := defScope sLRingD) (by decide +kernel))
          (fun _ _ _ _ _ => pg_name (i := 2) scLRingD.nd rfl (Or.inl rfl)) (fun _ _ _ _ _ => pts_nil) (fun _ _ _ _ _ => pe_ix ix_tup (pv 2) pe_int (fun _ _ => rfl)))
      (pss_cons (ps_if (pt_cmpR op_lt (pe_callB cr_lenS (by rfl) T.len PySem.boot_len (pa_cons (pe_callTy (cr_setX rfl) (by rfl) T.set (by decide +kernel) (pa_cons (pv 3) pa_nil)) pa_nil)) (pe_callB call_len_seq (by rfl) T.len PySem.boot_len (pa_cons (pv 3) pa_nil)) (nomark _)) (pss_one (ps_ret pe_bl)) pss_nil)
      (pss_cons (ps_for PassesOwn.never rfl (pi_range1 rfl T.range (pa_cons (pe_callB call_len_seq (by rfl) T.len PySem.boot_len (pa_cons (pv 1) pa_nil)) pa_nil)) (pg_name (i := 4) scLRingD.nd rfl (Or.inl rfl))
        (pss_cons (ps_set (i := 5) scLRingD.nd rfl (Or.inl rfl) (pe_ix ix_list (pv 0) (pe_ix ix_tup (pe_ix ix_list (pv 1) (pv 4) (fun _ _ => rfl)) pe_int (fun _ _ => rfl)) (fun _ _ => rfl)))
        (pss_cons (ps_par (i := 6) (j := 7) rfl scLRingD.nd rfl rfl (by decide) rfl rfl (pa_cons (pe_ix ix_list (pv 3) (pv 4) (fun _ _ => rfl)) (pa_cons (pe_ix ix_list (pv 3) (pe_op op_mod (pe_op op_add (pv 4) pe_int) (pe_callB call_len_seq (by rfl) T.len PySem.boot_len (pa_cons (pv 1) pa_nil))) (fun _ _ => rfl)) pa_nil)) (by rfl))
        (pss_one (ps_if (PW.pt (pw_or (pt_cmpR op_notIn_seq (pv 6) (pv 5) (by rfl)) (pw_or (pt_cmpR op_notIn_seq (pv 7) (pv 5) (by rfl))
            (pw_or1 (pt_cmpR op_ge (pe_bm PySem.F.plainAttrs_list PySem.F.slot_list_index PySem.F.type_list_index mt_index (pv 5) (pa_cons (pv 6) pa_nil)) (pe_bm PySem.F.plainAttrs_list PySem.F.slot_list_index PySem.F.type_list_index mt_index (pv 5) (pa_cons (pv 7) pa_nil)) (nomark _)))))) (pss_one (ps_ret pe_bl)) pss_nil)))))
      (pss_one (ps_ret pe_bl)))))), ?_⟩
    have no : ∀ G, Same H G → ringD (lsOf ps) d = false → Q (.bl false) G := fun G s e => by have := k G s; rw [e] at this; exact this
    obtain ⟨dq, fine, few, dp⟩ := hP
    rcases kit_lst dq with ⟨q, xs, ds, rfl, rfl, hT, hd, ek⟩ | ⟨nr, ek⟩
    case inr => exact ⟨_, rfl, v, .ty "list", _, .type "list", _, rfl, .ty _, dq_ty dq, ek, _, rfl, ite_true_of rfl (no _ (Same.refl _) (nr _))⟩
    refine ⟨_, rfl, _, .ty "list", _, .type "list", _, rfl, .ty _, dq_ty dq, ek, _, rfl, ite_false_of rfl ?_⟩
    have ll := hd.len
    have fewd : ds.length ≤ 1000 := by
      have h1 := nodes_len ds
      have h2 : 1 + nodesAll ds ≤ 1000 := few
      omega
    refine ⟨_, rfl, q, xs, rfl, .inl hT, _, _, rfl, rfl, _, rfl, ?_⟩
    by_cases two : 2 ≤ ds.length
    case neg =>
      refine ite_true_of (decide_eq_true (by omega)) (no _ (Same.refl _) ?_)
      show ringL (lsOf ps) ds = false
      unfold ringL
      rw [decide_eq_false two]
      rfl
    refine ite_false_of (decide_eq_false (by omega)) ?_
    have lsl : (lsOf ps).length = ps.length := List.length_map _
    have rl : (refsOf ps).length = ps.length := List.length_map _
    have eR : ringD (lsOf ps) (.list ds) = ((ds.map fun e => (linkD (lsOf ps).length e).isSome).all id && ringU (lsOf ps) (ds.filterMap (linkD (lsOf ps).length))) := by
      show ringL (lsOf ps) ds = _
      unfold ringL
      rw [decide_eq_true two, Bool.true_and]
    have bad : ∀ {G : Hp} {e : PyData}, Same H G → e ∈ ds → linkD (lsOf ps).length e = none → Q (.bl false) G := fun {G e} s he z => by
      refine no G s ?_
      rw [eR]
      have : (ds.map fun e => (linkD (lsOf ps).length e).isSome).all id = false := by
        rw [Bool.eq_false_iff]
        intro h
        have := all_map_id.mp h e he
        rw [z] at this
        cases this
      rw [this]
      rfl
    refine ⟨_, rfl, q, rfl, ⟨_, hT⟩, for_list (K := K) (xs := xs) (fun i σ G => ∃ w2, σ = [some (.ref a), some (.ref q), w2, none, none, none, none, none] ∧ Same H G ∧ ∀ j e, j < i → ds[j]? = some e → (linkD (lsOf ps).length e).isSome = true) ⟨_, rfl, Same.refl _, fun j e lt => absurd lt (Nat.not_lt_zero _)⟩ (fun i σ G _ p => p.choose_spec.2.1.seq hT) ?_ ?_⟩
    · rintro i x σ G hx ⟨w2, rfl, s1, upto⟩
      obtain ⟨e, he, hq⟩ := dqAll_get (hd.keep s1) hx
      have em := List.mem_of_getElem? he
      have step : ∀ {y : PyData}, (linkD (lsOf ps).length e).isSome = true → ∀ j e, j < i + 1 → ds[j]? = some e → (linkD (lsOf ps).length e).isSome = true := fun {_} z j e' lt hj => by
        by_cases c : j < i
        · exact upto j e' c hj
        · have : j = i := by omega
          subst this
          rw [he] at hj
          cases hj
          exact z
      dsimp only [gName]
      refine ⟨_, rfl, x, .ty "tuple", _, .type "tuple", _, rfl, .ty _, dq_ty hq, kit_tup e, _, rfl, ?_⟩
      cases hq with
      | non => exact ite_true_of rfl (bad s1 em rfl)
      | bl b => exact ite_true_of rfl (bad s1 em rfl)
      | int i => exact ite_true_of rfl (bad s1 em rfl)
      | str x => exact ite_true_of rfl (bad s1 em rfl)
      | lst _ _ _ => exact ite_true_of rfl (bad s1 em rfl)
      | dic _ => exact ite_true_of rfl (bad s1 em rfl)
      | @tup t ys es hT2 hd2 =>
        refine ite_false_of rfl ?_
        have l2 := hd2.len
        refine ⟨_, rfl, t, ys, rfl, .inr hT2, rfl, _, rfl, ?_⟩
        by_cases c3 : ys.length = 2
        case neg =>
          have e3 : (!decide (V.int ((ys.length : Nat) : Int) = V.int 2)) = true := by
            rw [Bool.not_eq_true', decide_eq_false_iff_not]
            intro z
            have := V.int.inj z
            omega
          exact ite_true_of e3 (bad s1 em (link_len (by omega)))
        have e3 : (!decide (V.int ((ys.length : Nat) : Int) = V.int 2)) = false := by rw [c3]; rfl
        refine ite_false_of e3 ?_
        obtain ⟨x1, x2, d1, d2, exs, eds, h1, h2⟩ := dq_two hd2 c3
        subst exs eds
        obtain ⟨b1, b2, kb1, kb2, eb12⟩ := kit_int (K := K) d1
        obtain ⟨b3, b4, kb3, kb4, eb34⟩ := kit_int (K := K) d2
        refine ⟨_, rfl, t, _, 0, x1, rfl, rfl, hT2, rfl, x1, _, b1, b2, rfl, dq_ty h1, kb1, kb2, _, rfl, ?_⟩
        rw [eb12]
        cases c1 : intD d1 with
        | false => exact ite_true_of rfl (bad s1 em (link_no1 c1))
        | true =>
        refine ite_false_of rfl ?_
        refine ⟨_, rfl, t, _, 1, x2, rfl, rfl, hT2, rfl, x2, _, b3, b4, rfl, dq_ty h2, kb3, kb4, _, rfl, ?_⟩
        rw [eb34]
        cases c2 : intD d2 with
        | false => exact ite_true_of rfl (bad s1 em (link_no2 c2))
        | true =>
        refine ite_false_of rfl ?_
        obtain ⟨xi, rfl, rfl⟩ : ∃ xi, d1 = .int xi ∧ x1 = .int xi := by
          cases h1 with
          | int x => exact ⟨x, rfl, rfl⟩
          | _ => cases c1
        obtain ⟨yi, rfl, rfl⟩ : ∃ yi, d2 = .int yi ∧ x2 = .int yi := by
          cases h2 with
          | int x => exact ⟨x, rfl, rfl⟩
          | _ => cases c2
        have e4 : linkD (lsOf ps).length (.tuple [.int xi, .int yi]) = if 0 ≤ yi ∧ yi < ((lsOf ps).length : Nat) then some (xi, yi.toNat) else none := rfl
        refine ⟨_, rfl, t, _, 1, .int yi, rfl, rfl, hT2, rfl, 0, yi, rfl, rfl, _, rfl, ?_⟩
        by_cases c4 : (0 : Int) ≤ yi
        · rw [decide_eq_true c4]
          refine ite_true_of rfl ⟨_, rfl, a, _, rfl, .inl (s1.seq hL.1), yi, _, rfl, rfl, _, rfl, ?_⟩
          rw [rl]
          by_cases c5 : yi < (ps.length : Nat)
          · refine ite_false_of (by rw [decide_eq_true c5]; rfl) ?_
            refine ⟨_, rfl, s1, step (y := .none) ?_⟩
            rw [e4, lsl, if_pos ⟨c4, c5⟩]
            rfl
          · refine ite_true_of (by rw [decide_eq_false c5]; rfl) (bad s1 em ?_)
            rw [e4, lsl, if_neg fun z => c5 z.2]
        · rw [decide_eq_false c4]
          refine ite_false_of rfl ⟨_, rfl, ite_true_of rfl (bad s1 em ?_)⟩
          rw [e4, if_neg fun z => c4 z.1]
    · rintro σ G ⟨w2, rfl, s1, upto⟩
      have c1 : (ds.map fun e => (linkD (lsOf ps).length e).isSome).all id = true := all_map_id.mpr fun e he => by
        obtain ⟨j, hj⟩ := List.getElem?_of_mem he
        exact upto j e (by have := (List.getElem?_eq_some_iff.mp hj).1; omega) hj
      rw [eR, c1] at k no
      clear bad upto eR
      obtain ⟨us, eus, efm, ltu⟩ := links_all (m := (lsOf ps).length) (ds := ds) (fun e he => by
        exact all_map_id.mp c1 e he)
      rw [efm] at k no
      subst eus
      rw [List.length_map] at ll two fewd
      have hd1 := hd.keep s1
      have hT1 := s1.seq hT
      refine ⟨_, rfl, q, rfl, ⟨_, hT1⟩, fun D nD => lc_list (K := K) (a := q) (xs := xs) (fun j G' => Same G G' ∧ G' D = some (.lst (((us.take j).map (·.1)).map V.int))) ⟨same_new nD, upd_same⟩ (fun j G' _ p => p.1.seq hT1) (fun j x G' hx p => ?_) (fun G' p => ?_)⟩
      · obtain ⟨s2, eD⟩ := p
        obtain ⟨u, t, hu, rfl, et⟩ := dq_links (hd1.keep s2) hx
        refine ⟨rfl, ?_⟩
        dsimp only [tYes]
        rw [if_pos rfl]
        refine ⟨_, rfl, t, _, 0, .int u.1, rfl, rfl, et, rfl, _, eD, ?_, same_upd s2 nD, ?_⟩
        · rw [List.length_map, List.length_map, List.length_take]
          exact small1000 (by omega)
        · rw [upd_same, take_snoc hu, List.map_append, List.map_append]
          rfl
      obtain ⟨s2, eD⟩ := p
      rw [ll, List.take_length] at eD
      have s02 := s1.trans s2
      dsimp only [gName]
      refine ⟨_, rfl, D, us.map (·.1), rfl, SqL.of eD, by rw [List.length_map]; omega, fun S c nS cnt => ⟨S, _, c, rfl, upd_same, ?_⟩⟩
      rw [List.length_map] at cnt
      have s3 := s02.trans (same_new (o := SetO w S (fun j => decide (j ∈ us.map (·.1))) c) nS)
      have eD3 := app eD (o := SetO w S (fun j => decide (j ∈ us.map (·.1))) c) nS
      have eD3 := eD3
      refine ⟨_, rfl, D, _, rfl, .inl (SqL.of eD3), _, _, rfl, rfl, _, rfl, ?_⟩
      by_cases nd : (us.map (·.1)).Nodup
      case neg =>
        refine ite_true_of (decide_eq_true ?_) (no _ s3 ?_)
        · have := cnt.mpr nd
          rw [List.length_map, List.length_map]
          omega
        · unfold ringU
          rw [decide_eq_false nd]
          rfl
      refine ite_false_of (decide_eq_false ?_) ?_
      · intro z
        refine cnt.mp ?_ nd
        rw [List.length_map, List.length_map] at z
        omega
      have eU : (true && ringU (lsOf ps) us) = ((List.range us.length).map (aheadAt (lsOf ps) us)).all id := by
        unfold ringU
        rw [decide_eq_true nd]
        rfl
      rw [eU] at k no
      clear eU
      refine ⟨_, rfl, q, xs, rfl, .inl (s3.seq hT), _, rfl, by omega, by omega, for_range (lo := 0) (n := ((xs.length : Nat) : Int).toNat) (fun j σ G => ∃ w4 w5 w6 w7, σ = [some (.ref a), some (.ref q), w2, some (.ref D), w4, w5, w6, w7] ∧ Same H G ∧ G D = some (.lst ((us.map (·.1)).map V.int)) ∧ ∀ i, i < j → aheadAt (lsOf ps) us i = true)
        ⟨_, _, _, _, rfl, s3, eD3, fun i lt => absurd lt (Nat.not_lt_zero _)⟩ ?_ ?_⟩
      · rintro j σ Gj hj ⟨w4, w5, w6, w7, rfl, sj, eDj, upto⟩
        clear eD3 s3 cnt s2 eD s02 hd1 hT1 s1
        have jl : j < us.length := by omega
        have e0 : (0 : Int) + ((j : Nat) : Int) = ((j : Nat) : Int) := Int.zero_add _
        dsimp only [gName]
        rw [e0]
        obtain ⟨x, hx⟩ : ∃ x, xs[j]? = some x := ⟨_, List.getElem?_eq_getElem (by omega)⟩
        obtain ⟨u, t, hu, rfl, et⟩ := dq_links (hd.keep sj) hx
        obtain ⟨p0, hp0⟩ : ∃ p0, ps[u.2]? = some p0 := ⟨_, List.getElem?_eq_getElem (by have := ltu u (List.mem_of_getElem? hu); omega)⟩
        have rp : (refsOf ps)[u.2]? = some (V.ref p0.1) := by rw [List.getElem?_map, hp0]; rfl
        refine ⟨_, rfl, _, rfl, _, rfl, q, _, ((j : Nat) : Int), .ref t, rfl, rfl, sj.seq hT, atI_nat hx, t, _, 1, .int (u.2 : Nat), rfl, rfl, et, rfl, a, _, ((u.2 : Nat) : Int), .ref p0.1, rfl, rfl, sj.seq hL.1, atI_nat rp, ?_⟩
        have modl : (j + 1) % us.length < us.length := Nat.mod_lt _ (by omega)
        obtain ⟨u2, hu2⟩ : ∃ u2, us[(j + 1) % us.length]? = some u2 := ⟨_, List.getElem?_eq_getElem modl⟩
        have i1 : ((us.map (·.1)).map V.int)[j]? = some (.int u.1) := by rw [List.getElem?_map, List.getElem?_map, hu]; rfl
        have i2 : ((us.map (·.1)).map V.int)[(j + 1) % us.length]? = some (.int u2.1) := by rw [List.getElem?_map, List.getElem?_map, hu2]; rfl
        have em : (((j : Nat) : Int) + 1) % ((xs.length : Nat) : Int) = (((j + 1) % us.length : Nat) : Int) := by rw [ll, show ((j : Nat) : Int) + 1 = ((j + 1 : Nat) : Int) from by omega]; exact (Int.natCast_emod _ _).symm
        dsimp only [gName]
        refine ⟨_, rfl, _, rfl, D, _, ((j : Nat) : Int), .int u.1, rfl, rfl, SqL.of eDj, atI_nat i1, _, rfl, _, rfl, _, 1, rfl, rfl, _, rfl, q, xs, rfl, .inl (sj.seq hT), _, _, rfl, rfl, by omega, D, _, _, .int u2.1, rfl, rfl, SqL.of eDj, ?_, ?_⟩
        · rw [em]
          exact atI_nat i2
        refine ⟨_, _, rfl, ?_⟩
        have ea : aheadAt (lsOf ps) us j = aheadB p0.2 u.1 u2.1 := by
          unfold aheadAt
          rw [hu, hu2]
          show aheadB (((lsOf ps)[u.2]?).getD []) u.1 u2.1 = _
          rw [show (lsOf ps)[u.2]? = some p0.2 from by unfold lsOf; rw [List.getElem?_map, hp0]; rfl]
          rfl
        have fail : aheadB p0.2 u.1 u2.1 = false → Q (.bl false) Gj := fun z => by
          refine no _ sj ?_
          rw [Bool.eq_false_iff]
          intro h
          have := all_map_id.mp h j (List.mem_range.mpr jl)
          rw [ea, z] at this
          cases this
        have go : aheadB p0.2 u.1 u2.1 = true → ∀ i, i < j + 1 → aheadAt (lsOf ps) us i = true := fun z i lt => by
          by_cases c : i < j
          · exact upto i c
          · have : i = j := by omega
            rw [this, ea]
            exact z
        have S0 : SqL K Gj p0.1 (p0.2.map V.int) := sj.seq (hL.2 p0 (List.mem_of_getElem? hp0))
        have nd0 := nds p0 (List.mem_of_getElem? hp0)
        obtain ⟨l, el⟩ : ∃ l, l = p0.2 := ⟨_, rfl⟩
        rw [← el] at S0 nd0 fail go
        clear ea no upto
        refine ⟨_, rfl, _, rfl, p0.1, _, rfl, .inl S0, rfl, flat_ints _, ?_⟩
        by_cases m1 : u.1 ∈ l
        case neg =>
          rw [if_pos rfl, show inV (.int u.1) (l.map V.int) = false from by rw [inV_ints, Bool.eq_false_iff]; exact fun h => m1 (List.contains_iff_mem.mp h)]
          exact ⟨_, rfl, ite_true_of rfl (fail (aheadB_out m1))⟩
        rw [if_pos rfl, show inV (.int u.1) (l.map V.int) = true from by rw [inV_ints]; exact List.contains_iff_mem.mpr m1]
        refine ⟨_, rfl, ite_false_of rfl ?_⟩
        refine ⟨_, rfl, _, rfl, p0.1, _, rfl, .inl S0, rfl, flat_ints _, ?_⟩
        obtain ⟨c, v, e1, nc⟩ := split_first m1
        by_cases m2 : u2.1 ∈ l
        case neg =>
          rw [if_pos rfl, show inV (.int u2.1) (l.map V.int) = false from by rw [inV_ints, Bool.eq_false_iff]; exact fun h => m2 (List.contains_iff_mem.mp h)]
          refine ⟨_, rfl, ite_true_of rfl (fail ?_)⟩
          rw [e1, aheadB_at nc]
          exact decide_eq_false fun h => m2 (by rw [e1]; simp [h])
        rw [if_pos rfl, show inV (.int u2.1) (l.map V.int) = true from by rw [inV_ints]; exact List.contains_iff_mem.mpr m2]
        refine ⟨_, rfl, ite_false_of rfl ?_⟩
        obtain ⟨c', v', e2, nc'⟩ := split_first m2
        have eb := ahead_idx nd0 e1 e2
        refine ⟨_, rfl, .inl ⟨rfl, _, S0⟩, _, rfl, p0.1, _, .int u.1, c.length, .int u.1, rfl, rfl, S0, rfl, flat_ints _, ?_, beq_self_eq_true u.1, ?_, ?_⟩
        · rw [List.getElem?_map, e1]
          simp
        · intro m z' hm hz
          obtain ⟨z, hz1, rfl⟩ := get_map hz
          rw [e1, List.getElem?_append_left hm] at hz1
          exact beq_eq_false_iff_ne.mpr fun e => nc (e ▸ List.mem_of_getElem? hz1)
        refine ⟨_, rfl, .inl ⟨rfl, _, S0⟩, _, rfl, p0.1, _, .int u2.1, c'.length, .int u2.1, rfl, rfl, S0, rfl, flat_ints _, ?_, beq_self_eq_true u2.1, ?_, ?_⟩
        · rw [List.getElem?_map, e2]
          simp
        · intro m z' hm hz
          obtain ⟨z, hz1, rfl⟩ := get_map hz
          rw [e2, List.getElem?_append_left hm] at hz1
          exact beq_eq_false_iff_ne.mpr fun e => nc' (e ▸ List.mem_of_getElem? hz1)
        refine ⟨_, _, rfl, rfl, _, rfl, ?_⟩
        by_cases lt : c.length < c'.length
        · refine ite_false_of (decide_eq_false (by omega)) ⟨_, _, _, _, rfl, sj, eDj, go (by rw [eb]; exact decide_eq_true lt)⟩
        · exact ite_true_of (decide_eq_true (by omega)) (fail (by rw [eb]; exact decide_eq_false lt))
      · rintro σ Gj ⟨w4, w5, w6, w7, rfl, sj, eDj, upto⟩
        have := k _ sj
        rw [all_map_id.mpr fun i hi => upto i (by have := List.mem_range.mp hi; omega)] at this
        exact this
end
end Lw

set_option autoImplicit true
set_option Elab.async false
set_option linter.all false
set_option maxRecDepth 100000
set_option maxHeartbeats 1000000
/-! Displays of papers, each good in what it makes. -/
namespace Lw
open PySem L2 Two Pr Rp
/-- a heap without two of its objects -/
def cz (l : Addr) (D : List Addr) (H : Hp) : Hp := fun b => if b = l ∨ b ∈ D then none else H b
theorem cz_of {l p : Addr} {D : List Addr} {H : Hp} {o : HO} (e : H p = some o) (h1 : p ≠ l) (h2 : p ∉ D) : cz l D H p = some o := by
  unfold cz
  rw [if_neg (by rintro (h | h); exact h1 h; exact h2 h)]
  exact e
theorem cz_same {l : Addr} {D : List Addr} {H : Hp} : Same (cz l D H) H := fun b o e => by
  unfold cz at e
  by_cases h : b = l ∨ b ∈ D
  · rw [if_pos h] at e; cases e
  · rwa [if_neg h] at e
theorem cz_ne {l p : Addr} {D : List Addr} {H : Hp} {o : HO} (e : cz l D H p = some o) : p ≠ l ∧ p ∉ D := by
  unfold cz at e
  by_cases h : p = l ∨ p ∈ D
  · rw [if_pos h] at e; cases e
  · exact ⟨fun z => h (.inl z), fun z => h (.inr z)⟩
theorem cz_but {l : Addr} {D : List Addr} {H H' : Hp} (b : But (· = l) H H') : Same (cz l D H) (cz l D H') := fun p o e => by
  obtain ⟨h1, h2⟩ := cz_ne e
  exact cz_of (b p o h1 (cz_same _ _ e)) h1 h2
theorem cz_keep {l : Addr} {D : List Addr} {H H' : Hp} (s : Same H H') : Same (cz l D H) (cz l D H') := cz_but (but_same s)
theorem cz_upd {l d : Addr} {D : List Addr} {H : Hp} {o : HO} (hd : d ∈ D) : cz l D (upd H d o) = cz l D H := by
  funext b
  unfold cz
  by_cases h : b = l ∨ b ∈ D
  · rw [if_pos h, if_pos h]
  · rw [if_neg h, if_neg h, upd_ne fun z => h (.inr (by rw [z]; exact hd))]
/-- one more object that is hidden, when it comes -/
theorem cz_more {l d : Addr} {D : List Addr} {H : Hp} {o : HO} (nd : H d = none) : cz l (d :: D) (upd H d o) = cz l D H := by
  funext b
  unfold cz
  by_cases h : b = l ∨ b ∈ D
  · rw [if_pos h, if_pos (h.imp id (List.mem_cons_of_mem _))]
  · rw [if_neg h]
    by_cases e : b = d
    · rw [if_pos (.inr (by rw [e]; exact List.mem_cons_self)), e, nd]
    · rw [if_neg fun z => z.elim (fun z => h (.inl z)) fun z => (List.mem_cons.mp z).elim e fun z => h (.inr z), upd_ne e]
theorem cz_less {l d : Addr} {D : List Addr} {H : Hp} : Same (cz l (d :: D) H) (cz l D H) := fun p o e => by
  obtain ⟨h1, h2⟩ := cz_ne e
  exact cz_of (cz_same _ _ e) h1 fun z => h2 (List.mem_cons_of_mem _ z)
def PapQ (K : PySem.W.Frag) (H : Hp) (v : V) (n m : Nat) : Prop := ∃ d, Dq K H v d ∧ fineD d = true ∧ nodes d ≤ n ∧ d.depth ≤ m
theorem PapQ.keep {K : PySem.W.Frag} {H H' : Hp} {v : V} {n m : Nat} (h : PapQ K H v n m) (s : Same H H') : PapQ K H' v n m := let ⟨d, a, b⟩ := h; ⟨d, a.keep s, b⟩
theorem PapQ.more {K : PySem.W.Frag} {H : Hp} {v : V} {n m n' m' : Nat} (h : PapQ K H v n m) (a : n ≤ n') (b : m ≤ m') : PapQ K H v n' m' := let ⟨d, x, y, z, w⟩ := h; ⟨d, x, y, Nat.le_trans z a, Nat.le_trans w b⟩
theorem PapQ.pap {K : PySem.W.Frag} {H : Hp} {v : V} {n m : Nat} (h : PapQ K H v n m) (a : n ≤ 1000) (b : m ≤ 20) : ∃ d, Pap K H v d := let ⟨d, x, y, z, w⟩ := h; ⟨d, x, y, Nat.le_trans z a, Nat.le_trans w b⟩
theorem paps {K : PySem.W.Frag} {H : Hp} {n m : Nat} : ∀ {vs : List V}, (∀ v ∈ vs, PapQ K H v n m) → ∃ ds, DqAll K H vs ds ∧ fineAll ds = true ∧ nodesAll ds ≤ vs.length * n ∧ PyData.depthAll ds ≤ m
  | [], _ => ⟨[], .nil, rfl, Nat.zero_le _, Nat.zero_le _⟩
  | v :: vs, h => by
    obtain ⟨d, a, b, c, e⟩ := h v List.mem_cons_self
    obtain ⟨ds, a2, b2, c2, e2⟩ := paps fun w hw => h w (List.mem_cons_of_mem _ hw)
    refine ⟨d :: ds, .cons a a2, ?_, ?_, ?_⟩
    · unfold fineAll
      rw [b, b2]
      rfl
    · show nodes d + nodesAll ds ≤ (vs.length + 1) * n
      rw [Nat.add_mul, Nat.one_mul]
      omega
    · show max d.depth (PyData.depthAll ds) ≤ m
      omega
section
variable (K : PySem.W.Frag) (l : Addr) (D : List Addr) (H0 : Hp) (σ : L2.St)
structure Bas : Prop where
  hl : H0 l ≠ none
  hd : ∀ d ∈ D, H0 d ≠ none
  hs : ∃ o, cz l D H0 1 = some (.frz o (.own 0))
def GoodE (te : TE) (n m : Nat) : Prop := ∀ (H : Hp) (Q : VK), Same H0 H → (∀ (H' : Hp) (v : V), Same H H' → PapQ K (cz l D H') v n m → Q v H') → te σ H Q
def GoodA (ta : TA) (k n m : Nat) : Prop := ∀ (H : Hp) (Q : List V → Hp → Prop), Same H0 H → (∀ (H' : Hp) (vs : List V), Same H H' → vs.length = k → (∀ v ∈ vs, PapQ K (cz l D H') v n m) → Q vs H') → ta σ H Q
def LstE (te : TE) (k n m : Nat) (ne : Bool) : Prop := ∀ (H : Hp) (Q : VK), Same H0 H → (∀ (H' : Hp) (q : Addr) (vs : List V), Same H H' → cz l D H' q = some (.lst vs) → q ≠ 1 → (ne = true → vs ≠ []) → vs.length ≤ k → (∀ v ∈ vs, PapQ K (cz l D H') v n m) → Q (.ref q) H') → te σ H Q
/-- a bound of a slice -/
def PartE (tp : TO) : Prop := ∃ o, ∀ (H : Hp) (Q : Option Int → Hp → Prop), Q o H → tp σ H Q
variable {K l D H0 σ}
theorem Bas.ne {H : Hp} {p : Addr} (b : Bas l D H0) (s : Same H0 H) (h : H p = none) : p ≠ l ∧ p ∉ D ∧ p ≠ 1 := by
  refine ⟨fun z => ?_, fun z => ?_, fun z => ?_⟩
  · obtain ⟨o, e⟩ := Option.ne_none_iff_exists'.mp b.hl
    rw [z, s _ _ e] at h; cases h
  · obtain ⟨o, e⟩ := Option.ne_none_iff_exists'.mp (b.hd p z)
    rw [s _ _ e] at h; cases h
  · obtain ⟨o, e⟩ := b.hs
    rw [z, s _ _ (cz_same _ _ e)] at h; cases h
theorem GoodE.mono {te : TE} {n m n' m' : Nat} (g : GoodE K l D H0 σ te n m) (a : n ≤ n') (b : m ≤ m') : GoodE K l D H0 σ te n' m' := fun H Q s k => g H Q s fun H' v s' p => k H' v s' (p.more a b)
theorem good_c {v : V} {d : PyData} (e : ∀ H, Dq K H v d) (f : fineD d = true) {n m : Nat} (a : nodes d ≤ n) (b : d.depth ≤ m) : GoodE K l D H0 σ (tC v) n m := fun H Q _ k => k H v (Same.refl _) ⟨d, e _, f, a, b⟩
theorem good_int (i : Int) (h1 : -1000000 ≤ i) (h2 : i ≤ 1000000) : GoodE K l D H0 σ (tC (.int i)) 1 0 := good_c (d := .int i) (fun _ => .int _) (fine_int h1 h2) (Nat.le_refl _) (Nat.le_refl _)
theorem good_bl (b : Bool) : GoodE K l D H0 σ (tC (.bl b)) 1 0 := good_c (d := .bool b) (fun _ => .bl _) rfl (Nat.le_refl _) (Nat.le_refl _)
theorem good_non : GoodE K l D H0 σ (tC .non) 1 0 := good_c (d := .none) (fun _ => .non) rfl (Nat.le_refl _) (Nat.le_refl _)
theorem good_str (x : Str) (h : fineD (.str x) = true) : GoodE K l D H0 σ (tC (.str x)) 1 0 := good_c (d := .str x) (fun _ => .str _) h (Nat.le_refl _) (Nat.le_refl _)
theorem good_var {i : Nat} {v : V} {n m : Nat} (e : σ[i]? = some (some v)) (p : PapQ K (cz l D H0) v n m) : GoodE K l D H0 σ (tVar i) n m := fun H Q s k => ⟨v, e, k H v (Same.refl _) (p.keep (cz_keep s))⟩
theorem goodA_nil {n m : Nat} : GoodA K l D H0 σ tNil 0 n m := fun H Q _ k => k H [] (Same.refl _) rfl fun _ h => nomatch h
theorem goodA_cons {te : TE} {ta : TA} {k n m : Nat} (g : GoodE K l D H0 σ te n m) (a : GoodA K l D H0 σ ta k n m) : GoodA K l D H0 σ (tCons te ta) (k + 1) n m := fun H Q s q =>
  g H _ s fun H1 v s1 p => a H1 _ (s.trans s1) fun H2 vs s2 lv pv => q H2 (v :: vs) (s1.trans s2) (by rw [List.length_cons, lv]) fun w hw => by
    rcases List.mem_cons.mp hw with rfl | hw
    · exact p.keep (cz_keep s2)
    · exact pv w hw
theorem good_tup (b : Bas l D H0) {ta : TA} {k n m : Nat} (a : GoodA K l D H0 σ ta k n m) (few : k ≤ 1000) : GoodE K l D H0 σ (tTup ta) (1 + k * n) (m + 1) := fun H Q s q =>
  a H _ s fun H1 vs s1 lv pv => ⟨Nat.le_trans (Nat.le_of_eq lv) (Nat.le_trans few (by decide)), fun p np => q _ _ (s1.trans (same_new np)) (by
    obtain ⟨h1, h2, h3⟩ := b.ne (s.trans s1) np
    obtain ⟨ds, x, y, z, w⟩ := paps fun v hv => (pv v hv).keep (cz_keep (same_new (o := .tup vs) np))
    rw [lv] at z
    exact ⟨.tuple ds, .tup (SqT.of (cz_of upd_same h1 h2)) x, y, Nat.add_le_add_left z 1, Nat.add_le_add_right w 1⟩)⟩
theorem lst_disp (b : Bas l D H0) {ta : TA} {k n m : Nat} (a : GoodA K l D H0 σ ta k n m) (few : k ≤ 1000) {ne : Bool} (hn : ne = true → 0 < k) : LstE K l D H0 σ (tLst ta) k n m ne := fun H Q s q =>
  a H _ s fun H1 vs s1 lv pv => ⟨Nat.le_trans (Nat.le_of_eq lv) (Nat.le_trans few (by decide)), fun p np => by
    obtain ⟨h1, h2, h3⟩ := b.ne (s.trans s1) np
    exact q _ p vs (s1.trans (same_new np)) (cz_of upd_same h1 h2) h3 (fun z w => by have := hn z; rw [w] at lv; rw [← lv] at this; cases this) (Nat.le_of_eq lv) fun v hv => (pv v hv).keep (cz_keep (same_new np))⟩
theorem LstE.good {te : TE} {k n m : Nat} {ne : Bool} (a : LstE K l D H0 σ te k n m ne) : GoodE K l D H0 σ te (1 + k * n) (m + 1) := fun H Q s q =>
  a H _ s fun H1 p vs s1 e p1 _ lv pv => q _ _ s1 (by
    obtain ⟨ds, x, y, z, w⟩ := paps pv
    exact ⟨.list ds, .lst (SqL.of e) p1 x, y, Nat.add_le_add_left (Nat.le_trans z (Nat.mul_le_mul_right _ lv)) 1, Nat.add_le_add_right w 1⟩)
theorem lst_var {i : Nat} {q : Addr} {vs : List V} {k n m : Nat} (e : σ[i]? = some (some (.ref q))) (h : cz l D H0 q = some (.lst vs)) (q1 : q ≠ 1) (lv : vs.length ≤ k) (p : ∀ v ∈ vs, PapQ K (cz l D H0) v n m) {ne : Bool} (hn : ne = true → vs ≠ []) : LstE K l D H0 σ (tVar i) k n m ne := fun H Q s k =>
  ⟨_, e, k H q vs (Same.refl _) (cz_keep s _ _ h) q1 hn lv fun v hv => (p v hv).keep (cz_keep s)⟩
theorem part_no : PartE σ tNoPart := ⟨none, fun _ _ q => q⟩
theorem part_var {i : Nat} {x : Int} (e : σ[i]? = some (some (.int x))) : PartE σ (tPart (tVar i)) := ⟨some x, fun _ _ q => ⟨_, e, x, rfl, q⟩⟩
theorem part_add {i : Nat} {x c : Int} (e : σ[i]? = some (some (.int x))) : PartE σ (tPart (tOp (rI0 fun i j => .int (i + j)) (tVar i) (tC (.int c)))) := ⟨some (x + c), fun _ _ q => ⟨_, e, x, c, rfl, rfl, x + c, rfl, q⟩⟩
theorem lst_slice (b : Bas l D H0) {te : TE} {p1 p2 : TO} {k n m : Nat} {ne : Bool} (a : LstE K l D H0 σ te k n m ne) (h1 : PartE σ p1) (h2 : PartE σ p2) : LstE K l D H0 σ (L2.tSl (rSlL K) te p1 p2) k n m false := fun H Q s q => by
  obtain ⟨o1, h1⟩ := h1
  obtain ⟨o2, h2⟩ := h2
  refine a H _ s fun H1 p vs s1 e p1 _ lv pv => h1 _ _ (h2 _ _ ⟨p, vs, rfl, SqL.of (cz_same _ _ e), fun r nr => ?_⟩)
  obtain ⟨g1, g2, g3⟩ := b.ne (s.trans s1) nr
  have mem : ∀ v ∈ cutV vs o1 o2, v ∈ vs := fun v hv => by
    unfold cutV at hv
    exact List.mem_of_mem_drop (List.mem_of_mem_take hv)
  exact q _ r _ (s1.trans (same_new nr)) (cz_of upd_same g1 g2) g3 (fun z => nomatch z) (by have := cutV_length vs o1 o2; omega) fun v hv => (pv v (mem v hv)).keep (cz_keep (same_new nr))
theorem lst_cat (b : Bas l D H0) {t1 t2 : TE} {k1 k2 n m : Nat} {ne1 ne2 : Bool} (a1 : LstE K l D H0 σ t1 k1 n m ne1) (a2 : LstE K l D H0 σ t2 k2 n m ne2) (few : k1 + k2 ≤ 1000) : LstE K l D H0 σ (tOp rCat t1 t2) (k1 + k2) n m (ne1 || ne2) := fun H Q s q => by
  refine a1 H _ s fun H1 p vs s1 e p1 c1 lv pv => a2 H1 _ (s.trans s1) fun H2 p2 vs2 s2 e2 p3 c2 lv2 pv2 => ⟨p, p2, vs, vs2, rfl, rfl, s2 _ _ (cz_same _ _ e), cz_same _ _ e2, Nat.le_trans (show _ ≤ 1000 by omega) (by decide), fun r nr => ?_⟩
  obtain ⟨g1, g2, g3⟩ := b.ne ((s.trans s1).trans s2) nr
  refine q _ r _ ((s1.trans s2).trans (same_new nr)) (cz_of upd_same g1 g2) g3 (fun z w => by
    obtain ⟨w1, w2⟩ := List.append_eq_nil_iff.mp w
    rcases Bool.or_eq_true_iff.mp z with z | z
    · exact c1 z w1
    · exact c2 z w2) (by rw [List.length_append]; omega) fun v hv => ?_
  rcases List.mem_append.mp hv with hv | hv
  · exact (pv v hv).keep (cz_keep (s2.trans (same_new nr)))
  · exact (pv2 v hv).keep (cz_keep (same_new nr))
/-- x + y, with the new list apart -/
theorem cat_last (b : Bas l D H0) {t1 t2 : TE} {k1 k2 n m : Nat} {ne1 ne2 : Bool} (a1 : LstE K l D H0 σ t1 k1 n m ne1) (a2 : LstE K l D H0 σ t2 k2 n m ne2) (few : k1 + k2 ≤ 1000) (H : Hp) (Q : VK) (s : Same H0 H)
    (q : ∀ (G : Hp) (r : Addr) (vs : List V), Same H G → G r = none → vs.length ≤ k1 + k2 → (∀ v ∈ vs, PapQ K (cz l D G) v n m) → Q (.ref r) (upd G r (.lst vs))) : tOp rCat t1 t2 σ H Q := by
  refine a1 H _ s fun H1 p vs s1 e p1 c1 lv pv => a2 H1 _ (s.trans s1) fun H2 p2 vs2 s2 e2 p3 c2 lv2 pv2 => ⟨p, p2, vs, vs2, rfl, rfl, s2 _ _ (cz_same _ _ e), cz_same _ _ e2, Nat.le_trans (show _ ≤ 1000 by omega) (by decide), fun r nr => ?_⟩
  refine q H2 r _ (s1.trans s2) nr (by rw [List.length_append]; omega) fun v hv => ?_
  rcases List.mem_append.mp hv with hv | hv
  · exact (pv v hv).keep (cz_keep s2)
  · exact pv2 v hv
theorem lst_rev (b : Bas l D H0) {te : TE} {k n m : Nat} {ne : Bool} (a : LstE K l D H0 σ te k n m ne) : LstE K l D H0 σ (tRevL K te) k n m ne := fun H Q s q => by
  refine a H _ s fun H1 p vs s1 e p1 c1 lv pv => ⟨p, vs, rfl, SqL.of (cz_same _ _ e), fun r nr => ?_⟩
  obtain ⟨g1, g2, g3⟩ := b.ne (s.trans s1) nr
  exact q _ r _ (s1.trans (same_new nr)) (cz_of upd_same g1 g2) g3 (fun z w => c1 z (List.reverse_eq_nil_iff.mp w)) (by rw [List.length_reverse]; exact lv) fun v hv => (pv v (List.mem_reverse.mp hv)).keep (cz_keep (same_new nr))
theorem good_dict (b : Bas l D H0) : GoodE K l D H0 σ tDNewK 1 1 := fun H Q s q p np => by
  obtain ⟨h1, h2, h3⟩ := b.ne s np
  exact q _ _ (same_new np) ⟨.dict [], Dq.dic (kvs := []) (cz_of upd_same h1 h2), rfl, Nat.le_refl _, by decide⟩
/-- tuple(x), x a list of papers -/
theorem good_tuple (b : Bas l D H0) {te : TE} {k n m : Nat} {ne : Bool} (a : LstE K l D H0 σ te k n m ne) : GoodE K l D H0 σ (tCB (fun xs H Q => ∃ p ys, xs = [.ref p] ∧ ((SqL K H p ys ∧ ∀ l, H l = none → Q (.ref l) (upd H l (.tup ys))) ∨ (SqT K H p ys ∧ Q (.ref p) H))) (tCons te tNil)) (1 + k * n) (m + 1) := fun H Q s q => by
  refine a H _ s fun H1 p vs s1 e p1 _ lv pv => ⟨p, vs, rfl, .inl ⟨SqL.of (cz_same _ _ e), fun r nr => q _ _ (s1.trans (same_new nr)) ?_⟩⟩
  obtain ⟨g1, g2, g3⟩ := b.ne (s.trans s1) nr
  obtain ⟨ds, x, y, z, w⟩ := paps fun v hv => (pv v hv).keep (cz_keep (same_new (o := .tup vs) nr))
  exact ⟨.tuple ds, .tup (SqT.of (cz_of upd_same g1 g2)) x, y, Nat.add_le_add_left (Nat.le_trans z (Nat.mul_le_mul_right _ lv)) 1, Nat.add_le_add_right w 1⟩
end
end Lw

set_option autoImplicit true
set_option Elab.async false
set_option linter.all false
set_option maxRecDepth 100000
set_option maxHeartbeats 2000000
/-! k02: _is_list_of_ints of any data. -/
namespace Lw
open PySem L2 Two Pr Rp
def intsB : PyData → Bool
  | .list ds => ds.all intD
  | _ => false
theorem kit_lstB {K : PySem.W.Frag} {H : Hp} {v : V} {d : PyData} (h : Dq K H v d) : (∃ a xs ds, v = .ref a ∧ d = .list ds ∧ SqL K H a xs ∧ DqAll K H xs ds ∧ PySem.W.kitOne K (.type (tagT d)) (.type "list") = some true) ∨ (intsB d = false ∧ PySem.W.kitOne K (.type (tagT d)) (.type "list") = some false) := by
  cases h with
  | non => exact .inr ⟨rfl, show PySem.W.kitOne K (.type "NoneType") (.type "list") = some false from kit_ty (by decide +kernel)⟩
  | bl b => exact .inr ⟨rfl, show PySem.W.kitOne K (.type "bool") (.type "list") = some false from kit_ty (by decide +kernel)⟩
  | int i => exact .inr ⟨rfl, show PySem.W.kitOne K (.type "int") (.type "list") = some false from kit_ty (by decide +kernel)⟩
  | str x => exact .inr ⟨rfl, show PySem.W.kitOne K (.type "str") (.type "list") = some false from kit_ty (by decide +kernel)⟩
  | tup _ _ => exact .inr ⟨rfl, show PySem.W.kitOne K (.type "tuple") (.type "list") = some false from kit_ty (by decide +kernel)⟩
  | dic _ => exact .inr ⟨rfl, show PySem.W.kitOne K (.type "dict") (.type "list") = some false from kit_ty (by decide +kernel)⟩
  | lst h _ a => exact .inl ⟨_, _, _, rfl, rfl, h, a, show PySem.W.kitOne K (.type "list") (.type "list") = some true from kit_ty (by decide +kernel)⟩
def spIsListD (K : PySem.W.Frag) : Sp := fun vs H Q _ => ∃ (v : V) (d : PyData), vs = [v] ∧ Dq K H v d ∧ nodes d ≤ 1000 ∧ ∀ H', Same H H' → Q (.bl (intsB d)) H'
theorem scIsListD : FnScope ["items", "item"] ["items"] (defScope sIsList) := ⟨rfl, rfl, rfl, by decide +kernel, rfl, by decide +kernel, by decide +kernel⟩
section
variable {P : Program} {w : World} {K : PySem.W.Frag} {mg : Str → Option Value} {base : Heap}
theorem ok_isListD {f fI : Addr} {fd dI : FuncData} (F : Fun K "_is_list_of_ints" "_is_list_of_ints" sIsList f fd) (T : Txt mg) (gI : mg "is_int" = some (.ref fI)) (kI : PySem.W.keepIn K (.ref fI) = true) (bI : Binds K dI ["thing"] []) (GI : FnOk P w K mg base CX0 1 fI dI ["thing"] (spIsInt K)) :
    FnOk P w K mg base CX0 2 f fd ["items"] (spIsListD K) := by
  refine F.ok scIsListD (fun vs H Q E h => ?_) (fun cdv A outer s H vs Q E hr h => ?_)
  · obtain ⟨v, d, rfl, _⟩ := h
    rfl
  · obtain ⟨v, d, rfl, dq, few, k⟩ := h
    refine ⟨_, pss_one (ps_ret (pe_and (pe_callB call_isi (by rfl) T.isinstance (by decide +kernel) (pa_cons (pv 0) (pa_cons (pe_bltn (v := .ty "list") (by rfl) T.list (by decide +kernel) rfl) pa_nil)))
      (pe_one (pe_callB (cr_all rfl) (by rfl) T.all (by decide +kernel) (pa_cons (pe_lc (own := [("item", 1)]) (g := gName 1) (tt := tYes) (te := tCall (spIsInt K) [] E0 (tCons (tVar 1) tNil)) rfl scIsListD.nd (pi_list (pv 0)) (blkOk_by (N := ["items", "item"]) (sc := defScope sIsList) (by decide +kernel))
          (fun _ _ _ _ _ => pg_name (i := 1) scIsListD.nd rfl (Or.inl rfl)) (fun _ _ _ _ _ => pts_nil) (fun _ _ _ _ _ => pe_call GI hr rfl gI kI bI .nil pass0 (pa_cons (pv 1) pa_nil))) pa_nil))))), ?_⟩
    rcases kit_lstB dq with ⟨q, xs, ds, rfl, rfl, hT, hd, ek⟩ | ⟨nr, ek⟩
    case inr =>
      refine ⟨_, rfl, v, .ty "list", _, .type "list", _, rfl, .ty _, dq_ty dq, ek, _, rfl, ite_false_of rfl ?_⟩
      have := k H (Same.refl _)
      rw [nr] at this
      exact this
    refine ⟨_, rfl, _, .ty "list", _, .type "list", _, rfl, .ty _, dq_ty dq, ek, _, rfl, ite_true_of rfl ?_⟩
    have fewd : ds.length ≤ 1000 := by
      have h1 := nodes_len ds
      have h2 : 1 + nodesAll ds ≤ 1000 := few
      omega
    refine ⟨_, rfl, q, rfl, ⟨_, hT⟩, fun D hD => bools_lcl (f := intD) 1 hT hd fewd hD (fun _ => rfl) (fun x e G Q1 _ s1 hq q1 => ?_) (fun H1 s1 e1 => ?_)⟩
    · exact ⟨_, rfl, isInt_d (E := E0) hq (q1 _ (Same.refl _))⟩
    refine ⟨D, _, rfl, SqL.of e1, ?_⟩
    have := k H1 s1
    rw [show (ds.map intD).all id = ds.all intD from by rw [List.all_map]; rfl]
    exact this
end
end Lw

set_option autoImplicit true
set_option Elab.async false
set_option linter.all false
set_option maxRecDepth 100000
set_option maxHeartbeats 4000000
/-! k02: shows_merge of any data. -/
namespace Lw
open PySem L2 Two Pr Rp
noncomputable def ordB (ls : List (List Int)) (th : PyData) : Bool := @decide (∃ n, (∀ r ∈ (Mg.st ls n).2, r = []) ∧ th = intsD (Mg.st ls n).1) (Classical.propDecidable _)
theorem ordB_iff {ls : List (List Int)} {th : PyData} : ordB ls th = true ↔ ∃ n, (∀ r ∈ (Mg.st ls n).2, r = []) ∧ th = intsD (Mg.st ls n).1 := by
  unfold ordB
  exact @decide_eq_true_iff _ (Classical.propDecidable _)
noncomputable def right2 (ls : List (List Int)) : PyData → PyData → Bool
  | .str w, th => if w = "order" then ordB ls th else if w = "ring" then ringD ls th else false
  | _, _ => false
noncomputable def right1 (ls : List (List Int)) : List PyData → Bool
  | [a, b] => right2 ls a b
  | _ => false
noncomputable def rightD (ls : List (List Int)) : PyData → Bool
  | .tuple ds => right1 ls ds
  | _ => false
theorem right_len {ls : List (List Int)} {ds : List PyData} (h : ds.length ≠ 2) : right1 ls ds = false := by
  match ds, h with
  | [], _ => rfl
  | [_], _ => rfl
  | [_, _], h => exact absurd rfl h
  | _ :: _ :: _ :: _, _ => rfl
theorem ints_of {th : PyData} (h : intsB th = true) : ∃ l : List Int, th = intsD l := by
  cases th with
  | list ds =>
    have h1 : ds.all intD = true := h
    have key : ∀ ds : List PyData, ds.all intD = true → ∃ l : List Int, ds = l.map PyData.int := by
      intro ds
      induction ds with
      | nil => exact fun _ => ⟨[], rfl⟩
      | cons d ds ih =>
        intro h
        rw [List.all_cons, Bool.and_eq_true] at h
        obtain ⟨l, e⟩ := ih h.2
        have h2 := h.1
        cases d with
        | int i => exact ⟨i :: l, by rw [e]; rfl⟩
        | _ => cases h2
    obtain ⟨l, e⟩ := key ds h1
    exact ⟨l, by rw [e]; rfl⟩
  | _ => cases h
theorem ints_intsB (l : List Int) : intsB (intsD l) = true := by
  show (l.map PyData.int).all intD = true
  rw [List.all_eq_true]
  intro d hd
  obtain ⟨i, _, rfl⟩ := List.mem_map.mp hd
  rfl
theorem eqv_intsAll : ∀ a b : List Int, PyData.eqvAll (a.map PyData.int) (b.map PyData.int) = decide (a = b)
  | [], [] => rfl
  | [], _ :: _ => rfl
  | _ :: _, [] => rfl
  | x :: a, y :: b => by
    show ((x == y) && PyData.eqvAll (a.map PyData.int) (b.map PyData.int)) = _
    rw [eqv_intsAll a b, Bool.eq_iff_iff]
    simp
theorem eqv_pairO (a b : List Int) : PyData.eqv (pairD "order" a) (pairD "order" b) = decide (a = b) := by
  show (("order" : Str) == "order" && (PyData.eqvAll (a.map PyData.int) (b.map PyData.int) && true)) = _
  rw [eqv_intsAll, beq_self_eq_true, Bool.and_true, Bool.true_and]
theorem links_lay : ∀ us : List (Int × Nat), PyData.canLayAll0 (us.map lnkD) = true ∧ PyData.depthAll (us.map lnkD) ≤ 1
  | [] => ⟨rfl, Nat.zero_le _⟩
  | u :: us => by
    obtain ⟨a, b⟩ := links_lay us
    refine ⟨?_, ?_⟩
    · show (true && PyData.canLayAll0 (us.map lnkD)) = true
      rw [a]
      rfl
    · show max 1 (PyData.depthAll (us.map lnkD)) ≤ 1
      omega
def ringP (us : List (Int × Nat)) : PyData := .tuple [.str "ring", .list (us.map lnkD)]
theorem shaped_ringP (us : List (Int × Nat)) : SeqAt.shaped (ringP us) = true := by
  obtain ⟨a, b⟩ := links_lay us
  unfold SeqAt.shaped
  have h1 : (ringP us).canLay0 = true := by
    show (PyData.canLay0 (.str "ring") && (PyData.canLayAll0 (us.map lnkD) && true)) = true
    rw [a, show PyData.canLay0 (.str "ring") = true from by decide +kernel]
    rfl
  have h2 : (ringP us).depth ≤ 64 := by
    show max 0 (max (PyData.depthAll (us.map lnkD) + 1) 0) + 1 ≤ 64
    omega
  rw [h1, decide_eq_true h2]
  rfl
theorem tups_dp {K : PySem.W.Frag} {H : Hp} : ∀ {us : List (Addr × Int × Nat)}, TupsAt H us → DpAll K H (tupRefs us) ((us.map (·.2)).map lnkD)
  | [], _ => .nil
  | u :: us, h => .cons (.tup (SqT.of (h u List.mem_cons_self)) (.cons (.int _) (.cons (.int _) .nil))) (tups_dp fun v hv => h v (List.mem_cons_of_mem _ hv))
end Lw

set_option autoImplicit true
set_option Elab.async false
set_option linter.all false
set_option maxRecDepth 100000
set_option maxHeartbeats 4000000
/-! k02: shows_merge of any data: the def. -/
namespace Lw
open PySem L2 Two Pr Rp
theorem kit_str {K : PySem.W.Frag} {H : Hp} {v : V} {d : PyData} (h : Dq K H v d) : (∃ x, v = .str x ∧ d = .str x ∧ PySem.W.kitOne K (.type (tagT d)) (.type "str") = some true) ∨ ((∀ x, d ≠ .str x) ∧ PySem.W.kitOne K (.type (tagT d)) (.type "str") = some false) := by
  cases h with
  | str x => exact .inl ⟨x, rfl, rfl, show PySem.W.kitOne K (.type "str") (.type "str") = some true from kit_ty (by decide +kernel)⟩
  | non => exact .inr ⟨(fun _ z => nomatch z), show PySem.W.kitOne K (.type "NoneType") (.type "str") = some false from kit_ty (by decide +kernel)⟩
  | bl b => exact .inr ⟨(fun _ z => nomatch z), show PySem.W.kitOne K (.type "bool") (.type "str") = some false from kit_ty (by decide +kernel)⟩
  | int i => exact .inr ⟨(fun _ z => nomatch z), show PySem.W.kitOne K (.type "int") (.type "str") = some false from kit_ty (by decide +kernel)⟩
  | lst _ _ _ => exact .inr ⟨(fun _ z => nomatch z), show PySem.W.kitOne K (.type "list") (.type "str") = some false from kit_ty (by decide +kernel)⟩
  | tup _ _ => exact .inr ⟨(fun _ z => nomatch z), show PySem.W.kitOne K (.type "tuple") (.type "str") = some false from kit_ty (by decide +kernel)⟩
  | dic _ => exact .inr ⟨(fun _ z => nomatch z), show PySem.W.kitOne K (.type "dict") (.type "str") = some false from kit_ty (by decide +kernel)⟩
theorem dq_ints {K : PySem.W.Frag} {H : Hp} {v : V} {l : List Int} (h : Dq K H v (intsD l)) : ∃ q, v = .ref q ∧ SqL K H q (l.map V.int) := by
  have key : ∀ (l : List Int) (xs : List V), DqAll K H xs (l.map PyData.int) → xs = l.map V.int := by
    intro l
    induction l with
    | nil => intro xs h; cases h; rfl
    | cons i l ih =>
      intro xs h
      cases h with
      | cons a b =>
        cases a
        rw [ih _ b]
        rfl
  cases h with
  | @lst q xs _ h _ b =>
    refine ⟨_, rfl, ?_⟩
    rw [← key l _ b]
    exact h
def spShowsD (K : PySem.W.Frag) : Sp := fun vs H Q _ => ∃ (a : Addr) (v : V) (d : PyData) (ps : List (Addr × List Int)), vs = [.ref a, v] ∧ LofL K H a ps ∧ Fit ps ∧ Pap K H v d ∧ ∀ H', Same H H' → Q (.bl (rightD (lsOf ps) d)) H'
theorem scShowsD : FnScope ["lists", "paper", "merged", "word", "thing"] ["lists", "paper"] (defScope sShows) := ⟨rfl, rfl, rfl, by decide +kernel, rfl, by decide +kernel, by decide +kernel⟩
section
variable {P : Program} {w : World} {K : PySem.W.Frag} {mg : Str → Option Value} {base : Heap}
theorem ok_showsD {f fM fL fR : Addr} {fd fdM fdL fdR : FuncData} (F : Fun K "shows_merge" "shows_merge" sShows f fd) (T : Txt mg)
    (gM : mg "merge" = some (.ref fM)) (kM : PySem.W.keepIn K (.ref fM) = true) (bM : Binds K fdM ["lists"] []) (GM : FnOk P w K mg base CX0 4 fM fdM ["lists"] (spMerge K))
    (gL : mg "_is_list_of_ints" = some (.ref fL)) (kL : PySem.W.keepIn K (.ref fL) = true) (bL : Binds K fdL ["items"] []) (GL : FnOk P w K mg base CX0 2 fL fdL ["items"] (spIsListD K))
    (gR : mg "is_ring" = some (.ref fR)) (kR : PySem.W.keepIn K (.ref fR) = true) (bR : Binds K fdR ["lists", "ring"] []) (GR : FnOk P w K mg base CX0 3 fR fdR ["lists", "ring"] (spRing K)) :
    FnOk P w K mg base CX0 5 f fd ["lists", "paper"] (spShowsD K) := by
  refine F.ok scShowsD (fun vs H Q E h => ?_) (fun cdv A outer s H vs Q E hr h => ?_)
  · obtain ⟨a, v, d, ps, rfl, _⟩ := h
    rfl
  · obtain ⟨a, v, d, ps, rfl, hL, fit, hP, k⟩ := h
    refine ⟨_, pss_cons (ps_set (i := 2) scShowsD.nd rfl (Or.inl rfl) (pe_call GM hr rfl gM kM bM .nil pass0 (pa_cons (pv 0) pa_nil)))
      (pss_cons (ps_if (PW.pt (pw_or (pt_not (pt_val (pe_callB call_isi (by rfl) T.isinstance (by decide +kernel) (pa_cons (pv 1) (pa_cons (pe_bltn (v := .ty "tuple") (by rfl) T.tuple (by decide +kernel) rfl) pa_nil)))))
        (pw_or1 (pt_cmpR op_ne (pe_callB call_len_seq (by rfl) T.len PySem.boot_len (pa_cons (pv 1) pa_nil)) pe_int (nomark _))))) (pss_one (ps_ret pe_bl)) pss_nil)
      (pss_cons (ps_asg (pv 1) (pg_tup rfl (pgs_cons (pg_name (i := 3) scShowsD.nd rfl (Or.inl rfl)) (pgs_cons (pg_name (i := 4) scShowsD.nd rfl (Or.inl rfl)) pgs_nil))))
      (pss_cons (ps_if (pt_not (pt_val (pe_callB call_isi (by rfl) T.isinstance (by decide +kernel) (pa_cons (pv 3) (pa_cons (pe_bltn (v := .ty "str") (by rfl) T.str (by decide +kernel) rfl) pa_nil))))) (pss_one (ps_ret pe_bl)) pss_nil)
      (pss_cons (ps_if (pt_cmpR op_eq (pv 3) pe_str (nomark _)) (pss_one (ps_ret (pe_and (pe_call GL (hr.mono (by decide)) rfl gL kL bL .nil pass0 (pa_cons (pv 4) pa_nil))
          (pe_one (pe_cmpR (op_eqD hr.units) (pv 2) (pe_tup (pa_cons pe_str (pa_cons (pv 4) pa_nil))) (nomark _)))))) pss_nil)
      (pss_one (ps_ret (pe_and (pe_cmpR op_eq (pv 3) pe_str (nomark _)) (pe_one (pe_call GR (hr.mono (by decide)) rfl gR kR bR .nil pass0 (pa_cons (pv 0) (pa_cons (pv 4) pa_nil))))))))))), ?_⟩
    refine ⟨_, rfl, a, ps, rfl, hL, fit, fun w1 H1 s1 out => ?_⟩
    have no : ∀ G, Same H G → rightD (lsOf ps) d = false → Q (.bl false) G := fun G s e => by have := k G s; rw [e] at this; exact this
    obtain ⟨dq, fine, few, dp⟩ := hP.keep s1
    dsimp only [gName]
    refine ⟨_, rfl, v, .ty "tuple", _, .type "tuple", _, rfl, .ty _, dq_ty dq, kit_tup d, _, rfl, ?_⟩
    cases dq with
    | non => exact ite_true_of rfl (no _ s1 rfl)
    | bl b => exact ite_true_of rfl (no _ s1 rfl)
    | int i => exact ite_true_of rfl (no _ s1 rfl)
    | str x => exact ite_true_of rfl (no _ s1 rfl)
    | lst _ _ _ => exact ite_true_of rfl (no _ s1 rfl)
    | dic _ => exact ite_true_of rfl (no _ s1 rfl)
    | @tup t xs ds hT hd =>
      refine ite_false_of rfl ?_
      have ll := hd.len
      refine ⟨_, rfl, t, xs, rfl, .inr hT, rfl, _, rfl, ?_⟩
      by_cases c3 : xs.length = 2
      case neg =>
        have e3 : (!decide (V.int ((xs.length : Nat) : Int) = V.int 2)) = true := by
          rw [Bool.not_eq_true', decide_eq_false_iff_not]
          intro z
          have := V.int.inj z
          omega
        exact ite_true_of e3 (no _ s1 (right_len (by omega)))
      have e3 : (!decide (V.int ((xs.length : Nat) : Int) = V.int 2)) = false := by rw [c3]; rfl
      refine ite_false_of e3 ?_
      obtain ⟨x1, x2, d1, d2, exs, eds, h1, h2⟩ := dq_two hd c3
      subst exs eds
      refine ⟨_, rfl, t, _, rfl, hT, rfl, _, _, rfl, _, _, rfl, rfl, ?_⟩
      dsimp only [gName]
      have n2 : nodes d2 ≤ 1000 := by
        have : 1 + (nodes d1 + (nodes d2 + 0)) ≤ 1000 := few
        omega
      have f2 : fineD d2 = true := by
        unfold fineD at fine
        exact (fine_cons (fine_cons fine).2).1
      have p2 : d2.depth ≤ 20 := by
        have : max d1.depth (max d2.depth 0) + 1 ≤ 20 := dp
        omega
      rcases kit_str h1 with ⟨x, rfl, rfl, ek⟩ | ⟨ns, ek⟩
      case inr =>
        refine ⟨_, rfl, x1, .ty "str", _, .type "str", _, rfl, .ty _, dq_ty h1, ek, _, rfl, ite_true_of rfl (no _ s1 ?_)⟩
        show right2 (lsOf ps) d1 d2 = false
        cases d1 <;> first | rfl | exact absurd rfl (ns _)
      refine ⟨_, rfl, _, .ty "str", _, .type "str", _, rfl, .ty _, dq_ty h1, ek, _, rfl, ite_false_of rfl ?_⟩
      have eR : rightD (lsOf ps) (.tuple [.str x, d2]) = if x = "order" then ordB (lsOf ps) d2 else if x = "ring" then ringD (lsOf ps) d2 else false := rfl
      rw [eR] at k no
      refine ⟨_, rfl, rfl, _, rfl, ?_⟩
      by_cases cO : x = "order"
      · subst cO
        rw [if_pos rfl] at k no
        refine ite_true_of (decide_eq_true rfl) ?_
        refine ⟨_, rfl, x2, d2, rfl, h2, n2, fun H2 s2 => ⟨_, rfl, ?_⟩⟩
        cases ci : intsB d2 with
        | false =>
          refine ite_false_of rfl (no _ (s1.trans s2) ?_)
          rw [Bool.eq_false_iff]
          intro z
          obtain ⟨n, _, e⟩ := ordB_iff.mp z
          rw [e, ints_intsB] at ci
          cases ci
        | true =>
          refine ite_true_of rfl ?_
          obtain ⟨l, rfl⟩ := ints_of ci
          obtain ⟨t2, q2, rfl, _, _, r2⟩ := out
          refine ⟨_, rfl, _, rfl, by show 2 ≤ sizeLine; decide, fun p hp => ?_⟩
          have s3 : Same H2 (upd H2 p (.tup [.str "order", x2])) := same_new hp
          have ep : (upd H2 p (.tup [.str "order", x2])) p = some (.tup [.str "order", x2]) := upd_same
          generalize (upd H2 p (.tup [.str "order", x2])) = G at s3 ep ⊢
          obtain ⟨q, rfl, hq⟩ := dq_ints ((h2.keep s2).keep s3)
          have s13 := s2.trans s3
          rcases r2 with ⟨n, emp, e1, e2⟩ | ⟨n, us, ff, ⟨r1, hr1, ne⟩, e1, e2, e3, _⟩
          · refine ⟨pairD "order" (Mg.st (lsOf ps) n).1, pairD "order" l, dp_pair (s13 _ _ e1) (SqL.of (s13 _ _ e2)), dp_pair ep hq, shaped_pair (by decide +kernel) _, shaped_pair (by decide +kernel) _, ?_⟩
            rw [eqv_pairO]
            have kk := k _ (s1.trans s13)
            have e4 : ordB (lsOf ps) (intsD l) = decide ((Mg.st (lsOf ps) n).1 = l) := by
              rw [Bool.eq_iff_iff, ordB_iff, decide_eq_true_iff]
              constructor
              · rintro ⟨m, em, e⟩
                rw [Mg.final_unique (Mg.firstFree_of_empty emp) (Mg.firstFree_of_empty em)]
                have := PyData.list.inj e
                exact (List.map_inj_right (fun _ _ h => PyData.int.inj h)).mp this.symm
              · intro e
                exact ⟨n, emp, by rw [e]⟩
            rw [e4] at kk
            exact kk
          · refine ⟨ringP (us.map (·.2)), pairD "order" l, .tup (SqT.of (s13 _ _ e1)) (.cons (.str _) (.cons (.lst (SqL.of (s13 _ _ e2)) (tups_dp fun u hu => s13 _ _ (e3 u hu))) .nil)), dp_pair ep hq, shaped_ringP _, shaped_pair (by decide +kernel) _, ?_⟩
            have e5 : PyData.eqv (ringP (us.map (·.2))) (pairD "order" l) = false := by
              show (("ring" : Str) == "order" && PyData.eqvAll [.list ((us.map (·.2)).map lnkD)] [intsD l]) = false
              rw [show (("ring" : Str) == "order") = false from by decide +kernel]
              rfl
            rw [e5]
            refine no _ (s1.trans s13) ?_
            rw [Bool.eq_false_iff]
            intro z
            obtain ⟨m, em, _⟩ := ordB_iff.mp z
            have e6 := Mg.final_unique ff (Mg.firstFree_of_empty em)
            rw [e6] at hr1
            exact ne (em r1 hr1)
      · rw [if_neg cO] at k no
        refine ite_false_of (decide_eq_false fun z => cO (V.str.inj z)) ?_
        refine ⟨_, rfl, rfl, _, rfl, ?_⟩
        by_cases cR : x = "ring"
        · subst cR
          rw [if_pos rfl] at k
          refine ite_true_of (decide_eq_true rfl) ?_
          exact ⟨_, rfl, _, rfl, a, x2, d2, ps, rfl, hL.keep s1, by have := fit.few; omega, ⟨h2, f2, n2, p2⟩, fun H2 s2 => k _ (s1.trans s2)⟩
        · rw [if_neg cR] at no
          exact ite_false_of (decide_eq_false fun z => cR (V.str.inj z)) (no _ s1 rfl)
end
end Lw

set_option autoImplicit true
set_option Elab.async false
set_option linter.all false
set_option maxRecDepth 100000
set_option maxHeartbeats 4000000
/-! k02: _law_round. -/
namespace Lw
open PySem L2 Two Pr Rp
theorem src_lst {H : Hp} {l : Addr} {n : Nat} (s : Src H l n) : ∃ xl, H l = some (.lst xl) := let ⟨_, _, _, e, _⟩ := s; ⟨_, e⟩
abbrev natV (n : Nat) : V := .int (n : Nat)
def intsN (ns : List Nat) : List Int := ns.map fun n => ((n : Nat) : Int)
theorem natsV_ints (ns : List Nat) : ns.map natV = (intsN ns).map V.int := by unfold intsN; rw [List.map_map]; rfl
abbrev Lnk := Addr × Int × Int
/-- p is a list of those pairs -/
def RingP (H : Hp) (p : Addr) (us : List Lnk) : Prop := H p = some (.lst (us.map fun u => V.ref u.1)) ∧ ∀ u ∈ us, H u.1 = some (.tup [.int u.2.1, .int u.2.2])
def SmallR (us : List Lnk) (n : Nat) : Prop := us.length ≤ n ∧ ∀ u ∈ us, Big u.2.1 ∧ -1000 ≤ u.2.2 ∧ u.2.2 ≤ 1000
theorem cut_last (xs : List V) : cutV xs none (some (-1)) = xs.dropLast := by
  unfold cutV
  have e : HT.sIx xs.length xs.length (some (-1)) = xs.length - 1 := by
    have e2 : HT.sIx xs.length xs.length (some (-1)) = ((-1 : Int) + (xs.length : Int)).toNat := by
      show (if (-1 : Int) < 0 then ((-1 : Int) + (xs.length : Int)).toNat else min (-1 : Int).toNat xs.length) = _
      rw [if_pos (by decide)]
    omega
  rw [e, HT.sIx_none, List.dropLast_eq_take]
  simp
theorem in_last {l : List Int} {x : Int} (h : x ∈ l.dropLast) : ∃ u v, l = u ++ x :: v ∧ x ∉ u ∧ v ≠ [] := by
  obtain ⟨u, v, e, hu⟩ := split_first ((List.dropLast_sublist l).subset h)
  refine ⟨u, v, e, hu, fun z => ?_⟩
  subst z
  rw [e, List.dropLast_concat] at h
  exact hu h
abbrev sRound : Stmt := top 34
abbrev nRound : List Str := ["_law_source_here", "_law_lists_here", "_law_item", "_law_found", "_law_k", "_law_places", "_law_at", "_law_known", "_law_one", "_law_link", "_law_items_here"]
theorem scRound : FnScope nRound ["_law_source_here", "_law_lists_here"] (defScope sRound) := ⟨rfl, rfl, rfl, by decide +kernel, rfl, by decide +kernel, by decide +kernel⟩
def spRound (K : PySem.W.Frag) : Sp := fun vs H Q _ => ∃ (l a : Addr) (k9 : Nat) (ps : List (Addr × List Int)), vs = [.ref l, .ref a] ∧ Src H l k9 ∧ k9 ≤ 900000 ∧ H a = some (.lst (refsOf ps)) ∧ (∀ p ∈ ps, H p.1 = some (.lst (p.2.map V.int))) ∧ a ≠ l ∧ (∀ p ∈ ps, p.1 ≠ l) ∧ ps.length ≤ 6 ∧ (∀ p ∈ ps, p.2.length ≤ 30 ∧ ∀ x ∈ p.2, Big x) ∧
  ∀ (H' : Hp) (p : Addr) (us : List Lnk), But (· = l) H H' → Src H' l (k9 + 17) → H p = none → RingP H' p us → SmallR us 8 → Q (.ref p) H'
theorem sum_lists {j : Nat} {σ : L2.St} {H : Hp} {Q : VK} {a : Addr} {ps : List (Addr × List Int)} (ei : σ[j]? = some (some (.ref a))) (eA : H a = some (.lst (refsOf ps))) (ePs : ∀ p ∈ ps, H p.1 = some (.lst (p.2.map V.int))) (few : ((ps.map (·.2)).flatten).length ≤ sizeLine)
    (k : ∀ (T : Addr) (G : Hp), Same H G → H T = none → G T = some (.lst (((ps.map (·.2)).flatten).map V.int)) → Q (.ref T) G) : tCB rSumL (tCons (tVar j) (tCons (tLst tNil) tNil)) σ H Q := by
  have hps : (ps.map fun p => (p.1, p.2.map V.int)).map (fun p : Addr × List V => V.ref p.1) = refsOf ps := by rw [List.map_map]; rfl
  have ec : catL (ps.map fun p => (p.1, p.2.map V.int)) = ((ps.map (·.2)).flatten).map V.int := by
    unfold catL
    rw [List.map_flatten, List.map_map, List.map_map]
    rfl
  refine ⟨_, ei, Nat.zero_le _, fun z nz => ⟨a, z, ps.map fun p => (p.1, p.2.map V.int), rfl, by rw [hps]; exact app eA nz, upd_same, fun p hp => ?_, by rw [ec, List.length_map]; exact few, fun e => k z _ (same_new nz) nz ?_, fun ne c nc => ?_⟩⟩
  · obtain ⟨p0, hp0, rfl⟩ := List.mem_map.mp hp
    exact app (ePs p0 hp0) nz
  · rw [upd_same, List.map_eq_nil_iff.mp e]
    rfl
  · rw [ec]
    exact k c _ (ad (same_new nz) nc) (none_of_same (same_new nz) nc) upd_same
abbrev tPlaceT (K : PySem.W.Frag) : TT := tTest (tOp (rIn K false) (tVar 2) (tSl (rSlL K) (tOp (rIxL K) (tVar 1) (tVar 6)) tNoPart (tPart (tUn (rU fun i => .int (-i)) (tC (.int 1))))))
section
variable {P : Program} {w : World} {K : PySem.W.Frag} {mg : Str → Option Value} {base : Heap}
theorem ok_round {f fP : Addr} {fd dP : FuncData} (F : Fun K "_law_round" "_law_round" sRound f fd) (T : Txt mg) (nS : mg "sum" = none)
    (gP : mg "_law_pick" = some (.ref fP)) (kP : PySem.W.keepIn K (.ref fP) = true) (bP : Binds K dP ["_law_source_here", "_law_items_here"] []) (GP : FnOk P w K mg base CX0 2 fP dP ["_law_source_here", "_law_items_here"] (spPick K)) :
    FnOk P w K mg base CX0 3 f fd ["_law_source_here", "_law_lists_here"] (spRound K) := by
  refine F.ok scRound (fun vs H Q E h => ?_) (fun cdv A outer s H vs Q E hr h => ?_)
  · obtain ⟨l, a, k9, ps, rfl, _⟩ := h
    rfl
  · obtain ⟨l, a, k9, ps, rfl, src, hk9, eA, ePs, nal, npl, l6, small, k⟩ := h
    have hr2 : Room 2 _ := hr.mono (by decide)
    refine ⟨_, pss_cons (ps_set (i := 10) scRound.nd rfl (Or.inl rfl) (pe_callB (cr_sumL rfl) (by rfl) nS (by decide +kernel) (pa_cons (pv 1) (pa_cons (pe_lst pa_nil) pa_nil))))
      (pss_cons (ps_set (i := 3) scRound.nd rfl (Or.inl rfl) (pe_lst pa_nil))
      (pss_cons (ps_if (pt_cmpR (op_eqD hr.units) (pv 10) (pe_lst pa_nil) (nomark _)) (pss_one (ps_ret (pv 3))) pss_nil)
      (pss_cons (ps_set (i := 2) scRound.nd rfl (Or.inr rfl) (pe_call GP hr rfl gP kP bP .nil pass0 (pa_cons (pv 0) (pa_cons (pv 10) pa_nil))))
      (pss_cons (ps_for PassesOwn.never rfl (pi_range1 rfl T.range (pa_cons pe_int pa_nil)) (pg_name (i := 4) scRound.nd rfl (Or.inl rfl))
        (pss_cons (ps_setLc (i := 5) (own := [("_law_at", 6)]) (g := gName 6) (tt := tPlaceT K) (te := tVar 6) rfl scRound.nd rfl rfl (sw_true rfl rfl rfl (by decide +kernel)) (pi_range1 rfl T.range (pa_cons (pe_callB call_len_seq (by rfl) T.len PySem.boot_len (pa_cons (pv 1) pa_nil)) pa_nil)) (blkOk_by (N := nRound) (sc := defScope sRound) (by decide +kernel))
            (fun _ _ _ _ _ => pg_name (i := 6) scRound.nd rfl (Or.inl rfl)) (fun _ _ _ _ _ => pts_one (pt_cmpR op_in_seq (pv 2) (pe_slice sl_list (pe_ix ix_list (pv 1) (pv 6) (fun _ _ => rfl)) po_none (po_some (pe_un un_neg pe_int))) (by rfl))) (fun _ _ _ _ _ => pv 6))
        (pss_cons (ps_if (pt_cmpR (op_eqD hr.units) (pv 5) (pe_lst pa_nil) (nomark _)) (pss_one (ps_ret (pv 3))) pss_nil)
        (pss_cons (ps_set (i := 6) scRound.nd rfl (Or.inl rfl) (pe_call GP hr rfl gP kP bP .nil pass0 (pa_cons (pv 0) (pa_cons (pv 5) pa_nil))))
        (pss_cons (ps_setLc (i := 7) (own := [("_law_link", 9)]) (g := gName 9) (tt := tYes) (te := tItem0 K 9) rfl scRound.nd rfl rfl (sw_true rfl rfl rfl (by decide +kernel)) (pi_list (pv 3)) (blkOk_by (N := nRound) (sc := defScope sRound) (by decide +kernel))
            (fun _ _ _ _ _ => pg_name (i := 9) scRound.nd rfl (Or.inl rfl)) (fun _ _ _ _ _ => pts_nil) (fun _ _ _ _ _ => pe_ix ix_tup (pv 9) pe_int (fun _ _ => rfl)))
        (pss_cons (ps_if (pt_cmpR op_in_seq (pv 2) (pv 7) (by rfl)) (pss_one (ps_ret (pe_slice sl_list (pv 3) (po_some (pe_bm PySem.F.plainAttrs_list PySem.F.slot_list_index PySem.F.type_list_index mt_index (pv 7) (pa_cons (pv 2) pa_nil))) po_none))) pss_nil)
        (pss_cons (ps_expr (pe_bm PySem.F.plainAttrs_list PySem.F.slot_list_append PySem.F.type_list_append mt_append (pv 3) (pa_cons (pe_tup (pa_cons (pv 2) (pa_cons (pv 6) pa_nil))) pa_nil)))
        (pss_cons (ps_set (i := 8) scRound.nd rfl (Or.inl rfl) (pe_ix ix_list (pv 1) (pv 6) (fun _ _ => rfl)))
        (pss_one (ps_set (i := 2) scRound.nd rfl (Or.inr rfl) (pe_call GP hr rfl gP kP bP .nil pass0 (pa_cons (pv 0) (pa_cons (pe_slice sl_list (pv 8) (po_some (pe_op op_add (pe_bm PySem.F.plainAttrs_list PySem.F.slot_list_index PySem.F.type_list_index mt_index (pv 8) (pa_cons (pv 2) pa_nil)) pe_int)) po_none) pa_nil)))))))))))))
      (pss_one (ps_ret (pv 3))))))), ?_⟩
    have hps : (ps.map fun p => (p.1, p.2.map V.int)).map (fun p : Addr × List V => V.ref p.1) = refsOf ps := by rw [List.map_map]; rfl
    have rl : (refsOf ps).length = ps.length := List.length_map _
    have fl : ((ps.map (·.2)).flatten).length ≤ 180 := by
      have := flat_len (B := 30) ps fun p hp => (small p hp).1
      omega
    have bigs : ∀ x ∈ (ps.map (·.2)).flatten, Big x := fun x hx => by
      obtain ⟨ys, hys, hx⟩ := List.mem_flatten.mp hx
      obtain ⟨p, hp, rfl⟩ := List.mem_map.mp hys
      exact (small p hp).2 x hx
    refine sum_lists rfl eA ePs (Nat.le_trans fl (by decide)) fun T G0 s0 nT eT => ?_
    have Tl : T ≠ l := src_none src nT
    dsimp only [gName]
    refine ⟨Nat.zero_le _, fun p np => ?_⟩
    have np0 : H p = none := none_of_same s0 np
    have sp : Same H (upd G0 p (.lst [])) := ad s0 np
    have eTp := app eT (o := .lst []) np
    have ep : (upd G0 p (.lst [])) p = some (.lst []) := upd_same
    generalize (upd G0 p (.lst [])) = G00 at sp eTp ep ⊢
    dsimp only [gName]
    refine ⟨_, rfl, Nat.zero_le _, fun z nz => ⟨intsD ((ps.map (·.2)).flatten), .list [], dp_list (SqL.of (app eTp nz)), dp_nil upd_same, shaped_ints _, shaped_nil, _, rfl, ?_⟩⟩
    rw [eqv_nil]
    have sz : Same G00 (upd G00 z (.lst [])) := same_new nz
    generalize (upd G00 z (.lst [])) = G01 at sz ⊢
    have s01 := sp.trans sz
    by_cases hN : (ps.map (·.2)).flatten = []
    · exact ite_true_of (by rw [hN]; rfl) ⟨_, rfl, k G01 p [] (but_same s01) ((src.keep s01).more (by omega)) np0 ⟨sz _ _ ep, fun _ h => nomatch h⟩ ⟨Nat.zero_le _, fun _ h => nomatch h⟩⟩
    refine ite_false_of (by cases h : (ps.map (·.2)).flatten with | nil => exact absurd h hN | cons _ _ => rfl) ?_
    refine ⟨_, rfl, _, rfl, l, T, k9, _, rfl, src.keep s01, by omega, SqL.of (sz _ _ eTp), Tl, fun z0 => hN (List.map_eq_nil_iff.mp z0), by rw [List.length_map]; omega, fun G1 v b1 s1 hv => ?_⟩
    obtain ⟨x0, hx0, rfl⟩ := List.mem_map.mp hv
    have bx0 := bigs x0 hx0
    have bt1 : But (· = l) H G1 := fun b o nb e => b1 b o nb (s01 _ _ e)
    have ep1 := b1 _ _ (src_none src np0) (sz _ _ ep)
    clear hv hx0 sz s01 ep eTp sp nz np eT
    dsimp only [gName]
    refine ⟨_, rfl, by decide, by decide, for_range (lo := 0) (n := 8) (fun j σ G => ∃ (x : Int) (us : List Lnk) (w4 w5 w6 w7 w8 : Option V), σ = [some (.ref l), some (.ref a), some (.int x), some (.ref p), w4, w5, w6, w7, w8, none, some (.ref T)] ∧ But (· = l) H G ∧ Src G l (k9 + 1 + 2 * j) ∧ RingP G p us ∧ us.length = j ∧ SmallR us 8 ∧ Big x)
      ⟨x0, [], _, _, _, _, _, rfl, bt1, s1.more (by omega), ⟨ep1, fun _ h => nomatch h⟩, rfl, ⟨Nat.zero_le _, fun _ h => nomatch h⟩, bx0⟩ ?_ ?_⟩
    · rintro j σ G hj ⟨x, us, w4, w5, w6, w7, w8, rfl, bt, sj, ring, lus, sm, bx⟩
      clear b1 s1 bt1 bx0
      have eAj := bt _ _ nal eA
      have ePj : ∀ q ∈ ps, G q.1 = some (.lst (q.2.map V.int)) := fun q hq => bt _ _ (npl q hq) (ePs q hq)
      have kt : ∀ (p1 : Addr) (us1 : List Lnk) (G1 : Hp), But (· = l) H G1 → Src G1 l (k9 + 17) → H p1 = none → RingP G1 p1 us1 → SmallR us1 8 → Q (.ref p1) G1 := fun p1 us1 G1 h1 h2 h3 h4 h5 => k G1 p1 us1 h1 h2 h3 h4 h5
      obtain ⟨L, hL⟩ : ∃ L : Nat → List Int, ∀ i q, ps[i]? = some q → L i = q.2 := ⟨fun i => ((ps[i]?).map (·.2)).getD [], fun i q h => by show ((ps[i]?).map (·.2)).getD [] = q.2; rw [h]; rfl⟩
      dsimp only [gName]
      refine ⟨_, rfl, a, _, rfl, .inl (SqL.of eAj), _, rfl, by omega, by omega, fun D nD => lc_it (walk_range (lo := 0) (n := (((refsOf ps).length : Nat) : Int).toNat)) (fun i G' => Same G G' ∧ G' D = some (.lst (((List.range i).filter fun i => decide (x ∈ (L i).dropLast)).map natV))) ⟨same_new nD, upd_same⟩ (fun _ _ _ _ => trivial) (fun i y G' G2 hi q yy => ?_) (fun G' q => ?_)⟩
      · obtain ⟨s1, eD⟩ := q
        obtain ⟨rfl, rfl⟩ := yy
        have e0 : (0 : Int) + ((i : Nat) : Int) = ((i : Nat) : Int) := Int.zero_add _
        show gName 6 (V.int ((0 : Int) + ((i : Nat) : Int))) _ _ _
        rw [e0]
        have il : i < ps.length := by omega
        obtain ⟨p0, hp0⟩ : ∃ p0, ps[i]? = some p0 := ⟨_, List.getElem?_eq_getElem il⟩
        have rp : (refsOf ps)[i]? = some (V.ref p0.1) := by rw [List.getElem?_map, hp0]; rfl
        refine ⟨rfl, _, rfl, _, rfl, _, rfl, a, _, ((i : Nat) : Int), .ref p0.1, rfl, rfl, SqL.of (s1 _ _ eAj), atI_nat rp, ?_⟩
        refine ⟨_, rfl, _, rfl, p0.1, _, rfl, SqL.of (s1 _ _ (ePj p0 (List.mem_of_getElem? hp0))), fun c nc => ?_⟩
        rw [cut_last] at *
        have dl : (p0.2.map V.int).dropLast = (L i).dropLast.map V.int := by rw [hL i p0 hp0, List.map_dropLast]
        rw [dl]
        refine ⟨c, _, rfl, .inl (SqL.of upd_same), rfl, flat_ints _, _, rfl, ?_⟩
        have ex : inV (.int x) ((L i).dropLast.map V.int) = decide (x ∈ (L i).dropLast) := by rw [inV_ints, Bool.eq_iff_iff, List.contains_iff_mem, decide_eq_true_iff]
        rw [if_neg Bool.false_ne_true, ex]
        have sc : Same G (upd G2 c (.lst ((L i).dropLast.map V.int))) := s1.trans (same_new nc)
        have eDc := app eD (o := .lst ((L i).dropLast.map V.int)) nc
        show if decide (x ∈ (L i).dropLast) = true then _ else _
        by_cases m : x ∈ (L i).dropLast
        · rw [if_pos (decide_eq_true m)]
          refine ⟨_, rfl, _, eDc, ?_, same_upd sc nD, ?_⟩
          · have := List.length_filter_le (fun i => decide (x ∈ (L i).dropLast)) (List.range i)
            rw [List.length_range] at this
            rw [List.length_map]
            exact small1000 (by omega)
          · rw [upd_same, List.range_succ, List.filter_append, List.map_append, List.filter_cons_of_pos (by exact decide_eq_true m)]
            rfl
        · rw [if_neg (by rw [decide_eq_false m]; exact Bool.false_ne_true)]
          refine ⟨sc, ?_⟩
          rw [List.range_succ, List.filter_append, List.filter_cons_of_neg (by rw [decide_eq_false m]; exact Bool.false_ne_true), List.filter_nil, List.append_nil]
          exact eDc
      obtain ⟨s1, eD⟩ := q
      have nDl : D ≠ l := fun z0 => by
        obtain ⟨xl1, el1⟩ := src_lst sj
        rw [z0, el1] at nD
        cases nD
      have tn : (((refsOf ps).length : Nat) : Int).toNat = ps.length := by rw [rl]; exact Int.toNat_natCast _
      rw [tn] at eD
      obtain ⟨ns, ens⟩ : ∃ ns, ns = (List.range ps.length).filter fun i => decide (x ∈ (L i).dropLast) := ⟨_, rfl⟩
      rw [← ens] at eD
      have nsm : ∀ n ∈ ns, n < ps.length ∧ x ∈ (L n).dropLast := fun n hn => by
        rw [ens, List.mem_filter, List.mem_range, decide_eq_true_iff] at hn
        exact hn
      have lns : ns.length ≤ 6 := by
        have := List.length_filter_le (fun i => decide (x ∈ (L i).dropLast)) (List.range ps.length)
        rw [← ens, List.length_range] at this
        omega
      clear ens
      have btA : But (· = l) H G' := fun b o nb e => s1 _ _ (bt b o nb e)
      have sA := sj.keep s1
      have rA : RingP G' p us := ⟨s1 _ _ ring.1, fun u hu => s1 _ _ (ring.2 u hu)⟩
      clear sj ring eAj ePj
      dsimp only [gName]
      refine ⟨_, rfl, Nat.zero_le _, fun z nz => ⟨intsD (intsN ns), .list [], dp_list (SqL.of ((app eD nz).trans (congrArg (fun l => some (HO.lst l)) (natsV_ints ns)))), dp_nil upd_same, shaped_ints _, shaped_nil, _, rfl, ?_⟩⟩
      rw [eqv_nil]
      have sz : Same G' (upd G' z (.lst [])) := same_new nz
      generalize (upd G' z (.lst [])) = G1 at sz ⊢
      have btB : But (· = l) H G1 := fun b o nb e => sz _ _ (btA b o nb e)
      have sB := sA.keep sz
      have rB : RingP G1 p us := ⟨sz _ _ rA.1, fun u hu => sz _ _ (rA.2 u hu)⟩
      have eD1 := sz _ _ eD
      clear btA sA rA eD s1 bt
      cases ns with
      | nil => exact ite_true_of rfl ⟨_, rfl, kt p us G1 btB (sB.more (by omega)) np0 rB sm⟩
      | cons n0 ns =>
      refine ite_false_of rfl ?_
      obtain ⟨xl1, el1⟩ := src_lst sB
      refine ⟨_, rfl, _, rfl, l, D, _, _, rfl, sB, by omega, SqL.of eD1, nDl, fun z0 => (by cases z0), by rw [List.length_map]; exact Nat.le_trans lns (by decide), fun G2 v b2 s2 hv => ?_⟩
      obtain ⟨n, hn, rfl⟩ := List.mem_map.mp hv
      obtain ⟨nl, nx⟩ := nsm n hn
      have bt2 : But (· = l) H G2 := fun b o nb e => b2 b o nb (btB b o nb e)
      have npl2 : p ≠ l := fun z0 => by
        rw [z0, src_lst src |>.choose_spec] at np0
        cases np0
      have r2 : RingP G2 p us := ⟨b2 _ _ npl2 rB.1, fun u hu => b2 _ _ (fun z0 => by
        have := rB.2 u hu
        rw [z0, el1] at this
        cases this) (rB.2 u hu)⟩
      clear btB sB rB eD1 b2 nsm hv hn sz nz
      dsimp only [gName]
      refine ⟨_, rfl, p, rfl, ⟨_, SqL.of r2.1⟩, fun D2 nD2 => lc_list (K := K) (a := p) (xs := us.map fun u => V.ref u.1) (fun i G' => Same G2 G' ∧ G' D2 = some (.lst (((us.take i).map (·.2.1)).map V.int))) ⟨same_new nD2, upd_same⟩ (fun i G' _ q => SqL.of (q.1 _ _ r2.1)) (fun i y G' hy q => ?_) (fun G' q => ?_)⟩
      · obtain ⟨s3, eD2⟩ := q
        obtain ⟨u, hu, rfl⟩ := get_map hy
        refine ⟨rfl, ?_⟩
        dsimp only [tYes]
        rw [if_pos rfl]
        refine ⟨_, rfl, u.1, _, 0, .int u.2.1, rfl, rfl, SqT.of (s3 _ _ (r2.2 u (List.mem_of_getElem? hu))), rfl, _, eD2, ?_, same_upd s3 nD2, ?_⟩
        · rw [List.length_map, List.length_map, List.length_take]
          exact small1000 (by omega)
        · rw [upd_same, take_snoc hu, List.map_append, List.map_append]
          rfl
      obtain ⟨s3, eD2⟩ := q
      rw [List.length_map, List.take_length] at eD2
      have bt3 : But (· = l) H G' := fun b o nb e => s3 _ _ (bt2 b o nb e)
      have sr3 := s2.keep s3
      have r3 : RingP G' p us := ⟨s3 _ _ r2.1, fun u hu => s3 _ _ (r2.2 u hu)⟩
      clear bt2 s2 r2
      dsimp only [gName]
      refine ⟨_, rfl, _, rfl, D2, _, rfl, .inl (SqL.of eD2), rfl, flat_ints _, _, rfl, ?_⟩
      rw [if_neg Bool.false_ne_true, inV_ints]
      show if (us.map (·.2.1)).contains x = true then _ else _
      by_cases m : x ∈ us.map (·.2.1)
      · rw [if_pos (List.contains_iff_mem.mpr m)]
        obtain ⟨u, v, e, nu⟩ := split_first m
        refine ⟨_, rfl, _, rfl, .inl ⟨rfl, _, SqL.of eD2⟩, _, rfl, D2, _, .int x, u.length, .int x, rfl, rfl, SqL.of eD2, rfl, flat_ints _, ?_, beq_self_eq_true x, ?_, ?_⟩
        · rw [List.getElem?_map, e]
          simp
        · intro i z' hm hz
          obtain ⟨z, hz1, rfl⟩ := get_map hz
          rw [e, List.getElem?_append_left hm] at hz1
          exact beq_eq_false_iff_ne.mpr fun e => nu (e ▸ List.mem_of_getElem? hz1)
        have ul : u.length ≤ us.length := by
          have := congrArg List.length e
          rw [List.length_map, List.length_append] at this
          omega
        refine ⟨_, rfl, p, _, rfl, SqL.of r3.1, fun c nc => ?_⟩
        rw [cut_drop _ _ (by rw [List.length_map]; exact ul), ← List.map_drop]
        refine kt c (us.drop u.length) _ (fun b o nb e => app (bt3 b o nb e) nc) ((sr3.keep (same_new nc)).more (by omega)) ?_ ⟨upd_same, fun y hy => app (r3.2 y (List.mem_of_mem_drop hy)) nc⟩ ⟨by rw [List.length_drop]; have := sm.1; omega, fun y hy => sm.2 y (List.mem_of_mem_drop hy)⟩
        refine but_none bt3 nc fun z0 => ?_
        obtain ⟨xl2, el2⟩ := src_lst sr3
        rw [z0, el2] at nc
        cases nc
      · rw [if_neg fun h => m (List.contains_iff_mem.mp h)]
        obtain ⟨p0, hp0⟩ : ∃ p0, ps[n]? = some p0 := ⟨_, List.getElem?_eq_getElem nl⟩
        have hp0m := List.mem_of_getElem? hp0
        rw [hL n p0 hp0] at nx
        obtain ⟨u, v, e, nu, vne⟩ := in_last nx
        obtain ⟨s30, sx⟩ := small p0 hp0m
        refine ⟨_, rfl, .inl ⟨rfl, _, SqL.of r3.1⟩, _, rfl, _, rfl, by show 2 ≤ sizeLine; decide, fun t nt => ⟨p, _, _, rfl, rfl, app r3.1 nt, ?_, ?_⟩⟩
        · rw [List.length_map]
          exact small1000 (by omega)
        have ntp : t ≠ p := fun z0 => by rw [z0, r3.1] at nt; cases nt
        have r4 : RingP (upd (upd G' t (.tup [.int x, natV n])) p (.lst ((us.map fun u => V.ref u.1) ++ [.ref t]))) p (us ++ [(t, x, ((n : Nat) : Int))]) := by
          refine ⟨by rw [upd_same, List.map_append]; rfl, fun y hy => ?_⟩
          have off : ∀ {b : Addr} {xs : List V}, G' b = some (.tup xs) → b ≠ p := fun h z0 => by rw [z0, r3.1] at h; cases h
          rcases List.mem_append.mp hy with hy | hy
          · rw [upd_ne (off (r3.2 y hy))]
            exact app (r3.2 y hy) nt
          · rw [List.mem_singleton.mp hy]
            rw [upd_ne ntp]
            exact upd_same
        have bt4 : But (· = l) H (upd (upd G' t (.tup [.int x, natV n])) p (.lst ((us.map fun u => V.ref u.1) ++ [.ref t]))) := fun b o nb e => by
          rw [upd_ne (fun z0 => by rw [z0, np0] at e; cases e)]
          exact app (bt3 b o nb e) nt
        have sr4 : Src (upd (upd G' t (.tup [.int x, natV n])) p (.lst ((us.map fun u => V.ref u.1) ++ [.ref t]))) l (k9 + 1 + 2 * j + 1) := by
          obtain ⟨a9, b9, d9, e9, w9⟩ := sr3
          exact ⟨a9, b9, d9, by rw [upd_ne npl2.symm]; exact app e9 nt, w9⟩
        generalize (upd (upd G' t (.tup [.int x, natV n])) p (.lst ((us.map fun u => V.ref u.1) ++ [.ref t]))) = G4 at r4 bt4 sr4 ⊢
        clear r3 bt3 sr3 eD2 s3 nt ntp
        have sm4 : SmallR (us ++ [(t, x, ((n : Nat) : Int))]) 8 := ⟨by rw [List.length_append, List.length_singleton]; omega, fun y hy => by
          rcases List.mem_append.mp hy with hy | hy
          · exact sm.2 y hy
          · rw [List.mem_singleton.mp hy]
            exact ⟨bx, by show -1000 ≤ ((n : Nat) : Int); omega, by show ((n : Nat) : Int) ≤ 1000; omega⟩⟩
        have rp : (refsOf ps)[n]? = some (V.ref p0.1) := by rw [List.getElem?_map, hp0]; rfl
        have eA4 := bt4 _ _ nal eA
        have eP4 := bt4 _ _ (npl p0 hp0m) (ePs p0 hp0m)
        dsimp only [gName]
        refine ⟨_, rfl, _, rfl, a, _, ((n : Nat) : Int), .ref p0.1, rfl, rfl, SqL.of eA4, atI_nat rp, ?_⟩
        dsimp only [gName]
        refine ⟨_, rfl, _, rfl, _, rfl, .inl ⟨rfl, _, SqL.of eP4⟩, _, rfl, p0.1, _, .int x, u.length, .int x, rfl, rfl, SqL.of eP4, rfl, flat_ints _, ?_, beq_self_eq_true x, ?_, ?_⟩
        · rw [List.getElem?_map, e]
          simp
        · intro i z' hm hz
          obtain ⟨z, hz1, rfl⟩ := get_map hz
          rw [e, List.getElem?_append_left hm] at hz1
          exact beq_eq_false_iff_ne.mpr fun e => nu (e ▸ List.mem_of_getElem? hz1)
        have ecut : cutV (p0.2.map V.int) (some (((u.length : Nat) : Int) + 1)) none = v.map V.int := by
          have e5 : ((u.length : Nat) : Int) + 1 = ((u.length + 1 : Nat) : Int) := by omega
          rw [e5, cut_drop _ _ (by rw [List.length_map, e]; simp), ← List.map_drop, e]
          congr 1
          rw [List.drop_append]
          simp
        have lv : v.length ≤ 30 := by
          have := congrArg List.length e
          rw [List.length_append, List.length_cons] at this
          omega
        refine ⟨_, _, rfl, rfl, _, rfl, p0.1, _, rfl, SqL.of eP4, fun c nc => ?_⟩
        rw [ecut]
        have ncl : c ≠ l := fun z0 => by
          obtain ⟨xl2, el2⟩ := src_lst sr4
          rw [z0, el2] at nc
          cases nc
        refine ⟨l, c, _, _, rfl, sr4.keep (same_new nc), by omega, SqL.of upd_same, ncl, fun z0 => vne (List.map_eq_nil_iff.mp z0), by rw [List.length_map]; omega, fun G5 w b5 s5 hw => ?_⟩
        obtain ⟨y, hy, rfl⟩ := List.mem_map.mp hw
        have yb := sx y (by rw [e]; exact List.mem_append_right _ (List.mem_cons_of_mem _ hy))
        dsimp only [gName]
        have bt5 : But (· = l) H G5 := fun b o nb e => b5 b o nb (app (bt4 b o nb e) nc)
        refine ⟨y, us ++ [(t, x, ((n : Nat) : Int))], _, _, _, _, _, rfl, bt5, s5.more (by omega), ⟨b5 _ _ npl2 (app r4.1 nc), fun z hz => b5 _ _ (fun z0 => ?_) (app (r4.2 z hz) nc)⟩, by rw [List.length_append, List.length_singleton]; omega, sm4, yb⟩
        have := r4.2 z hz
        obtain ⟨xl2, el2⟩ := src_lst sr4
        rw [z0, el2] at this
        cases this
    · rintro σ G ⟨x, us, w4, w5, w6, w7, w8, rfl, bt, sj, ring, lus, sm, bx⟩
      exact ⟨_, rfl, k G p us bt (sj.more (by omega)) np0 ring sm⟩
end
end Lw

set_option autoImplicit true
set_option Elab.async false
set_option linter.all false
set_option maxRecDepth 100000
set_option maxHeartbeats 4000000
/-! k02: _law_bent. -/
namespace Lw
open PySem L2 Two Pr Rp
abbrev sBentM : Stmt := top 35
abbrev nBentM : List Str := ["_law_source_here", "_law_paper", "_law_word", "_law_value", "_law_at", "_law_odd", "_law_some_here"]
theorem scBentM : FnScope nBentM ["_law_source_here", "_law_paper"] (defScope sBentM) := ⟨rfl, rfl, rfl, by decide +kernel, rfl, by decide +kernel, by decide +kernel⟩
/-- t is a word with a list of things -/
structure WPap (K : PySem.W.Frag) (C : Hp) (t : Addr) (w : Str) (p : Addr) (xs : List V) : Prop where
  et : C t = some (.tup [.str w, .ref p])
  fw : fineD (.str w) = true
  ep : C p = some (.lst xs)
  p1 : p ≠ 1
  few : xs.length ≤ 60
  each : ∀ v ∈ xs, PapQ K C v 3 1
theorem WPap.keep {K : PySem.W.Frag} {C C' : Hp} {t p : Addr} {w : Str} {xs : List V} (h : WPap K C t w p xs) (s : Same C C') : WPap K C' t w p xs := ⟨s _ _ h.et, h.fw, s _ _ h.ep, h.p1, h.few, fun v hv => (h.each v hv).keep s⟩
def spBentM (K : PySem.W.Frag) : Sp := fun vs H Q _ => ∃ (l t p : Addr) (D : List Addr) (k9 : Nat) (w : Str) (xs : List V), vs = [.ref l, .ref t] ∧ Src H l k9 ∧ k9 ≤ 900000 ∧ l ∉ D ∧ Bas l D H ∧ WPap K (cz l D H) t w p xs ∧
  ∀ (H' : Hp) (v : V), But (· = l) H H' → Src H' l (k9 + 3) → PapQ K (cz l D H') v 975 4 → Q v H'
theorem Bas.but {l : Addr} {D : List Addr} {H H' : Hp} (b : Bas l D H) (ne : l ∉ D) (k : But (· = l) H H') {n : Nat} (s : Src H' l n) : Bas l D H' := by
  refine ⟨?_, fun d hd => ?_, ?_⟩
  · obtain ⟨xl, e⟩ := src_lst s
    rw [e]
    exact fun z => nomatch z
  · obtain ⟨o, e⟩ := Option.ne_none_iff_exists'.mp (b.hd d hd)
    rw [k _ _ (fun z => ne (by rw [← z]; exact hd)) e]
    exact fun z => nomatch z
  · obtain ⟨o, e⟩ := b.hs
    exact ⟨o, cz_but k _ _ e⟩
theorem Bas.keep {l : Addr} {D : List Addr} {H H' : Hp} (b : Bas l D H) (k : Same H H') : Bas l D H' := by
  refine ⟨?_, fun d hd => ?_, ?_⟩
  · obtain ⟨o, e⟩ := Option.ne_none_iff_exists'.mp b.hl
    rw [k _ _ e]
    exact fun z => nomatch z
  · obtain ⟨o, e⟩ := Option.ne_none_iff_exists'.mp (b.hd d hd)
    rw [k _ _ e]
    exact fun z => nomatch z
  · obtain ⟨o, e⟩ := b.hs
    exact ⟨o, cz_keep k _ _ e⟩
abbrev rTupO (K : PySem.W.Frag) : List V → Hp → VK → Prop := fun xs H Q => ∃ p ys, xs = [.ref p] ∧ ((SqL K H p ys ∧ ∀ l, H l = none → Q (.ref l) (upd H l (.tup ys))) ∨ (SqT K H p ys ∧ Q (.ref p) H))
abbrev tI (i : Int) : TE := tC (.int i)
abbrev tP2 (a b : TE) : TE := tTup (tCons a (tCons b tNil))
abbrev tNeg1 : TE := tUn (rU fun i => .int (-i)) (tC (.int 1))
@[irreducible] def tOdds : TE := tLst (tCons (tI 0) (tCons (tI 1) (tCons tNeg1 (tCons (tC (.bl true)) (tCons (tC .non) (tCons (tC (.str "0")) (tCons (tP2 (tI 0) (tI 0)) (tCons (tTup (tCons (tI 0) (tCons (tI 0) (tCons (tI 0) tNil)))) (tCons (tP2 (tI 1) (tI 99)) (tCons (tP2 (tC (.bl true)) (tI 0)) (tCons (tP2 (tI 0) (tC (.bl true))) (tCons (tLst (tCons (tI 0) (tCons (tI 0) tNil))) (tCons tDNewK tNil)))))))))))))
abbrev tCut1 (K : PySem.W.Frag) : TE := tSl (rSlL K) (tVar 3) tNoPart (tPart (tVar 4))
abbrev tCut2 (K : PySem.W.Frag) : TE := tSl (rSlL K) (tVar 3) (tPart (tVar 4)) tNoPart
abbrev tCut3 (K : PySem.W.Frag) : TE := tSl (rSlL K) (tVar 3) (tPart (tOp (rI0 fun i j => .int (i + j)) (tVar 4) (tC (.int 1)))) tNoPart
abbrev tOdd : TE := tLst (tCons (tVar 5) tNil)
@[irreducible] def tSomeA (K : PySem.W.Frag) : TE := tLst (tCons (tP2 (tVar 2) (tOp rCat (tOp rCat (tCut1 K) tOdd) (tCut2 K))) (tCons (tP2 (tVar 2) (tOp rCat (tOp rCat (tCut1 K) tOdd) (tCut3 K))) tNil))
@[irreducible] def tSomeB (K : PySem.W.Frag) : TE := tOp rCat (tVar 6) (tLst (tCons (tP2 (tVar 2) (tOp rCat (tCut1 K) (tCut3 K))) (tCons (tP2 (tVar 2) (tRevL K (tVar 3))) (tCons (tP2 (tVar 2) (tCB (rTupO K) (tCons (tVar 3) tNil))) (tCons (tTup (tCons (tVar 2) (tCons (tVar 3) (tCons (tI 0) tNil)))) tNil)))))
abbrev tEight : TA := tCons (tTup (tCons (tVar 2) tNil)) (tCons (tLst (tCons (tVar 2) (tCons (tVar 3) tNil))) (tCons (tP2 (tC (.str "order")) (tVar 3)) (tCons (tP2 (tC (.str "ring")) (tVar 3)) (tCons (tP2 (tC .non) (tVar 3)) (tCons (tP2 (tLst tNil) (tVar 3)) (tCons (tC .non) (tCons (tVar 3) tNil)))))))
@[irreducible] def tSomeC : TE := tOp rCat (tVar 6) (tLst tEight)
@[irreducible] def tTurn (K : PySem.W.Frag) : TE := tP2 (tVar 2) (tOp rCat (tVar 3) (tSl (rSlL K) (tVar 3) tNoPart (tPart (tC (.int 1)))))
abbrev tSix : TA := tCons (tVar 2) (tCons (tTup tNil) (tCons (tP2 (tC (.str "rings")) (tVar 3)) (tCons (tP2 (tVar 2) (tC .non)) (tCons (tP2 (tVar 2) tDNewK) (tCons (tP2 tDNewK (tVar 3)) tNil)))))
@[irreducible] def tSomeD : TE := tOp rCat (tVar 6) (tLst tSix)
section
variable {K : PySem.W.Frag} {l : Addr} {D : List Addr} {H0 : Hp} {σ : L2.St}
theorem good_two (b : Bas l D H0) {t1 t2 : TE} {n m : Nat} (h1 : GoodE K l D H0 σ t1 n m) (h2 : GoodE K l D H0 σ t2 n m) : GoodE K l D H0 σ (tTup (tCons t1 (tCons t2 tNil))) (1 + 2 * n) (m + 1) := good_tup b (goodA_cons h1 (goodA_cons h2 goodA_nil)) (by decide)
theorem good_i (i : Int) (h1 : -1000000 ≤ i) (h2 : i ≤ 1000000) : GoodE K l D H0 σ (tC (.int i)) 1 0 := good_int i h1 h2
/-- what the names hold -/
structure Hold (K : PySem.W.Frag) (l : Addr) (D : List Addr) (H0 : Hp) (σ : L2.St) (w : Str) (p : Addr) (xs : List V) : Prop where
  bas : Bas l D H0
  eW : σ[2]? = some (some (.str w))
  fw : fineD (.str w) = true
  eV : σ[3]? = some (some (.ref p))
  ep : cz l D H0 p = some (.lst xs)
  p1 : p ≠ 1
  few : xs.length ≤ 60
  each : ∀ v ∈ xs, PapQ K (cz l D H0) v 3 1
section
variable {w : Str} {p : Addr} {xs : List V} (h : Hold K l D H0 σ w p xs)
include h
theorem Hold.word {n m : Nat} (hn : 1 ≤ n) : GoodE K l D H0 σ (tVar 2) n m := good_var h.eW ⟨.str w, .str w, h.fw, hn, Nat.zero_le _⟩
theorem Hold.val : LstE K l D H0 σ (tVar 3) 60 4 1 false := lst_var h.eV h.ep h.p1 h.few (fun v hv => (h.each v hv).more (by decide) (Nat.le_refl _)) (fun z => nomatch z)
/-- (word, e) -/
theorem Hold.pair {te : TE} {n m : Nat} (g : GoodE K l D H0 σ te n m) (a : 1 ≤ n) (c : 1 + 2 * n ≤ 975) (d : m + 1 ≤ 4) : GoodE K l D H0 σ (tTup (tCons (tVar 2) (tCons te tNil))) 975 4 := (good_two h.bas (h.word a) g).mono c d
theorem Hold.valG : GoodE K l D H0 σ (tVar 3) 241 2 := h.val.good
end
theorem odd_good (b : Bas l D H0) : LstE K l D H0 σ tOdds 13 4 1 true := by
  unfold tOdds
  refine lst_disp b ?_ (by decide) (by decide)
  refine goodA_cons ((good_i 0 (by decide) (by decide)).mono (by decide) (by decide)) ?_
  refine goodA_cons ((good_i 1 (by decide) (by decide)).mono (by decide) (by decide)) ?_
  refine goodA_cons ((show GoodE K l D H0 σ tNeg1 1 0 from fun H Q _ k => ⟨1, rfl, k H (.int (-1)) (Same.refl _) ⟨.int (-1), .int _, fine_int (by decide) (by decide), Nat.le_refl _, Nat.le_refl _⟩⟩).mono (by decide) (by decide)) ?_
  refine goodA_cons ((good_bl true).mono (by decide) (by decide)) ?_
  refine goodA_cons (good_non.mono (by decide) (by decide)) ?_
  refine goodA_cons ((good_str "0" (by decide +kernel)).mono (by decide) (by decide)) ?_
  refine goodA_cons ((good_two b (good_i 0 (by decide) (by decide)) (good_i 0 (by decide) (by decide))).mono (by decide) (by decide)) ?_
  refine goodA_cons ((good_tup b (goodA_cons (good_i 0 (by decide) (by decide)) (goodA_cons (good_i 0 (by decide) (by decide)) (goodA_cons (good_i 0 (by decide) (by decide)) goodA_nil))) (by decide)).mono (by decide) (by decide)) ?_
  refine goodA_cons ((good_two b (good_i 1 (by decide) (by decide)) (good_i 99 (by decide) (by decide))).mono (by decide) (by decide)) ?_
  refine goodA_cons ((good_two b (good_bl true) (good_i 0 (by decide) (by decide))).mono (by decide) (by decide)) ?_
  refine goodA_cons ((good_two b (good_i 0 (by decide) (by decide)) (good_bl true)).mono (by decide) (by decide)) ?_
  refine goodA_cons (((lst_disp b (goodA_cons (good_i 0 (by decide) (by decide)) (goodA_cons (good_i 0 (by decide) (by decide)) goodA_nil)) (by decide) (ne := false) (by decide)).good).mono (by decide) (by decide)) ?_
  exact goodA_cons ((good_dict b).mono (by decide) (by decide)) goodA_nil
section
variable {w : Str} {p : Addr} {xs : List V} (h : Hold K l D H0 σ w p xs) {i : Int} (e4 : σ[4]? = some (some (.int i)))
include h e4
theorem cut1 : LstE K l D H0 σ (tCut1 K) 60 4 1 false := lst_slice h.bas h.val part_no (part_var e4)
theorem cut2 : LstE K l D H0 σ (tCut2 K) 60 4 1 false := lst_slice h.bas h.val (part_var e4) part_no
theorem cut3 : LstE K l D H0 σ (tCut3 K) 60 4 1 false := lst_slice h.bas h.val (part_add e4) part_no
theorem some1_good {v : V} (e5 : σ[5]? = some (some v)) (pv : PapQ K (cz l D H0) v 4 1) : LstE K l D H0 σ (tSomeA K) 2 975 4 true := by
  have o : LstE K l D H0 σ tOdd 1 4 1 false := lst_disp h.bas (goodA_cons (good_var e5 pv) goodA_nil) (by decide) (by decide)
  unfold tSomeA
  refine lst_disp h.bas ?_ (by decide) (by decide)
  refine goodA_cons (h.pair ((lst_cat h.bas (lst_cat h.bas (cut1 h e4) o (by decide)) (cut2 h e4) (by decide)).good) (by decide) (by decide) (by decide)) ?_
  exact goodA_cons (h.pair ((lst_cat h.bas (lst_cat h.bas (cut1 h e4) o (by decide)) (cut3 h e4) (by decide)).good) (by decide) (by decide) (by decide)) goodA_nil
theorem some2_good {q : Addr} {ys : List V} (e6 : σ[6]? = some (some (.ref q))) (hq : cz l D H0 q = some (.lst ys)) (q1 : q ≠ 1) (ly : ys.length ≤ 2) (py : ∀ v ∈ ys, PapQ K (cz l D H0) v 975 4) : LstE K l D H0 σ (tSomeB K) 6 975 4 false := by
  unfold tSomeB
  refine lst_cat h.bas (ne2 := false) (lst_var (k := 2) (ne := false) e6 hq q1 ly py (fun z => nomatch z)) (lst_disp (k := 4) h.bas ?_ (by decide) (by decide)) (by decide)
  refine goodA_cons (h.pair ((lst_cat h.bas (cut1 h e4) (cut3 h e4) (by decide)).good) (by decide) (by decide) (by decide)) ?_
  refine goodA_cons (h.pair ((lst_rev h.bas h.val).good) (by decide) (by decide) (by decide)) ?_
  refine goodA_cons (h.pair (good_tuple h.bas h.val) (by decide) (by decide) (by decide)) ?_
  exact goodA_cons ((good_tup h.bas (goodA_cons (h.word (by decide)) (goodA_cons h.valG (goodA_cons ((good_i 0 (by decide) (by decide)).mono (by decide) (by decide)) goodA_nil))) (by decide)).mono (by decide) (by decide)) goodA_nil
end
section
variable {w : Str} {p : Addr} {xs : List V} (h : Hold K l D H0 σ w p xs)
include h
theorem disp8 : LstE K l D H0 σ (tLst (tEight)) 8 975 4 false := by
  refine lst_disp h.bas ?_ (by decide) (by decide)
  refine goodA_cons ((good_tup h.bas (goodA_cons (h.word (n := 1) (m := 0) (by decide)) goodA_nil) (by decide)).mono (by decide) (by decide)) ?_
  refine goodA_cons (((lst_disp h.bas (goodA_cons (h.word (by decide)) (goodA_cons h.valG goodA_nil)) (by decide) (ne := false) (by decide)).good).mono (by decide) (by decide)) ?_
  refine goodA_cons ((good_two h.bas ((good_str "order" (by decide +kernel)).mono (by decide) (by decide)) h.valG).mono (by decide) (by decide)) ?_
  refine goodA_cons ((good_two h.bas ((good_str "ring" (by decide +kernel)).mono (by decide) (by decide)) h.valG).mono (by decide) (by decide)) ?_
  refine goodA_cons ((good_two h.bas (good_non.mono (by decide) (by decide)) h.valG).mono (by decide) (by decide)) ?_
  refine goodA_cons ((good_two h.bas ((lst_disp (n := 0) (m := 0) (ne := false) h.bas goodA_nil (by decide) (by decide)).good.mono (by decide) (by decide)) h.valG).mono (by decide) (by decide)) ?_
  refine goodA_cons (good_non.mono (by decide) (by decide)) ?_
  exact goodA_cons (h.valG.mono (by decide) (by decide)) goodA_nil
theorem turn_good : GoodE K l D H0 σ (tTurn K) 975 4 := by
  unfold tTurn
  exact h.pair ((lst_cat h.bas h.val (lst_slice h.bas h.val part_no ⟨some 1, fun _ _ q => ⟨1, rfl, q⟩⟩) (by decide)).good) (by decide) (by decide) (by decide)
theorem disp6 : LstE K l D H0 σ (tLst (tSix)) 6 975 4 true := by
  refine lst_disp h.bas ?_ (by decide) (by decide)
  refine goodA_cons (h.word (by decide)) ?_
  refine goodA_cons ((good_tup (n := 0) (m := 0) h.bas goodA_nil (by decide)).mono (by decide) (by decide)) ?_
  refine goodA_cons ((good_two h.bas ((good_str "rings" (by decide +kernel)).mono (by decide) (by decide)) h.valG).mono (by decide) (by decide)) ?_
  refine goodA_cons (h.pair (n := 1) (m := 1) (good_non.mono (by decide) (by decide)) (by decide) (by decide) (by decide)) ?_
  refine goodA_cons (h.pair (good_dict h.bas) (by decide) (by decide) (by decide)) ?_
  exact goodA_cons ((good_two h.bas ((good_dict h.bas).mono (by decide) (by decide)) h.valG).mono (by decide) (by decide)) goodA_nil
end
end
end Lw

set_option autoImplicit true
set_option Elab.async false
set_option linter.all false
set_option maxRecDepth 100000
set_option maxHeartbeats 4000000
/-! k02: _law_bent, the def. -/
namespace Lw
open PySem L2 Two Pr Rp
section
variable {P : Program} {w : World} {K : PySem.W.Frag} {mg : Str → Option Value} {base : Heap}
theorem ok_bentM {f fD fP : Addr} {fd dD dP : FuncData} (F : Fun K "_law_bent" "_law_bent" sBentM f fd) (T : Txt mg)
    (gD : mg "_law_draw" = some (.ref fD)) (kD : PySem.W.keepIn K (.ref fD) = true) (bD : Binds K dD ["_law_source_here", "_law_size"] []) (GD : FnOk P w K mg base CX0 1 fD dD ["_law_source_here", "_law_size"] spDraw)
    (gP : mg "_law_pick" = some (.ref fP)) (kP : PySem.W.keepIn K (.ref fP) = true) (bP : Binds K dP ["_law_source_here", "_law_items_here"] []) (GP : FnOk P w K mg base CX0 2 fP dP ["_law_source_here", "_law_items_here"] (spPick K)) :
    FnOk P w K mg base CX0 3 f fd ["_law_source_here", "_law_paper"] (spBentM K) := by
  refine F.ok scBentM (fun vs H Q E h => ?_) (fun cdv A outer s H vs Q E hr h => ?_)
  · obtain ⟨l, t, p, D, k9, wd, xs, rfl, _⟩ := h
    rfl
  · obtain ⟨l, t, p, D, k9, wd, xs, rfl, src, hk9, lD, B, WP, k⟩ := h
    have hr1 : Room 1 _ := hr.mono (by decide)
    refine ⟨_, (pss_cons (ps_asg (pv 1) (pg_tup rfl (pgs_cons (pg_name (i := 2) scBentM.nd rfl (Or.inl rfl)) (pgs_cons (pg_name (i := 3) scBentM.nd rfl (Or.inl rfl)) pgs_nil))))
      (pss_cons (ps_set (i := 4) scBentM.nd rfl (Or.inl rfl) (pe_call GD hr1 rfl gD kD bD .nil pass0 (pa_cons (pv 0) (pa_cons (pe_op op_add (pe_callB call_len_seq (by rfl) T.len PySem.boot_len (pa_cons (pv 3) pa_nil)) pe_int) pa_nil))))
      (pss_cons (ps_set (i := 5) scBentM.nd rfl (Or.inl rfl) (pe_call GP hr rfl gP kP bP .nil pass0 (pa_cons (pv 0) (pa_cons (te := tOdds) (by unfold tOdds; exact (pe_lst (pa_cons pe_int (pa_cons pe_int (pa_cons (pe_un un_neg pe_int) (pa_cons pe_bl (pa_cons pe_non (pa_cons pe_str (pa_cons (pe_tup (pa_cons pe_int (pa_cons pe_int pa_nil))) (pa_cons (pe_tup (pa_cons pe_int (pa_cons pe_int (pa_cons pe_int pa_nil)))) (pa_cons (pe_tup (pa_cons pe_int (pa_cons pe_int pa_nil))) (pa_cons (pe_tup (pa_cons pe_bl (pa_cons pe_int pa_nil))) (pa_cons (pe_tup (pa_cons pe_int (pa_cons pe_bl pa_nil))) (pa_cons (pe_lst (pa_cons pe_int (pa_cons pe_int pa_nil))) (pa_cons pe_dnewK pa_nil))))))))))))))) pa_nil))))
      (pss_cons (ps_set (i := 6) scBentM.nd rfl (Or.inl rfl) (te := tSomeA K) (by unfold tSomeA; exact (pe_lst (pa_cons (pe_tup (pa_cons (pv 2) (pa_cons (pe_op op_cat (pe_op op_cat (pe_slice sl_list (pv 3) po_none (po_some (pv 4))) (pe_lst (pa_cons (pv 5) pa_nil))) (pe_slice sl_list (pv 3) (po_some (pv 4)) po_none)) pa_nil))) (pa_cons (pe_tup (pa_cons (pv 2) (pa_cons (pe_op op_cat (pe_op op_cat (pe_slice sl_list (pv 3) po_none (po_some (pv 4))) (pe_lst (pa_cons (pv 5) pa_nil))) (pe_slice sl_list (pv 3) (po_some (pe_op op_add (pv 4) pe_int)) po_none)) pa_nil))) pa_nil)))))
      (pss_cons (ps_set (i := 6) scBentM.nd rfl (Or.inl rfl) (te := tSomeB K) (by unfold tSomeB; exact (pe_op op_cat (pv 6) (pe_lst (pa_cons (pe_tup (pa_cons (pv 2) (pa_cons (pe_op op_cat (pe_slice sl_list (pv 3) po_none (po_some (pv 4))) (pe_slice sl_list (pv 3) (po_some (pe_op op_add (pv 4) pe_int)) po_none)) pa_nil))) (pa_cons (pe_tup (pa_cons (pv 2) (pa_cons (pe_revL (pv 3)) pa_nil))) (pa_cons (pe_tup (pa_cons (pv 2) (pa_cons (pe_callTy call_tuple_of (by rfl) T.tuple (by decide +kernel) (pa_cons (pv 3) pa_nil)) pa_nil))) (pa_cons (pe_tup (pa_cons (pv 2) (pa_cons (pv 3) (pa_cons pe_int pa_nil)))) pa_nil))))))))
      (pss_cons (ps_set (i := 6) scBentM.nd rfl (Or.inl rfl) (te := tSomeC) (by unfold tSomeC; exact (pe_op op_cat (pv 6) (pe_lst (pa_cons (pe_tup (pa_cons (pv 2) pa_nil)) (pa_cons (pe_lst (pa_cons (pv 2) (pa_cons (pv 3) pa_nil))) (pa_cons (pe_tup (pa_cons pe_str (pa_cons (pv 3) pa_nil))) (pa_cons (pe_tup (pa_cons pe_str (pa_cons (pv 3) pa_nil))) (pa_cons (pe_tup (pa_cons pe_non (pa_cons (pv 3) pa_nil))) (pa_cons (pe_tup (pa_cons (pe_lst pa_nil) (pa_cons (pv 3) pa_nil))) (pa_cons pe_non (pa_cons (pv 3) pa_nil))))))))))))
      (pss_cons (ps_expr (pe_bm PySem.F.plainAttrs_list PySem.F.slot_list_append PySem.F.type_list_append mt_append (pv 6) (pa_cons (te := tTurn K) (by unfold tTurn; exact (pe_tup (pa_cons (pv 2) (pa_cons (pe_op op_cat (pv 3) (pe_slice sl_list (pv 3) po_none (po_some pe_int))) pa_nil)))) pa_nil)))
      (pss_one (ps_ret (pe_call GP hr rfl gP kP bP .nil pass0 (pa_cons (pv 0) (pa_cons (te := tSomeD) (by unfold tSomeD; exact (pe_op op_cat (pv 6) (pe_lst (pa_cons (pv 2) (pa_cons (pe_tup pa_nil) (pa_cons (pe_tup (pa_cons pe_str (pa_cons (pv 3) pa_nil))) (pa_cons (pe_tup (pa_cons (pv 2) (pa_cons pe_non pa_nil))) (pa_cons (pe_tup (pa_cons (pv 2) (pa_cons pe_dnewK pa_nil))) (pa_cons (pe_tup (pa_cons pe_dnewK (pa_cons (pv 3) pa_nil))) pa_nil))))))))) pa_nil)))))))))))), ?_⟩
    refine ⟨_, rfl, t, _, rfl, SqT.of (cz_same _ _ WP.et), rfl, _, _, rfl, _, _, rfl, rfl, ?_⟩
    dsimp only [gName]
    refine ⟨_, rfl, _, rfl, p, xs, rfl, .inl (SqL.of (cz_same _ _ WP.ep)), _, 1, rfl, rfl, l, _, k9, rfl, by have := WP.few; omega, by have := WP.few; omega, src, by omega, fun G1 at_ b1 s1 a0 a1 => ?_⟩
    have B1 := B.but lD b1 s1
    have W1 := WP.keep (cz_but b1)
    dsimp only [gName]
    refine ⟨_, rfl, odd_good (K := K) (D := D) B1 G1 _ (Same.refl _) fun G2 q2 vs2 s2 e2 q21 ne2 lv2 pv2 => ?_⟩
    refine ⟨l, q2, _, vs2, rfl, s1.keep s2, by omega, SqL.of (cz_same _ _ e2), (cz_ne e2).1, ne2 rfl, by omega, fun G3 v3 b3 s3 hv3 => ?_⟩
    have B3 := (B1.keep s2).but lD b3 s3
    have W3 := (W1.keep (cz_keep s2)).keep (cz_but b3)
    have pv3 := (pv2 v3 hv3).keep (cz_but (D := D) b3)
    dsimp only [gName]
    refine some1_good (K := K) (D := D) (w := wd) (p := p) (xs := xs) ⟨B3, rfl, W3.fw, rfl, W3.ep, W3.p1, W3.few, W3.each⟩ rfl rfl pv3 G3 _ (Same.refl _) fun G4 q4 vs4 s4 e4 q41 _ lv4 pv4 => ?_
    have B4 := B3.keep s4
    have W4 := W3.keep (cz_keep s4)
    dsimp only [gName]
    refine some2_good (K := K) (D := D) (w := wd) (p := p) (xs := xs) ⟨B4, rfl, W4.fw, rfl, W4.ep, W4.p1, W4.few, W4.each⟩ rfl rfl e4 q41 lv4 pv4 G4 _ (Same.refl _) fun G5 q5 vs5 s5 e5 q51 _ lv5 pv5 => ?_
    have B5 := B4.keep s5
    have W5 := W4.keep (cz_keep s5)
    have H5 : Hold K l D G5 [some (.ref l), some (.ref t), some (.str wd), some (.ref p), some (.int at_), some v3, some (.ref q5)] wd p xs := ⟨B5, rfl, W5.fw, rfl, W5.ep, W5.p1, W5.few, W5.each⟩
    dsimp only [gName]
    unfold tSomeC
    refine cat_last B5 (lst_var (k := 6) (ne := false) rfl e5 q51 lv5 pv5 (fun z => nomatch z)) (disp8 H5) (by decide) G5 _ (Same.refl _) fun G6 r vs6 s6 nr lv6 pv6 => ?_
    have B6 := B5.keep s6
    have W6 := W5.keep (cz_keep s6)
    have eR : (upd G6 r (.lst vs6)) r = some (.lst vs6) := upd_same
    have sR : Same G6 (upd G6 r (.lst vs6)) := same_new nr
    have cR : cz l (r :: D) (upd G6 r (.lst vs6)) = cz l D G6 := cz_more nr
    have rl : r ≠ l := fun z => by rw [z] at nr; exact B6.hl nr
    have r1 : r ≠ 1 := (B6.ne (Same.refl _) nr).2.2
    have src6 := (((s3.keep s4).keep s5).keep s6).keep sR
    generalize (upd G6 r (.lst vs6)) = G7 at eR sR cR src6 ⊢
    have B7 : Bas l (r :: D) G7 := by
      refine ⟨fun z => ?_, fun d hd => ?_, by rw [cR]; exact B6.hs⟩
      · obtain ⟨xl, e⟩ := src_lst src6
        rw [e] at z
        cases z
      · rcases List.mem_cons.mp hd with rfl | hd
        · rw [eR]; exact fun z => nomatch z
        · obtain ⟨o, e⟩ := Option.ne_none_iff_exists'.mp (B6.hd d hd)
          rw [sR _ _ e]; exact fun z => nomatch z
    have rD : r ∉ D := (B6.ne (Same.refl _) nr).2.1
    have nr0 : H r = none := but_none (but_trans (but_trans (but_trans b1 (but_same s2)) b3) (but_same ((s4.trans s5).trans s6))) nr rl
    have lD7 : l ∉ r :: D := fun z => (List.mem_cons.mp z).elim (fun z => rl z.symm) lD
    have W7 : WPap K (cz l (r :: D) G7) t wd p xs := by rw [cR]; exact W6
    rw [← cR] at pv6
    have bt7 : But (· = l) H G7 := but_trans (but_trans (but_trans b1 (but_same s2)) b3) (but_same (((s4.trans s5).trans s6).trans sR))
    clear cR sR nr s6 s5 s4 B6 B5 B4 B3 B1 W6 W5 W4 W3 W1 pv4 pv5 H5 s3 s2 b3 b1 s1
    dsimp only [gName]
    refine ⟨_, rfl, .inl ⟨rfl, _, SqL.of eR⟩, turn_good (K := K) (D := r :: D) (w := wd) (p := p) (xs := xs) ⟨B7, rfl, W7.fw, rfl, W7.ep, W7.p1, W7.few, W7.each⟩ G7 _ (Same.refl _) fun G8 v8 s8 pv8 => ?_⟩
    refine ⟨r, vs6, v8, rfl, rfl, s8 _ _ eR, small1000 (by omega), ?_⟩
    have c9 : cz l (r :: D) (upd G8 r (.lst (vs6 ++ [v8]))) = cz l (r :: D) G8 := cz_upd List.mem_cons_self
    have B8 := B7.keep s8
    have e9 : (upd G8 r (.lst (vs6 ++ [v8]))) r = some (.lst (vs6 ++ [v8])) := upd_same
    have bt9 : But (· = l) H (upd G8 r (.lst (vs6 ++ [v8]))) := but_new (but_trans bt7 (but_same s8)) nr0
    have src9 := (src6.keep s8).upd (o := .lst (vs6 ++ [v8])) rl
    have pv9 : ∀ v ∈ vs6 ++ [v8], PapQ K (cz l (r :: D) (upd G8 r (.lst (vs6 ++ [v8])))) v 975 4 := fun v hv => by
      rw [c9]
      rcases List.mem_append.mp hv with hv | hv
      · exact (pv6 v hv).keep (cz_keep s8)
      · rw [List.mem_singleton.mp hv]; exact pv8
    have W9 : WPap K (cz l (r :: D) (upd G8 r (.lst (vs6 ++ [v8])))) t wd p xs := by rw [c9]; exact W7.keep (cz_keep s8)
    have B9 : Bas l D (upd G8 r (.lst (vs6 ++ [v8]))) := by
      refine ⟨fun z => ?_, fun d hd => ?_, ?_⟩
      · obtain ⟨xl, e⟩ := src_lst src9
        rw [e] at z
        cases z
      · rw [upd_ne fun z => rD (by rw [← z]; exact hd)]
        exact B8.hd d (List.mem_cons_of_mem _ hd)
      · obtain ⟨o, e⟩ := B8.hs
        rw [← c9] at e
        exact ⟨o, cz_less _ _ e⟩
    have lv9 : (vs6 ++ [v8]).length ≤ 15 := by rw [List.length_append]; exact Nat.succ_le_succ lv6
    have W9' := W9.keep cz_less
    have pv9' : ∀ v ∈ vs6 ++ [v8], PapQ K (cz l D (upd G8 r (.lst (vs6 ++ [v8])))) v 975 4 := fun v hv => (pv9 v hv).keep cz_less
    generalize (upd G8 r (.lst (vs6 ++ [v8]))) = G9 at e9 bt9 src9 B9 W9' pv9' ⊢
    dsimp only
    refine ⟨_, rfl, ?_⟩
    unfold tSomeD
    refine lst_cat (ne2 := true) B9 (lst_var (k := 15) (ne := false) rfl (cz_of e9 rl rD) r1 lv9 pv9' (fun z => nomatch z)) (disp6 (w := wd) (p := p) (xs := xs) ⟨B9, rfl, W9'.fw, rfl, W9'.ep, W9'.p1, W9'.few, W9'.each⟩) (by decide) G9 _ (Same.refl _) fun G10 q10 vs10 s10 e10 q101 ne10 lv10 pv10 => ?_
    refine ⟨l, q10, _, vs10, rfl, src9.keep s10, by omega, SqL.of (cz_same _ _ e10), (cz_ne e10).1, ne10 rfl, by omega, fun G11 v11 b11 s11 hv11 => ?_⟩
    exact k G11 v11 (but_trans (but_trans bt9 (but_same s10)) b11) (s11.more (by omega)) ((pv10 v11 hv11).keep (cz_but b11))
end
end Lw

set_option autoImplicit true
set_option Elab.async false
set_option linter.all false
set_option maxRecDepth 100000
set_option maxHeartbeats 1000000
/-! x == 'text', x any data, an empty dict too. -/
namespace DStr
open PySem PySem.Spec PyProof.Rows PySem.SeqAt
theorem str_sees_dict (b : Str) (u : Tok) (l : Addr) (es : Array DictEntry) (ep : Nat) (dd : Option Addr) (sl : Array (Option Value)) :
    Meets (Builtin.«str.__eq__» ⟨[.str b u, .ref l], []⟩) (fun _ R s => s.heap.get? l = some { cls := .type "dict", dict := dd, data := .dict es ep, slots := sl } ∧ R (.ok (.ret .notImplemented)) s) :=
  .of_wp fun prog w A R s h => by
    obtain ⟨hp, g, d, tk, os⟩ := s
    obtain ⟨hl, h⟩ := h
    wp_walk using wpAny_loadPart' hl, wpAny_load hl
    exact ⟨_, rfl, h⟩
section
variable {A : Around} {s : Shared}
theorem rc_dict_str {l : Addr} {es : Array DictEntry} {ep : Nat} {dd : Option Addr} {sl : Array (Option Value)} (b : Str) (u : Tok) (ho : s.heap.get? l = some { cls := .type "dict", dict := dd, data := .dict es ep, slots := sl }) (hu : A.units < cLine) : RcAt A s (.ref l) (.str b u) false := fun prog w E Q h => by
  have ty : s.TypeIs (.ref l) "dict" := ⟨_, ho, rfl⟩
  refine rc_eq_decline_or (k := false) ty (typeIs_str s b u) (by decide) F.sub_str_dict F.slot_dict_eq F.slot_str_eq_refl (fun Q2 hq => ?_)
    (fun _ hq => call_meets F.slot_str_eq_refl (typeIs_str s b u) F.entry_str_eq (F.args_str_eq_2 _ _) (str_sees_dict b u l es ep dd sl) ⟨ho, hq⟩)
    (fun _ hq => wpAny_of_eq (rfl : isSame (.ref l) (.str b u) = pure false) hq) (.inr hu) h
  refine wpAny_call_entry F.slot_dict_eq ty F.entry_dict_eq ?_ (F.args_dict_eq_2 _ _)
  show wpAny _ _ (Builtin.Dict.dictSlotArgs "__eq__" ⟨[.ref l, .str b u], []⟩ >>= _) _ _ s
  refine wpAny_bind ?_
  unfold Builtin.Dict.dictSlotArgs
  refine wpAny_bind (wpAny_notOrdered_dict ty ?_)
  show wpAny _ _ (pure (Value.ref l, Value.str b u)) _ _ s
  refine wpAny_pure ?_
  refine wpAny_bind (wpAny_isInstance (T := "str") (typeIs_str s b u) F.sub_str_dict ?_)
  simp only [Bool.not_false, if_true]
  refine wpAny_bind (wpAny_rule ?_)
  exact wpAny_pure ⟨_, rfl, hq⟩
end
end DStr
namespace Two
open PySem PySem.Spec PyProof.Rows L2 PySem.SeqAt
def strIs (z : Str) : PyData → Bool
  | .str x => decide (x = z)
  | _ => false
section
variable {X : Cx}
def rEqS (K : PySem.W.Frag) : R2 := fun x y H Q => ∃ (d : PyData) (z : Str), Dq K H x d ∧ y = .str z ∧ Q (.bl (strIs z d)) H
theorem op_eqS (hu : X.A.units < cLine) : OpR X (compareOp .Eq) (rEqS X.K) := by
  intro pins s σ H x y v u Q I rx ry h
  obtain ⟨d, z, hd, rfl, q⟩ := h
  obtain ⟨t, rfl⟩ := ry
  have fin : ∀ {b : Bool}, b = strIs z d → EP X pins σ Q (.bool b) s := fun e => ⟨.bl _, H, I, rfl, by rw [e]; exact q⟩
  show wpAny _ _ (richCompare .Eq v (.str z t)) _ _ _
  cases hd with
  | non => cases rx; exact RcAt.none_str z t _ _ _ _ (fin rfl)
  | bl b => cases rx; exact RcAt.bool_str b z t _ _ _ _ (fin rfl)
  | int i => obtain ⟨t2, rfl⟩ := rx; exact RcAt.int_str i t2 z t _ _ _ _ (fin rfl)
  | str x => obtain ⟨t2, rfl⟩ := rx; exact RcAt.str_str x t2 z t _ _ _ _ (fin (by unfold strIs; rfl))
  | lst hs _ _ =>
    cases rx
    obtain ⟨its, rv, p, _⟩ := I.list hs
    exact RcAt.list_str z t p.isList hu _ _ _ _ (fin rfl)
  | tup hs _ =>
    cases rx
    obtain ⟨its, rv, p, _⟩ := I.tuple hs
    exact RcAt.tuple_str z t p hu _ _ _ _ (fin rfl)
  | dic hs =>
    cases rx
    obtain ⟨_, _, vs, _, o, es, ep, ho, hex, hdat, _⟩ := I.hok _ _ hs
    obtain ⟨cls, dd, data, sl⟩ := o
    obtain ⟨h1, h2, h3⟩ := hex
    simp only at h1 h2 h3 hdat
    subst h1 h2 h3 hdat
    exact DStr.rc_dict_str z t ho hu _ _ _ _ (fin rfl)
end
end Two

set_option autoImplicit true
set_option Elab.async false
set_option linter.all false
set_option maxRecDepth 100000
set_option maxHeartbeats 4000000
/-! k02: _law_is_right. -/
namespace Lw
open PySem L2 Two Pr Rp
abbrev rNn : R2 := fun x y H Q => y = .non ∧ Q (.bl (!decide (x = .non))) H
theorem op_nn {X : Cx} : OpR X (compareOp .IsNot) rNn := op_notN
abbrev sRight : Stmt := top 36
abbrev nRight : List Str := ["_law_lists_here", "_law_paper", "_law_due"]
theorem scRight : FnScope nRight ["_law_lists_here", "_law_paper"] (defScope sRight) := ⟨rfl, rfl, rfl, by decide +kernel, rfl, by decide +kernel, by decide +kernel⟩
def spRight (K : PySem.W.Frag) : Sp := fun vs H Q _ => ∃ (a : Addr) (v : V) (d : PyData) (ps : List (Addr × List Int)) (U : List Int), vs = [.ref a, v] ∧ LofL K H a ps ∧ Drawn ps U ∧ Pap K H v d ∧ (∃ o, H 1 = some o) ∧ ∀ H', Same H H' → Q (.bl (rightD (lsOf ps) d)) H'
theorem ints_fine : ∀ {l : List Int}, (∀ z ∈ l, Big z) → fineAll (l.map PyData.int) = true
  | [], _ => rfl
  | z :: l, h => by
    show (fineD (.int z) && fineAll (l.map PyData.int)) = true
    rw [ints_fine fun y hy => h y (List.mem_cons_of_mem _ hy), show fineD (.int z) = true from decide_eq_true (Nat.lt_of_le_of_lt (h z List.mem_cons_self) (by decide))]
    rfl
theorem ints_nodes : ∀ l : List Int, nodesAll (l.map PyData.int) = l.length
  | [] => rfl
  | z :: l => by
    show 1 + nodesAll (l.map PyData.int) = l.length + 1
    rw [ints_nodes l, Nat.add_comm]
theorem ints_dq {K : PySem.W.Frag} {H : Hp} : ∀ l : List Int, DqAll K H (l.map V.int) (l.map PyData.int)
  | [] => .nil
  | z :: l => .cons (.int z) (ints_dq l)
theorem Pap.parts {K : PySem.W.Frag} {H : Hp} {v : V} {d : PyData} (h : Pap K H v d) : d.showable = true ∧ d.depth ≤ 32 ∧ d.shown.length ≤ sizeLine := by
  refine ⟨fine_show _ h.fine, Nat.le_trans h.dp (by decide), ?_⟩
  have h1 := fine_bulk d h.fine
  have h2 := h.few
  have h3 := PyData.shown_le_bulk 32 (by decide) d (fine_short _ h.fine)
  rw [sizeLine_eq]
  omega
/-- ("order", list of ints) can be shown -/
theorem pap_order {K : PySem.W.Frag} {H : Hp} {t q : Addr} {l : List Int} (et : H t = some (.tup [.str "order", .ref q])) (eq : H q = some (.lst (l.map V.int))) (q1 : q ≠ 1) (big : ∀ z ∈ l, Big z) (few : l.length ≤ 400) : Pap K H (.ref t) (pairD "order" l) := by
  refine ⟨.tup (SqT.of et) (.cons (.str "order") (.cons (.lst (SqL.of eq) q1 (ints_dq l)) .nil)), ?_, ?_, ?_⟩
  · show (fineD (.str "order") && (fineAll (l.map PyData.int) && true)) = true
    rw [ints_fine big, show fineD (.str "order") = true from by decide +kernel]
    rfl
  · show 1 + (1 + (1 + nodesAll (l.map PyData.int) + 0)) ≤ 1000
    rw [ints_nodes]
    omega
  · show max 0 (max (PyData.depthAll (l.map PyData.int) + 1) 0) + 1 ≤ 20
    rw [depth_ints]
    decide
theorem right_not {ls : List (List Int)} {x th : PyData} (h1 : strIs "ring" x = false) (h2 : strIs "order" x = false) : right1 ls [x, th] = false := by
  show right2 ls x th = false
  cases x with
  | str z =>
    have e1 : ¬ z = "ring" := of_decide_eq_false h1
    have e2 : ¬ z = "order" := of_decide_eq_false h2
    show (if z = "order" then ordB ls th else if z = "ring" then ringD ls th else false) = false
    rw [if_neg e2, if_neg e1]
  | _ => rfl
theorem right_ring {ls : List (List Int)} {x th : PyData} (h1 : strIs "ring" x = true) : right1 ls [x, th] = ringD ls th := by
  cases x with
  | str z =>
    obtain rfl : z = "ring" := of_decide_eq_true h1
    show (if ("ring" : Str) = "order" then ordB ls th else if ("ring" : Str) = "ring" then ringD ls th else false) = _
    rw [if_neg (by decide +kernel), if_pos rfl]
  | _ => cases h1
theorem right_order {ls : List (List Int)} {x th : PyData} (h1 : strIs "order" x = true) : right1 ls [x, th] = ordB ls th ∧ x = .str "order" := by
  cases x with
  | str z =>
    obtain rfl : z = "order" := of_decide_eq_true h1
    exact ⟨by show (if ("order" : Str) = "order" then ordB ls th else if ("order" : Str) = "ring" then ringD ls th else false) = _; rw [if_pos rfl], rfl⟩
  | _ => cases h1
section
variable {P : Program} {w : World} {K : PySem.W.Frag} {mg : Str → Option Value} {base : Heap}
theorem ok_right {f fL fM : Addr} {fd dL dM : FuncData} (F : Fun K "_law_is_right" "_law_is_right" sRight f fd) (T : Txt mg) (hrep : mg "repr" = none)
    (gL : mg "_law_is_ring" = some (.ref fL)) (kL : PySem.W.keepIn K (.ref fL) = true) (bL : Binds K dL ["_law_lists_here", "_law_ring"] []) (GL : FnOk P w K mg base CX0 2 fL dL ["_law_lists_here", "_law_ring"] (spLRing K))
    (gM : mg "_law_merged" = some (.ref fM)) (kM : PySem.W.keepIn K (.ref fM) = true) (bM : Binds K dM ["_law_lists_here"] []) (GM : FnOk P w K mg base CX0 1 fM dM ["_law_lists_here"] (spLMerged K)) :
    FnG P w K mg base CX0 3 f fd ["_law_lists_here", "_law_paper"] (spRight K) := by
  refine FnG.of F scRight (fun vs H Q E h => ?_) (fun cdv A outer s H vs Q E hr hg0 h => ?_)
  · obtain ⟨a, v, d, ps, U, rfl, _⟩ := h
    rfl
  · obtain ⟨a, v, d, ps, U, rfl, hL, dr, hP, ⟨o1, e1⟩, k⟩ := h
    have hr1 : Room 1 _ := hr.mono (by decide)
    have hg : (cxOf CX0 P w K mg base nRight "_law_is_right" (defScope sRight) f cdv A outer s H E).nox.A.guards = some [] := hg0
    have hu64 : (cxOf CX0 P w K mg base nRight "_law_is_right" (defScope sRight) f cdv A outer s H E).nox.A.units + 64 < cLine := by
      have h2 := hr.un
      show (A.deeper (PyProof.Rows.envOfC "_law_is_right" (defScope sRight) s.heap.objs.size f cdv)).units + 64 < cLine
      omega
    refine ⟨_, pss_cons (ps_if (PW.pt (pw_or (pt_not (pt_val (pe_callB call_isi (by rfl) T.isinstance (by decide +kernel) (pa_cons (pv 1) (pa_cons (pe_bltn (v := .ty "tuple") (by rfl) T.tuple (by decide +kernel) rfl) pa_nil)))))
        (pw_or1 (pt_cmpR op_ne (pe_callB call_len_seq (by rfl) T.len PySem.boot_len (pa_cons (pv 1) pa_nil)) pe_int (nomark _))))) (pss_one (ps_ret pe_bl)) pss_nil)
      (pss_cons (ps_if (pt_cmpR (op_eqS (by omega)) (pe_ix ix_tup (pv 1) pe_int (fun _ _ => rfl)) pe_str (nomark _)) (pss_one (ps_ret (pe_call GL hr rfl gL kL bL .nil pass0 (pa_cons (pv 0) (pa_cons (pe_ix ix_tup (pv 1) pe_int (fun _ _ => rfl)) pa_nil))))) pss_nil)
      (pss_cons (ps_set (i := 2) scRight.nd rfl (Or.inl rfl) (pe_call GM hr1 rfl gM kM bM .nil pass0 (pa_cons (pv 0) pa_nil)))
      (pss_one (ps_ret (pe_and (pe_cmpR op_nn (pv 2) pe_non (nomark _)) (pe_one (pe_cmpR op_eq (pe_callB (cr_reprQ hg hu64) (by rfl) hrep (by decide +kernel) (pa_cons (pv 1) pa_nil)) (pe_callB (cr_reprQ hg hu64) (by rfl) hrep (by decide +kernel) (pa_cons (pe_tup (pa_cons pe_str (pa_cons (pv 2) pa_nil))) pa_nil)) (nomark _)))))))), ?_⟩
    have no : ∀ G, Same H G → rightD (lsOf ps) d = false → Q (.bl false) G := fun G s e => by have := k G s; rw [e] at this; exact this
    obtain ⟨dq, fine, few, dp⟩ := id hP
    refine ⟨_, rfl, v, .ty "tuple", _, .type "tuple", _, rfl, .ty _, dq_ty dq, kit_tup d, _, rfl, ?_⟩
    cases dq with
    | non => exact ite_true_of rfl (no _ (Same.refl _) rfl)
    | bl b => exact ite_true_of rfl (no _ (Same.refl _) rfl)
    | int i => exact ite_true_of rfl (no _ (Same.refl _) rfl)
    | str x => exact ite_true_of rfl (no _ (Same.refl _) rfl)
    | lst _ _ _ => exact ite_true_of rfl (no _ (Same.refl _) rfl)
    | dic _ => exact ite_true_of rfl (no _ (Same.refl _) rfl)
    | @tup t xs ds hT hd =>
      refine ite_false_of rfl ?_
      have ll := hd.len
      refine ⟨_, rfl, t, xs, rfl, .inr hT, rfl, _, rfl, ?_⟩
      by_cases c3 : xs.length = 2
      case neg =>
        have e3 : (!decide (V.int ((xs.length : Nat) : Int) = V.int 2)) = true := by
          rw [Bool.not_eq_true', decide_eq_false_iff_not]
          intro z
          have := V.int.inj z
          omega
        exact ite_true_of e3 (no _ (Same.refl _) (right_len (by omega)))
      have e3 : (!decide (V.int ((xs.length : Nat) : Int) = V.int 2)) = false := by rw [c3]; rfl
      refine ite_false_of e3 ?_
      obtain ⟨x1, x2, d1, d2, exs, eds, h1, h2⟩ := dq_two hd c3
      subst exs eds
      have n2 : nodes d2 ≤ 1000 := by
        have : 1 + (nodes d1 + (nodes d2 + 0)) ≤ 1000 := few
        omega
      have f2 : fineD d2 = true := by
        unfold fineD at fine
        exact (fine_cons (fine_cons fine).2).1
      have p2 : d2.depth ≤ 20 := by
        have : max d1.depth (max d2.depth 0) + 1 ≤ 20 := dp
        omega
      have eR : rightD (lsOf ps) (.tuple [d1, d2]) = right1 (lsOf ps) [d1, d2] := rfl
      rw [eR] at k no
      refine ⟨_, rfl, t, _, 0, x1, rfl, rfl, hT, rfl, d1, "ring", h1, rfl, _, rfl, ?_⟩
      cases cR : strIs "ring" d1 with
      | true =>
        rw [right_ring cR] at k
        refine ite_true_of rfl ⟨_, rfl, _, rfl, t, _, 1, x2, rfl, rfl, hT, rfl, a, x2, d2, ps, rfl, hL, by have := dr.few; omega, dr.nd, ⟨h2, f2, n2, p2⟩, fun H2 s2 => k _ s2⟩
      | false =>
      refine ite_false_of rfl ?_
      refine ⟨_, rfl, a, ps, rfl, hL, dr.fit, fun u H1 s1 out => ?_⟩
      dsimp only [gName]
      refine ⟨_, rfl, rfl, ?_⟩
      rcases out with ⟨n, q, emp, rfl, nq, eq⟩ | ⟨n, ff, ⟨r1, hr1', ne⟩, rfl⟩
      · refine ⟨_, rfl, ite_true_of rfl ?_⟩
        have q1 : q ≠ 1 := fun z => by rw [z, e1] at nq; cases nq
        obtain ⟨a1, a2, a3⟩ := hP.parts
        refine ⟨_, rfl, _, _, rfl, (hP.keep s1).dq, a1, a2, a3, ?_⟩
        refine ⟨_, rfl, by show 2 ≤ sizeLine; decide, fun p hp => ?_⟩
        have nd : ∀ l ∈ lsOf ps, l.Nodup := fun l hl => by
          obtain ⟨p0, hp0, rfl⟩ := List.mem_map.mp hl
          exact dr.nd p0 hp0
        have inU : ∀ z ∈ (Mg.st (lsOf ps) n).1, z ∈ U ∧ Big z := fun z hz => by
          obtain ⟨l, hl, hzl⟩ := (Mg.st_items (lsOf ps) n).1 z hz
          obtain ⟨p0, hp0, rfl⟩ := List.mem_map.mp hl
          exact ⟨dr.all p0 hp0 z hzl, dr.big p0 hp0 z hzl⟩
        have len60 : (Mg.st (lsOf ps) n).1.length ≤ 60 := Nat.le_trans (nodup_le_len (Mg.ok_st nd n).nd fun z hz => (inU z hz).1) dr.uni
        have po : Pap K (upd H1 p (.tup [.str "order", .ref q])) (.ref p) (pairD "order" (Mg.st (lsOf ps) n).1) := pap_order upd_same (app eq hp) q1 (fun z hz => (inU z hz).2) (by omega)
        obtain ⟨c1, c2, c3⟩ := po.parts
        refine ⟨_, _, rfl, po.dq, c1, c2, c3, rfl, ?_⟩
        have s2 := s1.trans (same_new (o := .tup [.str "order", .ref q]) hp)
        have kk := k _ s2
        have e5 : right1 (lsOf ps) [d1, d2] = decide (V.str (PyData.shown (.tuple [d1, d2])) = V.str (PyData.shown (pairD "order" (Mg.st (lsOf ps) n).1))) := by
          rw [Bool.eq_iff_iff, decide_eq_true_iff]
          have key : V.str (PyData.shown (.tuple [d1, d2])) = V.str (PyData.shown (pairD "order" (Mg.st (lsOf ps) n).1)) ↔ (PyData.tuple [d1, d2]) = pairD "order" (Mg.st (lsOf ps) n).1 :=
            ⟨fun z => (hP.same po).mp (V.str.inj z), fun z => congrArg V.str ((hP.same po).mpr z)⟩
          rw [key]
          cases cO : strIs "order" d1 with
          | false =>
            rw [right_not cR cO]
            refine ⟨fun z => (nomatch z), fun z => ?_⟩
            have := (List.cons.inj (PyData.tuple.inj z)).1
            rw [this] at cO
            exact absurd cO (by unfold strIs; decide +kernel)
          | true =>
            obtain ⟨eo, rfl⟩ := right_order (ls := lsOf ps) (th := d2) cO
            rw [eo, ordB_iff]
            constructor
            · rintro ⟨m, em, rfl⟩
              rw [Mg.final_unique (Mg.firstFree_of_empty emp) (Mg.firstFree_of_empty em)]
              rfl
            · intro z
              exact ⟨n, emp, (List.cons.inj (List.cons.inj (PyData.tuple.inj z)).2).1⟩
        rw [e5] at kk
        exact kk
      · refine ⟨_, rfl, ite_false_of rfl (no _ s1 ?_)⟩
        cases cO : strIs "order" d1 with
        | false => exact right_not cR cO
        | true =>
          obtain ⟨eo, _⟩ := right_order (ls := lsOf ps) (th := d2) cO
          rw [eo, Bool.eq_false_iff]
          intro z
          obtain ⟨m, em, _⟩ := ordB_iff.mp z
          have e6 := Mg.final_unique ff (Mg.firstFree_of_empty em)
          rw [e6] at hr1'
          exact ne (em r1 hr1')
end
end Lw

set_option autoImplicit true
set_option Elab.async false
set_option linter.all false
set_option maxRecDepth 100000
set_option maxHeartbeats 4000000
/-! k02: law. -/
namespace Lw
open PySem L2 Two Pr Rp
abbrev sLaw : Stmt := top 37
abbrev nLaw : List Str := ["_law_script", "_law_cell", "_law_source_here", "_law_lists_here", "_law_original", "_law_papers", "_law_k", "_law_ring", "_law_paper", "_law_kept", "_law_told", "_law_item", "_law_at"]
theorem scLaw : FnScope nLaw ["_law_script"] (defScope sLaw) := ⟨rfl, rfl, rfl, by decide +kernel, rfl, by decide +kernel, by decide +kernel⟩
def Sys (H : Hp) : Prop := ∃ o, H 1 = some (.frz o (.own 0))
def spLaw (K : PySem.W.Frag) : Sp := fun vs H Q _ => ∃ (a : Addr) (ns : List Int), vs = [.ref a] ∧ SqL K H a (ns.map V.int) ∧ ns.length ≤ 63 ∧ Sys H ∧ ∀ H', Q (.bl true) H'
abbrev tShift (K : PySem.W.Frag) : TE := tTup (tCons (tVar 11) (tCons (tOp (rI0 fun i j => .int (i - j)) (tVar 12) (tCB (rLenQ K) (tCons (tVar 3) tNil))) tNil))
structure Defs (P : Program) (w : World) (K : PySem.W.Frag) (mg : Str → Option Value) (base : Heap) (fC fS fL fM fW fK fJ fI fR : Addr) (dC dS dL dM dW dK dJ dI dR : FuncData) : Prop where
  T : Txt mg
  repr : mg "repr" = none
  sum : mg "sum" = none
  sorted : mg "sorted" = none
  gC : mg "_law_cell_at" = some (.ref fC)
  kC : PySem.W.keepIn K (.ref fC) = true
  bC : Binds K dC ["_law_script", "_law_k"] []
  GC : FnOk P w K mg base CX0 1 fC dC ["_law_script", "_law_k"] (spCell K)
  gS : mg "_law_source" = some (.ref fS)
  kS : PySem.W.keepIn K (.ref fS) = true
  bS : Binds K dS ["_law_cell"] []
  GS : FnOk P w K mg base CX0 1 fS dS ["_law_cell"] (spSource)
  gL : mg "_law_lists" = some (.ref fL)
  kL : PySem.W.keepIn K (.ref fL) = true
  bL : Binds K dL ["_law_source_here", "_law_most"] []
  GL : FnOk P w K mg base CX0 4 fL dL ["_law_source_here", "_law_most"] (spLists K)
  gM : mg "merge" = some (.ref fM)
  kM : PySem.W.keepIn K (.ref fM) = true
  bM : Binds K dM ["lists"] []
  GM : FnOk P w K mg base CX0 4 fM dM ["lists"] (spMerge K)
  gW : mg "_law_merged" = some (.ref fW)
  kW : PySem.W.keepIn K (.ref fW) = true
  bW : Binds K dW ["_law_lists_here"] []
  GW : FnOk P w K mg base CX0 1 fW dW ["_law_lists_here"] (spLMerged K)
  gK : mg "_law_round" = some (.ref fK)
  kK : PySem.W.keepIn K (.ref fK) = true
  bK : Binds K dK ["_law_source_here", "_law_lists_here"] []
  GK : FnOk P w K mg base CX0 3 fK dK ["_law_source_here", "_law_lists_here"] (spRound K)
  gJ : mg "_law_bent" = some (.ref fJ)
  kJ : PySem.W.keepIn K (.ref fJ) = true
  bJ : Binds K dJ ["_law_source_here", "_law_paper"] []
  GJ : FnOk P w K mg base CX0 3 fJ dJ ["_law_source_here", "_law_paper"] (spBentM K)
  gI : mg "shows_merge" = some (.ref fI)
  kI : PySem.W.keepIn K (.ref fI) = true
  bI : Binds K dI ["lists", "paper"] []
  GI : FnOk P w K mg base CX0 5 fI dI ["lists", "paper"] (spShowsD K)
  gR : mg "_law_is_right" = some (.ref fR)
  kR : PySem.W.keepIn K (.ref fR) = true
  bR : Binds K dR ["_law_lists_here", "_law_paper"] []
  GR : FnG P w K mg base CX0 3 fR dR ["_law_lists_here", "_law_paper"] (spRight K)
section
variable {P : Program} {w : World} {K : PySem.W.Frag} {mg : Str → Option Value} {base : Heap} {fC fS fL fM fW fK fJ fI fR : Addr} {dC dS dL dM dW dK dJ dI dR : FuncData}
theorem joinS {t u : TS} {D : Ends} {σ : L2.St} {H : Hp} (R : L2.St → Hp → Prop) (h : ∀ D' : Ends, D'.rt = D.rt → (∀ σ G, R σ G → D'.nx σ G) → t D' σ H) (hR : ∀ σ G, R σ G → u D σ G) : tSeq t u D σ H := h { D with nx := u D } rfl hR
theorem Sys.keep {H H' : Hp} (s : Sys H) (k : Same H H') : Sys H' := let ⟨o, h⟩ := s; ⟨o, k _ _ h⟩
/-- a new hidden object in place of another -/
theorem cz_swap {l r : Addr} {D : List Addr} {G : Hp} {o : HO} (nr : G r = none) : Same (cz l D G) (cz l [r] (upd G r o)) := fun p u e => by
  obtain ⟨h1, h2⟩ := cz_ne e
  have e2 := cz_same _ _ e
  have pr : p ≠ r := fun z => by rw [z, nr] at e2; cases e2
  exact cz_of (app e2 nr) h1 fun z => pr (List.mem_singleton.mp z)
theorem cz_nil {l : Addr} {G : Hp} {p : Addr} {o : HO} (e : G p = some o) (h : p ≠ l) : cz l [] G p = some o := cz_of e h (fun z => nomatch z)
/-- how the law stands between two statements: D the list of papers, xs its papers -/
structure LI (K : PySem.W.Frag) (G0 : Hp) (l a : Addr) (ps : List (Addr × List Int)) (n : Nat) (D : List Addr) (G : Hp) : Prop where
  same : Same G0 G
  nl : G0 l = none
  nD : ∀ d ∈ D, G0 d = none
  lD : l ∉ D
  src : Src G l n
  bas : Bas l D G
  ea : cz l D G a = some (.lst (refsOf ps))
  el : ∀ p ∈ ps, cz l D G p.1 = some (.lst (p.2.map V.int))
theorem LI.draw {G0 : Hp} {l a : Addr} {ps : List (Addr × List Int)} {n m : Nat} {D : List Addr} {G G' : Hp} (I : LI K G0 l a ps n D G) (b : But (· = l) G G') (s : Src G' l m) : LI K G0 l a ps m D G' :=
  ⟨fun p o e => b _ _ (fun z => by rw [z, I.nl] at e; cases e) (I.same _ _ e), I.nl, I.nD, I.lD, s, I.bas.but I.lD b s, cz_but b _ _ I.ea, fun p hp => cz_but b _ _ (I.el p hp)⟩
theorem LI.keep {G0 : Hp} {l a : Addr} {ps : List (Addr × List Int)} {n : Nat} {D : List Addr} {G G' : Hp} (I : LI K G0 l a ps n D G) (s : Same G G') : LI K G0 l a ps n D G' :=
  ⟨I.same.trans s, I.nl, I.nD, I.lD, I.src.keep s, I.bas.keep s, cz_keep s _ _ I.ea, fun p hp => cz_keep s _ _ (I.el p hp)⟩
theorem LI.more {G0 : Hp} {l a : Addr} {ps : List (Addr × List Int)} {n m : Nat} {D : List Addr} {G : Hp} (I : LI K G0 l a ps n D G) (h : n ≤ m) : LI K G0 l a ps m D G := { I with src := I.src.more h }
/-- a new list takes the place of the hidden one -/
theorem LI.new {G0 : Hp} {l a r : Addr} {ps : List (Addr × List Int)} {n : Nat} {D : List Addr} {G : Hp} {o : HO} (I : LI K G0 l a ps n D G) (nr : G r = none) : LI K G0 l a ps n [r] (upd G r o) ∧ r ≠ l := by
  have rl : r ≠ l := fun z => by rw [z] at nr; exact I.bas.hl nr
  have sw := cz_swap (l := l) (D := D) (o := o) nr
  refine ⟨⟨I.same.trans (same_new nr), I.nl, fun d hd => ?_, fun z => rl (List.mem_singleton.mp z).symm, I.src.keep (same_new nr), ⟨?_, fun d hd => ?_, ?_⟩, sw _ _ I.ea, fun p hp => sw _ _ (I.el p hp)⟩, rl⟩
  · rw [List.mem_singleton.mp hd]
    exact none_of_same I.same nr
  · rw [upd_ne rl.symm]
    exact I.bas.hl
  · rw [List.mem_singleton.mp hd, upd_same]
    exact fun z => nomatch z
  · obtain ⟨o, e⟩ := I.bas.hs
    exact ⟨o, sw _ _ e⟩
/-- the hidden list changes -/
theorem LI.put {G0 : Hp} {l a d : Addr} {ps : List (Addr × List Int)} {n : Nat} {G : Hp} {o : HO} (I : LI K G0 l a ps n [d] G) : LI K G0 l a ps n [d] (upd G d o) := by
  have dl : d ≠ l := fun z => I.lD (by rw [z]; exact List.mem_cons_self)
  have e : cz l [d] (upd G d o) = cz l [d] G := cz_upd List.mem_cons_self
  refine ⟨same_upd I.same (I.nD d List.mem_cons_self), I.nl, I.nD, I.lD, I.src.upd dl, ⟨?_, fun x hx => ?_, by rw [e]; exact I.bas.hs⟩, by rw [e]; exact I.ea, fun p hp => by rw [e]; exact I.el p hp⟩
  · rw [upd_ne dl.symm]
    exact I.bas.hl
  · rw [List.mem_singleton.mp hx, upd_same]
    exact fun z => nomatch z
theorem LI.lof {G0 : Hp} {l a : Addr} {ps : List (Addr × List Int)} {n : Nat} {D : List Addr} {G : Hp} (I : LI K G0 l a ps n D G) : LofL K G a ps := ⟨SqL.of (cz_same _ _ I.ea), fun p hp => SqL.of (cz_same _ _ (I.el p hp))⟩
theorem LI.one {G0 : Hp} {l a : Addr} {ps : List (Addr × List Int)} {n : Nat} {D : List Addr} {G : Hp} (I : LI K G0 l a ps n D G) : ∃ o, G 1 = some (.frz o (.own 0)) := let ⟨o, e⟩ := I.bas.hs; ⟨o, cz_same _ _ e⟩
/-- a list of links -/
theorem ring_w {C : Hp} {t p : Addr} {us : List Lnk} (et : C t = some (.tup [.str "ring", .ref p])) (ep : C p = some (.lst (us.map fun u => V.ref u.1))) (eu : ∀ u ∈ us, C u.1 = some (.tup [.int u.2.1, .int u.2.2])) (p1 : p ≠ 1) (sm : us.length ≤ 60 ∧ ∀ u ∈ us, u.2.1.natAbs < 10 ^ 31 ∧ u.2.2.natAbs < 10 ^ 31) : WPap K C t "ring" p (us.map fun u => V.ref u.1) := by
  refine ⟨et, by decide +kernel, ep, p1, by rw [List.length_map]; exact sm.1, fun v hv => ?_⟩
  obtain ⟨u, hu, rfl⟩ := List.mem_map.mp hv
  obtain ⟨s1, s2⟩ := sm.2 u hu
  refine ⟨.tuple [.int u.2.1, .int u.2.2], .tup (SqT.of (eu u hu)) (.cons (.int _) (.cons (.int _) .nil)), ?_, Nat.le_refl _, Nat.le_refl _⟩
  show (fineD (.int u.2.1) && (fineD (.int u.2.2) && true)) = true
  rw [show fineD (.int u.2.1) = true from decide_eq_true s1, show fineD (.int u.2.2) = true from decide_eq_true s2]
  rfl
theorem order_w {C : Hp} {t p : Addr} {l : List Int} (et : C t = some (.tup [.str "order", .ref p])) (ep : C p = some (.lst (l.map V.int))) (p1 : p ≠ 1) (few : l.length ≤ 60) (big : ∀ z ∈ l, Big z) : WPap K C t "order" p (l.map V.int) := by
  refine ⟨et, by decide +kernel, ep, p1, by rw [List.length_map]; exact few, fun v hv => ?_⟩
  obtain ⟨z, hz, rfl⟩ := List.mem_map.mp hv
  exact ⟨.int z, .int z, decide_eq_true (Nat.lt_of_le_of_lt (big z hz) (by decide)), by show 1 ≤ 3; decide, Nat.zero_le _⟩
theorem WPap.pap {C : Hp} {t p : Addr} {w : Str} {xs : List V} (h : WPap K C t w p xs) : PapQ K C (.ref t) 975 4 := by
  obtain ⟨ds, x, y, z, w'⟩ := paps h.each
  refine ⟨.tuple [.str w, .list ds], .tup (SqT.of h.et) (.cons (.str w) (.cons (.lst (SqL.of h.ep) h.p1 x) .nil)), ?_, ?_, ?_⟩
  · show (fineD (.str w) && (fineAll ds && true)) = true
    rw [h.fw, y]
    rfl
  · show 1 + (1 + (1 + nodesAll ds + 0)) ≤ 975
    have := h.few
    have := Nat.mul_le_mul_right 3 this
    omega
  · show max 0 (max (PyData.depthAll ds + 1) 0) + 1 ≤ 4
    omega
/-- a paper with a word -/
def IsW (K : PySem.W.Frag) (C : Hp) (v : V) : Prop := ∃ t w p xs, v = .ref t ∧ WPap K C t w p xs
theorem IsW.keep {C C' : Hp} {v : V} (h : IsW K C v) (s : Same C C') : IsW K C' v := let ⟨t, w, p, xs, e, h⟩ := h; ⟨t, w, p, xs, e, h.keep s⟩
theorem IsW.pap {C : Hp} {v : V} (h : IsW K C v) : PapQ K C v 975 4 := by
  obtain ⟨t, w, p, xs, rfl, h⟩ := h
  exact h.pap
/-- what stands among the papers until they are bent: the second one may be none -/
def PLs (K : PySem.W.Frag) (C : Hp) (xs : List V) : Prop := ∃ v0 v1 vs, xs = v0 :: v1 :: vs ∧ IsW K C v0 ∧ PapQ K C v1 975 4 ∧ ∀ v ∈ vs, IsW K C v
theorem PLs.keep {C C' : Hp} {xs : List V} (h : PLs K C xs) (s : Same C C') : PLs K C' xs := let ⟨v0, v1, vs, e, a, b, c⟩ := h; ⟨v0, v1, vs, e, a.keep s, b.keep s, fun v hv => (c v hv).keep s⟩
theorem PLs.add {C : Hp} {xs ys : List V} (h : PLs K C xs) (n : ∀ v ∈ ys, IsW K C v) : PLs K C (xs ++ ys) := by
  obtain ⟨v0, v1, vs, rfl, a, b, c⟩ := h
  refine ⟨v0, v1, vs ++ ys, rfl, a, b, fun v hv => ?_⟩
  rcases List.mem_append.mp hv with hv | hv
  · exact c v hv
  · exact n v hv
theorem PLs.all {C : Hp} {xs : List V} (h : PLs K C xs) : ∀ v ∈ xs, PapQ K C v 975 4 := by
  obtain ⟨v0, v1, vs, rfl, a, b, c⟩ := h
  intro v hv
  rcases List.mem_cons.mp hv with rfl | hv
  · exact a.pap
  · rcases List.mem_cons.mp hv with rfl | hv
    · exact b
    · exact (c v hv).pap
/-- the lists themselves can be shown -/
theorem LI.shown {G0 : Hp} {l a : Addr} {ps : List (Addr × List Int)} {U : List Int} {n : Nat} {D : List Addr} {G : Hp} (I : LI K G0 l a ps n D G) (dr : Drawn ps U) (few : ∀ p ∈ ps, p.2.length ≤ 12) : Pap K G (.ref a) (.list (ps.map fun p => intsD p.2)) := by
  have n1 : ∀ {q : Addr} {xs : List V}, G q = some (.lst xs) → q ≠ 1 := fun e z => by
    obtain ⟨o, e1⟩ := I.one
    rw [z, e1] at e
    cases e
  have key : ∀ qs : List (Addr × List Int), (∀ p ∈ qs, G p.1 = some (.lst (p.2.map V.int)) ∧ p.2.length ≤ 12 ∧ ∀ z ∈ p.2, Big z) → DqAll K G (refsOf qs) (qs.map fun p => intsD p.2) ∧ fineAll (qs.map fun p => intsD p.2) = true ∧ nodesAll (qs.map fun p => intsD p.2) ≤ 13 * qs.length ∧ PyData.depthAll (qs.map fun p => intsD p.2) ≤ 1 := by
    intro qs
    induction qs with
    | nil => exact fun _ => ⟨.nil, rfl, Nat.le_refl _, Nat.zero_le _⟩
    | cons q qs ih =>
      intro h
      obtain ⟨h1, h2, h3⟩ := h q List.mem_cons_self
      obtain ⟨i1, i2, i3, i4⟩ := ih fun p hp => h p (List.mem_cons_of_mem _ hp)
      refine ⟨.cons (.lst (SqL.of h1) (n1 h1) (ints_dq q.2)) i1, ?_, ?_, ?_⟩
      · show (fineAll (q.2.map PyData.int) && fineAll (qs.map fun p => intsD p.2)) = true
        rw [ints_fine h3, i2]
        rfl
      · show 1 + nodesAll (q.2.map PyData.int) + nodesAll (qs.map fun p => intsD p.2) ≤ 13 * (qs.length + 1)
        rw [ints_nodes]
        omega
      · show max (PyData.depthAll (q.2.map PyData.int) + 1) (PyData.depthAll (qs.map fun p => intsD p.2)) ≤ 1
        rw [depth_ints]
        omega
  obtain ⟨k1, k2, k3, k4⟩ := key ps fun p hp => ⟨cz_same _ _ (I.el p hp), few p hp, dr.big p hp⟩
  refine ⟨.lst (SqL.of (cz_same _ _ I.ea)) (n1 (cz_same _ _ I.ea)) k1, k2, ?_, ?_⟩
  · show 1 + nodesAll (ps.map fun p => intsD p.2) ≤ 1000
    have := dr.few
    omega
  · show PyData.depthAll (ps.map fun p => intsD p.2) + 1 ≤ 20
    omega
theorem order_in {ps : List (Addr × List Int)} {U : List Int} (dr : Drawn ps U) (n : Nat) : (Mg.st (lsOf ps) n).1.length ≤ 60 ∧ ∀ z ∈ (Mg.st (lsOf ps) n).1, Big z := by
  have nd : ∀ l ∈ lsOf ps, l.Nodup := fun l hl => by
    obtain ⟨p0, hp0, rfl⟩ := List.mem_map.mp hl
    exact dr.nd p0 hp0
  have inU : ∀ z ∈ (Mg.st (lsOf ps) n).1, z ∈ U ∧ Big z := fun z hz => by
    obtain ⟨l, hl, hzl⟩ := (Mg.st_items (lsOf ps) n).1 z hz
    obtain ⟨p0, hp0, rfl⟩ := List.mem_map.mp hl
    exact ⟨dr.all p0 hp0 z hzl, dr.big p0 hp0 z hzl⟩
  exact ⟨Nat.le_trans (nodup_le_len (Mg.ok_st nd n).nd fun z hz => (inU z hz).1) dr.uni, fun z hz => (inU z hz).2⟩
theorem ring_in {ps : List (Addr × List Int)} {U : List Int} (dr : Drawn ps U) {vs : List (Int × Nat)} (R : Mg.IsRing (lsOf ps) vs) : ∀ u ∈ vs, Big u.1 ∧ u.2 < 15 := fun u hu => by
  obtain ⟨k, hk⟩ := List.getElem?_of_mem hu
  obtain ⟨a, i, b, j, l, h1, h2, h3, u', v', e, _⟩ := R.link k (List.getElem?_eq_some_iff.mp hk).1
  rw [hk] at h1
  obtain rfl := Option.some.inj h1
  have hi := (List.getElem?_eq_some_iff.mp h3).1
  unfold lsOf at hi
  rw [List.length_map] at hi
  obtain ⟨p0, hp0, rfl⟩ := List.mem_map.mp (List.mem_of_getElem? h3)
  have := dr.few
  refine ⟨dr.big p0 hp0 a (by rw [e]; exact List.mem_append_right _ List.mem_cons_self), ?_⟩
  show i < 15
  by_cases c : i < 15
  · exact c
  · have := dr.few
    exact absurd (Nat.lt_of_lt_of_le hi this) c
theorem merge_w {G G' : Hp} {l : Addr} {v : V} {ps : List (Addr × List Int)} {xl : List V} {W : List Int} (dr : Drawn ps W) (out : MergeOut G G' (lsOf ps) v) (one : ∃ o, G 1 = some o) (nl : G l ≠ none) (el : G' l = some (.lst xl)) : IsW K (cz l [] G') v := by
  obtain ⟨t, q, rfl, nt, nq, r⟩ := out
  have tl : t ≠ l := fun z => nl (by rw [← z]; exact nt)
  have ql : q ≠ l := fun z => nl (by rw [← z]; exact nq)
  have q1 : q ≠ 1 := fun z => by
    obtain ⟨o, e⟩ := one
    rw [z, e] at nq
    cases nq
  rcases r with ⟨n, emp, e1, e2⟩ | ⟨n, us, ff, ex, e1, e2, e3, R, l30, _⟩
  · exact ⟨t, "order", q, _, rfl, order_w (cz_nil e1 tl) (cz_nil e2 ql) q1 (order_in dr n).1 (order_in dr n).2⟩
  · refine ⟨t, "ring", q, _, rfl, ring_w (us := us.map fun u => (u.1, u.2.1, ((u.2.2 : Nat) : Int))) (cz_nil e1 tl) ?_ (fun w hw => ?_) q1 ⟨by rw [List.length_map]; omega, fun w hw => ?_⟩⟩
    · rw [List.map_map]
      exact cz_nil e2 ql
    · obtain ⟨u, hu, rfl⟩ := List.mem_map.mp hw
      exact cz_nil (e3 u hu) fun z => by have := e3 u hu; rw [z, el] at this; cases this
    · obtain ⟨u, hu, rfl⟩ := List.mem_map.mp hw
      obtain ⟨h1, h2⟩ := ring_in dr R u.2 (List.mem_map.mpr ⟨u, hu, rfl⟩)
      refine ⟨Nat.lt_of_le_of_lt h1 (by decide), ?_⟩
      show ((u.2.2 : Nat) : Int).natAbs < 10 ^ 31
      exact Nat.lt_of_le_of_lt (show _ ≤ 15 by omega) (by decide)
theorem due_p {G G' : Hp} {l t : Addr} {v : V} {ps : List (Addr × List Int)} {W : List Int} (dr : Drawn ps W) (out : LMOut G G' (lsOf ps) v) (one : ∃ o, G 1 = some o) (nl : G l ≠ none) {C : Hp} (sC : Same (cz l [] G') C) (et : C t = some (.tup [.str "order", v])) : PapQ K C (.ref t) 975 4 := by
  rcases out with ⟨n, q, emp, rfl, nq, eq⟩ | ⟨n, ff, ex, rfl⟩
  · have ql : q ≠ l := fun z => nl (by rw [← z]; exact nq)
    have q1 : q ≠ 1 := fun z => by
      obtain ⟨o, e⟩ := one
      rw [z, e] at nq
      cases nq
    exact (order_w (K := K) et (sC _ _ (cz_nil eq ql)) q1 (order_in dr n).1 (order_in dr n).2).pap
  · refine ⟨.tuple [.str "order", .none], .tup (SqT.of et) (.cons (.str "order") (.cons .non .nil)), ?_, by decide, by decide⟩
    show (fineD (.str "order") && true) = true
    rw [show fineD (.str "order") = true from by decide +kernel]
    rfl
theorem links_w {G : Hp} {l p t : Addr} {us : List Lnk} (rp : RingP G p us) (sm : SmallR us 16) {C : Hp} (sC : Same (cz l [] G) C) (pl : p ≠ l) (p1 : p ≠ 1) {xl : List V} (el : G l = some (.lst xl)) (et : C t = some (.tup [.str "ring", .ref p])) : IsW K C (.ref t) :=
  ⟨t, "ring", p, _, rfl, ring_w et (sC _ _ (cz_nil rp.1 pl)) (fun u hu => sC _ _ (cz_nil (rp.2 u hu) fun z => by have := rp.2 u hu; rw [z, el] at this; cases this)) p1 ⟨by have := sm.1; omega, fun u hu => by
    obtain ⟨a, b, c⟩ := sm.2 u hu
    exact ⟨Nat.lt_of_le_of_lt a (by decide), Nat.lt_of_le_of_lt (show u.2.2.natAbs ≤ 1000 by omega) (by decide)⟩⟩⟩

theorem ok_law {f : Addr} {fd : FuncData} (F : Fun K "law" "law" sLaw f fd) (D : Defs P w K mg base fC fS fL fM fW fK fJ fI fR dC dS dL dM dW dK dJ dI dR) :
    FnG P w K mg base CX0 6 f fd ["_law_script"] (spLaw K) := by
  refine FnG.of F scLaw (fun vs H Q E h => ?_) (fun cdv A outer s H vs Q E hr hg0 h => ?_)
  · obtain ⟨a, ns, rfl, _⟩ := h
    rfl
  · obtain ⟨a, ns, rfl, hS, hlen, sys, k⟩ := h
    have hr1 : Room 1 _ := hr.mono (by decide)
    have hr3 : Room 3 _ := hr.mono (by decide)
    have hr4 : Room 4 _ := hr.mono (by decide)
    have hr5 : Room 5 _ := hr
    have hg : (cxOf CX0 P w K mg base nLaw "law" (defScope sLaw) f cdv A outer s H E).nox.A.guards = some [] := hg0
    have hu64 : (cxOf CX0 P w K mg base nLaw "law" (defScope sLaw) f cdv A outer s H E).nox.A.units + 64 < cLine := by
      have h2 := hr.un
      show (A.deeper (PyProof.Rows.envOfC "law" (defScope sLaw) s.heap.objs.size f cdv)).units + 64 < cLine
      omega
    refine ⟨_, (pss_cons (ps_for PassesOwn.never rfl (pi_list (pe_op op_cat (pe_lst (pa_cons (pe_call D.GC hr1 rfl D.gC D.kC D.bC .nil pass0 (pa_cons (pv 0) (pa_cons pe_int pa_nil))) pa_nil)) (pe_slice sl_list (pv 0) (po_some pe_int) (po_some pe_int)))) (pg_name (i := 1) scLaw.nd rfl (Or.inl rfl)) (pss_cons (ps_set (i := 2) scLaw.nd rfl (Or.inl rfl) (pe_call D.GS hr1 rfl D.gS D.kS D.bS .nil pass0 (pa_cons (pv 1) pa_nil)))
      (pss_cons (ps_set (i := 3) scLaw.nd rfl (Or.inr rfl) (pe_call D.GL hr4 rfl D.gL D.kL D.bL .nil pass0 (pa_cons (pv 2) (pa_cons pe_int pa_nil))))
      (pss_cons (ps_set (i := 4) scLaw.nd rfl (Or.inl rfl) (pe_callB (cr_reprQ hg hu64) (by rfl) D.repr (by decide +kernel) (pa_cons (pv 3) pa_nil)))
      (pss_cons (ps_set (i := 5) scLaw.nd rfl (Or.inl rfl) (pe_lst (pa_cons (pe_call D.GM hr4 rfl D.gM D.kM D.bM .nil pass0 (pa_cons (pv 3) pa_nil)) (pa_cons (pe_tup (pa_cons pe_str (pa_cons (pe_call D.GW hr1 rfl D.gW D.kW D.bW .nil pass0 (pa_cons (pv 3) pa_nil)) pa_nil))) (pa_cons (pe_tup (pa_cons pe_str (pa_cons (pe_call D.GK hr3 rfl D.gK D.kK D.bK .nil pass0 (pa_cons (pv 2) (pa_cons (pv 3) pa_nil))) pa_nil))) pa_nil)))))
      (pss_cons (ps_set (i := 5) scLaw.nd rfl (Or.inl rfl) (pe_op op_cat (pv 5) (pe_lst (pa_cons (pe_tup (pa_cons pe_str (pa_cons (pe_callB (cr_sortedSet rfl) (by rfl) D.sorted (by decide +kernel) (pa_cons (pe_callTy (cr_setL rfl) (by rfl) D.T.set (by decide +kernel) (pa_cons (pe_callB (cr_sumL rfl) (by rfl) D.sum (by decide +kernel) (pa_cons (pv 3) (pa_cons (pe_lst pa_nil) pa_nil))) pa_nil)) pa_nil)) pa_nil))) pa_nil))))
      (pss_cons (ps_for PassesOwn.never rfl (pi_range1 rfl D.T.range (pa_cons pe_int pa_nil)) (pg_name (i := 6) scLaw.nd rfl (Or.inl rfl)) (pss_cons (ps_set (i := 7) scLaw.nd rfl (Or.inl rfl) (pe_call D.GK hr3 rfl D.gK D.kK D.bK .nil pass0 (pa_cons (pv 2) (pa_cons (pv 3) pa_nil))))
      (pss_cons (ps_set (i := 5) scLaw.nd rfl (Or.inl rfl) (pe_op op_cat (pv 5) (pe_lst (pa_cons (pe_tup (pa_cons pe_str (pa_cons (pv 7) pa_nil))) (pa_cons (pe_tup (pa_cons pe_str (pa_cons (pe_op op_cat (pv 7) (pv 7)) pa_nil))) pa_nil)))))
      (pss_one (ps_expr (pe_bm PySem.F.plainAttrs_list PySem.F.slot_list_append PySem.F.type_list_append mt_append (pv 5) (pa_cons (pe_tup (pa_cons pe_str (pa_cons (pe_lc (own := [("_law_item", 11), ("_law_at", 12)]) (g := gTup K 2 (gCons (gName 11) (gCons (gName 12) gNil))) (tt := tYes) (te := tShift K) rfl scLaw.nd (pi_list (pv 7)) (blkOk_by (N := nLaw) (sc := defScope sLaw) (by decide +kernel)) (fun _ _ _ _ _ => pg_tup rfl (pgs_cons (pg_name (i := 11) scLaw.nd rfl (Or.inl rfl)) (pgs_cons (pg_name (i := 12) scLaw.nd rfl (Or.inl rfl)) pgs_nil))) (fun _ _ _ _ _ => pts_nil) (fun _ _ _ _ _ => pe_tup (pa_cons (pv 11) (pa_cons (pe_op op_sub (pv 12) (pe_callB call_lenQ (by rfl) D.T.len PySem.boot_len (pa_cons (pv 3) pa_nil))) pa_nil)))) pa_nil))) pa_nil)))))))
      (pss_cons (ps_for PassesOwn.never rfl (pi_list (pe_op op_cat (pe_slice sl_list (pv 5) po_none (po_some pe_int)) (pe_slice sl_list (pv 5) (po_some pe_int) po_none))) (pg_name (i := 8) scLaw.nd rfl (Or.inl rfl)) (pss_one (ps_expr (pe_bm PySem.F.plainAttrs_list PySem.F.slot_list_append PySem.F.type_list_append mt_append (pv 5) (pa_cons (pe_call D.GJ hr3 rfl D.gJ D.kJ D.bJ .nil pass0 (pa_cons (pv 2) (pa_cons (pv 8) pa_nil))) pa_nil)))))
      (pss_cons (ps_for PassesOwn.never rfl (pi_list (pv 5)) (pg_name (i := 8) scLaw.nd rfl (Or.inl rfl)) (pss_cons (ps_set (i := 9) scLaw.nd rfl (Or.inl rfl) (pe_callB (cr_reprQ hg hu64) (by rfl) D.repr (by decide +kernel) (pa_cons (pv 8) pa_nil)))
      (pss_cons (ps_set (i := 10) scLaw.nd rfl (Or.inl rfl) (pe_call D.GI hr5 rfl D.gI D.kI D.bI .nil pass0 (pa_cons (pv 3) (pa_cons (pv 8) pa_nil))))
      (pss_one (ps_if (PW.pt (pw_or (pt_not (pt_val (pe_callB call_isi (by rfl) D.T.isinstance (by decide +kernel) (pa_cons (pv 10) (pa_cons (pe_bltn (v := .ty "bool") (by rfl) D.T.bool (by decide +kernel) rfl) pa_nil))))) (pw_or (pt_cmpR op_ne (pv 10) (pe_callG D.GR hr3 hg rfl D.gR D.kR D.bR pass0 (pa_cons (pv 3) (pa_cons (pv 8) pa_nil))) (nomark _)) (pw_or1 (pt_cmpR op_ne (pe_callB (cr_reprQ hg hu64) (by rfl) D.repr (by decide +kernel) (pa_cons (pv 8) pa_nil)) (pv 9) (nomark _)))))) (pss_one (ps_ret pe_bl)) pss_nil)))))
      (pss_one (ps_if (pt_cmpR op_ne (pe_callB (cr_reprQ hg hu64) (by rfl) D.repr (by decide +kernel) (pa_cons (pv 3) pa_nil)) (pv 4) (nomark _)) (pss_one (ps_ret pe_bl)) pss_nil)))))))))))
      (pss_one (ps_ret pe_bl))), ?_⟩
    refine ⟨_, rfl, a, ns, 0, rfl, hS, by omega, fun z0 => ?_⟩
    refine ⟨by show 1 ≤ sizeLine; decide, fun A1 hA1 => ?_⟩
    have s1 : Same H (upd H A1 (.lst [.int z0])) := same_new hA1
    have hA1e : (upd H A1 (.lst [.int z0])) A1 = some (.lst [.int z0]) := upd_same
    generalize upd H A1 (.lst [.int z0]) = G1 at s1 hA1e ⊢
    refine ⟨_, rfl, _, rfl, _, rfl, a, _, rfl, s1.seq hS, fun A2 hA2 => ?_⟩
    obtain ⟨cs, hcs⟩ : ∃ cs : List Int, cutV (ns.map V.int) (some 1) (some 6) = cs.map V.int := by
      refine ⟨((ns.drop (HT.sIx (ns.map V.int).length 0 (some 1))).take (HT.sIx (ns.map V.int).length (ns.map V.int).length (some 6) - HT.sIx (ns.map V.int).length 0 (some 1))), ?_⟩
      unfold cutV
      rw [List.map_take, List.map_drop]
    have lcs : cs.length ≤ 63 := by
      have e := cutV_length (ns.map V.int) (some 1) (some 6)
      rw [hcs, List.length_map, List.length_map] at e
      omega
    rw [hcs]
    have s2 : Same G1 (upd G1 A2 (.lst (cs.map V.int))) := same_new hA2
    have hA2e : (upd G1 A2 (.lst (cs.map V.int))) A2 = some (.lst (cs.map V.int)) := upd_same
    generalize upd G1 A2 (.lst (cs.map V.int)) = G2 at s2 hA2e ⊢
    refine ⟨A1, A2, _, _, rfl, rfl, s2 _ _ hA1e, hA2e, Nat.le_of_lt (small1000 (by rw [List.length_map]; show 1 + cs.length ≤ 1000; omega)), fun Cs hCs => ?_⟩
    have ez : [V.int z0] ++ cs.map V.int = (z0 :: cs).map V.int := rfl
    rw [ez]
    have s3 : Same G2 (upd G2 Cs (.lst ((z0 :: cs).map V.int))) := same_new hCs
    have hCe : (upd G2 Cs (.lst ((z0 :: cs).map V.int))) Cs = some (.lst ((z0 :: cs).map V.int)) := upd_same
    have s03 := (s1.trans s2).trans s3
    generalize upd G2 Cs (.lst ((z0 :: cs).map V.int)) = G3 at hCe s03 ⊢
    clear s3
    have sys3 := sys.keep s03
    refine ⟨Cs, rfl, ⟨_, SqL.of hCe⟩, for_list (K := K) (a := Cs) (xs := (z0 :: cs).map V.int) (fun i σ G => (∃ (v1 v2 v3 v4 v5 v6 v7 v8 v9 v10 : Option V), σ = [some (.ref a), v1, v2, v3, v4, v5, v6, v7, v8, v9, v10, none, none]) ∧ Same G3 G)
      ⟨⟨_, _, _, _, _, _, _, _, _, _, rfl⟩, Same.refl _⟩ (fun i σ G _ p => SqL.of (p.2 _ _ hCe)) ?_ ?_⟩
    · rintro i x0 σ G hx0 ⟨⟨v1, v2, v3, v4, v5, v6, v7, v8, v9, v10, rfl⟩, sG⟩
      obtain ⟨y, hy, rfl⟩ := get_map hx0
      have sysG := sys3.keep sG
      clear hx0 hy s1 s2 hCs hA1e hA2e hA1 hA2 s03 hS
      refine ⟨_, rfl, y, rfl, fun G5 l s5 nl src => ?_⟩
      refine ⟨_, rfl, l, rfl, src, fun G6 a1 ps U b6 s6 ea el al lp few dr => ?_⟩
      have I6 : LI K G l a1 ps 2000 [] G6 := by
        have sm : Same G G6 := fun p o e => b6 _ _ (fun z => by rw [z, nl] at e; cases e) (s5 _ _ e)
        obtain ⟨o1, e1⟩ := sysG
        have l1 : (1 : Addr) ≠ l := fun z => by rw [z, nl] at e1; cases e1
        exact ⟨sm, nl, (fun _ h => nomatch h), (fun z => nomatch z), s6, ⟨fun z => (by obtain ⟨xl, e⟩ := src_lst s6; rw [e] at z; cases z), (fun _ h => nomatch h), o1, cz_nil (sm _ _ e1) l1⟩, cz_nil ea al, fun p hp => cz_nil (el p hp).1 (el p hp).2.2⟩
      have small : ∀ p ∈ ps, p.2.length ≤ 30 ∧ ∀ x ∈ p.2, Big x := fun p hp => ⟨by have := few p hp; omega, dr.big p hp⟩
      clear ea b6 s6 s5 src
      have npl : ∀ p ∈ ps, p.1 ≠ l := fun p hp => (el p hp).2.2
      clear el
      dsimp only [gName]
      obtain ⟨q1, q2, q3⟩ := (I6.shown dr few).parts
      refine ⟨_, rfl, _, _, rfl, (I6.shown dr few).dq, q1, q2, q3, ?_⟩
      dsimp only [gName]
      refine ⟨_, rfl, a1, ps, rfl, I6.lof, dr.fit, fun v0 G7 s7 out => ?_⟩
      have I7 := I6.keep s7
      refine ⟨_, rfl, a1, ps, rfl, I7.lof, dr.fit, fun u G8 s8 out2 => ⟨by show 2 ≤ sizeLine; decide, fun t1 nt1 => ?_⟩⟩
      have I9 := (I7.keep s8).keep (same_new (o := .tup [.str "order", u]) nt1)
      have et1 : (upd G8 t1 (.tup [.str "order", u])) t1 = some (.tup [.str "order", u]) := upd_same
      have s9 : Same G8 (upd G8 t1 (.tup [.str "order", u])) := same_new nt1
      have nt1l : t1 ≠ l := fun z => by rw [z] at nt1; exact (I7.keep s8).bas.hl nt1
      generalize (upd G8 t1 (.tup [.str "order", u])) = G9 at I9 et1 s9 ⊢
      refine ⟨_, rfl, _, rfl, l, a1, 2000, ps, rfl, I9.src, by decide, cz_same _ _ I9.ea, fun p hp => cz_same _ _ (I9.el p hp), al, npl, lp, small, fun G10 p us b10 s10 np rp sm => ⟨by show 2 ≤ sizeLine; decide, fun t2 nt2 => ?_⟩⟩
      have I10 := I9.draw b10 s10
      have I11 := I10.keep (same_new (o := .tup [.str "ring", .ref p]) nt2)
      have et2 : (upd G10 t2 (.tup [.str "ring", .ref p])) t2 = some (.tup [.str "ring", .ref p]) := upd_same
      have s11 : Same G10 (upd G10 t2 (.tup [.str "ring", .ref p])) := same_new nt2
      have nt2l : t2 ≠ l := fun z => by rw [z] at nt2; exact I10.bas.hl nt2
      generalize (upd G10 t2 (.tup [.str "ring", .ref p])) = G11 at I11 et2 s11 ⊢
      refine ⟨by show 3 ≤ sizeLine; decide, fun D0 nD0 => ?_⟩
      have P11 : PLs K (cz l [] G11) [v0, .ref t1, .ref t2] := by
        obtain ⟨xl7, el7⟩ := src_lst I7.src
        obtain ⟨xl10, el10⟩ := src_lst I10.src
        obtain ⟨o6, e6⟩ := I6.one
        obtain ⟨o7, e7⟩ := I7.one
        obtain ⟨o9, e9⟩ := I9.one
        have pl : p ≠ l := fun z => by rw [z] at np; exact I9.bas.hl np
        have p1 : p ≠ 1 := fun z => by rw [z, e9] at np; cases np
        have b7 : But (· = l) G7 G11 := but_trans (but_trans (but_same (s8.trans s9)) b10) (but_same s11)
        have b9 : But (· = l) G9 G11 := but_trans b10 (but_same s11)
        refine ⟨v0, .ref t1, [.ref t2], rfl, (merge_w dr out ⟨_, e6⟩ I6.bas.hl el7).keep (cz_but b7), ?_, fun v hv => ?_⟩
        · exact (due_p (K := K) (C := cz l [] G9) dr out2 ⟨_, e7⟩ I7.bas.hl (cz_keep s9) (cz_nil et1 nt1l)).keep (cz_but b9)
        · rw [List.mem_singleton.mp hv]
          exact links_w rp ⟨by have := sm.1; omega, sm.2⟩ (cz_keep s11) pl p1 el10 (cz_nil et2 nt2l)
      have P12 := P11.keep (cz_swap (o := .lst [v0, .ref t1, .ref t2]) nD0)
      obtain ⟨I12, D0l⟩ := I11.new (o := .lst [v0, .ref t1, .ref t2]) nD0
      have eD0 : (upd G11 D0 (.lst [v0, .ref t1, .ref t2])) D0 = some (.lst [v0, .ref t1, .ref t2]) := upd_same
      generalize (upd G11 D0 (.lst [v0, .ref t1, .ref t2])) = G12 at I12 P12 eD0 ⊢
      have lx3 : [v0, V.ref t1, V.ref t2].length = 3 := rfl
      generalize [v0, V.ref t1, V.ref t2] = xs0 at P12 eD0 lx3
      clear P11 I11 I10 I9 I7 s11 b10 s10 s9 s8 s7 out out2 rp sm et1 et2 np nt1 nt2 nD0
      dsimp only [gName]
      refine ⟨_, rfl, ?_⟩
      show tCB rSumL (tCons (tVar 3) (tCons (tLst tNil) tNil)) _ _ _
      refine sum_lists rfl (cz_same _ _ I12.ea) (fun p hp => cz_same _ _ (I12.el p hp)) ?_ fun T G13 s13 nT eT => ?_
      · have := flat_len (B := 30) ps fun p hp => (small p hp).1
        exact Nat.le_trans (show _ ≤ 180 by omega) (by decide)
      have fl : ((ps.map (·.2)).flatten).length ≤ 180 := by
        have := flat_len (B := 30) ps fun p hp => (small p hp).1
        omega
      have inU : ∀ z ∈ (ps.map (·.2)).flatten, z ∈ U ∧ Big z := fun z hz => by
        obtain ⟨zs, hzs, hz⟩ := List.mem_flatten.mp hz
        obtain ⟨p, hp, rfl⟩ := List.mem_map.mp hzs
        exact ⟨dr.all p hp z hz, dr.big p hp z hz⟩
      refine ⟨T, _, U, rfl, SqL.of eT, by omega, fun z hz => (inU z hz).1, fun S c nS hc => ?_⟩
      have hu := dr.uni
      generalize hSO : SetO (cxOf CX0 P w K mg base nLaw "law" (defScope sLaw) f cdv A outer s H E).w S (fun j => decide (j ∈ (ps.map (·.2)).flatten)) c = SO
      refine ⟨S, fun j => decide (j ∈ (ps.map (·.2)).flatten), c, rfl, by rw [← hSO]; exact upd_same, by omega, fun zs L1 pw mem len nL1 => ⟨by show 2 ≤ sizeLine; decide, fun t3 nt3 => ⟨by show 1 ≤ sizeLine; decide, fun q3 nq3 => ?_⟩⟩⟩
      have s14 := s13.trans (same_new (o := SO) nS)
      have nL1' := none_of_same s14 nL1
      have eL1 : (upd (upd G13 S SO) L1 (.lst (zs.map V.int))) L1 = some (.lst (zs.map V.int)) := upd_same
      have s15 := ad s14 nL1 (o := .lst (zs.map V.int))
      generalize (upd (upd G13 S SO) L1 (.lst (zs.map V.int))) = G15 at s15 eL1 nt3 nq3 ⊢
      have et3 : (upd G15 t3 (.tup [.str "order", .ref L1])) t3 = some (.tup [.str "order", .ref L1]) := upd_same
      have s16 := ad s15 nt3 (o := .tup [.str "order", .ref L1])
      have eL16 := app eL1 nt3 (o := .tup [.str "order", .ref L1])
      have nt3' := none_of_same s15 nt3
      generalize (upd G15 t3 (.tup [.str "order", .ref L1])) = G16 at s16 et3 eL16 nq3 ⊢
      have s17 := ad s16 nq3 (o := .lst [.ref t3])
      have et17 := app et3 nq3 (o := .lst [.ref t3])
      have eL17 := app eL16 nq3 (o := .lst [.ref t3])
      have eq17 : (upd G16 q3 (.lst [.ref t3])) q3 = some (.lst [.ref t3]) := upd_same
      generalize (upd G16 q3 (.lst [.ref t3])) = G17 at s17 et17 eL17 eq17 ⊢
      refine ⟨D0, q3, xs0, [.ref t3], rfl, rfl, s17 _ _ eD0, eq17, by rw [lx3]; exact Nat.le_trans (show 3 + 1 ≤ 1000 by decide) (by decide), fun D1 nD1 => ?_⟩
      have I17 := I12.keep s17
      have fresh : ∀ {b : Addr}, G12 b = none → b ≠ l ∧ b ∉ [D0] := fun {b} h => ⟨fun z => I12.bas.hl (by rw [← z]; exact h), fun z => by rw [List.mem_singleton.mp z, eD0] at h; cases h⟩
      have P17 : PLs K (cz l [D0] G17) (xs0 ++ [.ref t3]) := by
        refine (P12.keep (cz_keep s17)).add fun v hv => ?_
        rw [List.mem_singleton.mp hv]
        obtain ⟨f1, f2⟩ := fresh nt3'
        obtain ⟨g1, g2⟩ := fresh nL1'
        obtain ⟨o, e⟩ := I12.one
        exact ⟨t3, "order", L1, _, rfl, order_w (cz_of et17 f1 f2) (cz_of eL17 g1 g2) (fun z => by rw [z, e] at nL1'; cases nL1') (by omega) fun z hz => (inU z (of_decide_eq_true ((mem z).mp hz))).2⟩
      have P18 := P17.keep (cz_swap (o := .lst (xs0 ++ [.ref t3])) nD1)
      obtain ⟨I18, D1l⟩ := I17.new (o := .lst (xs0 ++ [.ref t3])) nD1
      have eD1 : (upd G17 D1 (.lst (xs0 ++ [.ref t3]))) D1 = some (.lst (xs0 ++ [.ref t3])) := upd_same
      have lx4 : (xs0 ++ [V.ref t3]).length = 4 := by rw [List.length_append, lx3]; rfl
      generalize (upd G17 D1 (.lst (xs0 ++ [.ref t3]))) = G18 at I18 P18 eD1 ⊢
      generalize xs0 ++ [V.ref t3] = xs1 at P18 eD1 lx4
      clear P17 I17 I12 P12 eD0 s17 s16 s15 s14 s13 et17 eL17 eq17 et3 eL16 eL1 mem len pw nL1 nL1' nS nt3 nt3' nq3 nD1 fresh eT nT
      dsimp only [gName]
      refine ⟨_, rfl, by decide, by decide, for_range (lo := 0) (n := 4) (fun j σ G' => ∃ (D : Addr) (xs : List V) (w6 w7 : Option V), σ = [some (.ref a), some (.int y), some (.ref l), some (.ref a1), some (.str (PyData.shown (.list (ps.map fun p => intsD p.2)))), some (.ref D), w6, w7, v8, v9, v10, none, none] ∧ LI K G l a1 ps (2017 + 17 * j) [D] G' ∧ G' D = some (.lst xs) ∧ xs.length = 4 + 3 * j ∧ PLs K (cz l [D] G') xs)
        ⟨D1, xs1, _, _, rfl, I18.more (by omega), eD1, lx4, P18⟩ ?_ ?_⟩
      · rintro j σ G19 hj ⟨D, xs, w6, w7, rfl, I, eD, lx, PL⟩
        dsimp only [gName]
        refine ⟨_, rfl, _, rfl, l, a1, _, ps, rfl, I.src, by omega, cz_same _ _ I.ea, fun p hp => cz_same _ _ (I.el p hp), al, npl, lp, small, fun G20 p us b20 s20 np rp sm => ?_⟩
        have Dl : D ≠ l := fun z => I.lD (by rw [z]; exact List.mem_cons_self)
        have I20 := I.draw b20 s20
        have P20 := PL.keep (cz_but b20)
        have eD20 := b20 _ _ Dl eD
        obtain ⟨xl20, el20⟩ := src_lst I20.src
        have fr : ∀ {b : Addr}, G20 b = none → b ≠ l ∧ b ∉ [D] ∧ b ≠ 1 := fun {b} h => I20.bas.ne (Same.refl _) h
        have frp : p ≠ l ∧ p ∉ [D] ∧ p ≠ 1 := I.bas.ne (Same.refl _) np
        have nu : ∀ u ∈ us, u.1 ≠ l ∧ u.1 ∉ [D] := fun u hu => ⟨fun z => (by have := rp.2 u hu; rw [z, el20] at this; cases this), fun z => (by have := rp.2 u hu; rw [List.mem_singleton.mp z, eD20] at this; cases this)⟩
        clear I PL eD b20 s20 np
        dsimp only [gName]
        refine ⟨_, rfl, _, rfl, by show 2 ≤ sizeLine; decide, fun t1 nt1 => ?_⟩
        have s21 : Same G20 (upd G20 t1 (.tup [.str "ring", .ref p])) := same_new nt1
        have et21 : (upd G20 t1 (.tup [.str "ring", .ref p])) t1 = some (.tup [.str "ring", .ref p]) := upd_same
        generalize (upd G20 t1 (.tup [.str "ring", .ref p])) = G21 at s21 et21 ⊢
        have l2 : (us.map fun u => V.ref u.1).length + (us.map fun u => V.ref u.1).length ≤ 16 := by
          rw [List.length_map]
          have := sm.1
          omega
        refine ⟨_, rfl, _, rfl, p, p, _, _, rfl, rfl, s21 _ _ rp.1, s21 _ _ rp.1, Nat.le_trans l2 (by decide), fun q1 nq1 => ?_⟩
        have nq1' := none_of_same s21 nq1
        have s22 := ad s21 nq1 (o := .lst ((us.map fun u => V.ref u.1) ++ us.map fun u => V.ref u.1))
        have et22 := app et21 nq1 (o := .lst ((us.map fun u => V.ref u.1) ++ us.map fun u => V.ref u.1))
        have eq22 : (upd G21 q1 (.lst ((us.map fun u => V.ref u.1) ++ us.map fun u => V.ref u.1))) q1 = some (.lst ((us.map fun u => V.ref u.1) ++ us.map fun u => V.ref u.1)) := upd_same
        generalize (upd G21 q1 (.lst ((us.map fun u => V.ref u.1) ++ us.map fun u => V.ref u.1))) = G22 at s22 et22 eq22 ⊢
        refine ⟨by show 2 ≤ sizeLine; decide, fun t2 nt2 => ?_⟩
        have nt2' := none_of_same s22 nt2
        have s23 := ad s22 nt2 (o := .tup [.str "ring", .ref q1])
        have e23 := fun {b : Addr} {o : HO} (h : G22 b = some o) => app h nt2 (o := .tup [.str "ring", .ref q1])
        have et23 : (upd G22 t2 (.tup [.str "ring", .ref q1])) t2 = some (.tup [.str "ring", .ref q1]) := upd_same
        have et1 := e23 et22
        have eq1 := e23 eq22
        generalize (upd G22 t2 (.tup [.str "ring", .ref q1])) = G23 at s23 et23 et1 eq1 ⊢
        refine ⟨by show 2 ≤ sizeLine; decide, fun L nL => ?_⟩
        have s24 := ad s23 nL (o := .lst [.ref t1, .ref t2])
        have et2 := app et23 nL (o := .lst [.ref t1, .ref t2])
        have et1 := app et1 nL (o := .lst [.ref t1, .ref t2])
        have eq1 := app eq1 nL (o := .lst [.ref t1, .ref t2])
        have eL : (upd G23 L (.lst [.ref t1, .ref t2])) L = some (.lst [.ref t1, .ref t2]) := upd_same
        generalize (upd G23 L (.lst [.ref t1, .ref t2])) = G24 at s24 et1 et2 eq1 eL ⊢
        clear e23 et23 eq22 et22 et21 s23 s22 s21 nL nt2 nq1
        refine ⟨D, L, xs, _, rfl, rfl, s24 _ _ eD20, eL, Nat.le_trans (show xs.length + 2 ≤ 1000 by omega) (by decide), fun D2 nD2 => ?_⟩
        have I24 := I20.keep s24
        have big1 : ∀ u ∈ us, u.2.1.natAbs < 10 ^ 31 ∧ u.2.2.natAbs < 10 ^ 31 := fun u hu => by
          obtain ⟨x, y, z⟩ := sm.2 u hu
          exact ⟨Nat.lt_of_le_of_lt x (by decide), Nat.lt_of_le_of_lt (show u.2.2.natAbs ≤ 1000 by omega) (by decide)⟩
        have eu24 : ∀ u ∈ us, cz l [D] G24 u.1 = some (.tup [.int u.2.1, .int u.2.2]) := fun u hu => cz_of (s24 _ _ (rp.2 u hu)) (nu u hu).1 (nu u hu).2
        have P24 : PLs K (cz l [D] G24) (xs ++ [.ref t1, .ref t2]) := by
          refine (P20.keep (cz_keep s24)).add fun v hv => ?_
          rcases List.mem_cons.mp hv with rfl | hv
          · obtain ⟨f1, f2, _⟩ := fr nt1
            exact ⟨t1, "ring", p, _, rfl, ring_w (cz_of et1 f1 f2) (cz_of (s24 _ _ rp.1) frp.1 frp.2.1) eu24 frp.2.2 ⟨by have := sm.1; omega, big1⟩⟩
          · rw [List.mem_singleton.mp hv]
            obtain ⟨f1, f2, _⟩ := fr nt2'
            obtain ⟨g1, g2, g3⟩ := fr nq1'
            refine ⟨t2, "ring", q1, _, rfl, ring_w (us := us ++ us) (cz_of et2 f1 f2) (by rw [List.map_append]; exact cz_of eq1 g1 g2) (fun u hu => ?_) g3 ⟨by rw [List.length_append]; have := sm.1; omega, fun u hu => ?_⟩⟩
            · rcases List.mem_append.mp hu with hu | hu <;> exact eu24 u hu
            · rcases List.mem_append.mp hu with hu | hu <;> exact big1 u hu
        have P25 := P24.keep (cz_swap (o := .lst (xs ++ [.ref t1, .ref t2])) nD2)
        obtain ⟨I25, D2l⟩ := I24.new (o := .lst (xs ++ [.ref t1, .ref t2])) nD2
        have eD2 : (upd G24 D2 (.lst (xs ++ [.ref t1, .ref t2]))) D2 = some (.lst (xs ++ [.ref t1, .ref t2])) := upd_same
        have ep25 := app (s24 _ _ rp.1) nD2 (o := .lst (xs ++ [.ref t1, .ref t2]))
        have eu25 : ∀ u ∈ us, (upd G24 D2 (.lst (xs ++ [.ref t1, .ref t2]))) u.1 = some (.tup [.int u.2.1, .int u.2.2]) := fun u hu => app (s24 _ _ (rp.2 u hu)) nD2
        have lx2 : (xs ++ [V.ref t1, V.ref t2]).length = 6 + 3 * j := by rw [List.length_append, lx]; show 4 + 3 * j + 2 = _; omega
        generalize (upd G24 D2 (.lst (xs ++ [.ref t1, .ref t2]))) = G25 at I25 P25 eD2 ep25 eu25 ⊢
        generalize xs ++ [V.ref t1, V.ref t2] = xs2 at P25 eD2 lx2
        clear P24 I24 P20 I20 eD20 s24 et1 et2 eq1 eL eu24 nD2 rp el20 fr nt1 nt2' nq1' nu
        dsimp only [gName]
        refine ⟨_, rfl, .inl ⟨rfl, _, SqL.of eD2⟩, ?_⟩
        refine ⟨_, rfl, p, rfl, ⟨_, SqL.of ep25⟩, fun q3 nq3 => lc_list (K := K) (a := p) (xs := us.map fun u => V.ref u.1) (fun i G' => Same G25 G' ∧ ∃ ws : List Lnk, G' q3 = some (.lst (ws.map fun u => V.ref u.1)) ∧ ws.length = i ∧ ∀ u ∈ ws, u.1 ≠ q3 ∧ G25 u.1 = none ∧ G' u.1 = some (.tup [.int u.2.1, .int u.2.2]) ∧ Big u.2.1 ∧ -2000 ≤ u.2.2 ∧ u.2.2 ≤ 2000) ⟨same_new nq3, [], upd_same, rfl, (fun _ h => nomatch h)⟩ (fun i G' _ q => SqL.of (q.1 _ _ ep25)) (fun i x G' hx q => ?_) (fun G' q => ?_)⟩
        · obtain ⟨sB, ws, eq3, lws, each⟩ := q
          obtain ⟨u, hu, rfl⟩ := get_map hx
          have hum := List.mem_of_getElem? hu
          have il := (List.getElem?_eq_some_iff.mp hu).1
          refine ⟨u.1, _, rfl, SqT.of (sB _ _ (eu25 u hum)), rfl, _, _, rfl, _, _, rfl, rfl, rfl, ?_⟩
          dsimp only [tYes]
          rw [if_pos rfl]
          refine ⟨_, rfl, _, rfl, _, rfl, a1, _, rfl, .inl (SqL.of (sB _ _ (cz_same _ _ I25.ea))), _, _, rfl, rfl, by show 2 ≤ sizeLine; decide, fun T nT => ?_⟩
          have rl : (refsOf ps).length = ps.length := List.length_map _
          have nTq : T ≠ q3 := fun z => by rw [z, eq3] at nT; cases nT
          have nTA : G25 T = none := none_of_same sB nT
          have := sm.1
          refine ⟨_, app eq3 nT, ?_, same_upd (sB.trans (same_new nT)) nq3, ws ++ [(T, u.2.1, u.2.2 - ((refsOf ps).length : Nat))], ?_, by rw [List.length_append, lws]; rfl, fun v hv => ?_⟩
          · rw [List.length_map]
            exact small1000 (by omega)
          · rw [upd_same, List.map_append]
            rfl
          · rcases List.mem_append.mp hv with hv | hv
            · obtain ⟨h1, h2, h3, h4⟩ := each v hv
              exact ⟨h1, h2, by rw [upd_ne h1]; exact app h3 nT, h4⟩
            · rw [List.mem_singleton.mp hv]
              obtain ⟨x1, x2, x3⟩ := sm.2 u hum
              refine ⟨nTq, nTA, by rw [upd_ne nTq]; exact upd_same, x1, by show -2000 ≤ u.2.2 - ((refsOf ps).length : Nat); omega, by show u.2.2 - ((refsOf ps).length : Nat) ≤ 2000; omega⟩
        obtain ⟨sB, ws, eq3, lws, each⟩ := q
        rw [List.length_map] at lws
        refine ⟨by show 2 ≤ sizeLine; decide, fun t3 nt3 => ?_⟩
        have s26 := sB.trans (same_new (o := .tup [.str "ring", .ref q3]) nt3)
        have et3 : (upd G' t3 (.tup [.str "ring", .ref q3])) t3 = some (.tup [.str "ring", .ref q3]) := upd_same
        have eq3' := app eq3 nt3 (o := .tup [.str "ring", .ref q3])
        have ew : ∀ u ∈ ws, (upd G' t3 (.tup [.str "ring", .ref q3])) u.1 = some (.tup [.int u.2.1, .int u.2.2]) := fun u hu => app (each u hu).2.2.1 nt3
        have nt3' := none_of_same sB nt3
        generalize (upd G' t3 (.tup [.str "ring", .ref q3])) = G26 at s26 et3 eq3' ew ⊢
        refine ⟨D2, xs2, .ref t3, rfl, rfl, s26 _ _ eD2, small1000 (by omega), ?_⟩
        have I26 := (I25.keep s26).put (o := .lst (xs2 ++ [.ref t3]))
        have ec : cz l [D2] (upd G26 D2 (.lst (xs2 ++ [.ref t3]))) = cz l [D2] G26 := cz_upd List.mem_cons_self
        have fr2 : ∀ {b : Addr}, G25 b = none → b ≠ l ∧ b ∉ [D2] ∧ b ≠ 1 := fun {b} h => I25.bas.ne (Same.refl _) h
        refine ⟨D2, xs2 ++ [.ref t3], _, _, rfl, I26.more (by omega), upd_same, by rw [List.length_append, lx2]; show 6 + 3 * j + 1 = _; omega, ?_⟩
        rw [ec]
        refine (P25.keep (cz_keep s26)).add fun v hv => ?_
        rw [List.mem_singleton.mp hv]
        obtain ⟨f1, f2, _⟩ := fr2 nt3'
        obtain ⟨g1, g2, g3⟩ := fr2 nq3
        have := sm.1
        exact ⟨t3, "ring", q3, _, rfl, ring_w (cz_of et3 f1 f2) (cz_of eq3' g1 g2) (fun u hu => by
          obtain ⟨_, h2, _⟩ := each u hu
          obtain ⟨k1, k2, _⟩ := fr2 h2
          exact cz_of (ew u hu) k1 k2) g3 ⟨by omega, fun u hu => by
            obtain ⟨_, _, _, h4, h5, h6⟩ := each u hu
            exact ⟨Nat.lt_of_le_of_lt h4 (by decide), Nat.lt_of_le_of_lt (show u.2.2.natAbs ≤ 2000 by omega) (by decide)⟩⟩⟩
      · rintro σ G19 ⟨D, xs, w6, w7, rfl, I, eD, lx, PL⟩
        have Dl : D ≠ l := fun z => I.lD (by rw [z]; exact List.mem_cons_self)
        obtain ⟨p0, p1, ws0, rfl, W0, Q1, Ws⟩ := PL
        dsimp only
        refine ⟨_, rfl, _, rfl, D, _, rfl, SqL.of eD, fun A3 nA3 => ?_⟩
        have c1 : cutV (p0 :: p1 :: ws0) none (some 1) = [p0] := by rw [cut_one]; rfl
        rw [c1]
        have s20 : Same G19 (upd G19 A3 (.lst [p0])) := same_new nA3
        have e20 : (upd G19 A3 (.lst [p0])) A3 = some (.lst [p0]) := upd_same
        generalize (upd G19 A3 (.lst [p0])) = G20 at s20 e20 ⊢
        refine ⟨_, rfl, _, rfl, D, _, rfl, SqL.of (s20 _ _ eD), fun A4 nA4 => ?_⟩
        have c2 : cutV (p0 :: p1 :: ws0) (some 2) none = ws0 := by
          have := cut_drop (p0 :: p1 :: ws0) 2 (by simp)
          exact this
        rw [c2]
        have s21 := ad s20 nA4 (o := .lst ws0)
        have e21 := app e20 nA4 (o := .lst ws0)
        have e4 : (upd G20 A4 (.lst ws0)) A4 = some (.lst ws0) := upd_same
        generalize (upd G20 A4 (.lst ws0)) = G21 at s21 e21 e4 ⊢
        have lw : ws0.length = 14 := by have := lx; simp only [List.length_cons] at this; omega
        refine ⟨A3, A4, _, _, rfl, rfl, e21, e4, Nat.le_trans (show 1 + ws0.length ≤ 1000 by omega) (by decide), fun A5 nA5 => ?_⟩
        have s22 := ad s21 nA5 (o := .lst ([p0] ++ ws0))
        have e5 : (upd G21 A5 (.lst ([p0] ++ ws0))) A5 = some (.lst ([p0] ++ ws0)) := upd_same
        have nA5' := none_of_same s21 nA5
        generalize (upd G21 A5 (.lst ([p0] ++ ws0))) = G22 at s22 e5 ⊢
        have I22 := I.keep s22
        have fA5 := I.bas.ne (Same.refl _) nA5'
        have P22 : ∀ v ∈ [p0] ++ ws0, IsW K (cz l [D] G22) v := fun v hv => by
          rcases List.mem_append.mp hv with hv | hv
          · rw [List.mem_singleton.mp hv]
            exact W0.keep (cz_keep s22)
          · exact (Ws v hv).keep (cz_keep s22)
        have A22 : ∀ v ∈ p0 :: p1 :: ws0, PapQ K (cz l [D] G22) v 975 4 := fun v hv => by
          rcases List.mem_cons.mp hv with rfl | hv
          · exact (W0.keep (cz_keep s22)).pap
          · rcases List.mem_cons.mp hv with rfl | hv
            · exact Q1.keep (cz_keep s22)
            · exact ((Ws v hv).keep (cz_keep s22)).pap
        have c5 : cz l [D] G22 A5 = some (.lst ([p0] ++ ws0)) := cz_of e5 fA5.1 fA5.2.1
        have eD22 := s22 _ _ eD
        generalize p0 :: p1 :: ws0 = xsA at A22 eD22 lx
        have lA : ([p0] ++ ws0).length = 15 := by rw [List.length_append, lw]; rfl
        generalize [p0] ++ ws0 = its at P22 e5 c5 lA ⊢
        clear W0 Q1 Ws s22 s21 s20 I e21 e4 e20 eD nA3 nA4 nA5 nA5' c1 c2 fA5
        refine ⟨A5, rfl, ⟨_, SqL.of e5⟩, for_list (K := K) (a := A5) (xs := its) (fun i σ G' => ∃ (ws : List V) (w8 : Option V), σ = [some (.ref a), some (.int y), some (.ref l), some (.ref a1), some (.str (PyData.shown (.list (ps.map fun p => intsD p.2)))), some (.ref D), w6, w7, w8, v9, v10, none, none] ∧ LI K G l a1 ps (2100 + 3 * i) [D] G' ∧ G' D = some (.lst (xsA ++ ws)) ∧ ws.length = i ∧ (∀ v ∈ xsA ++ ws, PapQ K (cz l [D] G') v 975 4) ∧ cz l [D] G' A5 = some (.lst its) ∧ ∀ v ∈ its, IsW K (cz l [D] G') v)
          ⟨[], _, rfl, I22.more (by omega), by rw [List.append_nil]; exact eD22, rfl, by rw [List.append_nil]; exact A22, c5, P22⟩ (fun i σ G' _ ⟨_, _, _, _, _, _, _, c, _⟩ => SqL.of (cz_same _ _ c)) ?_ ?_⟩
        · rintro i v σ G' hv ⟨ws, w8, rfl, I, eD, lws, pws, cA, isw⟩
          obtain ⟨t, wd, p, zs, rfl, WP⟩ := isw v (List.mem_of_getElem? hv)
          have il := (List.getElem?_eq_some_iff.mp hv).1
          dsimp only [gName]
          refine ⟨_, rfl, .inl ⟨rfl, _, SqL.of eD⟩, _, rfl, _, rfl, l, t, p, [D], _, wd, zs, rfl, I.src, by omega, I.lD, I.bas, WP, fun G23 v9' b23 s23 pv => ?_⟩
          have I23 := I.draw b23 s23
          have eD23 := b23 _ _ Dl eD
          refine ⟨D, _, v9', rfl, rfl, eD23, small1000 (by rw [List.length_append]; omega), ?_⟩
          have ec : cz l [D] (upd G23 D (.lst ((xsA ++ ws) ++ [v9']))) = cz l [D] G23 := cz_upd List.mem_cons_self
          refine ⟨ws ++ [v9'], _, rfl, (I23.put).more (by omega), by rw [upd_same, List.append_assoc], by rw [List.length_append, lws]; rfl, fun v hv => ?_, by rw [ec]; exact cz_but b23 _ _ cA, fun v hv => by rw [ec]; exact (isw v hv).keep (cz_but b23)⟩
          rw [ec]
          rw [← List.append_assoc] at hv
          rcases List.mem_append.mp hv with hv | hv
          · exact (pws v hv).keep (cz_but b23)
          · rw [List.mem_singleton.mp hv]
            exact pv
        · rintro σ G23 ⟨ws, w8, rfl, I, eD, lws, pws, _, _⟩
          rw [lA] at lws
          have few9 : (xsA ++ ws).length ≤ 1000 := by rw [List.length_append]; omega
          generalize xsA ++ ws = xsB at eD pws few9
          dsimp only
          refine ⟨_, rfl, D, rfl, ⟨_, SqL.of eD⟩, for_list (K := K) (a := D) (xs := xsB) (fun i σ G' => (∃ (u8 u9 u10 : Option V), σ = [some (.ref a), some (.int y), some (.ref l), some (.ref a1), some (.str (PyData.shown (.list (ps.map fun p => intsD p.2)))), some (.ref D), w6, w7, u8, u9, u10, none, none]) ∧ Same G23 G')
            ⟨⟨_, _, _, rfl⟩, Same.refl _⟩ (fun i σ G' _ p => SqL.of (p.2 _ _ eD)) ?_ ?_⟩
          · rintro i v σ G' hv ⟨⟨u8, u9, u10, rfl⟩, sH⟩
            obtain ⟨d, pd0⟩ := (pws v (List.mem_of_getElem? hv)).pap (by decide) (by decide)
            have pd := (pd0.keep cz_same).keep sH
            have IH := I.keep sH
            obtain ⟨z1, z2, z3⟩ := pd.parts
            dsimp only [gName]
            refine ⟨_, rfl, _, _, rfl, pd.dq, z1, z2, z3, ?_⟩
            dsimp only [gName]
            refine ⟨_, rfl, _, rfl, a1, v, d, ps, rfl, IH.lof, dr.fit, pd, fun Gt st => ?_⟩
            dsimp only [gName]
            have It := IH.keep st
            have pdt := pd.keep st
            refine ⟨_, rfl, _, .ty "bool", .type "bool", .type "bool", true, rfl, .ty _, .base (.bl _), kit_ty (by decide +kernel), true, rfl, ite_false_of rfl ?_⟩
            obtain ⟨o1, e1⟩ := It.one
            refine ⟨_, rfl, _, rfl, _, rfl, a1, v, d, ps, U, rfl, It.lof, dr, pdt, ⟨_, e1⟩, fun Gs ss => ⟨rfl, _, rfl, ?_⟩⟩
            rw [decide_eq_true rfl]
            refine ite_false_of rfl ?_
            refine ⟨_, rfl, _, _, rfl, (pdt.keep ss).dq, z1, z2, z3, _, rfl, rfl, _, rfl, ?_⟩
            rw [decide_eq_true rfl]
            exact ite_false_of rfl ⟨⟨_, _, _, rfl⟩, (sH.trans st).trans ss⟩
          · rintro σ G' ⟨⟨u8, u9, u10, rfl⟩, sH⟩
            have IH := I.keep sH
            obtain ⟨z1, z2, z3⟩ := (IH.shown dr few).parts
            dsimp only
            refine ⟨_, rfl, _, _, rfl, (IH.shown dr few).dq, z1, z2, z3, _, rfl, rfl, _, rfl, ?_⟩
            rw [decide_eq_true rfl]
            exact ite_false_of rfl ⟨⟨_, _, _, _, _, _, _, _, _, _, rfl⟩, sG.trans (I.same.trans sH)⟩
    · rintro σ G ⟨⟨v1, v2, v3, v4, v5, v6, v7, v8, v9, v10, rfl⟩, sG⟩
      exact k _
end
end Lw

set_option autoImplicit true
set_option Elab.async false
set_option linter.all false
set_option maxRecDepth 100000
set_option maxHeartbeats 1000000
/-! The walk, where the object of sys.modules is to stand apart. -/
namespace Two
open PySem PySem.Spec PyProof.Rows L2
theorem lawS {P : Program} {w : World} {K : PySem.W.Frag} {mg mb : Str → Option Value} {k : Nat} {fa a : Addr} {fd : FuncData} {x : Str} {sp : Sp} {z : Shared} {vs : List Value} {ns : List Int}
    (KX : K.In z.heap) (hns : z.heap.Ns mainGlobals mg) (hb : z.heap.Ns builtinsNs mb) (hbb : ∀ x : Str, x ≠ "__name__" → mb x = bootBuiltins x) (hlim : z.heap.NoLimit) (hg : z.gens = #[])
    (hm : ∃ mm, z.heap.Ns 1 mm) (K1 : K.lookup 1 = none)
    (ha : z.heap.get? a = some { cls := .type "list", data := .seq vs.toArray }) (hi : IntsAre vs ns) (hl : ns.length ≤ sizeLine) (hr : Room k callerA)
    (F : ∀ base : Heap, K.In base → base.Ns mainGlobals mg → FnG P w K mg base CX0 k fa fd [x] sp) (hbind : ∀ (s : Shared) (u : Value), BindsTo s fd ⟨[u], []⟩ [(x, u)])
    (hsp : ∀ H : Hp, SqL K H a (ns.map V.int) → (∃ o, H 1 = some (.frz o (.own 0))) → sp [.ref a] H (fun v _ => v = .bl true) fun _ _ _ => False) :
    codeAny (model P w) callerA (.call (.ref fa) ⟨[.ref a], []⟩) (fun r y => r = .ok (.ret (.bool true)) ∧ OldK z.heap y.heap ∧ y.os = z.os ∧ AllBare y.gens) z := by
  obtain ⟨H0, hO0, hS0, hok0, only0⟩ := script_ho (P := P) (w := w) KX ha hi hl
  obtain ⟨mm, o1, es1, ep1, e1, d1, r1⟩ := hm
  have a1 : a ≠ 1 := fun q => by
    rw [q, e1] at ha
    cases ha
    cases d1
  have H01 : H0 1 = none := Decidable.byContradiction fun n => a1 (only0 1 n).1.symm
  let H : Hp := fun b => if b = 1 then some (.frz o1 (.own 0)) else H0 b
  have h1 : H 1 = some (.frz o1 (.own 0)) := if_pos rfl
  have hne : ∀ b, b ≠ 1 → H b = H0 b := fun b q => if_neg q
  have hO : ∀ b, H b = none ∨ ∃ o u, H b = some (.frz o u) := fun b => by
    by_cases q : b = 1
    · exact .inr ⟨_, _, q ▸ h1⟩
    · rw [hne b q]
      rcases hO0 b with n | ⟨o, xs, n⟩
      · exact .inl n
      · exact .inr ⟨_, _, n⟩
  have hS : SqL K H a (ns.map V.int) := by
    exact hS0.imp (fun h => h.imp (fun e => (hne a a1).trans e) fun ⟨o, e⟩ => ⟨o, (hne a a1).trans e⟩) id
  have hok : HOk P w H z.heap := fun b u e => by
    by_cases q : b = 1
    · rw [q, h1] at e
      cases e
      rw [q]
      exact ⟨e1, o1, e1⟩
    · rw [hne b q] at e
      rcases hO0 b with n | ⟨o, xs, n⟩
      · rw [n] at e; cases e
      · have := hok0 b u e
        rw [n] at e
        cases e
        exact this
  have only : ∀ b, H b ≠ none → b = 1 ∨ (b = a ∧ K.lookup a = none) := fun b n => by
    by_cases q : b = 1
    · exact .inl q
    · rw [hne b q] at n
      exact .inr (only0 b n)
  -- what isn't the script stands in the base
  have keep : ∀ {b : Addr} {o : Obj}, z.heap.get? b = some o → b ≠ 1 → (b ≠ a ∨ K.lookup a ≠ none) → (hidT z.heap H).get? b = some o := fun {b o} e q1 q =>
    hidT_get e (Decidable.byContradiction fun n => (only b n).elim q1 fun k => q.elim (fun q => q k.1) fun q => q k.2)
  have ns : ∀ {b : Addr} {m : Str → Option Value}, b ≠ 1 → z.heap.Ns b m → (hidT z.heap H).Ns b m := fun {b m} b1 ⟨o, es, ep, e, d, r⟩ => by
    refine ⟨o, es, ep, keep e b1 (.inl fun q => ?_), d, r⟩
    rw [q, ha] at e
    cases e
    cases d
  have kin : K.In (hidT z.heap H) := fun b o e => keep (KX b o e) (fun q => by rw [q, K1] at e; cases e) (by
    by_cases q : b = a
    · exact .inr fun n => by rw [q, n] at e; cases e
    · exact .inl q)
  have mod : Mod K mg (hidT z.heap H) := ⟨kin, ns (by decide) hns, ⟨mb, ns (by decide) hb, hbb⟩, let ⟨mc, h1, h2⟩ := hlim; ⟨mc, ns (by decide) h1, h2⟩⟩
  have env : Env0 P w K mg (hidT z.heap H) callerA [] z H := ⟨rfl, mod, fun b o e => of_hidT e, Nat.le_of_eq (hidT_size _ _), trivial, (fun b hb => nomatch hb), hok, .of_eq hg⟩
  refine codeAny_mono ((F _ kin (ns (by decide) hns)).run callerA [] z H ⟨[.ref a], []⟩ [.ref a] [.ref a] _ _ hr rfl env (hbind z (.ref a)) (.cons rfl .nil) (hsp H hS ⟨_, h1⟩)) fun r y h => ?_
  match r, h with
  | .error e, h => exact h.elim
  | .ok .next, h => exact False.elim h
  | .ok .brk, h => exact False.elim h
  | .ok .cont, h => exact False.elim h
  | .ok (.ret u), h =>
    obtain ⟨v, G, os, bare, un, hokG, rv, q⟩ := h
    have q : v = .bl true := q
    subst q
    cases rv
    refine ⟨rfl, OldK.of_keep fun b o e => ?_, os, bare⟩
    cases t : H b with
    | none => exact un.keep b o e t (fun n => nomatch n) (fun n => nomatch n)
    | some u =>
      rcases hO b with n | ⟨ob, xs, n⟩
      · rw [t] at n; cases n
      · have e1 := (hok b _ n).1
        have e2 := (hokG b _ (un.frzs b ob _ n)).1
        rw [e] at e1
        cases e1
        exact e2

theorem walkS {l : PySem.W.OpenLaw} {n k : Nat} {q : Program} {loose : List Str} {XP : (Str → Option Value) → Heap → Prop} {YP : World → Heap → Prop} {d : DefRec} {K : Params → PySem.W.Frag} {sp : World → Sp} {x : Str}
    (hn : l.most = some n) (hn2 : n ≤ sizeLine) (hdf : d.params.defaults = []) (hr : Room k callerA) (hY : ∀ (w : World) (h : Heap), YP w h → (K w.params).In h)
    (hq : importsNone q = true) (K1 : ∀ w : World, (K w.params).lookup 1 = none)
    (F : ∀ (w : World) (mg : Str → Option Value) (fa : Addr) (h : Heap), (K w.params).In h → h.Ns mainGlobals mg → mg d.name = some (.ref fa) →
      ∃ fd : FuncData, (∀ (s : Shared) (u : Value), BindsTo s fd ⟨[u], []⟩ [(x, u)]) ∧ ∀ base : Heap, (K w.params).In base → base.Ns mainGlobals mg → FnG l.prog w (K w.params) mg base CX0 k fa fd [x] (sp w))
    (hsp : ∀ (w : World) (H : Hp) (a : Addr) (ns : List Int), ns.length ≤ n → SqL (K w.params) H a (ns.map V.int) → (∃ o, H 1 = some (.frz o (.own 0))) → sp w [.ref a] H (fun v _ => v = .bl true) fun _ _ _ => False) :
    PySem.W.WalkO q loose XP YP l.row.toRowW d [] (fun f vs => PySem.call f vs) := by
  refine Att.attach_call hn hdf fun w s0 z mg mb fa o pm cd doc a vs ns G Y ho hd hcd hmg hobj hints hlen hg => ?_
  obtain ⟨fd, hb, hF⟩ := F w mg fa _ (hY w _ Y) G.T.g hmg
  obtain ⟨mm, hm, _⟩ := (G.T.seer hq).mods
  exact lawS (hY w _ Y) G.T.g G.T.b G.T.builtins G.T.nolimit hg ⟨mm, hm⟩ (K1 w) hobj hints (Nat.le_trans hlen hn2) hr hF hb fun H hS h1 => hsp w H a ns hlen hS h1
end Two

set_option autoImplicit true
set_option Elab.async false
set_option linter.all false
set_option maxRecDepth 100000
set_option maxHeartbeats 4000000
namespace Lw
open PySem L2 Two Pr
/-! ### what the top has written -/
theorem all_mk {l : PySem.W.OpenLaw} {w : World} {K : PySem.W.Frag} {h : Heap} {mg : Str → Option Value} {fa : Addr} (X : K.In h) (G : h.Ns mainGlobals mg) (hfa : mg "law" = some (.ref fa))
    {tm : Tok}
    (most : PySem.W.nsIn K mainGlobals "MOST_ITEMS" = some (some (.int 30 tm)))
    (z_isinstance : PySem.W.nsIn K mainGlobals "isinstance" = some none)
    (z_int : PySem.W.nsIn K mainGlobals "int" = some none)
    (z_bool : PySem.W.nsIn K mainGlobals "bool" = some none)
    (z_str : PySem.W.nsIn K mainGlobals "str" = some none)
    (z_list : PySem.W.nsIn K mainGlobals "list" = some none)
    (z_tuple : PySem.W.nsIn K mainGlobals "tuple" = some none)
    (z_set : PySem.W.nsIn K mainGlobals "set" = some none)
    (z_len : PySem.W.nsIn K mainGlobals "len" = some none)
    (z_all : PySem.W.nsIn K mainGlobals "all" = some none)
    (z_any : PySem.W.nsIn K mainGlobals "any" = some none)
    (z_zip : PySem.W.nsIn K mainGlobals "zip" = some none)
    (z_enumerate : PySem.W.nsIn K mainGlobals "enumerate" = some none)
    (z_range : PySem.W.nsIn K mainGlobals "range" = some none)
    (z_sorted : PySem.W.nsIn K mainGlobals "sorted" = some none)
    (z_repr : PySem.W.nsIn K mainGlobals "repr" = some none)
    (z_sum : PySem.W.nsIn K mainGlobals "sum" = some none)
    {f_I : Addr} {od_I an_I : Option Addr} {sl_I : Array (Option Value)} {oc_I kV_I dc_I pm_I cd_I ct_I : Value}
    (a_I : PySem.W.nsIn K mainGlobals "is_int" = some (some (.ref f_I)))
    (l_I : K.lookup f_I = some ⟨oc_I, od_I, .func (PySem.W.fnOf "is_int" "is_int" (defArgs sIsInt) (defBody sIsInt) (defScope sIsInt) .none kV_I dc_I pm_I an_I cd_I ct_I), sl_I⟩)
    (c_I : PySem.W.codeIn K cd_I "is_int" = true)
    (k_I : PySem.W.keepIn K (.ref f_I) = true)
    {f_U : Addr} {od_U an_U : Option Addr} {sl_U : Array (Option Value)} {oc_U kV_U dc_U pm_U cd_U ct_U : Value}
    (a_U : PySem.W.nsIn K mainGlobals "check_unlike" = some (some (.ref f_U)))
    (l_U : K.lookup f_U = some ⟨oc_U, od_U, .func (PySem.W.fnOf "check_unlike" "check_unlike" (defArgs sUnlike) (defBody sUnlike) (defScope sUnlike) .none kV_U dc_U pm_U an_U cd_U ct_U), sl_U⟩)
    (c_U : PySem.W.codeIn K cd_U "check_unlike" = true)
    (k_U : PySem.W.keepIn K (.ref f_U) = true)
    {f_M : Addr} {od_M an_M : Option Addr} {sl_M : Array (Option Value)} {oc_M kV_M dc_M pm_M cd_M ct_M : Value}
    (a_M : PySem.W.nsIn K mainGlobals "merge" = some (some (.ref f_M)))
    (l_M : K.lookup f_M = some ⟨oc_M, od_M, .func (PySem.W.fnOf "merge" "merge" (defArgs sMerge) (defBody sMerge) (defScope sMerge) .none kV_M dc_M pm_M an_M cd_M ct_M), sl_M⟩)
    (c_M : PySem.W.codeIn K cd_M "merge" = true)
    (k_M : PySem.W.keepIn K (.ref f_M) = true)
    {f_H : Addr} {od_H an_H : Option Addr} {sl_H : Array (Option Value)} {oc_H kV_H dc_H pm_H cd_H ct_H : Value}
    (a_H : PySem.W.nsIn K mainGlobals "shows_merge" = some (some (.ref f_H)))
    (l_H : K.lookup f_H = some ⟨oc_H, od_H, .func (PySem.W.fnOf "shows_merge" "shows_merge" (defArgs sShows) (defBody sShows) (defScope sShows) .none kV_H dc_H pm_H an_H cd_H ct_H), sl_H⟩)
    (c_H : PySem.W.codeIn K cd_H "shows_merge" = true)
    (k_H : PySem.W.keepIn K (.ref f_H) = true)
    {f_R : Addr} {od_R an_R : Option Addr} {sl_R : Array (Option Value)} {oc_R kV_R dc_R pm_R cd_R ct_R : Value}
    (a_R : PySem.W.nsIn K mainGlobals "is_ring" = some (some (.ref f_R)))
    (l_R : K.lookup f_R = some ⟨oc_R, od_R, .func (PySem.W.fnOf "is_ring" "is_ring" (defArgs sIsRing) (defBody sIsRing) (defScope sIsRing) .none kV_R dc_R pm_R an_R cd_R ct_R), sl_R⟩)
    (c_R : PySem.W.codeIn K cd_R "is_ring" = true)
    (k_R : PySem.W.keepIn K (.ref f_R) = true)
    {f_C : Addr} {od_C an_C : Option Addr} {sl_C : Array (Option Value)} {oc_C kV_C dc_C pm_C cd_C ct_C : Value}
    (a_C : PySem.W.nsIn K mainGlobals "_check_lists" = some (some (.ref f_C)))
    (l_C : K.lookup f_C = some ⟨oc_C, od_C, .func (PySem.W.fnOf "_check_lists" "_check_lists" (defArgs sCheck) (defBody sCheck) (defScope sCheck) .none kV_C dc_C pm_C an_C cd_C ct_C), sl_C⟩)
    (c_C : PySem.W.codeIn K cd_C "_check_lists" = true)
    (k_C : PySem.W.keepIn K (.ref f_C) = true)
    {f_L : Addr} {od_L an_L : Option Addr} {sl_L : Array (Option Value)} {oc_L kV_L dc_L pm_L cd_L ct_L : Value}
    (a_L : PySem.W.nsIn K mainGlobals "_is_list_of_ints" = some (some (.ref f_L)))
    (l_L : K.lookup f_L = some ⟨oc_L, od_L, .func (PySem.W.fnOf "_is_list_of_ints" "_is_list_of_ints" (defArgs sIsList) (defBody sIsList) (defScope sIsList) .none kV_L dc_L pm_L an_L cd_L ct_L), sl_L⟩)
    (c_L : PySem.W.codeIn K cd_L "_is_list_of_ints" = true)
    (k_L : PySem.W.keepIn K (.ref f_L) = true)
    {f_T : Addr} {od_T an_T : Option Addr} {sl_T : Array (Option Value)} {oc_T kV_T dc_T pm_T cd_T ct_T : Value}
    (a_T : PySem.W.nsIn K mainGlobals "_times_behind" = some (some (.ref f_T)))
    (l_T : K.lookup f_T = some ⟨oc_T, od_T, .func (PySem.W.fnOf "_times_behind" "_times_behind" (defArgs sTimes) (defBody sTimes) (defScope sTimes) .none kV_T dc_T pm_T an_T cd_T ct_T), sl_T⟩)
    (c_T : PySem.W.codeIn K cd_T "_times_behind" = true)
    (k_T : PySem.W.keepIn K (.ref f_T) = true)
    {f_F : Addr} {od_F an_F : Option Addr} {sl_F : Array (Option Value)} {oc_F kV_F dc_F pm_F cd_F ct_F : Value}
    (a_F : PySem.W.nsIn K mainGlobals "_first_free" = some (some (.ref f_F)))
    (l_F : K.lookup f_F = some ⟨oc_F, od_F, .func (PySem.W.fnOf "_first_free" "_first_free" (defArgs sFree) (defBody sFree) (defScope sFree) .none kV_F dc_F pm_F an_F cd_F ct_F), sl_F⟩)
    (c_F : PySem.W.codeIn K cd_F "_first_free" = true)
    (k_F : PySem.W.keepIn K (.ref f_F) = true)
    {f_K : Addr} {od_K an_K : Option Addr} {sl_K : Array (Option Value)} {oc_K kV_K dc_K pm_K cd_K ct_K : Value}
    (a_K : PySem.W.nsIn K mainGlobals "_take" = some (some (.ref f_K)))
    (l_K : K.lookup f_K = some ⟨oc_K, od_K, .func (PySem.W.fnOf "_take" "_take" (defArgs sTake) (defBody sTake) (defScope sTake) .none kV_K dc_K pm_K an_K cd_K ct_K), sl_K⟩)
    (c_K : PySem.W.codeIn K cd_K "_take" = true)
    (k_K : PySem.W.keepIn K (.ref f_K) = true)
    {f_O : Addr} {od_O an_O : Option Addr} {sl_O : Array (Option Value)} {oc_O kV_O dc_O pm_O cd_O ct_O : Value}
    (a_O : PySem.W.nsIn K mainGlobals "_ring_of" = some (some (.ref f_O)))
    (l_O : K.lookup f_O = some ⟨oc_O, od_O, .func (PySem.W.fnOf "_ring_of" "_ring_of" (defArgs sRingOf) (defBody sRingOf) (defScope sRingOf) .none kV_O dc_O pm_O an_O cd_O ct_O), sl_O⟩)
    (c_O : PySem.W.codeIn K cd_O "_ring_of" = true)
    (k_O : PySem.W.keepIn K (.ref f_O) = true)
    {f_P : Addr} {od_P an_P : Option Addr} {sl_P : Array (Option Value)} {oc_P kV_P dc_P pm_P cd_P ct_P : Value}
    (a_P : PySem.W.nsIn K mainGlobals "_is_part" = some (some (.ref f_P)))
    (l_P : K.lookup f_P = some ⟨oc_P, od_P, .func (PySem.W.fnOf "_is_part" "_is_part" (defArgs sIsPart) (defBody sIsPart) (defScope sIsPart) .none kV_P dc_P pm_P an_P cd_P ct_P), sl_P⟩)
    (c_P : PySem.W.codeIn K cd_P "_is_part" = true)
    (k_P : PySem.W.keepIn K (.ref f_P) = true)
    {f_A : Addr} {od_A an_A : Option Addr} {sl_A : Array (Option Value)} {oc_A kV_A dc_A pm_A cd_A ct_A : Value}
    (a_A : PySem.W.nsIn K mainGlobals "_stands_ahead" = some (some (.ref f_A)))
    (l_A : K.lookup f_A = some ⟨oc_A, od_A, .func (PySem.W.fnOf "_stands_ahead" "_stands_ahead" (defArgs sAhead) (defBody sAhead) (defScope sAhead) .none kV_A dc_A pm_A an_A cd_A ct_A), sl_A⟩)
    (c_A : PySem.W.codeIn K cd_A "_stands_ahead" = true)
    (k_A : PySem.W.keepIn K (.ref f_A) = true)
    {f_c : Addr} {od_c an_c : Option Addr} {sl_c : Array (Option Value)} {oc_c kV_c dc_c pm_c cd_c ct_c : Value}
    (a_c : PySem.W.nsIn K mainGlobals "_law_cell_at" = some (some (.ref f_c)))
    (l_c : K.lookup f_c = some ⟨oc_c, od_c, .func (PySem.W.fnOf "_law_cell_at" "_law_cell_at" (defArgs sCell) (defBody sCell) (defScope sCell) .none kV_c dc_c pm_c an_c cd_c ct_c), sl_c⟩)
    (c_c : PySem.W.codeIn K cd_c "_law_cell_at" = true)
    (k_c : PySem.W.keepIn K (.ref f_c) = true)
    {f_s : Addr} {od_s an_s : Option Addr} {sl_s : Array (Option Value)} {oc_s kV_s dc_s pm_s cd_s ct_s : Value}
    (a_s : PySem.W.nsIn K mainGlobals "_law_source" = some (some (.ref f_s)))
    (l_s : K.lookup f_s = some ⟨oc_s, od_s, .func (PySem.W.fnOf "_law_source" "_law_source" (defArgs sSource) (defBody sSource) (defScope sSource) .none kV_s dc_s pm_s an_s cd_s ct_s), sl_s⟩)
    (c_s : PySem.W.codeIn K cd_s "_law_source" = true)
    (k_s : PySem.W.keepIn K (.ref f_s) = true)
    {f_d : Addr} {od_d an_d : Option Addr} {sl_d : Array (Option Value)} {oc_d kV_d dc_d pm_d cd_d ct_d : Value}
    (a_d : PySem.W.nsIn K mainGlobals "_law_draw" = some (some (.ref f_d)))
    (l_d : K.lookup f_d = some ⟨oc_d, od_d, .func (PySem.W.fnOf "_law_draw" "_law_draw" (defArgs sDraw) (defBody sDraw) (defScope sDraw) .none kV_d dc_d pm_d an_d cd_d ct_d), sl_d⟩)
    (c_d : PySem.W.codeIn K cd_d "_law_draw" = true)
    (k_d : PySem.W.keepIn K (.ref f_d) = true)
    {f_p : Addr} {od_p an_p : Option Addr} {sl_p : Array (Option Value)} {oc_p kV_p dc_p pm_p cd_p ct_p : Value}
    (a_p : PySem.W.nsIn K mainGlobals "_law_pick" = some (some (.ref f_p)))
    (l_p : K.lookup f_p = some ⟨oc_p, od_p, .func (PySem.W.fnOf "_law_pick" "_law_pick" (defArgs sPick) (defBody sPick) (defScope sPick) .none kV_p dc_p pm_p an_p cd_p ct_p), sl_p⟩)
    (c_p : PySem.W.codeIn K cd_p "_law_pick" = true)
    (k_p : PySem.W.keepIn K (.ref f_p) = true)
    {f_e : Addr} {od_e an_e : Option Addr} {sl_e : Array (Option Value)} {oc_e kV_e dc_e pm_e cd_e ct_e : Value}
    (a_e : PySem.W.nsIn K mainGlobals "_law_items" = some (some (.ref f_e)))
    (l_e : K.lookup f_e = some ⟨oc_e, od_e, .func (PySem.W.fnOf "_law_items" "_law_items" (defArgs sItems) (defBody sItems) (defScope sItems) .none kV_e dc_e pm_e an_e cd_e ct_e), sl_e⟩)
    (c_e : PySem.W.codeIn K cd_e "_law_items" = true)
    (k_e : PySem.W.keepIn K (.ref f_e) = true)
    {f_o : Addr} {od_o an_o : Option Addr} {sl_o : Array (Option Value)} {oc_o kV_o dc_o pm_o cd_o ct_o : Value}
    (a_o : PySem.W.nsIn K mainGlobals "_law_some" = some (some (.ref f_o)))
    (l_o : K.lookup f_o = some ⟨oc_o, od_o, .func (PySem.W.fnOf "_law_some" "_law_some" (defArgs sSome) (defBody sSome) (defScope sSome) .none kV_o dc_o pm_o an_o cd_o ct_o), sl_o⟩)
    (c_o : PySem.W.codeIn K cd_o "_law_some" = true)
    (k_o : PySem.W.keepIn K (.ref f_o) = true)
    {f_t : Addr} {od_t an_t : Option Addr} {sl_t : Array (Option Value)} {oc_t kV_t dc_t pm_t cd_t ct_t : Value}
    (a_t : PySem.W.nsIn K mainGlobals "_law_turned" = some (some (.ref f_t)))
    (l_t : K.lookup f_t = some ⟨oc_t, od_t, .func (PySem.W.fnOf "_law_turned" "_law_turned" (defArgs sTurned) (defBody sTurned) (defScope sTurned) .none kV_t dc_t pm_t an_t cd_t ct_t), sl_t⟩)
    (c_t : PySem.W.codeIn K cd_t "_law_turned" = true)
    (k_t : PySem.W.keepIn K (.ref f_t) = true)
    {f_l : Addr} {od_l an_l : Option Addr} {sl_l : Array (Option Value)} {oc_l kV_l dc_l pm_l cd_l ct_l : Value}
    (a_l : PySem.W.nsIn K mainGlobals "_law_lists" = some (some (.ref f_l)))
    (l_l : K.lookup f_l = some ⟨oc_l, od_l, .func (PySem.W.fnOf "_law_lists" "_law_lists" (defArgs sLists) (defBody sLists) (defScope sLists) .none kV_l dc_l pm_l an_l cd_l ct_l), sl_l⟩)
    (c_l : PySem.W.codeIn K cd_l "_law_lists" = true)
    (k_l : PySem.W.keepIn K (.ref f_l) = true)
    {f_m : Addr} {od_m an_m : Option Addr} {sl_m : Array (Option Value)} {oc_m kV_m dc_m pm_m cd_m ct_m : Value}
    (a_m : PySem.W.nsIn K mainGlobals "_law_merged" = some (some (.ref f_m)))
    (l_m : K.lookup f_m = some ⟨oc_m, od_m, .func (PySem.W.fnOf "_law_merged" "_law_merged" (defArgs sMerged) (defBody sMerged) (defScope sMerged) .none kV_m dc_m pm_m an_m cd_m ct_m), sl_m⟩)
    (c_m : PySem.W.codeIn K cd_m "_law_merged" = true)
    (k_m : PySem.W.keepIn K (.ref f_m) = true)
    {f_i : Addr} {od_i an_i : Option Addr} {sl_i : Array (Option Value)} {oc_i kV_i dc_i pm_i cd_i ct_i : Value}
    (a_i : PySem.W.nsIn K mainGlobals "_law_is_integer" = some (some (.ref f_i)))
    (l_i : K.lookup f_i = some ⟨oc_i, od_i, .func (PySem.W.fnOf "_law_is_integer" "_law_is_integer" (defArgs sLIntD) (defBody sLIntD) (defScope sLIntD) .none kV_i dc_i pm_i an_i cd_i ct_i), sl_i⟩)
    (c_i : PySem.W.codeIn K cd_i "_law_is_integer" = true)
    (k_i : PySem.W.keepIn K (.ref f_i) = true)
    {f_r : Addr} {od_r an_r : Option Addr} {sl_r : Array (Option Value)} {oc_r kV_r dc_r pm_r cd_r ct_r : Value}
    (a_r : PySem.W.nsIn K mainGlobals "_law_is_ring" = some (some (.ref f_r)))
    (l_r : K.lookup f_r = some ⟨oc_r, od_r, .func (PySem.W.fnOf "_law_is_ring" "_law_is_ring" (defArgs sLRingD) (defBody sLRingD) (defScope sLRingD) .none kV_r dc_r pm_r an_r cd_r ct_r), sl_r⟩)
    (c_r : PySem.W.codeIn K cd_r "_law_is_ring" = true)
    (k_r : PySem.W.keepIn K (.ref f_r) = true)
    {f_k : Addr} {od_k an_k : Option Addr} {sl_k : Array (Option Value)} {oc_k kV_k dc_k pm_k cd_k ct_k : Value}
    (a_k : PySem.W.nsIn K mainGlobals "_law_round" = some (some (.ref f_k)))
    (l_k : K.lookup f_k = some ⟨oc_k, od_k, .func (PySem.W.fnOf "_law_round" "_law_round" (defArgs sRound) (defBody sRound) (defScope sRound) .none kV_k dc_k pm_k an_k cd_k ct_k), sl_k⟩)
    (c_k : PySem.W.codeIn K cd_k "_law_round" = true)
    (k_k : PySem.W.keepIn K (.ref f_k) = true)
    {f_b : Addr} {od_b an_b : Option Addr} {sl_b : Array (Option Value)} {oc_b kV_b dc_b pm_b cd_b ct_b : Value}
    (a_b : PySem.W.nsIn K mainGlobals "_law_bent" = some (some (.ref f_b)))
    (l_b : K.lookup f_b = some ⟨oc_b, od_b, .func (PySem.W.fnOf "_law_bent" "_law_bent" (defArgs sBentM) (defBody sBentM) (defScope sBentM) .none kV_b dc_b pm_b an_b cd_b ct_b), sl_b⟩)
    (c_b : PySem.W.codeIn K cd_b "_law_bent" = true)
    (k_b : PySem.W.keepIn K (.ref f_b) = true)
    {f_g : Addr} {od_g an_g : Option Addr} {sl_g : Array (Option Value)} {oc_g kV_g dc_g pm_g cd_g ct_g : Value}
    (a_g : PySem.W.nsIn K mainGlobals "_law_is_right" = some (some (.ref f_g)))
    (l_g : K.lookup f_g = some ⟨oc_g, od_g, .func (PySem.W.fnOf "_law_is_right" "_law_is_right" (defArgs sRight) (defBody sRight) (defScope sRight) .none kV_g dc_g pm_g an_g cd_g ct_g), sl_g⟩)
    (c_g : PySem.W.codeIn K cd_g "_law_is_right" = true)
    (k_g : PySem.W.keepIn K (.ref f_g) = true)
    {f_w : Addr} {od_w an_w : Option Addr} {sl_w : Array (Option Value)} {oc_w kV_w dc_w pm_w cd_w ct_w : Value}
    (a_w : PySem.W.nsIn K mainGlobals "law" = some (some (.ref f_w)))
    (l_w : K.lookup f_w = some ⟨oc_w, od_w, .func (PySem.W.fnOf "law" "law" (defArgs sLaw) (defBody sLaw) (defScope sLaw) .none kV_w dc_w pm_w an_w cd_w ct_w), sl_w⟩)
    (c_w : PySem.W.codeIn K cd_w "law" = true)
    (k_w : PySem.W.keepIn K (.ref f_w) = true)
    : ∃ fd : FuncData, (∀ (s : Shared) (v : Value), BindsTo s fd ⟨[v], []⟩ [("_law_script", v)]) ∧ ∀ base : Heap, K.In base → base.Ns mainGlobals mg → FnG l.prog w K mg base CX0 6 fa fd ["_law_script"] (spLaw K) := by
  have e := hfa.symm.trans (PySem.W.mg_of X G a_w)
  cases e
  have T : Txt mg := ⟨(PySem.W.mg_none_of X G z_isinstance), (PySem.W.mg_none_of X G z_int), (PySem.W.mg_none_of X G z_bool), (PySem.W.mg_none_of X G z_str), (PySem.W.mg_none_of X G z_list), (PySem.W.mg_none_of X G z_tuple), (PySem.W.mg_none_of X G z_set), (PySem.W.mg_none_of X G z_len), (PySem.W.mg_none_of X G z_all), (PySem.W.mg_none_of X G z_any), (PySem.W.mg_none_of X G z_zip), (PySem.W.mg_none_of X G z_enumerate), (PySem.W.mg_none_of X G z_range), ⟨tm, PySem.W.mg_of X G most⟩⟩
  have TL : TxtL mg := ⟨T, (PySem.W.mg_none_of X G z_sorted), (PySem.W.mg_none_of X G z_repr)⟩
  have F_I := fun_mk (st := sIsInt) l_I c_I k_I
  have b_I := F_I.binds (ps := ["thing"]) fun _ _ _ _ _ _ us hl => match us, hl with | [_], _ => rfl
  have g_I := PySem.W.mg_of X G a_I
  have F_U := fun_mk (st := sUnlike) l_U c_U k_U
  have b_U := F_U.binds (ps := ["things"]) fun _ _ _ _ _ _ us hl => match us, hl with | [_], _ => rfl
  have g_U := PySem.W.mg_of X G a_U
  have F_M := fun_mk (st := sMerge) l_M c_M k_M
  have b_M := F_M.binds (ps := ["lists"]) fun _ _ _ _ _ _ us hl => match us, hl with | [_], _ => rfl
  have g_M := PySem.W.mg_of X G a_M
  have F_H := fun_mk (st := sShows) l_H c_H k_H
  have b_H := F_H.binds (ps := ["lists", "paper"]) fun _ _ _ _ _ _ us hl => match us, hl with | [_, _], _ => rfl
  have g_H := PySem.W.mg_of X G a_H
  have F_R := fun_mk (st := sIsRing) l_R c_R k_R
  have b_R := F_R.binds (ps := ["lists", "ring"]) fun _ _ _ _ _ _ us hl => match us, hl with | [_, _], _ => rfl
  have g_R := PySem.W.mg_of X G a_R
  have F_C := fun_mk (st := sCheck) l_C c_C k_C
  have b_C := F_C.binds (ps := ["lists"]) fun _ _ _ _ _ _ us hl => match us, hl with | [_], _ => rfl
  have g_C := PySem.W.mg_of X G a_C
  have F_L := fun_mk (st := sIsList) l_L c_L k_L
  have b_L := F_L.binds (ps := ["items"]) fun _ _ _ _ _ _ us hl => match us, hl with | [_], _ => rfl
  have g_L := PySem.W.mg_of X G a_L
  have F_T := fun_mk (st := sTimes) l_T c_T k_T
  have b_T := F_T.binds (ps := ["lists"]) fun _ _ _ _ _ _ us hl => match us, hl with | [_], _ => rfl
  have g_T := PySem.W.mg_of X G a_T
  have F_F := fun_mk (st := sFree) l_F c_F k_F
  have b_F := F_F.binds (ps := ["rests", "behind"]) fun _ _ _ _ _ _ us hl => match us, hl with | [_, _], _ => rfl
  have g_F := PySem.W.mg_of X G a_F
  have F_K := fun_mk (st := sTake) l_K c_K k_K
  have b_K := F_K.binds (ps := ["item", "rests", "behind"]) fun _ _ _ _ _ _ us hl => match us, hl with | [_, _, _], _ => rfl
  have g_K := PySem.W.mg_of X G a_K
  have F_O := fun_mk (st := sRingOf) l_O c_O k_O
  have b_O := F_O.binds (ps := ["rests"]) fun _ _ _ _ _ _ us hl => match us, hl with | [_], _ => rfl
  have g_O := PySem.W.mg_of X G a_O
  have F_P := fun_mk (st := sIsPart) l_P c_P k_P
  have b_P := F_P.binds (ps := ["part", "many"]) fun _ _ _ _ _ _ us hl => match us, hl with | [_, _], _ => rfl
  have g_P := PySem.W.mg_of X G a_P
  have F_A := fun_mk (st := sAhead) l_A c_A k_A
  have b_A := F_A.binds (ps := ["item", "follower", "items"]) fun _ _ _ _ _ _ us hl => match us, hl with | [_, _, _], _ => rfl
  have g_A := PySem.W.mg_of X G a_A
  have F_c := fun_mk (st := sCell) l_c c_c k_c
  have b_c := F_c.binds (ps := ["_law_script", "_law_k"]) fun _ _ _ _ _ _ us hl => match us, hl with | [_, _], _ => rfl
  have g_c := PySem.W.mg_of X G a_c
  have F_s := fun_mk (st := sSource) l_s c_s k_s
  have b_s := F_s.binds (ps := ["_law_cell"]) fun _ _ _ _ _ _ us hl => match us, hl with | [_], _ => rfl
  have g_s := PySem.W.mg_of X G a_s
  have F_d := fun_mk (st := sDraw) l_d c_d k_d
  have b_d := F_d.binds (ps := ["_law_source_here", "_law_size"]) fun _ _ _ _ _ _ us hl => match us, hl with | [_, _], _ => rfl
  have g_d := PySem.W.mg_of X G a_d
  have F_p := fun_mk (st := sPick) l_p c_p k_p
  have b_p := F_p.binds (ps := ["_law_source_here", "_law_items_here"]) fun _ _ _ _ _ _ us hl => match us, hl with | [_, _], _ => rfl
  have g_p := PySem.W.mg_of X G a_p
  have F_e := fun_mk (st := sItems) l_e c_e k_e
  have b_e := F_e.binds (ps := ["_law_source_here", "_law_count"]) fun _ _ _ _ _ _ us hl => match us, hl with | [_, _], _ => rfl
  have g_e := PySem.W.mg_of X G a_e
  have F_o := fun_mk (st := sSome) l_o c_o k_o
  have b_o := F_o.binds (ps := ["_law_source_here", "_law_items_here"]) fun _ _ _ _ _ _ us hl => match us, hl with | [_, _], _ => rfl
  have g_o := PySem.W.mg_of X G a_o
  have F_t := fun_mk (st := sTurned) l_t c_t k_t
  have b_t := F_t.binds (ps := ["_law_source_here", "_law_items_here"]) fun _ _ _ _ _ _ us hl => match us, hl with | [_, _], _ => rfl
  have g_t := PySem.W.mg_of X G a_t
  have F_l := fun_mk (st := sLists) l_l c_l k_l
  have b_l := F_l.binds (ps := ["_law_source_here", "_law_most"]) fun _ _ _ _ _ _ us hl => match us, hl with | [_, _], _ => rfl
  have g_l := PySem.W.mg_of X G a_l
  have F_m := fun_mk (st := sMerged) l_m c_m k_m
  have b_m := F_m.binds (ps := ["_law_lists_here"]) fun _ _ _ _ _ _ us hl => match us, hl with | [_], _ => rfl
  have g_m := PySem.W.mg_of X G a_m
  have F_i := fun_mk (st := sLIntD) l_i c_i k_i
  have b_i := F_i.binds (ps := ["_law_value"]) fun _ _ _ _ _ _ us hl => match us, hl with | [_], _ => rfl
  have g_i := PySem.W.mg_of X G a_i
  have F_r := fun_mk (st := sLRingD) l_r c_r k_r
  have b_r := F_r.binds (ps := ["_law_lists_here", "_law_ring"]) fun _ _ _ _ _ _ us hl => match us, hl with | [_, _], _ => rfl
  have g_r := PySem.W.mg_of X G a_r
  have F_k := fun_mk (st := sRound) l_k c_k k_k
  have b_k := F_k.binds (ps := ["_law_source_here", "_law_lists_here"]) fun _ _ _ _ _ _ us hl => match us, hl with | [_, _], _ => rfl
  have g_k := PySem.W.mg_of X G a_k
  have F_b := fun_mk (st := sBentM) l_b c_b k_b
  have b_b := F_b.binds (ps := ["_law_source_here", "_law_paper"]) fun _ _ _ _ _ _ us hl => match us, hl with | [_, _], _ => rfl
  have g_b := PySem.W.mg_of X G a_b
  have F_g := fun_mk (st := sRight) l_g c_g k_g
  have b_g := F_g.binds (ps := ["_law_lists_here", "_law_paper"]) fun _ _ _ _ _ _ us hl => match us, hl with | [_, _], _ => rfl
  have g_g := PySem.W.mg_of X G a_g
  have F_w := fun_mk (st := sLaw) l_w c_w k_w
  have g_w := PySem.W.mg_of X G a_w
  refine ⟨PySem.W.fnOf "law" "law" (defArgs sLaw) (defBody sLaw) (defScope sLaw) .none kV_w dc_w pm_w an_w cd_w ct_w, fun s v => .of_eq rfl, fun base _ _ => ?_⟩
  have G_I := ok_isInt (P := l.prog) (w := w) (base := base) F_I T
  have G_U := ok_unlike (P := l.prog) (w := w) (base := base) F_U T
  have G_L := ok_isList (P := l.prog) (w := w) (base := base) F_L T g_I k_I b_I G_I
  have G_LD := ok_isListD (P := l.prog) (w := w) (base := base) F_L T g_I k_I b_I G_I
  have G_C := ok_check (P := l.prog) (w := w) (base := base) F_C T g_L k_L b_L G_L g_U k_U b_U G_U
  have G_T := ok_times (P := l.prog) (w := w) (base := base) F_T T
  have G_F := ok_free (P := l.prog) (w := w) (base := base) F_F T
  have G_K := ok_take (P := l.prog) (w := w) (base := base) F_K T
  have G_O := ok_ringOf (P := l.prog) (w := w) (base := base) F_O T
  have G_M := ok_merge (P := l.prog) (w := w) (base := base) F_M T g_C k_C b_C G_C g_T k_T b_T G_T g_F k_F b_F G_F g_K k_K b_K G_K g_O k_O b_O G_O
  have G_P := ok_part (P := l.prog) (w := w) (base := base) F_P T g_I k_I b_I G_I
  have G_A := ok_ahead (P := l.prog) (w := w) (base := base) F_A T
  have G_R := ok_ring (P := l.prog) (w := w) (base := base) F_R T g_P k_P b_P G_P g_A k_A b_A G_A
  have G_H := ok_showsD (P := l.prog) (w := w) (base := base) F_H T g_M k_M b_M G_M g_L k_L b_L G_LD g_R k_R b_R G_R
  have G_c := ok_cell (P := l.prog) (w := w) (base := base) F_c T
  have G_s := ok_source (P := l.prog) (w := w) (base := base) F_s T
  have G_d := ok_draw (P := l.prog) (w := w) (base := base) F_d T
  have G_p := ok_pick (P := l.prog) (w := w) (base := base) F_p T g_d k_d b_d G_d
  have G_m := ok_merged (P := l.prog) (w := w) (base := base) F_m T
  have G_i := ok_lIntD (P := l.prog) (w := w) (base := base) F_i T
  have G_r := ok_lRingD (P := l.prog) (w := w) (base := base) F_r T g_i k_i b_i G_i
  have G_e := ok_items (P := l.prog) (w := w) (base := base) F_e TL g_d k_d b_d G_d g_p k_p b_p G_p
  have G_o := ok_some (P := l.prog) (w := w) (base := base) F_o T g_d k_d b_d G_d
  have G_t := ok_turned (P := l.prog) (w := w) (base := base) F_t T g_d k_d b_d G_d g_p k_p b_p G_p
  have G_l := ok_lists (P := l.prog) (w := w) (base := base) F_l T g_d k_d b_d G_d g_e k_e b_e G_e g_o k_o b_o G_o g_t k_t b_t G_t
  have G_k := ok_round (P := l.prog) (w := w) (base := base) F_k T (PySem.W.mg_none_of X G z_sum) g_p k_p b_p G_p
  have G_b := ok_bentM (P := l.prog) (w := w) (base := base) F_b T g_d k_d b_d G_d g_p k_p b_p G_p
  have G_g := ok_right (P := l.prog) (w := w) (base := base) F_g T (PySem.W.mg_none_of X G z_repr) g_r k_r b_r G_r g_m k_m b_m G_m
  exact ok_law F_w ⟨T, (PySem.W.mg_none_of X G z_repr), (PySem.W.mg_none_of X G z_sum), (PySem.W.mg_none_of X G z_sorted), g_c, k_c, b_c, G_c, g_s, k_s, b_s, G_s, g_l, k_l, b_l, G_l, g_M, k_M, b_M, G_M, g_m, k_m, b_m, G_m, g_k, k_k, b_k, G_k, g_b, k_b, b_b, G_b, g_H, k_H, b_H, G_H, g_g, k_g, b_g, G_g⟩
theorem walk {l : PySem.W.OpenLaw} {q : Program} {loose : List Str} {XP : (Str → Option Value) → Heap → Prop} {YP : World → Heap → Prop} {d : DefRec} {K : Params → PySem.W.Frag} (hn : l.most = some 63) (hdf : d.params.defaults = [])
    (hY : ∀ (w : World) (h : Heap), YP w h → (K w.params).In h) (hq : PyProof.Rows.importsNone q = true) (K1 : ∀ w : World, (K w.params).lookup 1 = none)
    (F : ∀ (w : World) (mg : Str → Option Value) (fa : Addr) (h : Heap), (K w.params).In h → h.Ns mainGlobals mg → mg d.name = some (.ref fa) →
      ∃ fd : FuncData, (∀ (s : Shared) (u : Value), BindsTo s fd ⟨[u], []⟩ [("_law_script", u)]) ∧ ∀ base : Heap, (K w.params).In base → base.Ns mainGlobals mg → FnG l.prog w (K w.params) mg base CX0 6 fa fd ["_law_script"] (spLaw (K w.params))) :
    PySem.W.WalkO q loose XP YP l.row.toRowW d [] (fun f vs => PySem.call f vs) :=
  walkS (n := 63) (k := 6) (x := "_law_script") (sp := fun w => spLaw (K w.params)) hn (by decide) hdf ⟨rfl, by decide, by decide⟩ hY hq K1 F (fun _ _ a ns hl hS h1 => ⟨a, ns, rfl, hS, hl, h1, fun _ => rfl⟩)
end Lw


set_option autoImplicit true
set_option Elab.async false
open PySem PySem.W PyProof.Rows in
set_option maxRecDepth 100000 in
set_option maxHeartbeats 0 in
theorem PySem.Challenge.cw_layoutline_k02_papers_of_merges_judged_holds : PySem.Challenge.rw_layoutline_k02_papers_of_merges_judged.Holds := by
  w_on; o_law; k_head; (case hw => w_witness2)
  k_fill
  refine Lw.walk (l := PySem.Challenge.rw_layoutline_k02_papers_of_merges_judged) rfl rfl (fun w h Y => PySem.W.kIn_of Y) ?hq ?K1 ?F
  case hq => first | rfl | decide +kernel
  case K1 => intro w; first | rfl | k_is
  case F =>
    intro w mg fa h KX G hmg
    refine' Lw.all_mk KX G hmg ?most ?z_isinstance ?z_int ?z_bool ?z_str ?z_list ?z_tuple ?z_set ?z_len ?z_all ?z_any ?z_zip ?z_enumerate ?z_range ?z_sorted ?z_repr ?z_sum ?a_I ?l_I ?c_I ?k_I ?a_U ?l_U ?c_U ?k_U ?a_M ?l_M ?c_M ?k_M ?a_H ?l_H ?c_H ?k_H ?a_R ?l_R ?c_R ?k_R ?a_C ?l_C ?c_C ?k_C ?a_L ?l_L ?c_L ?k_L ?a_T ?l_T ?c_T ?k_T ?a_F ?l_F ?c_F ?k_F ?a_K ?l_K ?c_K ?k_K ?a_O ?l_O ?c_O ?k_O ?a_P ?l_P ?c_P ?k_P ?a_A ?l_A ?c_A ?k_A ?a_c ?l_c ?c_c ?k_c ?a_s ?l_s ?c_s ?k_s ?a_d ?l_d ?c_d ?k_d ?a_p ?l_p ?c_p ?k_p ?a_e ?l_e ?c_e ?k_e ?a_o ?l_o ?c_o ?k_o ?a_t ?l_t ?c_t ?k_t ?a_l ?l_l ?c_l ?k_l ?a_m ?l_m ?c_m ?k_m ?a_i ?l_i ?c_i ?k_i ?a_r ?l_r ?c_r ?k_r ?a_k ?l_k ?c_k ?k_k ?a_b ?l_b ?c_b ?k_b ?a_g ?l_g ?c_g ?k_g ?a_w ?l_w ?c_w ?k_w
    (case most => first | k_is | kit_is | rfl)
    (case z_isinstance => first | k_is | kit_is | rfl)
    (case z_int => first | k_is | kit_is | rfl)
    (case z_bool => first | k_is | kit_is | rfl)
    (case z_str => first | k_is | kit_is | rfl)
    (case z_list => first | k_is | kit_is | rfl)
    (case z_tuple => first | k_is | kit_is | rfl)
    (case z_set => first | k_is | kit_is | rfl)
    (case z_len => first | k_is | kit_is | rfl)
    (case z_all => first | k_is | kit_is | rfl)
    (case z_any => first | k_is | kit_is | rfl)
    (case z_zip => first | k_is | kit_is | rfl)
    (case z_enumerate => first | k_is | kit_is | rfl)
    (case z_range => first | k_is | kit_is | rfl)
    (case z_sorted => first | k_is | kit_is | rfl)
    (case z_repr => first | k_is | kit_is | rfl)
    (case z_sum => first | k_is | kit_is | rfl)
    (case a_I => first | k_is | kit_is | rfl)
    (case l_I => first | k_is | kit_is | rfl)
    (case c_I => first | k_is | kit_is | rfl)
    (case k_I => first | k_is | kit_is | rfl)
    (case a_U => first | k_is | kit_is | rfl)
    (case l_U => first | k_is | kit_is | rfl)
    (case c_U => first | k_is | kit_is | rfl)
    (case k_U => first | k_is | kit_is | rfl)
    (case a_M => first | k_is | kit_is | rfl)
    (case l_M => first | k_is | kit_is | rfl)
    (case c_M => first | k_is | kit_is | rfl)
    (case k_M => first | k_is | kit_is | rfl)
    (case a_H => first | k_is | kit_is | rfl)
    (case l_H => first | k_is | kit_is | rfl)
    (case c_H => first | k_is | kit_is | rfl)
    (case k_H => first | k_is | kit_is | rfl)
    (case a_R => first | k_is | kit_is | rfl)
    (case l_R => first | k_is | kit_is | rfl)
    (case c_R => first | k_is | kit_is | rfl)
    (case k_R => first | k_is | kit_is | rfl)
    (case a_C => first | k_is | kit_is | rfl)
    (case l_C => first | k_is | kit_is | rfl)
    (case c_C => first | k_is | kit_is | rfl)
    (case k_C => first | k_is | kit_is | rfl)
    (case a_L => first | k_is | kit_is | rfl)
    (case l_L => first | k_is | kit_is | rfl)
    (case c_L => first | k_is | kit_is | rfl)
    (case k_L => first | k_is | kit_is | rfl)
    (case a_T => first | k_is | kit_is | rfl)
    (case l_T => first | k_is | kit_is | rfl)
    (case c_T => first | k_is | kit_is | rfl)
    (case k_T => first | k_is | kit_is | rfl)
    (case a_F => first | k_is | kit_is | rfl)
    (case l_F => first | k_is | kit_is | rfl)
    (case c_F => first | k_is | kit_is | rfl)
    (case k_F => first | k_is | kit_is | rfl)
    (case a_K => first | k_is | kit_is | rfl)
    (case l_K => first | k_is | kit_is | rfl)
    (case c_K => first | k_is | kit_is | rfl)
    (case k_K => first | k_is | kit_is | rfl)
    (case a_O => first | k_is | kit_is | rfl)
    (case l_O => first | k_is | kit_is | rfl)
    (case c_O => first | k_is | kit_is | rfl)
    (case k_O => first | k_is | kit_is | rfl)
    (case a_P => first | k_is | kit_is | rfl)
    (case l_P => first | k_is | kit_is | rfl)
    (case c_P => first | k_is | kit_is | rfl)
    (case k_P => first | k_is | kit_is | rfl)
    (case a_A => first | k_is | kit_is | rfl)
    (case l_A => first | k_is | kit_is | rfl)
    (case c_A => first | k_is | kit_is | rfl)
    (case k_A => first | k_is | kit_is | rfl)
    (case a_c => first | k_is | kit_is | rfl)
    (case l_c => first | k_is | kit_is | rfl)
    (case c_c => first | k_is | kit_is | rfl)
    (case k_c => first | k_is | kit_is | rfl)
    (case a_s => first | k_is | kit_is | rfl)
    (case l_s => first | k_is | kit_is | rfl)
    (case c_s => first | k_is | kit_is | rfl)
    (case k_s => first | k_is | kit_is | rfl)
    (case a_d => first | k_is | kit_is | rfl)
    (case l_d => first | k_is | kit_is | rfl)
    (case c_d => first | k_is | kit_is | rfl)
    (case k_d => first | k_is | kit_is | rfl)
    (case a_p => first | k_is | kit_is | rfl)
    (case l_p => first | k_is | kit_is | rfl)
    (case c_p => first | k_is | kit_is | rfl)
    (case k_p => first | k_is | kit_is | rfl)
    (case a_e => first | k_is | kit_is | rfl)
    (case l_e => first | k_is | kit_is | rfl)
    (case c_e => first | k_is | kit_is | rfl)
    (case k_e => first | k_is | kit_is | rfl)
    (case a_o => first | k_is | kit_is | rfl)
    (case l_o => first | k_is | kit_is | rfl)
    (case c_o => first | k_is | kit_is | rfl)
    (case k_o => first | k_is | kit_is | rfl)
    (case a_t => first | k_is | kit_is | rfl)
    (case l_t => first | k_is | kit_is | rfl)
    (case c_t => first | k_is | kit_is | rfl)
    (case k_t => first | k_is | kit_is | rfl)
    (case a_l => first | k_is | kit_is | rfl)
    (case l_l => first | k_is | kit_is | rfl)
    (case c_l => first | k_is | kit_is | rfl)
    (case k_l => first | k_is | kit_is | rfl)
    (case a_m => first | k_is | kit_is | rfl)
    (case l_m => first | k_is | kit_is | rfl)
    (case c_m => first | k_is | kit_is | rfl)
    (case k_m => first | k_is | kit_is | rfl)
    (case a_i => first | k_is | kit_is | rfl)
    (case l_i => first | k_is | kit_is | rfl)
    (case c_i => first | k_is | kit_is | rfl)
    (case k_i => first | k_is | kit_is | rfl)
    (case a_r => first | k_is | kit_is | rfl)
    (case l_r => first | k_is | kit_is | rfl)
    (case c_r => first | k_is | kit_is | rfl)
    (case k_r => first | k_is | kit_is | rfl)
    (case a_k => first | k_is | kit_is | rfl)
    (case l_k => first | k_is | kit_is | rfl)
    (case c_k => first | k_is | kit_is | rfl)
    (case k_k => first | k_is | kit_is | rfl)
    (case a_b => first | k_is | kit_is | rfl)
    (case l_b => first | k_is | kit_is | rfl)
    (case c_b => first | k_is | kit_is | rfl)
    (case k_b => first | k_is | kit_is | rfl)
    (case a_g => first | k_is | kit_is | rfl)
    (case l_g => first | k_is | kit_is | rfl)
    (case c_g => first | k_is | kit_is | rfl)
    (case k_g => first | k_is | kit_is | rfl)
    (case a_w => first | k_is | kit_is | rfl)
    (case l_w => first | k_is | kit_is | rfl)
    (case c_w => first | k_is | kit_is | rfl)
    (case k_w => first | k_is | kit_is | rfl)

