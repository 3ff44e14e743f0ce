import PyProof.Rows.All
import Wide.All
import OpenK.AllK
import Wide.FinOn
import HandS.ForMost
import HandS.DictComp
import HandS.SetBool
import HandS.Strs
import HandS.IsInst
import KE.DataAny
import HandS.Flow
import HandS.Walk
import HandS.Style
import HandS.Zip
import HandS.SetFor
import HandS.Iter
import HandS.More
import PyProof.StrLawsRepr
import HandS.Conv
import PySem.Challenge.RW_layoutline_k01_whole_merges_and_rings
set_option Elab.async false
set_option linter.all false
set_option maxRecDepth 100000
set_option maxHeartbeats 4000000
/-! A dict comprehension of two plain clauses: {kx: vx for t0 in i0 for t1 in i1}. -/
namespace Two
open PySem PySem.Spec PyProof.Rows L2

abbrev dc2 (kx vx t0 i0 t1 i1 : Expr) (sc : Scope) (ps : Pos) : Expr :=
  .DictComp kx vx [⟨t0, i0, [], 0⟩, ⟨t1, i1, [], 0⟩] sc ps

section
variable {P : Program} {w : World} {A : Around} {s : Shared}
variable {kx vx t0 i0 t1 i1 : Expr} {sc : Scope} {ps : Pos} {it : Value} {D : Addr} {en : Env}

/-- what an error does in the block -/
abbrev erE (P : Program) (w : World) (A : Around) (en : Env) (R : Result → Shared → Prop) : Value → Shared → Prop :=
  notedBy (model P w) A en fun e z => R (.error e) z

theorem turnOut : compTurn (dc2 kx vx t0 i0 t1 i1 sc ps) 0 it (.ref D) en = (do
      standAt i0.pos
      match ← pyNext it with
      | none => pure (.done .next)
      | some v =>
        letOwnedTupleGo t0 it v
        assign t0 en v
        let y ← eval i1 en
        standAt i1.pos
        let y ← foldedSetIterable i1 en y
        let _ ← runOwn (.compStart (dc2 kx vx t0 i0 t1 i1 sc ps) 1 (← holding [y] (pyIter y)) (.ref D) en) en
        again (.compLoop (dc2 kx vx t0 i0 t1 i1 sc ps) 0 it (.ref D) en)) := by rfl

theorem turnIn : compTurn (dc2 kx vx t0 i0 t1 i1 sc ps) 1 it (.ref D) en = (do
      standAt i1.pos
      match ← pyNext it with
      | none => pure (.done .next)
      | some v =>
        letOwnedTupleGo t1 it v
        assign t1 en v
        (do
          let a ← eval kx en
          let b ← holding [a] (eval vx en)
          standAt { kx.pos with endLine := vx.pos.endLine, endCol := vx.pos.endCol }
          holding [a, b] (dictSet D a b))
        again (.compLoop (dc2 kx vx t0 i0 t1 i1 sc ps) 1 it (.ref D) en)) := by rfl

/-- one turn of the first clause -/
theorem loopOut {R : Result → Shared → Prop} (hf : ∀ y, foldedSetIterable i1 en y = pure y) (J : Nat → Shared → Prop)
    (go : ∀ n z, J n z → wpAny (model P w) A (pyNext it) (fun r z1 => match r with
      | none => R (.ok .next) z1
      | some v => wpAny (model P w) A (letOwnedTupleGo t0 it v) (fun _ z2 =>
          wpAny (model P w) A (assign t0 en v) (fun _ z3 =>
            wpAny (model P w) A (eval i1 en) (fun y z4 =>
              wpAny (model P w) A (pyIter y) (fun j z5 =>
                codeAny (model P w) A (.compStart (dc2 kx vx t0 i0 t1 i1 sc ps) 1 j (.ref D) en)
                  (fun q z6 => match q with | .ok _ => ∃ m, m < n ∧ J m z6 | .error _ => False) z5)
              (erE P w A en R) z4) (erE P w A en R) z3) (erE P w A en R) z2) (erE P w A en R) z1) (erE P w A en R) z)
    (n : Nat) (h : J n s) : codeAny (model P w) A (.compLoop (dc2 kx vx t0 i0 t1 i1 sc ps) 0 it (.ref D) en) R s := by
  refine codeAny_loop rfl J (fun n z hz => ?_) n h
  show wpAny _ A ((compTurn (dc2 kx vx t0 i0 t1 i1 sc ps) 0 it (.ref D) en).onRaise (fun x => do noteFrame x en; theTreesLotGoes x)) _ _ z
  refine wpAny_noted ?_
  rw [turnOut]
  refine wpAny_bind (wpAny_standAt (wpAny_bind (wpAny_mono (go n z hz) (fun r z1 g1 => ?_) fun _ _ k => k)))
  match r, g1 with
  | none, g1 => exact wpAny_pure g1
  | some v, g1 =>
    refine wpAny_bind (wpAny_mono g1 (fun _ z2 g2 => wpAny_bind (wpAny_mono g2 (fun _ z3 g3 => ?_) fun _ _ k => k)) fun _ _ k => k)
    refine wpAny_bind (wpAny_mono g3 (fun y z4 g4 => wpAny_bind (wpAny_standAt ?_)) fun _ _ k => k)
    refine wpAny_bind (wpAny_of_eq (hf y) (wpAny_bind (wpAny_holding (wpAny_mono g4 (fun j z5 g5 => ?_) fun _ _ k => k))))
    refine wpAny_bind (wpAny_runOwn ?_)
    rw [Around.mark_none]
    refine codeAny_mono g5 fun q z6 g6 => ?_
    match q, g6 with
    | .ok f, g6 =>
      first
        | exact wpAny_pure ⟨rfl, g6⟩
        | exact wpAny_bind (wpAny_pure (wpAny_pure ⟨rfl, g6⟩))
    | .error e, g6 => exact g6.elim

/-- one turn of the second -/
theorem loopIn {R : Result → Shared → Prop} (J : Nat → Shared → Prop)
    (go : ∀ n z, J n z → wpAny (model P w) A (pyNext it) (fun r z1 => match r with
      | none => R (.ok .next) z1
      | some v => wpAny (model P w) A (letOwnedTupleGo t1 it v) (fun _ z2 =>
          wpAny (model P w) A (assign t1 en v) (fun _ z3 =>
            wpAny (model P w) A (eval kx en) (fun a z4 =>
              wpAny (model P w) A (eval vx en) (fun b z5 =>
                wpAny (model P w) A (dictSet D a b) (fun _ z6 => ∃ m, m < n ∧ J m z6) (erE P w A en R) z5)
              (erE P w A en R) z4) (erE P w A en R) z3) (erE P w A en R) z2) (erE P w A en R) z1) (erE P w A en R) z)
    (n : Nat) (h : J n s) : codeAny (model P w) A (.compLoop (dc2 kx vx t0 i0 t1 i1 sc ps) 1 it (.ref D) en) R s := by
  refine codeAny_loop rfl J (fun n z hz => ?_) n h
  show wpAny _ A ((compTurn (dc2 kx vx t0 i0 t1 i1 sc ps) 1 it (.ref D) en).onRaise (fun x => do noteFrame x en; theTreesLotGoes x)) _ _ z
  refine wpAny_noted ?_
  rw [turnIn]
  refine wpAny_bind (wpAny_standAt (wpAny_bind (wpAny_mono (go n z hz) (fun r z1 g1 => ?_) fun _ _ k => k)))
  match r, g1 with
  | none, g1 => exact wpAny_pure g1
  | some v, g1 =>
    refine wpAny_bind (wpAny_mono g1 (fun _ z2 g2 => wpAny_bind (wpAny_mono g2 (fun _ z3 g3 => ?_) fun _ _ k => k)) fun _ _ k => k)
    refine wpAny_bind (wpAny_bind (wpAny_mono g3 (fun a z4 g4 => ?_) fun _ _ k => k))
    refine wpAny_bind (wpAny_holding (wpAny_mono g4 (fun b z5 g5 => ?_) fun _ _ k => k))
    exact wpAny_bind (wpAny_standAt (wpAny_holding (wpAny_mono g5 (fun _ z6 g6 => wpAny_pure ⟨rfl, g6⟩) fun _ _ k => k)))

/-- where the second clause begins -/
theorem startIn {R : Result → Shared → Prop} (h0 : codeAny (model P w) A (.compLoop (dc2 kx vx t0 i0 t1 i1 sc ps) 1 it (.ref D) en) R s)
    (h : wpAny (model P w) A (pyIter it) (fun j z => codeAny (model P w) A (.compLoop (dc2 kx vx t0 i0 t1 i1 sc ps) 1 j (.ref D) en) R z) (erE P w A en R) s) :
    codeAny (model P w) A (.compStart (dc2 kx vx t0 i0 t1 i1 sc ps) 1 it (.ref D) en) R s := by
  refine codeAny_of_tree ?_
  show wpAny _ _ ((compStart (dc2 kx vx t0 i0 t1 i1 sc ps) 1 it (.ref D) en).onRaise (fun x => do noteFrame x en; standAt theWindowsPlace)) _ _ s
  refine wpAny_notedAt ?_
  unfold compStart
  show wpAny _ _ (ask >>= _) _ _ s
  refine wpAny_bind (wpAny_askSetting (wpAny_ite ?_))
  split
  · first
      | exact wpAny_bind (wpAny_pure (wpAny_pure ⟨rfl, h0⟩))
      | exact wpAny_pure ⟨rfl, h0⟩
  · refine wpAny_bind (wpAny_rule ?_)
    show wpAny _ _ (standAt i1.pos >>= _) _ _ s
    exact wpAny_bind (wpAny_standAt (wpAny_bind (wpAny_mono h (fun j z k => wpAny_pure ⟨rfl, k⟩) fun _ _ k => k)))
end
end Two

set_option Elab.async false
set_option linter.all false
set_option maxRecDepth 100000
set_option maxHeartbeats 4000000
namespace Two
open PySem PySem.Spec PyProof.Rows L2
section
variable {X : Cx}

/-- the cells of a comprehension's own frame at C -/
abbrev cxB (X : Cx) (s : Shared) (H : Hp) (sc : Scope) (C : Addr) (cl : List (Str × Addr)) (fp : List Addr) : Cx := X.blk s H sc (compEnvC sc cl C X.env) fp

/-- what the inner clause is to do from heap G: own measure, then Nx -/
def inner (J1 : It) (g1 : TG) (tk tv : TE) (vs1 : List Nat) (D : Addr) (σ2 : L2.St) (Nx : Hp → Prop) (G : Hp) : Prop :=
  ∃ W1 : Nat → Nat → Hp → Prop, (∃ m, W1 0 m G) ∧ ∀ j k G1, W1 j k G1 →
    (J1.stop j G1 ∧ Nx G1) ∨ (J1.go j G1 ∧ ∃ N1 : Hp → Prop, (∀ G2, N1 G2 → ∃ k2, k2 < k ∧ W1 (j + 1) k2 G2) ∧
      ∀ x G2, J1.yld j G1 x G2 → g1 x (wipe σ2 vs1) G2 fun σ3 G3 => wipe σ3 vs1 = wipe σ2 vs1 ∧
        tk σ3 G3 fun y G4 => tv σ3 G4 fun z G5 => ∃ kvs k0, y = kV k0 ∧ G5 D = some (.dK kvs) ∧ kvs.length < sizeLine ∧ N1 (upd G5 D (.dK (putK kvs k0 z))))
/-- the outer clause over the new dict D -/
def outer (J : It) (g : TG) (wi1 : TI) (g1 : TG) (tk tv : TE) (vs vs1 : List Nat) (D : Addr) (σ : L2.St) (Qd : Hp → Prop) (G : Hp) : Prop :=
  ∃ W : Nat → Nat → Hp → Prop, (∃ m, W 0 m G) ∧ ∀ i m G1, W i m G1 →
    (J.stop i G1 ∧ Qd G1) ∨ (J.go i G1 ∧ ∃ Nx : Hp → Prop, (∀ G2, Nx G2 → ∃ m2, m2 < m ∧ W (i + 1) m2 G2) ∧
      ∀ x G2, J.yld i G1 x G2 → g x (wipe σ vs) G2 fun σ2 G3 => wipe σ2 vs = wipe σ vs ∧
        wi1 σ2 G3 fun J1 G4 => inner J1 g1 tk tv vs1 D σ2 Nx G4)
/-- {kx: vx for t0 in i0 for t1 in i1} -/
def tDc2 (wi : TI) (g : TG) (wi1 : TI) (g1 : TG) (tk tv : TE) (vs vs1 : List Nat) : TE := fun σ H Q =>
  wi σ H fun J H1 => ∀ D, H1 D = none → outer J g wi1 g1 tk tv vs vs1 D σ (Q (.ref D)) (upd H1 D (.dK []))

theorem wipe_keep {σ : L2.St} {i : Nat} {v : V} {a b : List Nat} (sub : ∀ j ∈ b, j ∈ a) {τ : L2.St} (e : wipe τ a = wipe σ a) (h : (wipe σ a)[i]? = some (some v)) : (wipe τ b)[i]? = some (some v) ∧ τ[i]? = some (some v) := by
  rw [← e] at h
  obtain ⟨h1, h2⟩ := wipe_some h
  exact ⟨by rw [wipe_out fun q => h2 (sub _ q)]; exact h1, h1⟩

theorem dc2_core {pins : List (Addr × Obj)} {s : Shared} {σ : L2.St} {H : Hp} {Q : VK} {kx vx t0 i0 t1 i1 : Expr} {sc : Scope} {ps pos' : Pos} {own : List (Str × Nat)} {vs1 : List Nat}
    {wi wi1 : TI} {g g1 : TG} {tk tv : TE} {use : Option (Value → Sem Unit)} {Qf : Value → Shared → Prop}
    (hc : X.calm = true) (hN : X.N.Nodup) (I : Inv X pins σ H s) (hi : PI X t0 i0 wi) (ok : BlkOk X.N X.env.scope sc own) (hv : ∀ i ∈ vs1, i ∈ own.map (·.2))
    (hg : ∀ s H C cl fp, PG (cxB X s H sc C cl fp) t0 g) (hi1 : ∀ s H C cl fp, PI (cxB X s H sc C cl fp) t1 i1 wi1) (hg1 : ∀ s H C cl fp, PG (cxB X s H sc C cl fp) t1 g1)
    (hk : ∀ s H C cl fp, PE (cxB X s H sc C cl fp) kx tk) (hx : ∀ s H C cl fp, PE (cxB X s H sc C cl fp) vx tv)
    (hs : ∀ x, foldedSetIterable i0 X.env x = pure x) (hs1 : ∀ en x, foldedSetIterable i1 en x = pure x)
    (h : tDc2 wi g wi1 g1 tk tv (own.map (·.2)) vs1 σ H Q)
    (fin : ∀ D C z m G, Inv X pins σ G z → Q (.ref D) G → z.heap.Ns C m → FpOk X pins G C → compPost (model X.prog X.w) X.A X.xe use Qf (.ref D) C (.ok .next) z) :
    wpAny (model X.prog X.w) X.A (comprehension (dc2 kx vx t0 i0 t1 i1 sc ps) sc X.env pos' newDict false (eval i0 X.env) use) Qf X.xe s := by
  have free : ∀ y ∈ sc.names, y.2 = .free → ∃ c, X.env.cells.lookup y.1 = some c := fun y hy e =>
    (ok.free y hy e).elim (fun k => I.ok.has _ (.inl k)) fun k => I.ok.has _ (.inr k)
  refine wpAny_comprehension_free (use := use) rfl hs (closure_ok free) ok.kind (fun y hy e => by rw [ok.uniq y hy, e])
    (thn (hi.run pins s σ H _ I h) fun _ _ h1 => thn h1 fun _ sA hA => ?_)
  obtain ⟨it, fp, tn, J, HA, rfl, IA, T, stA, fpA, q⟩ := hA
  refine wpAny_newObj_type (newEnv_comp ?_)
  obtain ⟨D, hD⟩ : ∃ D, D = sA.heap.objs.size := ⟨_, rfl⟩
  have freshD : HA D = none := IA.hok.fresh (Nat.le_of_eq hD.symm)
  obtain ⟨W, ⟨m0, w0⟩, turn⟩ := q D freshD
  -- the new dict
  obtain ⟨sB, hB⟩ : ∃ z : Shared, z = { sA with heap := sA.heap.push { cls := .type "dict", data := .dict #[] } } := ⟨_, rfl⟩
  have heapB : sB.heap = sA.heap.push { cls := .type "dict", data := .dict #[] } := by rw [hB]
  have IB : Inv X pins σ (upd HA D (.dK [])) sB := by
    rw [hB]
    exact IA.laid (t' := sA.toks) (fun b o e => Heap.get?_push_of_some _ e) (Nat.le_of_eq hD.symm) (by rw [hD]; exact dk_empty sA.heap IA.big)
  have keepB : ∀ b o, sA.heap.get? b = some o → sB.heap.get? b = some o := fun b o e => by rw [heapB]; exact Heap.get?_push_of_some _ e
  have small : ∀ b ∈ fp, b < sA.heap.objs.size := fun b hb => let ⟨_, e, _⟩ := T.obj _ _ stA b hb; Heap.lt_size e
  have fpB : ∀ b ∈ fp, FpOk X pins (upd HA D (.dK [])) b ∧ b < sB.heap.objs.size := fun b hb =>
    have lt := small b hb
    ⟨⟨by rw [upd_ne (by rw [hD]; exact Nat.ne_of_lt lt)]; exact (fpA b hb).1, (fpA b hb).2⟩, by rw [heapB, Heap.size_push]; exact Nat.lt_succ_of_lt lt⟩
  have stB : tn 0 sB.heap := T.keep _ _ _ stA fun b _ o e => keepB b o e
  have IC := block_start IB ok hN fpB
  obtain ⟨cl, hcl⟩ : ∃ cl, cl = cellsFrom (sB.heap.objs.size + 1) sc.names (cloFrom X.env.cells sc.names []) := ⟨_, rfl⟩
  rw [← hcl] at IC
  have pg := hg sB (upd HA D (.dK [])) sB.heap.objs.size cl fp
  have pi1 := hi1 sB (upd HA D (.dK [])) sB.heap.objs.size cl fp
  have pg1 := hg1 sB (upd HA D (.dK [])) sB.heap.objs.size cl fp
  have pk := hk sB (upd HA D (.dK [])) sB.heap.objs.size cl fp
  have px := hx sB (upd HA D (.dK [])) sB.heap.objs.size cl fp
  have noneB : ∀ b ∈ fp, (upd HA D (.dK [])) b = none := fun b hb => (fpB b hb).1.1
  have locC : (compEnvC sc cl sB.heap.objs.size X.env).locals = sB.heap.objs.size := rfl
  unfold cxB at pg pi1 pg1 pk px
  suffices goal : codeAny (model X.prog X.w) X.A (.compStart (dc2 kx vx t0 i0 t1 i1 sc ps) 0 (.ref it) (.ref D) (compEnvC sc cl sB.heap.objs.size X.env))
      (compPost (model X.prog X.w) X.A X.xe use Qf (.ref D) sB.heap.objs.size) { sB with heap := pushCells (sB.heap.push { cls := .type "dict", data := .dict #[] }) sc.names } by
    subst hcl hB hD
    exact goal
  obtain ⟨sC, hC⟩ : ∃ z : Shared, z = { sB with heap := pushCells (sB.heap.push { cls := .type "dict", data := .dict #[] }) sc.names } := ⟨_, rfl⟩
  rw [← hC] at IC ⊢
  generalize hce : compEnvC sc cl sB.heap.objs.size X.env = ce at IC pg pi1 pg1 pk px locC ⊢
  generalize hH : upd HA D (.dK []) = HB at IB IC pg pi1 pg1 pk px w0 noneB fpB
  have stC : tn 0 sC.heap := T.keep _ _ _ stB fun b _ o e => by rw [hC]; exact pushCells_keeps _ _ _ _ (Heap.get?_push_of_some _ e)
  have fpY : ∀ {τ : L2.St} {G : Hp} {z : Shared}, Inv (X.blk sB HB sc ce fp) [] τ G z → (∀ b ∈ fp, G b = none) → ∀ b ∈ fp, FpOk (X.blk sB HB sc ce fp) [] G b :=
    fun {τ G z} K hn b hb => ⟨hn b hb, (K.ok.exf b hb).1, K.ok.exfs b hb, .inl hb, fun x c e => (K.ok.exf b hb).2 x c e, fun p hp => absurd (show p ∈ ([] : List (Addr × Obj)) ++ [] from hp) (by simp)⟩
  obtain ⟨base, hbase⟩ : ∃ b : L2.St, b = wipe σ (own.map (·.2)) := ⟨_, rfl⟩
  -- what stands between two turns of the first clause
  let Z : Nat → Shared → Prop := fun n z => ∃ i G, Inv (X.blk sB HB sc ce fp) [] base G z ∧ tn i z.heap ∧ (∀ b ∈ fp, G b = none) ∧ W i n G
  have loop : codeAny (model X.prog X.w) X.A (.compLoop (dc2 kx vx t0 i0 t1 i1 sc ps) 0 (.ref it) (.ref D) ce) (compPost (model X.prog X.w) X.A X.xe use Qf (.ref D) sB.heap.objs.size) sC := by
    refine loopOut (hs1 ce) Z ?_ m0 ⟨0, HB, by rw [hbase]; exact IC, stC, noneB, w0⟩
    rintro n z ⟨i, G, Iz, stz, nz, wz⟩
    rcases turn i n G wz with ⟨stop, qq⟩ | ⟨go, Nx, hNx, step⟩
    · have td := T.done (X.blk sB HB sc ce fp) rfl rfl rfl hc i [] z base G (fun _ _ => False) Iz (fpY Iz nz) stz stop
      refine thnF td fun r z2 ⟨hr, I2⟩ => ?_
      subst hr
      have I3 : Inv X pins σ G z2 := IB.call' (ch := fp) I2.os I2.base I2.hok I2.bare fun b hb =>
        have f := (fpB b hb).1.2
        ⟨f.2.2.1, f.1, f.2.2.2.1, f.2.2.2.2⟩
      have nC : G sB.heap.objs.size = none := by have k : G ce.locals = none := I2.free; rwa [locC] at k
      obtain ⟨m, hn, _⟩ := I2.loc
      have hn : z2.heap.Ns ce.locals m := hn
      rw [locC] at hn
      exact fin D sB.heap.objs.size z2 m G I3 qq hn (IB.fpOk (Nat.le_refl _) nC)
    · have ti := T.item (X.blk sB HB sc ce fp) rfl rfl rfl hc i [] z base G (fun _ _ => False) Iz (fpY Iz nz) stz go
      refine thnF ti fun r z2 ⟨u, hr, h2⟩ => ?_
      subst hr
      refine thnF h2 fun _ z3 ⟨x, G3, I3, r3, y3, st3, n3⟩ => ?_
      have P3 := I3.pinned (fpY I3 n3) (T.obj _ _ st3)
      rw [hbase] at P3
      have a4 := pg.run _ z3 _ G3 x u _ P3 r3 (step x G3 y3)
      refine thnF a4 fun _ z4 ⟨τ, G4, I4, hw4, q4⟩ => ?_
      have baseL : base.length = τ.length := by rw [hbase, ← hw4, wipe_length]
      have baseV : ∀ (j : Nat) v, base[j]? = some (some v) → τ[j]? = some (some v) := fun j v e => by
        rw [hbase, ← hw4] at e
        exact (wipe_some e).1
      have baseV1 : ∀ (j : Nat) v, base[j]? = some (some v) → (wipe τ vs1)[j]? = some (some v) := fun j v e =>
        (wipe_keep hv hw4 (by rw [← hbase]; exact e)).1
      -- the end of a turn, whatever the slots
      have ends : ∀ {ρ : L2.St} {y : Shared} {G' : Hp}, Inv (X.blk sB HB sc ce fp) ([] ++ pinsAt fp z3.heap) ρ G' y → base.length = ρ.length → (∀ (j : Nat) v, base[j]? = some (some v) → ρ[j]? = some (some v)) → Nx G' → ∃ m, m < n ∧ Z m y := by
        intro ρ y G' K hl hk nx
        obtain ⟨m2, lt2, w2⟩ := hNx G' nx
        have stay : ∀ b ∈ fp, ∀ o, z3.heap.get? b = some o → y.heap.get? b = some o ∧ G' b = none := fun b hb o e =>
          have k := K.pin (b, o) (List.mem_append_right _ (List.mem_append_right _ (mem_pinsAt hb e)))
          ⟨k.1, k.2.1⟩
        refine ⟨m2, lt2, i + 1, G', (K.unpinned (pins := [])).weak hl hk, T.keep _ _ _ st3 fun b hb o e => (stay b hb o e).1, fun b hb => ?_, w2⟩
        obtain ⟨o, e, _⟩ := T.obj _ _ st3 b hb
        exact (stay b hb o e).2
      have a5 := pi1.run _ z4 τ G4 _ I4 q4
      refine thnF a5 fun _ z5 h5 => ?_
      refine thnF h5 fun _ z6 h6 => ?_
      obtain ⟨it1, fp1, tn1, J1, G6, rfl, I6, T1, st6, f6, W1, ⟨m1, w1⟩, turn1⟩ := h6
      have ok1 : ∀ {G' : Hp}, (∀ b ∈ fp1, G' b = none) → ∀ b ∈ fp1, FpOk (X.blk sB HB sc ce fp) ([] ++ pinsAt fp z3.heap) G' b := fun hn b hb => ⟨hn b hb, (f6 b hb).2⟩
      let Z1 : Nat → Shared → Prop := fun k y => ∃ j G', Inv (X.blk sB HB sc ce fp) ([] ++ pinsAt fp z3.heap) (wipe τ vs1) G' y ∧ tn1 j y.heap ∧ (∀ b ∈ fp1, G' b = none) ∧ W1 j k G'
      have loop1 : codeAny (model X.prog X.w) X.A (.compLoop (dc2 kx vx t0 i0 t1 i1 sc ps) 1 (.ref it1) (.ref D) ce) (fun q y => match q with | .ok _ => ∃ m, m < n ∧ Z m y | .error _ => False) z6 := by
        refine loopIn Z1 ?_ m1 ⟨0, G6, I6.weak (wipe_length _ _) (fun j v e => (wipe_some e).1), st6, fun b hb => (f6 b hb).1, w1⟩
        rintro k y ⟨j, G7, I7, st7, n7, w7⟩
        rcases turn1 j k G7 w7 with ⟨stop1, nx⟩ | ⟨go1, N1, hN1, step1⟩
        · have td := T1.done (X.blk sB HB sc ce fp) rfl rfl rfl hc j _ y (wipe τ vs1) G7 (fun _ _ => False) I7 (ok1 n7) st7 stop1
          refine thnF td fun r y2 ⟨hr, I8⟩ => ?_
          subst hr
          exact ends I8 (baseL.trans (wipe_length τ vs1).symm) baseV1 nx
        · have ti := T1.item (X.blk sB HB sc ce fp) rfl rfl rfl hc j _ y (wipe τ vs1) G7 (fun _ _ => False) I7 (ok1 n7) st7 go1
          refine thnF ti fun r y2 ⟨u1, hr, h8⟩ => ?_
          subst hr
          refine thnF h8 fun _ y3 ⟨x1, G9, I9, r9, y9, st9, n9⟩ => ?_
          have P9 := I9.pinned (ok1 n9) (T1.obj _ _ st9)
          have b1 := pg1.run _ y3 (wipe τ vs1) G9 x1 u1 _ P9 r9 (step1 x1 G9 y9)
          refine thnF b1 fun _ y4 ⟨ρ, G10, I10, hw10, q10⟩ => ?_
          have back : ∀ {y' : Shared} {G' : Hp}, Inv (X.blk sB HB sc ce fp) (([] ++ pinsAt fp z3.heap) ++ pinsAt fp1 y3.heap) ρ G' y' → N1 G' → ∃ m, m < k ∧ Z1 m y' := by
            intro y' G' K nx
            obtain ⟨k2, lt2, w2⟩ := hN1 G' nx
            have stay : ∀ b ∈ fp1, ∀ o, y3.heap.get? b = some o → y'.heap.get? b = some o ∧ G' b = none := fun b hb o e =>
              have p := K.pin (b, o) (List.mem_append_right _ (List.mem_append_right _ (mem_pinsAt hb e)))
              ⟨p.1, p.2.1⟩
            refine ⟨k2, lt2, j + 1, G', K.unpinned.weak (by rw [← hw10, wipe_length]) (fun i v e => by rw [← hw10] at e; exact (wipe_some e).1), T1.keep _ _ _ st9 fun b hb o e => (stay b hb o e).1, fun b hb => ?_, w2⟩
            obtain ⟨o, e, _⟩ := T1.obj _ _ st9 b hb
            exact (stay b hb o e).2
          have b2 := pk.run _ y4 ρ G10 _ I10 q10
          refine thnF b2 fun _ y5 ⟨ky, G11, I11, r11, q11⟩ => ?_
          have b3 := px.run _ y5 ρ G11 _ I11 q11
          refine thnF b3 fun _ y6 ⟨vy, G12, I12, r12, kvs, k0, ek, hD12, hz12, nx⟩ => ?_
          subst ek
          have b4 := d_dictSet (E := fun _ _ => False) (Q := fun _ y' => ∃ m, m < k ∧ Z1 m y') I12 hD12 hz12 r11 r12 fun y7 I13 => back I13 nx
          exact thnF b4 fun _ _ z => z
      exact startIn loop1 (T1.self X.A 0 _ _ _ st6 loop1)
  exact codeAny_compStart_dict loop (T.self X.A 0 _ _ _ stC loop)
end
end Two

set_option Elab.async false
set_option linter.all false
set_option maxRecDepth 100000
set_option maxHeartbeats 4000000
namespace Two
open PySem PySem.Spec PyProof.Rows L2
section
variable {X : Cx}
theorem pe_dc2 {kx vx t0 i0 t1 i1 : Expr} {sc : Scope} {ps : Pos} {own : List (Str × Nat)} {vs1 : List Nat} {wi wi1 : TI} {g g1 : TG} {tk tv : TE}
    (hc : X.calm = true) (hN : X.N.Nodup) (hi : PI X t0 i0 wi) (ok : BlkOk X.N X.env.scope sc own) (hv : ∀ i ∈ vs1, i ∈ own.map (·.2))
    (hg : ∀ s H C cl fp, PG (cxB X s H sc C cl fp) t0 g) (hi1 : ∀ s H C cl fp, PI (cxB X s H sc C cl fp) t1 i1 wi1) (hg1 : ∀ s H C cl fp, PG (cxB X s H sc C cl fp) t1 g1)
    (hk : ∀ s H C cl fp, PE (cxB X s H sc C cl fp) kx tk) (hx : ∀ s H C cl fp, PE (cxB X s H sc C cl fp) vx tv)
    (hs : ∀ x, foldedSetIterable i0 X.env x = pure x := by intro _; rfl) (hs1 : ∀ en x, foldedSetIterable i1 en x = pure x := by intro _ _; rfl) :
    PE X (dc2 kx vx t0 i0 t1 i1 sc ps) (tDc2 wi g wi1 g1 tk tv (own.map (·.2)) vs1) := by
  refine ⟨fun pins s σ H Q I h => ?_⟩
  rw [arm_eval_DictComp]
  refine dc2_core hc hN I hi ok hv hg hi1 hg1 hk hx hs hs1 h fun D C z m G K q hn f => ⟨m, hn, fun h2 sb => ?_⟩
  exact ⟨.ref D, G, K.turned (t' := z.toks) (fun b o hb e => (sb.2 b hb).trans e) f.1 f.2.1 f.2.2.2.1 f.2.2.2.2.1 f.2.2.2.2.2, rfl, q⟩

theorem ps_setDc2 {i : Nat} {y : Str} {py : Pos} {kx vx t0 i0 t1 i1 : Expr} {sc : Scope} {ps sp : Pos} {own : List (Str × Nat)} {vs1 : List Nat} {wi wi1 : TI} {g g1 : TG} {tk tv : TE}
    (hc : X.calm = true) (hN : X.N.Nodup) (hy : X.N[i]? = some y) (hyl : X.env.scope.names.lookup y = some .local)
    (sw : swapsWith (dc2 kx vx t0 i0 t1 i1 sc ps) (some (.Name y py)) sp.line X.env = pure true)
    (hi : PI X t0 i0 wi) (ok : BlkOk X.N X.env.scope sc own) (hv : ∀ i ∈ vs1, i ∈ own.map (·.2))
    (hg : ∀ s H C cl fp, PG (cxB X s H sc C cl fp) t0 g) (hi1 : ∀ s H C cl fp, PI (cxB X s H sc C cl fp) t1 i1 wi1) (hg1 : ∀ s H C cl fp, PG (cxB X s H sc C cl fp) t1 g1)
    (hk : ∀ s H C cl fp, PE (cxB X s H sc C cl fp) kx tk) (hx : ∀ s H C cl fp, PE (cxB X s H sc C cl fp) vx tv)
    (hs : ∀ x, foldedSetIterable i0 X.env x = pure x := by intro _; rfl) (hs1 : ∀ en x, foldedSetIterable i1 en x = pure x := by intro _ _; rfl) :
    PS X (.Assign [.Name y py] (dc2 kx vx t0 i0 t1 i1 sc ps) sp) (tAsg (tDc2 wi g wi1 g1 tk tv (own.map (·.2)) vs1) (gName i)) := by
  refine ⟨fun pins s σ H D I h => ?_⟩
  rw [exec_Assign_Name_used _ _ _ _ sw]
  refine wpAny_bind (wpAny_standAt (wpAny_bind ?_))
  show wpAny _ X.A (do let _ ← comprehension (dc2 kx vx t0 i0 t1 i1 sc ps) sc X.env (firstIterPos [⟨t0, i0, [], 0⟩, ⟨t1, i1, [], 0⟩] ps) newDict false (eval i0 X.env) (some (assign (.Name y py) X.env))) _ _ s
  have h' : tDc2 wi g wi1 g1 tk tv (own.map (·.2)) vs1 σ H (fun x G => gName i x σ G D.nx) := h
  have fin : ∀ L C z m G, Inv X pins σ G z → gName i (V.ref L) σ G D.nx → z.heap.Ns C m → FpOk X pins G C →
      compPost (model X.prog X.w) X.A X.xe (some (assign (.Name y py) X.env)) (fun _ s' => SP X pins D .next s') (.ref L) C (.ok .next) z := by
    intro L C z m G K q hn f
    show wpAny _ _ (assign (.Name y py) X.env (.ref L)) _ _ _
    refine wpAny_assign_Name (store_ok2 (v := V.ref L) K hN hy (.inl hyl) rfl (fun s2 I2 ⟨a, sb, ha⟩ => ?_) (.inr hyl))
    have ne : C ≠ a := ha.elim (fun q => by rw [q]; exact f.2.1) fun q e => f.2.2.2.2.1 y a q e.symm
    exact ⟨m, hn.sameBut sb ne, fun h3 sb3 => ⟨_, G, I2.turned (t' := s2.toks) (fun b o hb e => (sb3.2 b hb).trans e) f.1 f.2.1 f.2.2.2.1 f.2.2.2.2.1 f.2.2.2.2.2, q⟩⟩
  exact wpAny_bind (thn (dc2_core (Qf := fun _ s' => SP X pins D .next s') hc hN I hi ok hv hg hi1 hg1 hk hx hs hs1 h' fin) fun _ s' hq => wpAny_pure (wpAny_pure hq))
theorem swD {kx vx t0 i0 t1 i1 : Expr} {sc : Scope} {ps py : Pos} {y : Str} {l : Nat} {env : Env} (hk : env.scope.kind = .function) (hy : env.scope.names.lookup y = some .local) (hl : (py.line == ps.line) = true)
    (ha : (sc.names.any fun (n, k) => n == y && (k == .local || k == .cell)) = false) : swapsWith (dc2 kx vx t0 i0 t1 i1 sc ps) (some (.Name y py)) l env = pure true := by
  have k1 : env.kindOf y = some .local := hy
  have k2 : env.blockKind = .function := by unfold Env.blockKind; rw [hk]; rfl
  unfold swapsWith
  simp only [k2, k1, ha, Expr.pos, hl]
  rfl

/-! ### any over data -/
def rAnyD (K : PySem.W.Frag) : List V → Hp → VK → Prop := fun vs H Q => ∃ (a : Addr) (ds : List PyData), vs = [V.ref a] ∧ Dp K H (.ref a) (.list ds) ∧ PyData.plainAll ds = true ∧ (∀ d ∈ ds, d.fits63) ∧ Q (.bl (ds.any PyData.truthy)) H
theorem cr_anyD (hc : X.calm = true) : CallR X (.builtin "any") (rAnyD X.K) := by
  intro pins s σ H vs us Q I r h
  obtain ⟨a, ds, rfl, hd, hp, hf, q⟩ := h
  rw [Vals.ref1 r]
  obtain ⟨as, rr⟩ := Dp.reads I _ _ _ hd rfl
  cases rr with
  | list h1 h2 h3 h4 =>
    refine PySem.W.any_list_data (I.ok.hd hc) ⟨_, h1, h2, _, h3⟩ h4 hp hf fun h' tk hk => ?_
    exact ⟨.bl _, H, I.kept hk, rfl, q⟩

/-! ### {e for x in xs} of ints -/
/-- over the new set D -/
def oneS (w : World) (J : It) (g : TG) (te : TE) (vs : List Nat) (D : Addr) (σ : L2.St) (Qd : Hp → Prop) (G : Hp) : Prop :=
  ∃ W : Nat → Nat → Hp → Prop, (∃ m, W 0 m G) ∧ ∀ i m G1, W i m G1 →
    (J.stop i G1 ∧ Qd G1) ∨ (J.go i G1 ∧ ∃ Nx : Hp → Prop, (∀ G2, Nx G2 → ∃ m2, m2 < m ∧ W (i + 1) m2 G2) ∧
      ∀ x G2, J.yld i G1 x G2 → g x (wipe σ vs) G2 fun σ2 G3 => wipe σ2 vs = wipe σ vs ∧
        te σ2 G3 fun y G4 => ∃ (k : Int) (S : Int → Bool) (n : Nat), y = .int k ∧ G4 D = some (SetO w D S n) ∧ n + 1 < scanBound ∧
          Nx (upd G4 D (SetO w D (fun j => S j || decide (j = k)) (if S k = true then n else n + 1))))
def tScI (w : World) (wi : TI) (g : TG) (te : TE) (vs : List Nat) : TE := fun σ H Q =>
  wi σ H fun J H1 => ∀ D, H1 D = none → oneS w J g te vs D σ (Q (.ref D)) (upd H1 D (SetO w D (fun _ => false) 0))

theorem pe_scI {e0 t0 i0 : Expr} {sc : Scope} {ps : Pos} {own : List (Str × Nat)} {wi : TI} {g : TG} {te : TE}
    (hc : X.calm = true) (hN : X.N.Nodup) (hi : PI X t0 i0 wi) (ok : BlkOk X.N X.env.scope sc own)
    (hg : ∀ s H C cl fp, PG (cxB X s H sc C cl fp) t0 g) (he : ∀ s H C cl fp, PE (cxB X s H sc C cl fp) e0 te)
    (hs : ∀ x, foldedSetIterable i0 X.env x = pure x := by intro _; rfl) :
    PE X (.SetComp e0 [⟨t0, i0, [], 0⟩] sc ps) (tScI X.w wi g te (own.map (·.2))) := by
  refine ⟨fun pins s σ H Q I h => ?_⟩
  rw [PpSet.eval_SetComp]
  have free : ∀ y ∈ sc.names, y.2 = .free → ∃ c, X.env.cells.lookup y.1 = some c := fun y hy e =>
    (ok.free y hy e).elim (fun k => I.ok.has _ (.inl k)) fun k => I.ok.has _ (.inr k)
  refine wpAny_comprehension_free (use := none) rfl hs (closure_ok free) ok.kind (fun y hy e => by rw [ok.uniq y hy, e])
    (thn (hi.run pins s σ H _ I h) fun _ _ h1 => thn h1 fun _ sA hA => ?_)
  obtain ⟨it, fp, tn, J, HA, rfl, IA, T, stA, fpA, q⟩ := hA
  refine PpSet.newSet_ok (newEnv_comp ?_)
  obtain ⟨D, hD⟩ : ∃ D, D = sA.heap.objs.size := ⟨_, rfl⟩
  have freshD : HA D = none := IA.hok.fresh (Nat.le_of_eq hD.symm)
  obtain ⟨W, ⟨m0, w0⟩, turn⟩ := q D freshD
  obtain ⟨ob, hob⟩ : ∃ ob : Obj, ob = { cls := .type "set", dict := none, data := .set #[] 0 (.fresh 0 0 (!X.w.params.followText "set-order")) } := ⟨_, rfl⟩
  obtain ⟨sB, hB⟩ : ∃ z : Shared, z = { sA with heap := sA.heap.push ob } := ⟨_, rfl⟩
  have heapB : sB.heap = sA.heap.push ob := by rw [hB]
  have IB : Inv X pins σ (upd HA D (SetO X.w D (fun _ => false) 0)) sB := by
    rw [hB]
    refine IA.laid (t' := sA.toks) (fun b o e => Heap.get?_push_of_some _ e) (Nat.le_of_eq hD.symm) (setO_new ?_)
    rw [hD, hob]
    exact setR_fresh X.w
  have keepB : ∀ b o, sA.heap.get? b = some o → sB.heap.get? b = some o := fun b o e => by rw [heapB]; exact Heap.get?_push_of_some _ e
  have small : ∀ b ∈ fp, b < sA.heap.objs.size := fun b hb => let ⟨_, e, _⟩ := T.obj _ _ stA b hb; Heap.lt_size e
  have fpB : ∀ b ∈ fp, FpOk X pins (upd HA D (SetO X.w D (fun _ => false) 0)) b ∧ b < sB.heap.objs.size := fun b hb =>
    have lt := small b hb
    ⟨⟨by rw [upd_ne (by rw [hD]; exact Nat.ne_of_lt lt)]; exact (fpA b hb).1, (fpA b hb).2⟩, by rw [heapB, Heap.size_push]; exact Nat.lt_succ_of_lt lt⟩
  have stB : tn 0 sB.heap := T.keep _ _ _ stA fun b _ o e => keepB b o e
  have IC := block_start IB ok hN fpB
  obtain ⟨cl, hcl⟩ : ∃ cl, cl = cellsFrom (sB.heap.objs.size + 1) sc.names (cloFrom X.env.cells sc.names []) := ⟨_, rfl⟩
  rw [← hcl] at IC
  have pg := hg sB (upd HA D (SetO X.w D (fun _ => false) 0)) sB.heap.objs.size cl fp
  have pe := he sB (upd HA D (SetO X.w D (fun _ => false) 0)) sB.heap.objs.size cl fp
  have noneB : ∀ b ∈ fp, (upd HA D (SetO X.w D (fun _ => false) 0)) b = none := fun b hb => (fpB b hb).1.1
  have locC : (compEnvC sc cl sB.heap.objs.size X.env).locals = sB.heap.objs.size := rfl
  unfold cxB at pg pe
  suffices goal : codeAny (model X.prog X.w) X.A (.compStart (.SetComp e0 [⟨t0, i0, [], 0⟩] sc ps) 0 (.ref it) (.ref D) (compEnvC sc cl sB.heap.objs.size X.env))
      (compPost (model X.prog X.w) X.A X.xe none (EP X pins σ Q) (.ref D) sB.heap.objs.size) { sB with heap := pushCells (sB.heap.push { cls := .type "dict", data := .dict #[] }) sc.names } by
    subst hcl hB hD hob
    exact goal
  obtain ⟨sC, hC⟩ : ∃ z : Shared, z = { sB with heap := pushCells (sB.heap.push { cls := .type "dict", data := .dict #[] }) sc.names } := ⟨_, rfl⟩
  rw [← hC] at IC ⊢
  generalize hce : compEnvC sc cl sB.heap.objs.size X.env = ce at IC pg pe locC ⊢
  generalize hH : upd HA D (SetO X.w D (fun _ => false) 0) = HB at IB IC pg pe w0 noneB fpB
  have stC : tn 0 sC.heap := T.keep _ _ _ stB fun b _ o e => by rw [hC]; exact pushCells_keeps _ _ _ _ (Heap.get?_push_of_some _ e)
  have fpY : ∀ {τ : L2.St} {G : Hp} {z : Shared}, Inv (X.blk sB HB sc ce fp) [] τ G z → (∀ b ∈ fp, G b = none) → ∀ b ∈ fp, FpOk (X.blk sB HB sc ce fp) [] G b :=
    fun {τ G z} K hn b hb => ⟨hn b hb, (K.ok.exf b hb).1, K.ok.exfs b hb, .inl hb, fun x c e => (K.ok.exf b hb).2 x c e, fun p hp => absurd (show p ∈ ([] : List (Addr × Obj)) ++ [] from hp) (by simp)⟩
  obtain ⟨base, hbase⟩ : ∃ b : L2.St, b = wipe σ (own.map (·.2)) := ⟨_, rfl⟩
  let Z : Nat → Shared → Prop := fun n z => ∃ i G, Inv (X.blk sB HB sc ce fp) [] base G z ∧ tn i z.heap ∧ (∀ b ∈ fp, G b = none) ∧ W i n G
  have loop : codeAny (model X.prog X.w) X.A (.compLoop (.SetComp e0 [⟨t0, i0, [], 0⟩] sc ps) 0 (.ref it) (.ref D) ce) (compPost (model X.prog X.w) X.A X.xe none (EP X pins σ Q) (.ref D) sB.heap.objs.size) sC := by
    refine PpSet.compLoopS_any Z ?_ m0 ⟨0, HB, by rw [hbase]; exact IC, stC, noneB, w0⟩
    rintro n z ⟨i, G, Iz, stz, nz, wz⟩
    rcases turn i n G wz with ⟨stop, qq⟩ | ⟨go, Nx, hNx, step⟩
    · refine thnF (T.done (X.blk sB HB sc ce fp) rfl rfl rfl hc i [] z base G (fun _ _ => False) Iz (fpY Iz nz) stz stop) fun r z2 ⟨hr, I2⟩ => ?_
      subst hr
      have I3 : Inv X pins σ G z2 := IB.call' (ch := fp) I2.os I2.base I2.hok I2.bare fun b hb =>
        have f := (fpB b hb).1.2
        ⟨f.2.2.1, f.1, f.2.2.2.1, f.2.2.2.2⟩
      have nC : G sB.heap.objs.size = none := by have k : G ce.locals = none := I2.free; rwa [locC] at k
      obtain ⟨m, hn, _⟩ := I2.loc
      have hn : z2.heap.Ns ce.locals m := hn
      rw [locC] at hn
      have f := IB.fpOk (H' := G) (Nat.le_refl _) nC
      exact ⟨m, hn, fun h2 sb => ⟨.ref D, G, I3.turned (t' := z2.toks) (fun b o hb e => (sb.2 b hb).trans e) f.1 f.2.1 f.2.2.2.1 f.2.2.2.2.1 f.2.2.2.2.2, rfl, qq⟩⟩
    · refine thnF (T.item (X.blk sB HB sc ce fp) rfl rfl rfl hc i [] z base G (fun _ _ => False) Iz (fpY Iz nz) stz go) fun r z2 ⟨u, hr, h2⟩ => ?_
      subst hr
      refine thnF h2 fun _ z3 ⟨x, G3, I3, r3, y3, st3, n3⟩ => ?_
      have P3 := I3.pinned (fpY I3 n3) (T.obj _ _ st3)
      rw [hbase] at P3
      refine thnF (pg.run _ z3 _ G3 x u _ P3 r3 (step x G3 y3)) fun _ z4 ⟨τ, G4, I4, hw4, q4⟩ => ?_
      refine thnF ((pts_nil (X := X.blk sB HB sc ce fp)).run _ z4 τ G4 (fun b G' => b = true ∧ G' = G4) I4 ⟨rfl, rfl⟩) fun b z5 ⟨G5, I5, hb, e5⟩ => ?_
      subst hb e5
      simp only [if_true]
      refine thnF (pe.run _ z5 τ G5 _ I5 q4) fun _ z6 ⟨vy, G6, I6, r6, k, S, cnt, ek, hD6, room, nx⟩ => ?_
      subst ek
      obtain ⟨tk, rfl⟩ := r6
      refine setR_add (setO_get (X := X.blk sB HB sc ce fp) I6 hD6) room fun h' sb new => ?_
      have he' : ∃ u, h'.get? D = some u := let ⟨o, _, _, _, ho, _⟩ := new; ⟨o, ho⟩
      have I7 := I6.write (e := D) (t' := z6.toks + 1) (by rw [hD6]; trivial) (.inl rfl) (fun b u hb hu => (sb.2 b hb).trans hu) he' (setO_new new)
      obtain ⟨m2, lt2, w2⟩ := hNx _ nx
      have stay : ∀ b ∈ fp, ∀ o, z3.heap.get? b = some o → h'.get? b = some o ∧ (upd G6 D (SetO X.w D (fun j => S j || decide (j = k)) (if S k = true then cnt else cnt + 1))) b = none := fun b hb o e =>
        have k := I7.pin (b, o) (List.mem_append_right _ (List.mem_append_right _ (mem_pinsAt hb e)))
        ⟨k.1, k.2.1⟩
      refine ⟨m2, lt2, i + 1, _, (I7.unpinned (pins := [])).weak (by rw [hbase, ← hw4, wipe_length]) (fun j v e => ?_), T.keep _ _ _ st3 fun b hb o e => (stay b hb o e).1, fun b hb => ?_, w2⟩
      · rw [hbase, ← hw4] at e
        exact (wipe_some e).1
      · obtain ⟨o, e, _⟩ := T.obj _ _ st3 b hb
        exact (stay b hb o e).2
  exact PpSet.codeAny_compStart_set loop (T.self X.A 0 _ _ _ stC loop)

/-! ### len of a set of ints -/
def rLenS (w : World) : List V → Hp → VK → Prop := fun vs H Q => ∃ (a : Addr) (S : Int → Bool) (n : Nat), vs = [V.ref a] ∧ H a = some (SetO w a S n) ∧ Q (.int (n : Int)) H
theorem cr_lenS : CallR X (.builtin "len") (rLenS X.w) := by
  intro pins s σ H vs us Q I r h
  obtain ⟨a, S, n, rfl, ha, q⟩ := h
  rw [Vals.ref1 r]
  obtain ⟨o, es, ep, t, ho, hex, hd, _, _, _, hb, hf, hn, _⟩ := setO_get I ha
  refine PySem.call_len_set ho hex hd hf (by rw [hn]; unfold scanBound at hb; omega) ⟨.int (n : Int), H, I.tok _, ⟨_, by rw [hn]⟩, q⟩
end
end Two

set_option Elab.async false
set_option linter.all false
set_option maxRecDepth 100000
set_option maxHeartbeats 4000000
/-! repr of data, and defs that are called where nothing is being printed. -/
namespace Two
open PySem PySem.Spec PyProof.Rows L2
section
variable {X : Cx}
def rReprD (K : PySem.W.Frag) : List V → Hp → VK → Prop := fun vs H Q => ∃ (a : Addr) (d : PyData), vs = [V.ref a] ∧ Dp K H (.ref a) d ∧
  d.showable = true ∧ d.hasDict = false ∧ d.depth ≤ 32 ∧ d.shown.length ≤ sizeLine ∧ Q (.str d.shown) H
theorem cr_reprD (hg : X.A.guards = some []) (hu : X.A.units + 64 < cLine) : CallR X (.builtin "repr") (rReprD X.K) := by
  intro pins s σ H vs us Q I r h
  obtain ⟨a, d, rfl, hd, hs, hn, hp, hz, q⟩ := h
  rw [Vals.ref1 r]
  obtain ⟨as, rr⟩ := Dp.reads I _ _ _ hd rfl
  exact repr_of_reads' rr hs (fun k => by rw [hn] at k; cases k) hg (by omega) (fun _ _ e => e) (fun h' u tk hk => ⟨.str d.shown, H, I.kept hk, ⟨u, rfl⟩, q⟩) hz
end

/-- a def's promise where nothing is being printed -/
structure FnG (P : Program) (w : World) (K : PySem.W.Frag) (mg : Str → Option Value) (base : Heap) (CX : CXT) (k : Nat) (f : Addr) (fd : FuncData) (ps : List Str) (sp : Sp) : Prop where
  len : ∀ vs H Q E, sp vs H Q E → vs.length = ps.length
  run : ∀ (A : Around) (outer : List Env) (s : Shared) (H : Hp) (args : Args) (us : List Value) (vs : List V) (Q : VK) (E : XK), Room k A → A.guards = some [] →
    Env0 P w K mg base A outer s H → BindsTo s fd args (ps.zip us) → Vals vs us → sp vs H Q E → codeAny (model P w) A (.call (.ref f) args) (CR CX outer P w H s Q E) s

section
variable {P : Program} {w : World} {K : PySem.W.Frag} {mg : Str → Option Value} {base : Heap}
/-- by its body -/
theorem FnG.of {x qual : Str} {st : Stmt} {f : Addr} {fd : FuncData} {N ps : List Str} {k : Nat} {sp : Sp} (F : Fun K x qual st f fd) (S : FnScope N ps (defScope st)) (len : ∀ vs H Q E, sp vs H Q E → vs.length = ps.length)
    (body : ∀ (cdv : Value) (A : Around) (outer : List Env) (s : Shared) (H : Hp) (vs : List V) (Q : VK) (E : XK), Room k (A.deeper (envOfC qual (defScope st) s.heap.objs.size f cdv)) → A.guards = some [] → sp vs H Q E →
      ∃ t, PSs (cxOf CX0 P w K mg base N qual (defScope st) f cdv A outer s H E).nox (defBody st) t ∧ t { nx := fun _ G => Q .non G, rt := Q } (start N vs) H) : FnG P w K mg base CX0 (k + 1) f fd ps sp := by
  obtain ⟨oc, od, kV, doc, pm, an, cdv, ct, osl, rfl, lk, hcd⟩ := F.ex
  refine ⟨len, fun A outer s H args us vs Q E hr hg e0 hb r hsp => ?_⟩
  have hl := len _ _ _ _ hsp
  have KX : K.In s.heap := e0.mod.kin.keeps fun b o e => (e0.bs b o e).1
  have lim : s.heap.NoLimit := e0.mod.nolimit.keeps fun b o e => (e0.bs b o e).1
  have kinds : ∀ y ∈ ps.zip us, (defScope st).names.lookup y.1 = some .local ∨ ((defScope st).names.lookup y.1 = some .cell ∧ ((cellsFrom (s.heap.objs.size + 1) (defScope st).names []).lookup y.1).isSome = true) := by
    rintro ⟨n, v⟩ hy
    exact (S.par n (List.of_mem_zip hy).1).imp id fun q => ⟨q, PySem.W.cellsFrom_some _ _ _ (.inl q)⟩
  refine codeAny_call_function hr.depth (KX _ _ lk) rfl S.co S.gen rfl (PySem.W.codeRec_of KX hcd) (hb _ _ _ _ ?_)
  refine wpAny_newFunctionEnv_cells S.kind kinds fun env he s1 x => ?_
  subst he
  refine ⟨lim.keeps x.toInCall.keep, codeAny_func ?_⟩
  obtain ⟨t, ht, hq⟩ := body cdv A outer s H vs Q E (hr.deeper _) hg hsp
  have I := inv_start (qual := qual) (f := f) (cd := cdv) (E := E) (CX := CX0) S hr.hd e0 hl r x
  refine wpAny_mono (ht.nox.run [] s1 (start N vs) H _ I hq) (fun fl s' hs => ?_) fun e s' hs => hs
  have done : ∀ {τ : L2.St} {G : Hp} {v : V} {u : Value}, Inv (cxOf CX0 P w K mg base N qual (defScope st) f cdv A outer s H E) [] τ G s' → RelV v u → Q v G → CE outer P w H s Q u s' :=
    fun {τ G v u} J rv q => ⟨v, G, J.os, J.bare, J.base, J.hok, rv, q⟩
  match fl, hs with
  | .ret u, hs => exact let ⟨v, τ, G, J, rv, q⟩ := hs; done J rv q
  | .next, hs => exact let ⟨τ, G, J, q⟩ := hs; done (v := V.non) (u := Value.none) J rfl q
  | .brk, hs => exact let ⟨_, _, _, q⟩ := hs; False.elim q
  | .cont, hs => exact let ⟨_, _, _, q⟩ := hs; False.elim q
end

section
variable {X : Cx} {k : Nat} {f : Addr} {fd : FuncData} {ps : List Str} {sp : Sp} {x : Str} {p pos : Pos} {e : Expr} {es : List Expr} {t : TA} {CX : CXT} {E : XK}
/-- such a def called -/
theorem pe_callG (F : FnG X.prog X.w X.K X.mg X.base CX k f fd ps sp) (hr : Room k X.A) (gd : X.A.guards = some []) (hg : Gl X x) (hm : X.mg x = some (.ref f)) (hk : PySem.W.keepIn X.K (.ref f) = true) (hb : Binds X.K fd ps []) (hx : Passes CX X E)
    (ha : PA X (e :: es) t) (hdb : (x == ("__debug__" : Str)) = false := by decide) (he : starEach (e :: es) X.env = (false, eval e X.env) :: starEach es X.env := by rfl) (hpl : (backTo pos (starEach es X.env)).any (·.1) = false := by rfl) :
    PE X (.Call (.Name x p) (e :: es) [] pos) (tCall sp [] E t) := by
  refine ⟨fun pins s σ H Q I h => wpAny_Call_Name_kw (ld_glob I hg hm ?_ hdb)⟩
  refine PySem.W.callWith_K (h₀ := X.base) I.ok.mod.kin hk (thn (ha.run pos pins s σ H _ I h) fun us s1 ⟨vs, H1, I1, r, q⟩ => ⟨I1.kIn, ?_⟩) he hpl
  have hl : (us ++ []).length = ps.length := by rw [← (r.append .nil).length]; exact F.len _ _ _ _ q
  refine wpAny_call (codeAny_mono (F.run X.A X.stack s1 H1 ⟨us, []⟩ (us ++ []) (vs ++ []) Q E hr gd I1.env0 (hb s1 us I1.kIn hl) (r.append .nil) q) fun q s' hq => ?_)
  match q, hq with
  | .error e, hq => exact hx pins σ H1 s1 e s' I1 hq
  | .ok (.ret u), hq => exact I1.after hq
  | .ok .next, hq => exact False.elim hq
  | .ok .brk, hq => exact False.elim hq
  | .ok .cont, hq => exact False.elim hq
end

/-! ### the end -/
theorem script_ho {P : Program} {w : World} {K : PySem.W.Frag} {h : Heap} {a : Addr} {vs : List Value} {ns : List Int} (KX : K.In h) (ha : h.get? a = some { cls := .type "list", data := .seq vs.toArray }) (hi : IntsAre vs ns) (hl : ns.length ≤ sizeLine) :
    ∃ H : Hp, Only H ∧ SqL K H a (ns.map V.int) ∧ HOk P w H h ∧ ∀ b, H b ≠ none → b = a ∧ K.lookup a = none := by
  have lz : (ns.map V.int).length ≤ sizeLine := by rw [List.length_map]; exact hl
  cases hk : K.lookup a with
  | some o =>
    have e := KX a o hk
    rw [ha] at e
    cases e
    exact ⟨fun _ => none, fun _ => .inl rfl, .inr ⟨_, vs.toArray, _, hk, rfl, rfl, rfl, by rw [List.size_toArray, hi.length]; exact hl, by simpa using vals_ints hi⟩, (fun b u z => nomatch z), fun b z => absurd rfl z⟩
  | none =>
    refine ⟨fun b => if b = a then some (.frz { cls := .type "list", data := .seq vs.toArray } (.lst (ns.map V.int))) else none, fun b => ?_, .inl (.inr ⟨_, if_pos rfl⟩), fun b u z => ?_, fun b z => ⟨?_, rfl⟩⟩
    · by_cases hb : b = a
      · exact .inr ⟨_, _, if_pos hb⟩
      · exact .inl (if_neg hb)
    · by_cases hb : b = a
      · subst hb
        cases (if_pos rfl).symm.trans z
        exact ⟨ha, lz, vs, _, vals_ints hi, ha⟩
      · exact nomatch (if_neg hb).symm.trans z
    · exact Decidable.byContradiction fun hb => z (if_neg hb)

theorem lawG {P : Program} {w : World} {K : PySem.W.Frag} {mg mb : Str → Option Value} {k : Nat} {fa a : Addr} {fd : FuncData} {x : Str} {sp : Sp} {z : Shared} {vs : List Value} {ns : List Int}
    (KX : K.In z.heap) (hns : z.heap.Ns mainGlobals mg) (hb : z.heap.Ns builtinsNs mb) (hbb : ∀ x : Str, x ≠ "__name__" → mb x = bootBuiltins x) (hlim : z.heap.NoLimit) (hg : z.gens = #[])
    (ha : z.heap.get? a = some { cls := .type "list", data := .seq vs.toArray }) (hi : IntsAre vs ns) (hl : ns.length ≤ sizeLine) (hr : Room k callerA)
    (F : ∀ base : Heap, K.In base → base.Ns mainGlobals mg → FnG P w K mg base CX0 k fa fd [x] sp) (hbind : ∀ (s : Shared) (u : Value), BindsTo s fd ⟨[u], []⟩ [(x, u)])
    (hsp : ∀ H : Hp, Only H → SqL K H a (ns.map V.int) → sp [.ref a] H (fun v _ => v = .bl true) fun _ _ _ => False) :
    codeAny (model P w) callerA (.call (.ref fa) ⟨[.ref a], []⟩) (fun r y => r = .ok (.ret (.bool true)) ∧ OldK z.heap y.heap ∧ y.os = z.os ∧ AllBare y.gens) z := by
  obtain ⟨H, hO, hS, hok, only⟩ := script_ho (P := P) (w := w) KX ha hi hl
  -- what isn't the script stands in the base
  have keep : ∀ {b : Addr} {o : Obj}, z.heap.get? b = some o → (b ≠ a ∨ K.lookup a ≠ none) → (hidT z.heap H).get? b = some o := fun {b o} e q =>
    hidT_get e (Decidable.byContradiction fun n => have k := only b n; q.elim (fun q => q k.1) fun q => q k.2)
  have ns : ∀ {b : Addr} {m : Str → Option Value}, z.heap.Ns b m → (hidT z.heap H).Ns b m := fun {b m} ⟨o, es, ep, e, d, r⟩ => by
    refine ⟨o, es, ep, keep e (.inl fun q => ?_), d, r⟩
    rw [q, ha] at e
    cases e
    cases d
  have kin : K.In (hidT z.heap H) := fun b o e => keep (KX b o e) (by
    by_cases q : b = a
    · exact .inr fun n => by rw [q, n] at e; cases e
    · exact .inl q)
  have mod : Mod K mg (hidT z.heap H) := ⟨kin, ns hns, ⟨mb, ns hb, hbb⟩, let ⟨mc, h1, h2⟩ := hlim; ⟨mc, ns h1, h2⟩⟩
  have env : Env0 P w K mg (hidT z.heap H) callerA [] z H := ⟨rfl, mod, fun b o e => of_hidT e, Nat.le_of_eq (hidT_size _ _), trivial, (fun b hb => nomatch hb), hok, .of_eq hg⟩
  refine codeAny_mono ((F _ kin (ns hns)).run callerA [] z H ⟨[.ref a], []⟩ [.ref a] [.ref a] _ _ hr rfl env (hbind z (.ref a)) (.cons rfl .nil) (hsp H hO hS)) fun r y h => ?_
  match r, h with
  | .error e, h => exact h.elim
  | .ok .next, h => exact False.elim h
  | .ok .brk, h => exact False.elim h
  | .ok .cont, h => exact False.elim h
  | .ok (.ret u), h =>
    obtain ⟨v, G, os, bare, un, hokG, rv, q⟩ := h
    have q : v = .bl true := q
    subst q
    cases rv
    refine ⟨rfl, OldK.of_keep fun b o e => ?_, os, bare⟩
    cases t : H b with
    | none => exact un.keep b o e t (fun n => nomatch n) (fun n => nomatch n)
    | some u =>
      rcases hO b with n | ⟨ob, xs, n⟩
      · rw [t] at n; cases n
      · have e1 := (hok b _ n).1
        have e2 := (hokG b _ (un.frzs b ob _ n)).1
        rw [e] at e1
        cases e1
        exact e2

/-- the goal that k_head leaves -/
theorem walkG {l : PySem.W.OpenLaw} {n k : Nat} {q : Program} {loose : List Str} {XP : (Str → Option Value) → Heap → Prop} {YP : World → Heap → Prop} {d : DefRec} {K : Params → PySem.W.Frag} {sp : World → Sp} {x : Str}
    (hn : l.most = some n) (hn2 : n ≤ sizeLine) (hdf : d.params.defaults = []) (hr : Room k callerA) (hY : ∀ (w : World) (h : Heap), YP w h → (K w.params).In h)
    (F : ∀ (w : World) (mg : Str → Option Value) (fa : Addr) (h : Heap), (K w.params).In h → h.Ns mainGlobals mg → mg d.name = some (.ref fa) →
      ∃ fd : FuncData, (∀ (s : Shared) (u : Value), BindsTo s fd ⟨[u], []⟩ [(x, u)]) ∧ ∀ base : Heap, (K w.params).In base → base.Ns mainGlobals mg → FnG l.prog w (K w.params) mg base CX0 k fa fd [x] (sp w))
    (hsp : ∀ (w : World) (H : Hp) (a : Addr) (ns : List Int), ns.length ≤ n → Only H → SqL (K w.params) H a (ns.map V.int) → sp w [.ref a] H (fun v _ => v = .bl true) fun _ _ _ => False) :
    PySem.W.WalkO q loose XP YP l.row.toRowW d [] (fun f vs => PySem.call f vs) := by
  refine Att.attach_call hn hdf fun w s0 z mg mb fa o pm cd doc a vs ns G Y ho hd hcd hmg hobj hints hlen hg => ?_
  obtain ⟨fd, hb, hF⟩ := F w mg fa _ (hY w _ Y) G.T.g hmg
  exact lawG (hY w _ Y) G.T.g G.T.b G.T.builtins G.T.nolimit hg hobj hints (Nat.le_trans hlen hn2) hr hF hb fun H hO hS => hsp w H a ns hlen hO hS
end Two

/-! The mathematics of merging lists: plain Lean. -/
set_option autoImplicit false
namespace Mg

/-- x stands behind no first item -/
def clear (rs : List (List Int)) (x : Int) : Bool := rs.all fun r => !(r.tail.contains x)
def heads (rs : List (List Int)) : List Int := rs.filterMap List.head?
def firstFree (rs : List (List Int)) : Option Int := (heads rs).find? (clear rs)
def pull1 (x : Int) (r : List Int) : List Int := if r.head? = some x then r.tail else r
def pull (x : Int) (rs : List (List Int)) : List (List Int) := rs.map (pull1 x)
def st (ls : List (List Int)) : Nat → List Int × List (List Int)
  | 0 => ([], ls)
  | n + 1 => match firstFree (st ls n).2 with
    | none => st ls n
    | some x => ((st ls n).1 ++ [x], pull x (st ls n).2)
theorem st_some {ls : List (List Int)} {n : Nat} {x : Int} (h : firstFree (st ls n).2 = some x) : st ls (n + 1) = ((st ls n).1 ++ [x], pull x (st ls n).2) := by
  show (match firstFree (st ls n).2 with | none => st ls n | some x => ((st ls n).1 ++ [x], pull x (st ls n).2)) = _
  rw [h]
theorem st_none {ls : List (List Int)} {n : Nat} (h : firstFree (st ls n).2 = none) : st ls (n + 1) = st ls n := by
  show (match firstFree (st ls n).2 with | none => st ls n | some x => ((st ls n).1 ++ [x], pull x (st ls n).2)) = _
  rw [h]
theorem st_final {ls : List (List Int)} {n : Nat} (h : firstFree (st ls n).2 = none) : ∀ k, st ls (n + k) = st ls n
  | 0 => rfl
  | k + 1 => by
    have e := st_final h k
    rw [← Nat.add_assoc, st_none (by rw [e]; exact h), e]
theorem final_unique {ls : List (List Int)} {n m : Nat} (h : firstFree (st ls n).2 = none) (h' : firstFree (st ls m).2 = none) : st ls n = st ls m := by
  rcases Nat.le_total n m with q | q
  · obtain ⟨k, rfl⟩ := Nat.exists_eq_add_of_le q
    exact (st_final h k).symm
  · obtain ⟨k, rfl⟩ := Nat.exists_eq_add_of_le q
    exact st_final h' k

theorem mem_heads {rs : List (List Int)} {x : Int} : x ∈ heads rs ↔ ∃ r ∈ rs, r.head? = some x := by
  unfold heads
  simp only [List.mem_filterMap]
theorem firstFree_some {rs : List (List Int)} {x : Int} (h : firstFree rs = some x) : x ∈ heads rs ∧ clear rs x = true :=
  ⟨List.mem_of_find?_eq_some h, List.find?_some h⟩
theorem clear_iff {rs : List (List Int)} {x : Int} : clear rs x = true ↔ ∀ r ∈ rs, x ∉ r.tail := by
  unfold clear
  simp [List.all_eq_true]
theorem firstFree_none {rs : List (List Int)} (h : firstFree rs = none) {x : Int} (hx : x ∈ heads rs) : ∃ r ∈ rs, x ∈ r.tail := by
  have q := List.find?_eq_none.mp h x hx
  refine Decidable.byContradiction fun n => q (clear_iff.mpr fun r hr k => n ⟨r, hr, k⟩)
theorem firstFree_of_empty {rs : List (List Int)} (h : ∀ r ∈ rs, r = []) : firstFree rs = none := by
  have e : heads rs = [] := by
    unfold heads
    refine List.filterMap_eq_nil_iff.mpr fun r hr => ?_
    rw [h r hr]
    rfl
  unfold firstFree
  rw [e]
  rfl

/-! what holds behind every step -/
structure Ok (ls : List (List Int)) (s : List Int × List (List Int)) : Prop where
  len : s.2.length = ls.length
  parts : ∀ (i : Nat) (l r : List Int), ls[i]? = some l → s.2[i]? = some r → l = s.1.filter (fun y => l.contains y) ++ r
  nd : s.1.Nodup
  apart : ∀ y ∈ s.1, ∀ r ∈ s.2, y ∉ r
theorem pull1_cases {x : Int} (r : List Int) : (∃ t, r = x :: t ∧ pull1 x r = t) ∨ (r.head? ≠ some x ∧ pull1 x r = r) := by
  unfold pull1
  by_cases h : r.head? = some x
  · rw [if_pos h]
    cases r with
    | nil => cases h
    | cons a t =>
      have e : a = x := Option.some.inj h
      subst e
      exact .inl ⟨t, rfl, rfl⟩
  · rw [if_neg h]
    exact .inr ⟨h, rfl⟩
theorem not_mem_of {x : Int} {r : List Int} (h : r.head? ≠ some x) (t : x ∉ r.tail) : x ∉ r := by
  cases r with
  | nil => simp
  | cons a r =>
    intro q
    rcases List.mem_cons.mp q with e | e
    · exact h (by rw [e]; rfl)
    · exact t e
theorem pull1_sub {x y : Int} {r : List Int} (h : y ∈ pull1 x r) : y ∈ r := by
  rcases pull1_cases (x := x) r with ⟨t, e, q⟩ | ⟨_, q⟩
  · rw [q] at h
    rw [e]
    exact List.mem_cons_of_mem _ h
  · rw [q] at h
    exact h
theorem Ok.step {ls : List (List Int)} {s : List Int × List (List Int)} {x : Int} (o : Ok ls s) (nls : ∀ l ∈ ls, l.Nodup) (h : firstFree s.2 = some x) : Ok ls (s.1 ++ [x], pull x s.2) := by
  obtain ⟨hx, hc⟩ := firstFree_some h
  have hc := clear_iff.mp hc
  obtain ⟨r0, hr0, h0⟩ := mem_heads.mp hx
  have x0 : x ∈ r0 := List.mem_of_mem_head? h0
  have nx : x ∉ s.1 := fun q => o.apart x q r0 hr0 x0
  refine ⟨by show (pull x s.2).length = _; unfold pull; rw [List.length_map]; exact o.len, fun i l r hl hr => ?_, ?_, fun y hy r hr => ?_⟩
  · have hr : (s.2.map (pull1 x))[i]? = some r := hr
    rw [List.getElem?_map] at hr
    obtain ⟨r1, h1, e1⟩ := Option.map_eq_some_iff.mp hr
    have p := o.parts i l r1 hl h1
    have t1 := hc r1 (List.mem_of_getElem? h1)
    show l = (s.1 ++ [x]).filter (fun y => l.contains y) ++ r
    rw [List.filter_append]
    rcases pull1_cases (x := x) r1 with ⟨t, e, q⟩ | ⟨n, q⟩
    · have xl : l.contains x = true := by
        rw [List.contains_iff_mem, p, e]
        simp
      have e2 : List.filter (fun y => l.contains y) [x] = [x] := by
        rw [List.filter_cons_of_pos (by exact xl)]
        rfl
      rw [e2, List.append_assoc, ← e1, q]
      rw [e] at p
      exact p
    · have n1 : x ∉ r1 := not_mem_of n t1
      have xl : ¬ l.contains x = true := by
        rw [List.contains_iff_mem, p, List.mem_append]
        rintro (k | k)
        · exact nx (List.mem_filter.mp k).1
        · exact n1 k
      have e2 : List.filter (fun y => l.contains y) [x] = [] := by
        rw [List.filter_cons_of_neg (by exact xl)]
        rfl
      rw [e2, List.append_nil, ← e1, q]
      exact p
  · exact List.nodup_append.mpr ⟨o.nd, by simp, fun a ha b hb => by
      rw [List.mem_singleton.mp hb]
      exact fun e => nx (e ▸ ha)⟩
  · obtain ⟨r1, h1, e1⟩ := List.mem_map.mp (show r ∈ s.2.map (pull1 x) from hr)
    subst e1
    rcases List.mem_append.mp hy with k | k
    · exact fun q => o.apart y k r1 h1 (pull1_sub q)
    · rw [List.mem_singleton.mp k]
      rcases pull1_cases (x := x) r1 with ⟨t, e, q⟩ | ⟨n, q⟩
      · rw [q]
        have := hc r1 h1
        rw [e] at this
        exact this
      · rw [q]
        exact not_mem_of n (hc r1 h1)
theorem ok_st {ls : List (List Int)} (nls : ∀ l ∈ ls, l.Nodup) : ∀ n, Ok ls (st ls n)
  | 0 => ⟨rfl, fun i l r hl hr => by
      have hr : ls[i]? = some r := hr
      rw [hl] at hr
      cases hr
      rfl, List.nodup_nil, fun y hy => nomatch hy⟩
  | n + 1 => by
    have o := ok_st nls n
    cases h : firstFree (st ls n).2 with
    | none => rw [st_none h]; exact o
    | some x => rw [st_some h]; exact o.step nls h

/-- the rests' lengths together -/
def size (rs : List (List Int)) : Nat := (rs.map List.length).sum
theorem pull1_le (x : Int) (r : List Int) : (pull1 x r).length ≤ r.length := by
  rcases pull1_cases (x := x) r with ⟨t, e, q⟩ | ⟨_, q⟩
  · rw [q, e]
    simp
  · rw [q]
    exact Nat.le_refl _
theorem size_pull_le (x : Int) : ∀ rs, size (pull x rs) ≤ size rs
  | [] => Nat.le_refl _
  | r :: rs => by
    have a := pull1_le x r
    have b := size_pull_le x rs
    show (pull1 x r).length + size (pull x rs) ≤ r.length + size rs
    omega
theorem size_pull_lt {x : Int} : ∀ {rs : List (List Int)}, x ∈ heads rs → size (pull x rs) < size rs
  | [], h => nomatch h
  | r :: rs, h => by
    show (pull1 x r).length + size (pull x rs) < r.length + size rs
    have a := pull1_le x r
    have b := size_pull_le x rs
    obtain ⟨r1, h1, e1⟩ := mem_heads.mp h
    rcases List.mem_cons.mp h1 with e | m
    · subst e
      rcases pull1_cases (x := x) r1 with ⟨t, e, q⟩ | ⟨n, _⟩
      · rw [q, e]
        simp only [List.length_cons]
        omega
      · exact absurd e1 n
    · have c := size_pull_lt (mem_heads.mpr ⟨r1, m, e1⟩)
      omega
theorem size_step {rs : List (List Int)} {x : Int} (h : firstFree rs = some x) : size (pull x rs) < size rs := size_pull_lt (firstFree_some h).1

/-- at the end each list stands in the order -/
theorem end_inside {ls : List (List Int)} {s : List Int × List (List Int)} (o : Ok ls s) (e : ∀ r ∈ s.2, r = []) {l : List Int} (hl : l ∈ ls) : s.1.filter (fun y => l.contains y) = l := by
  obtain ⟨i, hi⟩ := List.getElem?_of_mem hl
  have hlt : i < s.2.length := by rw [o.len]; exact (List.getElem?_eq_some_iff.mp hi).1
  have p := o.parts i l s.2[i] hi (List.getElem?_eq_getElem hlt)
  rw [e _ (List.getElem_mem hlt), List.append_nil] at p
  exact p.symm
/-- every item of the order is of the lists -/
theorem st_items (ls : List (List Int)) : ∀ n, (∀ y ∈ (st ls n).1, ∃ l ∈ ls, y ∈ l) ∧ (∀ r ∈ (st ls n).2, ∀ y ∈ r, ∃ l ∈ ls, y ∈ l)
  | 0 => ⟨fun y h => (nomatch h), fun r hr y hy => ⟨r, hr, hy⟩⟩
  | n + 1 => by
    obtain ⟨a, b⟩ := st_items ls n
    cases h : firstFree (st ls n).2 with
    | none => rw [st_none h]; exact ⟨a, b⟩
    | some x =>
      rw [st_some h]
      obtain ⟨r0, hr0, h0⟩ := mem_heads.mp (firstFree_some h).1
      refine ⟨fun y hy => ?_, fun r hr y hy => ?_⟩
      · rcases List.mem_append.mp hy with k | k
        · exact a y k
        · rw [List.mem_singleton.mp k]
          exact b r0 hr0 x (List.mem_of_mem_head? h0)
      · obtain ⟨r1, h1, e1⟩ := List.mem_map.mp (show r ∈ (st ls n).2.map (pull1 x) from hr)
        subst e1
        exact b r1 h1 y (pull1_sub hy)

/-! ### rings -/
def Ahead (l : List Int) (a b : Int) : Prop := ∃ u v, l = u ++ a :: v ∧ b ∈ v
structure IsRing (ls : List (List Int)) (ring : List (Int × Nat)) : Prop where
  two : 2 ≤ ring.length
  nd : (ring.map (·.1)).Nodup
  link : ∀ k, k < ring.length → ∃ a i b j l, ring[k]? = some (a, i) ∧ ring[(k + 1) % ring.length]? = some (b, j) ∧ ls[i]? = some l ∧ Ahead l a b

/-- a way from x: each tuple's item is the first of the rest beside it, in which the item ahead of it in the way stands behind -/
def Way (rs : List (List Int)) (x : Int) (way : List (Int × Nat)) : Prop :=
  ∀ k, k < way.length → ∃ a i y t, way[k]? = some (a, i) ∧ (x :: way.map (·.1))[k]? = some y ∧ rs[i]? = some (a :: t) ∧ y ∈ t
theorem Way.nil {rs : List (List Int)} {x : Int} : Way rs x [] := fun k h => nomatch h
theorem Way.snoc {rs : List (List Int)} {x y a : Int} {i : Nat} {t : List Int} {way : List (Int × Nat)} (w : Way rs x way) (hy : (x :: way.map (·.1))[way.length]? = some y) (hr : rs[i]? = some (a :: t)) (ht : y ∈ t) : Way rs x (way ++ [(a, i)]) := by
  intro k hk
  rw [List.length_append, List.length_singleton] at hk
  by_cases h : k < way.length
  · obtain ⟨a', i', y', t', h1, h2, h3, h4⟩ := w k h
    refine ⟨a', i', y', t', by rw [List.getElem?_append_left h]; exact h1, ?_, h3, h4⟩
    rw [List.map_append, ← List.cons_append, List.getElem?_append_left (by simp; omega)]
    exact h2
  · have e : k = way.length := by omega
    subst e
    refine ⟨a, i, y, t, by simp, ?_, hr, ht⟩
    rw [List.map_append, ← List.cons_append, List.getElem?_append_left (by simp)]
    exact hy
theorem way_items_last {x a : Int} {i : Nat} (way : List (Int × Nat)) : (x :: (way ++ [(a, i)]).map (·.1))[(way ++ [(a, i)]).length]? = some a := by
  simp
end Mg

set_option autoImplicit false
namespace Mg
theorem way_item {x : Int} {way : List (Int × Nat)} {k : Nat} {a : Int} {i : Nat} (h : way[k]? = some (a, i)) : (x :: way.map (·.1))[k + 1]? = some a := by
  rw [List.getElem?_cons_succ, List.getElem?_map, h]
  rfl
theorem ring_at {way : List (Int × Nat)} {p k : Nat} (hp : p ≤ way.length) (hk : k < way.length - p) : (way.drop p).reverse[k]? = way[way.length - 1 - k]? := by
  rw [List.getElem?_reverse (by rw [List.length_drop]; exact hk), List.length_drop, List.getElem?_drop]
  congr 1
  omega
theorem nodup_rev {l : List Int} (h : l.Nodup) : l.reverse.Nodup := by
  have q : l.Pairwise (fun a b => b ≠ a) := List.Pairwise.imp (fun k e => k e.symm) h
  exact List.pairwise_reverse.mpr q
theorem ring_of_way {ls rs : List (List Int)} {x : Int} {way : List (Int × Nat)} {p : Nat} (w : Way rs x way) (suf : ∀ (i : Nat) (r : List Int), rs[i]? = some r → ∃ u, ls[i]? = some (u ++ r)) (nd : ∀ r ∈ rs, r.Nodup)
    (keys : ((x :: way.map (·.1)).take way.length).Nodup) (hp : p < way.length) (hx : (x :: way.map (·.1))[p]? = (x :: way.map (·.1))[way.length]?) : IsRing ls (way.drop p).reverse := by
  generalize hm : way.length = m at *
  have len : ((way.drop p).reverse).length = m - p := by rw [List.length_reverse, List.length_drop, hm]
  have two : 2 ≤ m - p := by
    refine Decidable.byContradiction fun n => ?_
    have e : m = p + 1 := by omega
    obtain ⟨a, i, y, t, h1, h2, h3, h4⟩ := w p (by omega)
    have h5 := way_item (x := x) h1
    rw [hx, e, h5] at h2
    cases h2
    have q := nd _ (List.mem_of_getElem? h3)
    exact (List.nodup_cons.mp q).1 h4
  refine ⟨by rw [len]; exact two, ?_, fun k hk => ?_⟩
  · rw [List.map_reverse]
    refine nodup_rev ?_
    rw [List.map_drop]
    have hl : (x :: way.map (·.1)).length = m + 1 := by simp [hm]
    obtain ⟨z, hz⟩ : ∃ z, (x :: way.map (·.1))[p]? = some z := ⟨_, List.getElem?_eq_getElem (by omega)⟩
    have hz2 := hx.symm.trans hz
    have e1 : (way.map (·.1)).drop p = (x :: way.map (·.1)).drop (p + 1) := rfl
    rw [e1]
    generalize x :: way.map (·.1) = xs at *
    have e2 : xs.drop (p + 1) = (xs.take m).drop (p + 1) ++ [z] := by
      have t : xs = xs.take m ++ [z] := by
        conv => lhs; rw [← List.take_append_drop m xs]
        congr 1
        obtain ⟨hlt, hv⟩ := List.getElem?_eq_some_iff.mp hz2
        rw [List.drop_eq_getElem_cons hlt, hv, List.drop_eq_nil_of_le (by omega)]
      have q := congrArg (List.drop (p + 1)) t
      rw [List.drop_append_of_le_length (by rw [List.length_take]; omega)] at q
      exact q
    rw [e2]
    refine List.nodup_append.mpr ⟨keys.sublist (List.drop_sublist _ _), by simp, fun a ha b hb => ?_⟩
    rw [List.mem_singleton.mp hb]
    rintro rfl
    have q : (xs.take m)[p]? = some a := by rw [List.getElem?_take_of_lt hp]; exact hz
    obtain ⟨hlt, hv⟩ := List.getElem?_eq_some_iff.mp q
    have k2 : (xs.take m).drop p = a :: (xs.take m).drop (p + 1) := by rw [List.drop_eq_getElem_cons hlt, hv]
    have k3 : ((xs.take m).drop p).Nodup := keys.sublist (List.drop_sublist _ _)
    rw [k2] at k3
    exact (List.nodup_cons.mp k3).1 ha
  · rw [len] at hk ⊢
    obtain ⟨a, i, y, t, h1, h2, h3, h4⟩ := w (m - 1 - k) (by omega)
    obtain ⟨u, hu⟩ := suf i _ h3
    have at0 : (way.drop p).reverse[k]? = some (a, i) := by rw [ring_at (by omega) (by omega), hm]; exact h1
    by_cases last : k + 1 < m - p
    · obtain ⟨b, j, y2, t2, g1, g2, g3, g4⟩ := w (m - 1 - (k + 1)) (by omega)
      have g5 := way_item (x := x) g1
      have e : m - 1 - (k + 1) + 1 = m - 1 - k := by omega
      rw [e, h2] at g5
      cases g5
      refine ⟨a, i, y, j, u ++ a :: t, at0, ?_, hu, ⟨u, t, rfl, h4⟩⟩
      rw [Nat.mod_eq_of_lt last, ring_at (by omega) (by omega), hm]
      exact g1
    · have e : k + 1 = m - p := by omega
      obtain ⟨b, j, y2, t2, g1, g2, g3, g4⟩ := w (m - 1) (by omega)
      have g5 := way_item (x := x) g1
      have e2 : m - 1 + 1 = m := by omega
      rw [e2, ← hx] at g5
      have e3 : m - 1 - k = p := by omega
      rw [e3, g5] at h2
      have eb : b = y := Option.some.inj h2
      subst eb
      refine ⟨a, i, b, j, u ++ a :: t, at0, ?_, hu, ⟨u, t, rfl, h4⟩⟩
      rw [e, Nat.mod_self, ring_at (by omega) (by omega), hm]
      exact g1

/-- the rests are ends of the lists -/
theorem Ok.suf {ls : List (List Int)} {s : List Int × List (List Int)} (o : Ok ls s) (i : Nat) (r : List Int) (h : s.2[i]? = some r) : ∃ u, ls[i]? = some (u ++ r) := by
  have lt : i < ls.length := by rw [← o.len]; exact (List.getElem?_eq_some_iff.mp h).1
  have q := o.parts i ls[i] r (List.getElem?_eq_getElem lt) h
  exact ⟨_, by rw [List.getElem?_eq_getElem lt]; exact congrArg some q⟩
theorem Ok.nodups {ls : List (List Int)} {s : List Int × List (List Int)} (o : Ok ls s) (nls : ∀ l ∈ ls, l.Nodup) : ∀ r ∈ s.2, r.Nodup := by
  intro r hr
  obtain ⟨i, hi⟩ := List.getElem?_of_mem hr
  obtain ⟨u, hu⟩ := o.suf i r hi
  exact (nls _ (List.mem_of_getElem? hu)).sublist (List.sublist_append_right _ _)

theorem nodup_at : ∀ {l : List Int} {i j : Nat} (nd : l.Nodup) (hi : i < l.length) (hj : j < l.length), l[i] = l[j] → i = j
  | a :: l, 0, 0, _, _, _, _ => rfl
  | a :: l, 0, j + 1, nd, _, hj, e => absurd (show a ∈ l from (show a = l[j]'(Nat.lt_of_succ_lt_succ hj) from e) ▸ List.getElem_mem _) (List.nodup_cons.mp nd).1
  | a :: l, i + 1, 0, nd, hi, _, e => absurd (show a ∈ l from (show l[i]'(Nat.lt_of_succ_lt_succ hi) = a from e) ▸ List.getElem_mem _) (List.nodup_cons.mp nd).1
  | a :: l, i + 1, j + 1, nd, hi, hj, e => congrArg (· + 1) (nodup_at (List.nodup_cons.mp nd).2 (Nat.lt_of_succ_lt_succ hi) (Nat.lt_of_succ_lt_succ hj) e)
/-- where an item that stands ahead is found -/
theorem Ahead.at {l : List Int} {a b : Int} (h : Ahead l a b) (nd : l.Nodup) : ∃ i j : Nat, l[i]? = some a ∧ l[j]? = some b ∧ i < j ∧ (∀ m, m < i → l[m]? ≠ some a) ∧ (∀ m, m < j → l[m]? ≠ some b) := by
  obtain ⟨u, v, rfl, hb⟩ := h
  obtain ⟨n, hn⟩ := List.getElem?_of_mem hb
  have ha : (u ++ a :: v)[u.length]? = some a := by simp
  have hb2 : (u ++ a :: v)[u.length + 1 + n]? = some b := by
    rw [List.getElem?_append_right (by omega)]
    have e : u.length + 1 + n - u.length = n + 1 := by omega
    rw [e, List.getElem?_cons_succ]
    exact hn
  have un : ∀ {i j : Nat} {c : Int}, (u ++ a :: v)[i]? = some c → (u ++ a :: v)[j]? = some c → i = j := fun {i j c} h1 h2 => by
    obtain ⟨l1, e1⟩ := List.getElem?_eq_some_iff.mp h1
    obtain ⟨l2, e2⟩ := List.getElem?_eq_some_iff.mp h2
    exact nodup_at nd l1 l2 (e1.trans e2.symm)
  exact ⟨_, _, ha, hb2, by omega, fun m hm k => by have := un k ha; omega, fun m hm k => by have := un k hb2; omega⟩
end Mg

set_option Elab.async false
set_option linter.all false
set_option maxRecDepth 100000
set_option maxHeartbeats 4000000
namespace Pr
open PySem L2 Two
/-! ### the text by places -/
def top (i : Nat) : Stmt := PySem.Challenge.pw_layoutline_k01_whole_merges_and_rings.main.body.getD i (.Pass ⟨0, 0, 0, 0⟩)
abbrev sIsInt : Stmt := top 6
abbrev sUnlike : Stmt := top 8
abbrev sMerge : Stmt := top 11
-- no sShows
-- no sIsRing
abbrev sCheck : Stmt := top 12
abbrev sIsList : Stmt := top 13
abbrev sTimes : Stmt := top 14
abbrev sFree : Stmt := top 15
abbrev sTake : Stmt := top 16
abbrev sRingOf : Stmt := top 17
-- no sIsPart
-- no sAhead

/-- what the module's names hold -/
structure Txt (mg : Str → Option Value) : Prop where
  isinstance : mg "isinstance" = none
  int : mg "int" = none
  bool : mg "bool" = none
  str : mg "str" = none
  list : mg "list" = none
  tuple : mg "tuple" = none
  set : mg "set" = none
  len : mg "len" = none
  all : mg "all" = none
  any : mg "any" = none
  zip : mg "zip" = none
  enum : mg "enumerate" = none
  range : mg "range" = none
  most : ∃ t, mg "MOST_ITEMS" = some (.int 30 t)

/-! ### words about heaps -/
theorem tyx_list {K : PySem.W.Frag} {H : Hp} {a : Addr} {xs : List V} (h : SqL K H a xs) : TyX K H (.ref a) (.type "list") := by
  rcases h with (h | ⟨o, h⟩) | ⟨o, its, n, h, c, _⟩
  · exact .base (.lst h)
  · exact .base (.frz h)
  · exact .kList h c
theorem same_upd {H H' : Hp} {p : Addr} {o : HO} (s : Same H H') (n : H p = none) : Same H (upd H' p o) := fun b u e => by
  rw [upd_ne (ne_of_none e n)]
  exact s b u e
theorem same_new {H : Hp} {p : Addr} {o : HO} (n : H p = none) : Same H (upd H p o) := same_upd (Same.refl H) n
theorem none_of_same {H H' : Hp} (s : Same H H') {p : Addr} (n : H' p = none) : H p = none := s.free n
theorem get_map {α β : Type} {f : α → β} {l : List α} {i : Nat} {y : β} (h : (l.map f)[i]? = some y) : ∃ x, l[i]? = some x ∧ y = f x := by
  rw [List.getElem?_map] at h
  obtain ⟨x, h1, h2⟩ := Option.map_eq_some_iff.mp h
  exact ⟨x, h1, h2.symm⟩
theorem take_snoc {α : Type} : ∀ {l : List α} {i : Nat} {x : α}, l[i]? = some x → l.take (i + 1) = l.take i ++ [x]
  | [], i, x, h => by simp at h
  | a :: l, 0, x, h => by
    have e : a = x := Option.some.inj h
    rw [e]
    rfl
  | a :: l, i + 1, x, h => by
    have q := take_snoc (l := l) (i := i) (x := x) h
    show a :: l.take (i + 1) = a :: l.take i ++ [x]
    rw [q]
    rfl
theorem map_take_snoc {α β : Type} (f : α → β) {l : List α} {i : Nat} {x : α} (h : l[i]? = some x) : (l.take (i + 1)).map f = (l.take i).map f ++ [f x] := by
  rw [take_snoc h, List.map_append]
  rfl

/-- [e for x in xs] whose element is f x and makes nothing that stands in the way -/
theorem lc_pure {K : PySem.W.Frag} {a : Addr} {xs : List V} {te : TE} {vs : List Nat} {σ : L2.St} {H1 : Hp} {D : Addr} {Qd : Hp → Prop} (i : Nat) (f : V → V) (hS : SqL K H1 a xs) (hz : xs.length ≤ sizeLine) (hD : H1 D = none)
    (hw : ∀ x, wipe ((wipe σ vs).set i (some x)) vs = wipe σ vs)
    (step : ∀ (j : Nat) (x : V) (H : Hp) (Q : VK), xs[j]? = some x → Same H1 H → (∀ H', Same H H' → Q (f x) H') → te ((wipe σ vs).set i (some x)) H Q)
    (done : ∀ H, Same H1 H → H D = some (.lst (xs.map f)) → Qd H) :
    ∃ W : Nat → Nat → Hp → Prop, (∃ m, W 0 m (upd H1 D (.lst []))) ∧ ∀ i' m H, W i' m H →
      ((Itl K a).stop i' H ∧ Qd H) ∨ ((Itl K a).go i' H ∧ ∃ Nx : Hp → Prop, (∀ H', Nx H' → ∃ m', m' < m ∧ W (i' + 1) m' H') ∧ ∀ x H', (Itl K a).yld i' H x H' → gName i x (wipe σ vs) H' fun σ2 H2 => wipe σ2 vs = wipe σ vs ∧ tYes σ2 H2 fun b H3 =>
        if b = true then te σ2 H3 fun y H4 => ∃ acc, H4 D = some (.lst acc) ∧ acc.length < sizeLine ∧ Nx (upd H4 D (.lst (acc ++ [y]))) else Nx H3) := by
  refine lc_list (xs := xs) (fun j H => Same H1 H ∧ H D = some (.lst ((xs.take j).map f))) ⟨same_new hD, upd_same⟩ (fun j H _ p => p.1.seq hS) (fun j x H hx p => ?_) fun H p => done H p.1 (by rw [List.take_length] at p; exact p.2)
  refine ⟨hw x, ?_⟩
  unfold tYes
  simp only [if_true]
  refine step j x H _ hx p.1 fun H' s => ⟨_, s _ _ p.2, ?_, same_upd (p.1.trans s) hD, ?_⟩
  · have := (List.getElem?_eq_some_iff.mp hx).1
    rw [List.length_map, List.length_take]
    omega
  · rw [upd_same, map_take_snoc f hx]

/-! ### is_int -/
def spIsInt (K : PySem.W.Frag) : Sp := fun vs H Q _ => ∃ (x : V) (t : Value) (b1 b2 : Bool), vs = [x] ∧ TyX K H x t ∧ PySem.W.kitOne K t (.type "int") = some b1 ∧ PySem.W.kitOne K t (.type "bool") = some b2 ∧ Q (.bl (b1 && !b2)) H
section
variable {P : Program} {w : World} {K : PySem.W.Frag} {mg : Str → Option Value} {base : Heap}
theorem scIsInt : FnScope ["thing"] ["thing"] (defScope sIsInt) := ⟨rfl, rfl, rfl, by decide +kernel, rfl, by decide +kernel, by decide +kernel⟩
theorem ok_isInt {f : Addr} {fd : FuncData} (F : Fun K "is_int" "is_int" sIsInt f fd) (T : Txt mg) : FnOk P w K mg base CX0 1 f fd ["thing"] (spIsInt K) := by
  refine F.ok scIsInt (fun vs H Q E h => ?_) (fun cdv A outer s H vs Q E hr h => ?_)
  · obtain ⟨x, _, _, _, rfl, _⟩ := h
    rfl
  · obtain ⟨x, t, b1, b2, rfl, ty, h1, h2, k⟩ := h
    refine ⟨_, pss_one (ps_ret (pe_and (pe_callB call_isi (by rfl) T.isinstance (by decide +kernel) (pa_cons (pv 0) (pa_cons (pe_bltn (v := .ty "int") (by rfl) T.int (by decide +kernel) rfl) pa_nil)))
      (pe_one (pe_not (pe_callB call_isi (by rfl) T.isinstance (by decide +kernel) (pa_cons (pv 0) (pa_cons (pe_bltn (v := .ty "bool") (by rfl) T.bool (by decide +kernel) rfl) pa_nil))))))), ?_⟩
    refine ⟨x, rfl, x, .ty "int", t, .type "int", b1, rfl, .ty _, ty, h1, b1, rfl, ?_⟩
    cases b1 with
    | false => exact iteF k
    | true => exact iteT ⟨x, rfl, x, .ty "bool", t, .type "bool", b2, rfl, .ty _, ty, h2, b2, rfl, k⟩
theorem isInt_int (i : Int) (H : Hp) (Q : VK) (E : XK) (k : Q (.bl true) H) : spIsInt K [.int i] H Q E := ⟨.int i, .type "int", true, false, rfl, .base (.int i), kit_ty (by decide +kernel), kit_ty (by decide +kernel), k⟩

/-! ### check_unlike, where nothing stands twice -/
def spUnlike (K : PySem.W.Frag) : Sp := fun vs H Q _ => ∃ (a : Addr) (ns : List Int), vs = [.ref a] ∧ SqL K H a (ns.map V.int) ∧ ns.Nodup ∧ ns.length ≤ 1000 ∧ ∀ H', Same H H' → Q .non H'
theorem scUnlike : FnScope ["things", "seen", "thing"] ["things"] (defScope sUnlike) := ⟨rfl, rfl, rfl, by decide +kernel, rfl, by decide +kernel, by decide +kernel⟩
theorem ok_unlike {f : Addr} {fd : FuncData} (F : Fun K "check_unlike" "check_unlike" sUnlike f fd) (T : Txt mg) : FnOk P w K mg base CX0 1 f fd ["things"] (spUnlike K) := by
  refine F.ok scUnlike (fun vs H Q E h => ?_) (fun cdv A outer s H vs Q E hr h => ?_)
  · obtain ⟨a, ns, rfl, _⟩ := h
    rfl
  · obtain ⟨a, ns, rfl, hS, nd, hl, k⟩ := h
    refine ⟨_, pss_cons (ps_set (i := 1) scUnlike.nd rfl (Or.inl rfl) (pe_callTy0 cr_set0 (by rfl) T.set (by decide +kernel)))
      (pss_one (ps_for PassesOwn.never rfl (pi_list (pv 0)) (pg_name (i := 2) scUnlike.nd rfl (Or.inl rfl))
        (pss_cons (ps_if (pt_cmpR or_sin (pv 2) (pv 1) (by rfl)) (pss_never) pss_nil) (pss_one (ps_expr (pe_sadd (pv 1) (pa_cons (pv 2) pa_nil))))))), ?_⟩
    refine ⟨rfl, fun p hp => ?_⟩
    refine ⟨_, rfl, a, rfl, ⟨_, (same_new hp).seq hS⟩, for_list (K := K) (a := a) (xs := ns.map V.int) (fun i σ H' => ∃ (v : Option V) (S : Int → Bool) (n : Nat), σ = [some (.ref a), some (.ref p), v] ∧ Same H H' ∧ H' p = some (SetO w p S n) ∧ n ≤ i ∧ ∀ z, S z = true → z ∈ ns.take i)
      ⟨none, fun _ => false, 0, rfl, same_new hp, upd_same, Nat.le_refl _, fun z h => by cases h⟩ (fun i σ H' _ ⟨_, _, _, _, s1, _⟩ => s1.seq hS) ?_ ?_⟩
    · rintro i y σ H' hi ⟨v, S, n, rfl, s1, hp1, hn, hz⟩
      obtain ⟨z, hz1, rfl⟩ := get_map hi
      have hlt := (List.getElem?_eq_some_iff.mp hz1).1
      have new : S z = false := by
        cases e : S z with
        | false => rfl
        | true =>
          exfalso
          obtain ⟨m, hm⟩ := List.getElem?_of_mem (hz z e)
          have mi : m < i := by
            have := (List.getElem?_eq_some_iff.mp hm).1
            rw [List.length_take] at this
            omega
          rw [List.getElem?_take_of_lt mi] at hm
          obtain ⟨l1, e1⟩ := List.getElem?_eq_some_iff.mp hm
          obtain ⟨l2, e2⟩ := List.getElem?_eq_some_iff.mp hz1
          have := Mg.nodup_at nd l1 l2 (e1.trans e2.symm)
          omega
      refine ⟨_, rfl, _, rfl, z, p, S, n, rfl, rfl, hp1, _, rfl, ?_⟩
      rw [new]
      refine iteF ?_
      refine ⟨_, rfl, ⟨p, S, n, rfl, hp1⟩, _, rfl, p, z, S, n, rfl, rfl, hp1, by unfold scanBound; omega, ?_⟩
      refine ⟨_, _, _, rfl, same_upd s1 hp, upd_same, by rw [new]; simp; omega, fun z2 h2 => ?_⟩
      rw [take_snoc hz1]
      rcases Bool.or_eq_true_iff.mp h2 with h2 | h2
      · exact List.mem_append_left _ (hz z2 h2)
      · rw [of_decide_eq_true h2]
        simp
    · rintro σ H' ⟨v, S, n, rfl, s1, _⟩
      exact k _ s1

/-! ### _is_list_of_ints -/
def spIsList (K : PySem.W.Frag) : Sp := fun vs H Q _ => ∃ (a : Addr) (ns : List Int), vs = [.ref a] ∧ SqL K H a (ns.map V.int) ∧ ns.length ≤ 1000 ∧ ∀ H', Same H H' → Q (.bl true) H'
theorem scIsList : FnScope ["items", "item"] ["items"] (defScope sIsList) := ⟨rfl, rfl, rfl, by decide +kernel, rfl, by decide +kernel, by decide +kernel⟩
theorem all_true (f : V → V) : ∀ l : List V, (∀ x ∈ l, f x = .bl true) → l.map f = (l.map fun _ => true).map V.bl
  | [], _ => rfl
  | x :: l, h => by
    simp only [List.map_cons]
    rw [h x List.mem_cons_self, all_true f l fun y hy => h y (List.mem_cons_of_mem _ hy)]
theorem all_id : ∀ l : List V, (l.map fun _ => true).all id = true
  | [] => rfl
  | _ :: l => all_id l
theorem ok_isList {f fI : Addr} {fd fdI : FuncData} (F : Fun K "_is_list_of_ints" "_is_list_of_ints" sIsList f fd) (T : Txt mg) (gI : mg "is_int" = some (.ref fI)) (kI : PySem.W.keepIn K (.ref fI) = true) (bI : Binds K fdI ["thing"] []) (GI : FnOk P w K mg base CX0 1 fI fdI ["thing"] (spIsInt K)) :
    FnOk P w K mg base CX0 2 f fd ["items"] (spIsList K) := by
  refine F.ok scIsList (fun vs H Q E h => ?_) (fun cdv A outer s H vs Q E hr h => ?_)
  · obtain ⟨a, ns, rfl, _⟩ := h
    rfl
  · obtain ⟨a, ns, rfl, hS, hl, k⟩ := h
    refine ⟨_, pss_one (ps_ret (pe_and (pe_callB call_isi (by rfl) T.isinstance (by decide +kernel) (pa_cons (pv 0) (pa_cons (pe_bltn (v := .ty "list") (by rfl) T.list (by decide +kernel) rfl) pa_nil)))
      (pe_one (pe_callB (cr_all rfl) (by rfl) T.all (by decide +kernel) (pa_cons (pe_lc (own := [("item", 1)]) (g := gName 1) (tt := tYes) rfl scIsList.nd (pi_list (pv 0)) (blkOk_by (N := ["items", "item"]) (sc := defScope sIsList) (by decide +kernel))
        (fun _ _ _ _ _ => pg_name (i := 1) scIsList.nd rfl (Or.inl rfl)) (fun _ _ _ _ _ => pts_nil) (fun _ _ _ _ _ => pe_call GI hr rfl gI kI bI .nil pass0 (pa_cons (pv 1) pa_nil))) pa_nil))))), ?_⟩
    refine ⟨_, rfl, _, .ty "list", .type "list", .type "list", true, rfl, .ty _, tyx_list hS, kit_ty (by decide +kernel), true, rfl, iteT ?_⟩
    refine ⟨_, rfl, a, rfl, ⟨_, hS⟩, fun D hD => lc_pure (xs := ns.map V.int) 1 (fun _ => .bl true) hS (by rw [List.length_map]; exact Nat.le_of_lt (small1000 hl)) hD (fun _ => rfl) (fun j x H1 Q1 hx s1 q1 => ?_) fun H1 s1 h1 => ?_⟩
    · obtain ⟨z, _, rfl⟩ := get_map hx
      exact ⟨_, rfl, isInt_int z _ _ E0 (q1 _ (Same.refl _))⟩
    · refine ⟨D, _, rfl, SqL.of (by rw [h1, all_true _ _ fun _ _ => rfl]), ?_⟩
      rw [all_id]
      exact k _ s1
end
end Pr

set_option autoImplicit false
namespace Mg
/-! ### in how many lists an item stands behind the first one -/
def cnt (rs : List (List Int)) (y : Int) : Nat := (rs.filter fun r => r.tail.contains y).length
def one (r : List Int) (y : Int) : Nat := if y ∈ r then 1 else 0
theorem cnt_nil (y : Int) : cnt [] y = 0 := rfl
theorem cnt_append (a b : List (List Int)) (y : Int) : cnt (a ++ b) y = cnt a y + cnt b y := by
  unfold cnt
  rw [List.filter_append, List.length_append]
theorem cnt_one (r : List Int) (y : Int) : cnt [r] y = one r.tail y := by
  unfold cnt one
  by_cases h : y ∈ r.tail
  · rw [if_pos h, List.filter_cons_of_pos (by exact List.contains_iff_mem.mpr h)]
    rfl
  · rw [if_neg h, List.filter_cons_of_neg (by rw [List.contains_iff_mem]; exact h)]
    rfl
theorem cnt_zero {rs : List (List Int)} {y : Int} : cnt rs y = 0 ↔ clear rs y = true := by
  rw [clear_iff]
  unfold cnt
  rw [List.length_eq_zero_iff, List.filter_eq_nil_iff]
  simp [List.contains_iff_mem]
theorem clear_dec {rs : List (List Int)} {y : Int} : clear rs y = decide ((cnt rs y : Int) = 0) := by
  cases h : clear rs y with
  | true => exact (decide_eq_true (by have := cnt_zero.mpr h; omega)).symm
  | false =>
    refine (decide_eq_false fun e => ?_).symm
    have : cnt rs y = 0 := by omega
    rw [cnt_zero.mp this] at h
    cases h
theorem one_take_succ {l : List Int} {j : Nat} {z : Int} (nd : l.Nodup) (h : l[j]? = some z) (y : Int) : one (l.take (j + 1)) y = if y = z then one (l.take j) z + 1 else one (l.take j) y := by
  have e : l.take (j + 1) = l.take j ++ [z] := by
    obtain ⟨hlt, hv⟩ := List.getElem?_eq_some_iff.mp h
    rw [← hv]
    simp
  have nz : z ∉ l.take j := by
    have q : (l.take (j + 1)).Nodup := nd.sublist (List.take_sublist _ _)
    rw [e] at q
    exact fun k => (List.nodup_append.mp q).2.2 z k z (by simp) rfl
  unfold one
  rw [e, if_neg nz]
  by_cases hy : y = z
  · subst hy
    simp
  · rw [if_neg hy]
    simp [List.mem_append, hy]
/-- behind i pulls -/
def mix (x : Int) (rs : List (List Int)) (i : Nat) : List (List Int) := (rs.take i).map (pull1 x) ++ rs.drop i
theorem mix_zero (x : Int) (rs : List (List Int)) : mix x rs 0 = rs := rfl
theorem mix_all (x : Int) (rs : List (List Int)) : mix x rs rs.length = pull x rs := by
  unfold mix
  rw [List.take_length, List.drop_length, List.append_nil]
  rfl
theorem mix_at {x : Int} {rs : List (List Int)} {i : Nat} {r : List Int} (h : rs[i]? = some r) :
    mix x rs i = (rs.take i).map (pull1 x) ++ r :: rs.drop (i + 1) ∧ mix x rs (i + 1) = (rs.take i).map (pull1 x) ++ pull1 x r :: rs.drop (i + 1) := by
  obtain ⟨hlt, hv⟩ := List.getElem?_eq_some_iff.mp h
  have e1 : rs.drop i = r :: rs.drop (i + 1) := by rw [List.drop_eq_getElem_cons hlt, hv]
  have e2 : rs.take (i + 1) = rs.take i ++ [r] := by rw [← hv]; simp
  unfold mix
  rw [e1, e2]
  refine ⟨rfl, ?_⟩
  rw [List.map_append, List.append_assoc]
  rfl
theorem mix_none {x : Int} {rs : List (List Int)} {i : Nat} {r : List Int} (h : rs[i]? = some r) (n : r.head? ≠ some x) : mix x rs (i + 1) = mix x rs i := by
  obtain ⟨e1, e2⟩ := mix_at (x := x) h
  have q : pull1 x r = r := by unfold pull1; rw [if_neg n]
  rw [e1, e2, q]
theorem mix_nil {x : Int} {rs : List (List Int)} {i : Nat} (h : rs[i]? = some [x]) (y : Int) : cnt (mix x rs (i + 1)) y = cnt (mix x rs i) y := by
  obtain ⟨e1, e2⟩ := mix_at (x := x) h
  have q : pull1 x [x] = [] := by unfold pull1; simp
  rw [e1, e2, q, cnt_append, cnt_append]
  show _ + cnt ([[]] ++ rs.drop (i + 1)) y = _ + cnt ([[x]] ++ rs.drop (i + 1)) y
  rw [cnt_append, cnt_append, cnt_one, cnt_one]
  rfl
theorem mix_cons {x h' : Int} {t : List Int} {rs : List (List Int)} {i : Nat} (h : rs[i]? = some (x :: h' :: t)) (nd : (x :: h' :: t).Nodup) (y : Int) :
    (cnt (mix x rs (i + 1)) y : Int) = if y = h' then (cnt (mix x rs i) h' : Int) - 1 else cnt (mix x rs i) y := by
  obtain ⟨e1, e2⟩ := mix_at (x := x) h
  have q : pull1 x (x :: h' :: t) = h' :: t := by unfold pull1; simp
  have nt : h' ∉ t := (List.nodup_cons.mp (List.nodup_cons.mp nd).2).1
  have key : ∀ z, cnt (mix x rs i) z = cnt ((rs.take i).map (pull1 x)) z + (one (h' :: t) z + cnt (rs.drop (i + 1)) z) := fun z => by
    rw [e1, cnt_append]
    show _ + cnt ([x :: h' :: t] ++ rs.drop (i + 1)) z = _
    rw [cnt_append, cnt_one]
    rfl
  have key2 : cnt (mix x rs (i + 1)) y = cnt ((rs.take i).map (pull1 x)) y + (one t y + cnt (rs.drop (i + 1)) y) := by
    rw [e2, q, cnt_append]
    show _ + cnt ([h' :: t] ++ rs.drop (i + 1)) y = _
    rw [cnt_append, cnt_one]
    rfl
  rw [key2]
  by_cases hy : y = h'
  · subst hy
    rw [if_pos rfl, key]
    have a : one t y = 0 := by unfold one; rw [if_neg nt]
    have b : one (y :: t) y = 1 := by unfold one; rw [if_pos (by simp)]
    rw [a, b]
    omega
  · rw [if_neg hy, key]
    have a : one (h' :: t) y = one t y := by unfold one; simp [hy]
    rw [a]
theorem mix_mem {x : Int} {rs : List (List Int)} {i : Nat} {r : List Int} (h : r ∈ mix x rs i) : ∃ r0 ∈ rs, ∀ y ∈ r, y ∈ r0 := by
  unfold mix at h
  rcases List.mem_append.mp h with k | k
  · obtain ⟨r0, h0, e⟩ := List.mem_map.mp k
    exact ⟨r0, List.mem_of_mem_take h0, fun y hy => pull1_sub (by rw [e]; exact hy)⟩
  · exact ⟨r, List.mem_of_mem_drop k, fun y hy => hy⟩
/-- the first free item, list by list -/
theorem heads_append (a b : List (List Int)) : heads (a ++ b) = heads a ++ heads b := by
  unfold heads
  rw [List.filterMap_append]
end Mg

set_option Elab.async false
set_option linter.all false
set_option maxRecDepth 100000
set_option maxHeartbeats 4000000
namespace Pr
open PySem L2 Two
/-! ### dict comprehensions over lists -/
theorem outer_list {K : PySem.W.Frag} {a : Addr} {xs : List V} {g : TG} {wi1 : TI} {g1 : TG} {tk tv : TE} {vs vs1 : List Nat} {D : Addr} {σ : L2.St} {Qd : Hp → Prop} {G : Hp} (Pv : Nat → Hp → Prop) (h0 : Pv 0 G)
    (hl : ∀ i H, i ≤ xs.length → Pv i H → SqL K H a xs)
    (hs : ∀ i x H, xs[i]? = some x → Pv i H → g x (wipe σ vs) H fun σ2 H2 => wipe σ2 vs = wipe σ vs ∧ wi1 σ2 H2 fun J1 H3 => inner J1 g1 tk tv vs1 D σ2 (Pv (i + 1)) H3)
    (hd : ∀ H, Pv xs.length H → Qd H) : outer (Itl K a) g wi1 g1 tk tv vs vs1 D σ Qd G := by
  refine ⟨fun i m H => m = xs.length - i ∧ i ≤ xs.length ∧ Pv i H, ⟨xs.length, by simp, Nat.zero_le _, h0⟩, ?_⟩
  rintro i m H ⟨rfl, hi, p⟩
  have q := hl i H hi p
  by_cases lt : i < xs.length
  · refine .inr ⟨⟨xs, xs[i], q, by simp [lt]⟩, Pv (i + 1), fun H2 p2 => ⟨xs.length - (i + 1), by omega, rfl, lt, p2⟩, fun x H2 y => ?_⟩
    obtain ⟨e, y⟩ := y
    subst e
    exact hs i x _ (y xs q) p
  · have e : i = xs.length := by omega
    subst e
    exact .inl ⟨⟨xs, q, Nat.le_refl _⟩, hd H p⟩
theorem inner_list {K : PySem.W.Frag} {a : Addr} {xs : List V} {g1 : TG} {tk tv : TE} {vs1 : List Nat} {D : Addr} {σ2 : L2.St} {Nx : Hp → Prop} {G : Hp} (Pv : Nat → Hp → Prop) (h0 : Pv 0 G)
    (hl : ∀ i H, i ≤ xs.length → Pv i H → SqL K H a xs)
    (hs : ∀ j x H, xs[j]? = some x → Pv j H → g1 x (wipe σ2 vs1) H fun σ3 H3 => wipe σ3 vs1 = wipe σ2 vs1 ∧ tk σ3 H3 fun y H4 => tv σ3 H4 fun z H5 => ∃ kvs k0, y = kV k0 ∧ H5 D = some (.dK kvs) ∧ kvs.length < sizeLine ∧ Pv (j + 1) (upd H5 D (.dK (putK kvs k0 z))))
    (hd : ∀ H, Pv xs.length H → Nx H) : inner (Itl K a) g1 tk tv vs1 D σ2 Nx G := by
  refine ⟨fun i m H => m = xs.length - i ∧ i ≤ xs.length ∧ Pv i H, ⟨xs.length, by simp, Nat.zero_le _, h0⟩, ?_⟩
  rintro i m H ⟨rfl, hi, p⟩
  have q := hl i H hi p
  by_cases lt : i < xs.length
  · refine .inr ⟨⟨xs, xs[i], q, by simp [lt]⟩, Pv (i + 1), fun H2 p2 => ⟨xs.length - (i + 1), by omega, rfl, lt, p2⟩, fun x H2 y => ?_⟩
    obtain ⟨e, y⟩ := y
    subst e
    exact hs i x _ (y xs q) p
  · have e : i = xs.length := by omega
    subst e
    exact .inl ⟨⟨xs, q, Nat.le_refl _⟩, hd H p⟩
theorem cut_tail (xs : List V) : cutV xs (some 1) none = xs.tail := by
  unfold cutV
  have e : HT.sIx xs.length 0 (some 1) = min 1 xs.length := HT.sIx_nat xs.length 0 1
  rw [e, HT.sIx_none]
  cases xs with
  | nil => rfl
  | cons x xs =>
    have e2 : min 1 (x :: xs).length = 1 := by simp
    rw [e2]
    show xs.take ((x :: xs).length - 1) = xs
    simp

/-- a list of lists of ints, at the addresses beside them -/
def LofL (K : PySem.W.Frag) (H : Hp) (a : Addr) (ps : List (Addr × List Int)) : Prop := SqL K H a (ps.map fun p => V.ref p.1) ∧ ∀ p ∈ ps, SqL K H p.1 (p.2.map V.int)
abbrev lsOf (ps : List (Addr × List Int)) : List (List Int) := ps.map (·.2)
abbrev refsOf (ps : List (Addr × List Int)) : List V := ps.map fun p => V.ref p.1
theorem LofL.keep {K : PySem.W.Frag} {H H' : Hp} {a : Addr} {ps : List (Addr × List Int)} (h : LofL K H a ps) (s : Same H H') : LofL K H' a ps := ⟨s.seq h.1, fun p hp => s.seq (h.2 p hp)⟩
/-- as many as merge takes, nothing twice -/
structure Fit (ps : List (Addr × List Int)) : Prop where
  few : ps.length ≤ 30
  short : ∀ p ∈ ps, p.2.length ≤ 30
  nd : ∀ p ∈ ps, p.2.Nodup

/-- len, where the reading is to be said -/
def rLenQ (K : PySem.W.Frag) : List V → Hp → VK → Prop := fun xs H Q => ∃ p ys, xs = [V.ref p] ∧ (SqL K H p ys ∨ SqT K H p ys) ∧ Q (.int ys.length) H
theorem call_lenQ {X : Cx} : CallR X (.builtin "len") (rLenQ X.K) := call_len_seq
def rGt : R2 := rI0 fun i j => .bl (decide (j < i))
section
variable {P : Program} {w : World} {K : PySem.W.Frag} {mg : Str → Option Value} {base : Heap}
/-! ### _check_lists -/
def spCheck (K : PySem.W.Frag) : Sp := fun vs H Q _ => ∃ (a : Addr) (ps : List (Addr × List Int)), vs = [.ref a] ∧ LofL K H a ps ∧ Fit ps ∧ ∀ H', Same H H' → Q .non H'
theorem scCheck : FnScope ["lists", "items"] ["lists"] (defScope sCheck) := ⟨rfl, rfl, rfl, by decide +kernel, rfl, by decide +kernel, by decide +kernel⟩
theorem any_id : ∀ l : List V, (l.map fun _ => false).any id = false
  | [] => rfl
  | _ :: l => any_id l
theorem all_false (f : V → V) : ∀ l : List V, (∀ x ∈ l, f x = .bl false) → l.map f = (l.map fun _ => false).map V.bl
  | [], _ => rfl
  | x :: l, h => by
    simp only [List.map_cons]
    rw [h x List.mem_cons_self, all_false f l fun y hy => h y (List.mem_cons_of_mem _ hy)]
theorem ok_check {f fL fU : Addr} {fd fdL fdU : FuncData} (F : Fun K "_check_lists" "_check_lists" sCheck f fd) (T : Txt mg)
    (gL : mg "_is_list_of_ints" = some (.ref fL)) (kL : PySem.W.keepIn K (.ref fL) = true) (bL : Binds K fdL ["items"] []) (GL : FnOk P w K mg base CX0 2 fL fdL ["items"] (spIsList K))
    (gU : mg "check_unlike" = some (.ref fU)) (kU : PySem.W.keepIn K (.ref fU) = true) (bU : Binds K fdU ["things"] []) (GU : FnOk P w K mg base CX0 1 fU fdU ["things"] (spUnlike K)) :
    FnOk P w K mg base CX0 3 f fd ["lists"] (spCheck K) := by
  refine F.ok scCheck (fun vs H Q E h => ?_) (fun cdv A outer s H vs Q E hr h => ?_)
  · obtain ⟨a, ps, rfl, _⟩ := h
    rfl
  · obtain ⟨a, ps, rfl, hL, fit, k⟩ := h
    obtain ⟨tm, hm⟩ := T.most
    refine ⟨_, pss_cons (ps_if (PW.pt (pw_or (pt_not (pt_val (pe_callB call_isi (by rfl) T.isinstance (by decide +kernel) (pa_cons (pv 0) (pa_cons (pe_bltn (v := .ty "list") (by rfl) T.list (by decide +kernel) rfl) pa_nil)))))
        (pw_or1 (pt_not (pt_val (pe_callB (cr_all rfl) (by rfl) T.all (by decide +kernel) (pa_cons (pe_lc (own := [("items", 1)]) (g := gName 1) (tt := tYes) rfl scCheck.nd (pi_list (pv 0)) (blkOk_by (N := ["lists", "items"]) (sc := defScope sCheck) (by decide +kernel))
          (fun _ _ _ _ _ => pg_name (i := 1) scCheck.nd rfl (Or.inl rfl)) (fun _ _ _ _ _ => pts_nil) (fun _ _ _ _ _ => pe_call GL hr rfl gL kL bL .nil pass0 (pa_cons (pv 1) pa_nil))) pa_nil))))))) pss_never pss_nil)
      (pss_cons (ps_if (PW.pt (pw_or (pt_cmpR op_gt (pe_callB call_len_seq (by rfl) T.len PySem.boot_len (pa_cons (pv 0) pa_nil)) (pe_glob (v := .int 30) rfl hm ⟨_, rfl⟩) (nomark _))
        (pw_or1 (pt_val (pe_callB (cr_any rfl) (by rfl) T.any (by decide +kernel) (pa_cons (pe_lc (own := [("items", 1)]) (g := gName 1) (tt := tYes) (te := tOp rGt (tCB (rLenQ K) (tCons (tVar 1) tNil)) (tC (.int 30))) rfl scCheck.nd (pi_list (pv 0)) (blkOk_by (N := ["lists", "items"]) (sc := defScope sCheck) (by decide +kernel))
          (fun _ _ _ _ _ => pg_name (i := 1) scCheck.nd rfl (Or.inl rfl)) (fun _ _ _ _ _ => pts_nil) (fun _ _ _ _ _ => pe_cmpR op_gt (pe_callB call_lenQ (by rfl) T.len PySem.boot_len (pa_cons (pv 1) pa_nil)) (pe_glob (v := .int 30) rfl hm ⟨_, rfl⟩) (nomark _))) pa_nil)))))) pss_never pss_nil)
      (pss_one (ps_for PassesOwn.never rfl (pi_list (pv 0)) (pg_name (i := 1) scCheck.nd rfl (Or.inl rfl)) (pss_one (ps_expr (pe_call GU (hr.mono (by decide)) rfl gU kU bU .nil pass0 (pa_cons (pv 1) pa_nil))))))), ?_⟩
    have sz : (ps.map fun p => V.ref p.1).length ≤ sizeLine := by rw [List.length_map]; exact Nat.le_of_lt (small1000 (Nat.le_trans fit.few (by decide)))
    refine ⟨_, rfl, _, .ty "list", .type "list", .type "list", true, rfl, .ty _, tyx_list hL.1, kit_ty (by decide +kernel), true, rfl, ?_⟩
    refine iteF ?_
    refine ⟨_, rfl, a, rfl, ⟨_, hL.1⟩, fun D hD => lc_pure (K := K) (xs := refsOf ps) 1 (fun _ => .bl true) hL.1 sz hD (fun _ => rfl) (fun j x H1 Q1 hx s1 q1 => ?_) fun H1 s1 h1 => ?_⟩
    · obtain ⟨p, hp, rfl⟩ := get_map hx
      have mp := List.mem_of_getElem? hp
      exact ⟨_, rfl, p.1, p.2, rfl, s1.seq (hL.2 p mp), Nat.le_trans (fit.short p mp) (by decide), fun H' s' => q1 H' s'⟩
    refine ⟨D, _, rfl, SqL.of (by rw [h1, all_true _ _ fun _ _ => rfl]), ?_⟩
    rw [all_id]
    refine ⟨true, rfl, iteF ?_⟩
    have hL1 := hL.keep s1
    refine ⟨_, rfl, a, _, rfl, .inl hL1.1, _, _, rfl, rfl, _, rfl, ?_⟩
    have c1 : decide ((30 : Int) < ((ps.map fun p => V.ref p.1).length : Nat)) = false := decide_eq_false (by rw [List.length_map]; have := fit.few; omega)
    rw [c1]
    refine iteF ?_
    refine ⟨_, rfl, a, rfl, ⟨_, hL1.1⟩, fun D2 hD2 => lc_pure (K := K) (xs := refsOf ps) 1 (fun _ => .bl false) hL1.1 sz hD2 (fun _ => rfl) (fun j x H2 Q1 hx s2 q1 => ?_) fun H2 s2 h2 => ?_⟩
    · obtain ⟨p, hp, rfl⟩ := get_map hx
      have mp := List.mem_of_getElem? hp
      refine ⟨_, rfl, p.1, _, rfl, .inl (s2.seq (hL1.2 p mp)), _, _, rfl, rfl, ?_⟩
      have c2 : decide ((30 : Int) < ((p.2.map V.int).length : Nat)) = false := decide_eq_false (by rw [List.length_map]; have := fit.short p mp; omega)
      show Q1 (.bl (decide ((30 : Int) < ((p.2.map V.int).length : Nat)))) H2
      rw [c2]
      exact q1 _ (Same.refl _)
    refine ⟨D2, _, rfl, SqL.of (by rw [h2, all_false _ _ fun _ _ => rfl]), ?_⟩
    rw [any_id]
    refine ⟨false, rfl, iteF ?_⟩
    have hL2 := hL1.keep s2
    refine ⟨_, rfl, a, rfl, ⟨_, hL2.1⟩, for_list (K := K) (a := a) (xs := refsOf ps) (fun i σ H' => ∃ v : Option V, σ = [some (.ref a), v] ∧ Same H H')
      ⟨_, rfl, s1.trans s2⟩ (fun i σ H' _ ⟨_, _, s3⟩ => s3.seq hL.1) ?_ ?_⟩
    · rintro i y σ H' hi ⟨v, rfl, s3⟩
      obtain ⟨p, hp, rfl⟩ := get_map hi
      have mp := List.mem_of_getElem? hp
      exact ⟨_, rfl, p.1, p.2, rfl, s3.seq (hL.2 p mp), fit.nd p mp, Nat.le_trans (fit.short p mp) (by decide), fun H4 s4 => ⟨_, rfl, s3.trans s4⟩⟩
    · rintro σ H' ⟨v, rfl, s3⟩
      exact k _ s3
end
end Pr

set_option Elab.async false
set_option linter.all false
set_option maxRecDepth 100000
set_option maxHeartbeats 4000000
namespace Pr
open PySem L2 Two
theorem putK_len {kvs : List (Key × V)} {k : Key} {v y : V} (h : valV kvs k = some v) : (putK kvs k y).length = kvs.length := by
  unfold putK
  rw [valV_any, h]
  simp
/-- the dict that counts: of each item that is left, f of it -/
def Cts (kvs : List (Key × V)) (inn : Int → Prop) (f : Int → Int) : Prop := ∀ y, inn y → valV kvs (.inl y) = some (.int (f y))
def inL (rs : List (List Int)) (y : Int) : Prop := ∃ r ∈ rs, y ∈ r
theorem Cts.put {kvs : List (Key × V)} {inn inn' : Int → Prop} {f f' : Int → Int} {z : Int} {c : Int} (h : Cts kvs inn f) (sub : ∀ y, inn' y → y ≠ z → inn y) (hz : f' z = c) (he : ∀ y, inn' y → y ≠ z → f' y = f y) :
    Cts (putK kvs (.inl z) (.int c)) inn' f' := fun y hy => by
  rw [valV_put]
  by_cases e : y = z
  · subst e
    rw [if_pos rfl, hz]
  · rw [if_neg (fun q => e (Sum.inl.inj q)), h y (sub y hy e), he y hy e]
theorem Cts.imp {kvs : List (Key × V)} {inn inn' : Int → Prop} {f f' : Int → Int} (h : Cts kvs inn f) (sub : ∀ y, inn' y → inn y) (he : ∀ y, inn' y → f' y = f y) : Cts kvs inn' f' := fun y hy => by
  rw [h y (sub y hy), he y hy]
theorem inL_at {ps : List (Addr × List Int)} {p : Addr × List Int} {y : Int} (hp : p ∈ ps) (hy : y ∈ p.2) : inL (lsOf ps) y := ⟨p.2, List.mem_map.mpr ⟨p, hp, rfl⟩, hy⟩
theorem lsOf_at {ps : List (Addr × List Int)} {i : Nat} {p : Addr × List Int} (h : ps[i]? = some p) : (lsOf ps)[i]? = some p.2 := by
  rw [List.getElem?_map, h]
  rfl
section
variable {P : Program} {w : World} {K : PySem.W.Frag} {mg : Str → Option Value} {base : Heap}
/-! ### _times_behind -/
def spTimes (K : PySem.W.Frag) : Sp := fun vs H Q _ => ∃ (a : Addr) (ps : List (Addr × List Int)), vs = [.ref a] ∧ LofL K H a ps ∧ Fit ps ∧
  ∀ (H' : Hp) (B : Addr) (kvs : List (Key × V)), Same H H' → H B = none → H' B = some (.dK kvs) → kvs.length ≤ 900 → Cts kvs (inL (lsOf ps)) (fun y => Mg.cnt (lsOf ps) y) → Q (.ref B) H'
theorem scTimes : FnScope ["lists", "items", "item", "behind"] ["lists"] (defScope sTimes) := ⟨rfl, rfl, rfl, by decide +kernel, rfl, by decide +kernel, by decide +kernel⟩
theorem ok_times {f : Addr} {fd : FuncData} (F : Fun K "_times_behind" "_times_behind" sTimes f fd) (T : Txt mg) : FnOk P w K mg base CX0 1 f fd ["lists"] (spTimes K) := by
  refine F.ok scTimes (fun vs H Q E h => ?_) (fun cdv A outer s H vs Q E hr h => ?_)
  · obtain ⟨a, ps, rfl, _⟩ := h
    rfl
  · obtain ⟨a, ps, rfl, hL, fit, k⟩ := h
    have hu := hu_of hr
    refine ⟨_, pss_cons (ps_setDc2 (i := 3) (own := [("items", 1), ("item", 2)]) (vs1 := [2]) (wi1 := iList K (tVar 1)) (g := gName 1) (g1 := gName 2) (tk := tVar 2) (tv := tC (.int 0)) rfl scTimes.nd rfl rfl (swD rfl rfl rfl (by decide +kernel)) (pi_list (pv 0))
        (blkOk_by (N := ["lists", "items", "item", "behind"]) (sc := defScope sTimes) (by decide +kernel)) (by decide)
        (fun _ _ _ _ _ => pg_name (i := 1) scTimes.nd rfl (Or.inl rfl)) (fun _ _ _ _ _ => pi_list (pv 1)) (fun _ _ _ _ _ => pg_name (i := 2) scTimes.nd rfl (Or.inl rfl)) (fun _ _ _ _ _ => pv 2) (fun _ _ _ _ _ => pe_int))
      (pss_cons (ps_for PassesOwn.never rfl (pi_list (pv 0)) (pg_name (i := 1) scTimes.nd rfl (Or.inl rfl))
        (pss_one (ps_for PassesOwn.never rfl (pi_list (pe_slice sl_list (pv 1) (po_some pe_int) po_none)) (pg_name (i := 2) scTimes.nd rfl (Or.inl rfl))
          (pss_one (ps_daug hu (pv 3) (pv 2) pe_int in_add (fun _ _ _ => rfl))))))
      (pss_one (ps_ret (pv 3)))), ?_⟩
    refine ⟨_, rfl, a, rfl, ⟨_, hL.1⟩, fun B hB => ?_⟩
    refine outer_list (K := K) (xs := refsOf ps) (fun i G => Same H G ∧ ∃ kvs, G B = some (.dK kvs) ∧ kvs.length ≤ 30 * i ∧ Cts kvs (inL ((lsOf ps).take i)) (fun _ => 0))
      ⟨same_new hB, [], upd_same, Nat.le_refl _, fun y hy => by obtain ⟨r, hr, _⟩ := hy; cases hr⟩ (fun i G _ p => p.1.seq hL.1) (fun i x G hx p => ?_) (fun G p => ?_)
    · obtain ⟨q, hq, rfl⟩ := get_map hx
      obtain ⟨s1, kvs, hG, hk, hc⟩ := p
      have mq := List.mem_of_getElem? hq
      have short := fit.short q mq
      have few : i < 30 := by
        have := (List.getElem?_eq_some_iff.mp hq).1
        have := fit.few
        omega
      refine ⟨rfl, _, rfl, q.1, rfl, ⟨_, s1.seq (hL.2 q mq)⟩, ?_⟩
      refine inner_list (K := K) (xs := q.2.map V.int) (fun j G => Same H G ∧ ∃ kvs, G B = some (.dK kvs) ∧ kvs.length ≤ 30 * i + j ∧ Cts kvs (fun y => inL ((lsOf ps).take i) y ∨ y ∈ q.2.take j) (fun _ => 0))
        ⟨s1, kvs, hG, by omega, hc.imp (fun y hy => hy.elim id fun k => (nomatch k)) fun _ _ => rfl⟩ (fun j G _ p => p.1.seq (hL.2 q mq)) (fun j x G hx p => ?_) (fun G p => ?_)
      · obtain ⟨z, hz, rfl⟩ := get_map hx
        obtain ⟨s2, kvs, hG, hk, hc⟩ := p
        have hj := (List.getElem?_eq_some_iff.mp hz).1
        refine ⟨rfl, _, rfl, kvs, Sum.inl z, rfl, hG, small1000 (by omega), same_upd s2 hB, _, upd_same, ?_, ?_⟩
        · have := length_putK kvs (Sum.inl z) (V.int 0)
          omega
        · refine hc.put (fun y hy ne => hy.imp id fun k => ?_) rfl (fun _ _ _ => rfl)
          rw [take_snoc hz] at k
          rcases List.mem_append.mp k with k | k
          · exact k
          · exact absurd (List.mem_singleton.mp k) ne
      · obtain ⟨s2, kvs, hG, hk, hc⟩ := p
        rw [List.length_map] at hk hc
        refine ⟨s2, kvs, hG, by omega, hc.imp (fun y hy => ?_) fun _ _ => rfl⟩
        obtain ⟨r, hr, hy⟩ := hy
        rw [take_snoc (lsOf_at hq)] at hr
        rcases List.mem_append.mp hr with m | m
        · exact .inl ⟨r, m, hy⟩
        · rw [List.mem_singleton.mp m] at hy
          exact .inr (by rw [List.take_length]; exact hy)
    · obtain ⟨s1, kvs, hG, hk, hc⟩ := p
      rw [List.length_map] at hk hc
      have few := fit.few
      have hc : Cts kvs (inL (lsOf ps)) (fun _ => 0) := hc.imp (fun y hy => by
        have e : (lsOf ps).take ps.length = lsOf ps := List.take_of_length_le (by rw [List.length_map]; exact Nat.le_refl _)
        rw [e]
        exact hy) fun _ _ => rfl
      show tSeq _ _ _ ([some (.ref a), none, none, none].set 3 (some (.ref B))) G
      refine ⟨_, rfl, a, rfl, ⟨_, s1.seq hL.1⟩, for_list (K := K) (a := a) (xs := refsOf ps) (fun i σ G => ∃ (v1 v2 : Option V) (kvs : List (Key × V)), σ = [some (.ref a), v1, v2, some (.ref B)] ∧ Same H G ∧ G B = some (.dK kvs) ∧ kvs.length ≤ 900 ∧
          Cts kvs (inL (lsOf ps)) (fun y => Mg.cnt ((lsOf ps).take i) y))
        ⟨none, none, kvs, rfl, s1, hG, by omega, hc⟩ (fun i σ G _ ⟨_, _, _, _, s2, _⟩ => s2.seq hL.1) ?_ ?_⟩
      · rintro i x σ G2 hx ⟨v1, v2, kvs, rfl, s2, hG2, hk2, hc2⟩
        obtain ⟨q, hq, rfl⟩ := get_map hx
        have mq := List.mem_of_getElem? hq
        refine ⟨_, rfl, _, rfl, q.1, _, rfl, s2.seq (hL.2 q mq), fun L hLn => ?_⟩
        rw [cut_tail, ← List.map_tail]
        have ndt : q.2.tail.Nodup := (fit.nd q mq).sublist (List.tail_sublist _)
        refine ⟨L, rfl, ⟨_, SqL.of upd_same⟩, for_list (K := K) (a := L) (xs := q.2.tail.map V.int) (fun j σ G => ∃ (v2 : Option V) (kvs : List (Key × V)), σ = [some (.ref a), some (.ref q.1), v2, some (.ref B)] ∧ Same H G ∧ G L = some (.lst (q.2.tail.map V.int)) ∧ G B = some (.dK kvs) ∧ kvs.length ≤ 900 ∧
            Cts kvs (inL (lsOf ps)) (fun y => (Mg.cnt ((lsOf ps).take i) y : Int) + Mg.one (q.2.tail.take j) y))
          ⟨v2, kvs, rfl, same_upd s2 (none_of_same s2 hLn), upd_same, by rw [upd_ne (ne_of_none hG2 hLn)]; exact hG2, hk2, hc2.imp (fun _ h => h) fun y _ => by simp [Mg.one]⟩
          (fun j σ G _ ⟨_, _, _, _, h, _⟩ => SqL.of h) ?_ ?_⟩
        · rintro j x σ G3 hx ⟨v2, kvs, rfl, s3, hL3, hB3, hk3, hc3⟩
          obtain ⟨z, hz, rfl⟩ := get_map hx
          have zin : inL (lsOf ps) z := inL_at mq (List.mem_of_mem_tail (List.mem_of_getElem? hz))
          have hv := hc3 z zin
          refine ⟨_, rfl, _, rfl, B, _, rfl, by rw [← hv]; exact DGet.k (k := Sum.inl z) hB3, _, _, rfl, rfl, _, DPut.k (k := Sum.inl z) hB3 (small1000 (by omega)), ?_⟩
          refine ⟨_, _, rfl, same_upd s3 hB, by rw [upd_ne (ne_of hL3 hB3 (by intro e; cases e))]; exact hL3, upd_same, by rw [putK_len hv]; exact hk3, ?_⟩
          refine hc3.put (fun y hy _ => hy) ?_ (fun y _ ne => ?_)
          · show (Mg.cnt ((lsOf ps).take i) z : Int) + Mg.one (q.2.tail.take (j + 1)) z = (Mg.cnt ((lsOf ps).take i) z : Int) + Mg.one (q.2.tail.take j) z + 1
            rw [Mg.one_take_succ ndt hz, if_pos rfl]
            omega
          · show (Mg.cnt ((lsOf ps).take i) y : Int) + Mg.one (q.2.tail.take (j + 1)) y = _
            rw [Mg.one_take_succ ndt hz, if_neg ne]
        · rintro σ G3 ⟨v2, kvs, rfl, s3, hL3, hB3, hk3, hc3⟩
          rw [List.length_map] at hc3
          refine ⟨_, _, kvs, rfl, s3, hB3, hk3, hc3.imp (fun _ h => h) fun y _ => ?_⟩
          show (Mg.cnt ((lsOf ps).take (i + 1)) y : Int) = _
          rw [take_snoc (lsOf_at hq), Mg.cnt_append, Mg.cnt_one, List.take_length]
          omega
      · rintro σ G2 ⟨v1, v2, kvs, rfl, s2, hG2, hk2, hc2⟩
        refine ⟨_, rfl, k G2 B kvs s2 hB hG2 hk2 ?_⟩
        rw [List.length_map] at hc2
        have e : (lsOf ps).take ps.length = lsOf ps := List.take_of_length_le (by rw [List.length_map]; exact Nat.le_refl _)
        rw [e] at hc2
        exact hc2
end
end Pr

set_option Elab.async false
set_option linter.all false
set_option maxRecDepth 100000
set_option maxHeartbeats 4000000
namespace Pr
open PySem L2 Two
section
variable {P : Program} {w : World} {K : PySem.W.Frag} {mg : Str → Option Value} {base : Heap}
theorem at0 (z : Int) (t : List Int) : atI ((z :: t).map V.int) 0 = some (.int z) := atI_nat (xs := (z :: t).map V.int) (j := 0) rfl
theorem seq0 (z : Int) (t : List Int) : seqIndex? 0 ((z :: t).map V.int).length = some 0 := by
  unfold seqIndex?
  simp
/-! ### _first_free -/
def freeV : Option Int → V
  | some x => .int x
  | none => .non
def spFree (K : PySem.W.Frag) : Sp := fun vs H Q _ => ∃ (R B : Addr) (ps : List (Addr × List Int)) (kvs : List (Key × V)), vs = [.ref R, .ref B] ∧ LofL K H R ps ∧ H B = some (.dK kvs) ∧
  Cts kvs (inL (lsOf ps)) (fun y => Mg.cnt (lsOf ps) y) ∧ Q (freeV (Mg.firstFree (lsOf ps))) H
theorem scFree : FnScope ["rests", "behind", "rest"] ["rests", "behind"] (defScope sFree) := ⟨rfl, rfl, rfl, by decide +kernel, rfl, by decide +kernel, by decide +kernel⟩
theorem heads_snoc_nil {rs : List (List Int)} : Mg.heads (rs ++ [[]]) = Mg.heads rs := by
  rw [Mg.heads_append]
  exact List.append_nil _
theorem heads_snoc {rs : List (List Int)} {z : Int} {t : List Int} : Mg.heads (rs ++ [z :: t]) = Mg.heads rs ++ [z] := Mg.heads_append _ _
theorem find_split {rs : List (List Int)} {i : Nat} {c : Int → Bool} (h : (Mg.heads (rs.take i)).find? c = none) {z : Int} {t : List Int} (hz : rs[i]? = some (z :: t)) (hc : c z = true) : (Mg.heads rs).find? c = some z := by
  obtain ⟨hlt, hv⟩ := List.getElem?_eq_some_iff.mp hz
  have e : rs = rs.take i ++ (z :: t) :: rs.drop (i + 1) := by
    conv => lhs; rw [← List.take_append_drop i rs, List.drop_eq_getElem_cons hlt, hv]
  rw [e, Mg.heads_append, List.find?_append, h]
  show (Mg.heads ([z :: t] ++ rs.drop (i + 1))).find? c = some z
  rw [Mg.heads_append]
  show (z :: Mg.heads (rs.drop (i + 1))).find? c = some z
  rw [List.find?_cons_of_pos hc]
theorem ok_free {f : Addr} {fd : FuncData} (F : Fun K "_first_free" "_first_free" sFree f fd) (T : Txt mg) : FnOk P w K mg base CX0 1 f fd ["rests", "behind"] (spFree K) := by
  refine F.ok scFree (fun vs H Q E h => ?_) (fun cdv A outer s H vs Q E hr h => ?_)
  · obtain ⟨R, B, ps, kvs, rfl, _⟩ := h
    rfl
  · obtain ⟨R, B, ps, kvs, rfl, hL, hB, hc, k⟩ := h
    have hu := hu_of hr
    refine ⟨_, pss_cons (ps_for PassesOwn.never rfl (pi_list (pv 0)) (pg_name (i := 2) scFree.nd rfl (Or.inl rfl))
        (pss_one (ps_if (PW.pt (pw_and (pt_truth (pv 2) (by intro _; rfl)) (pw_and1 (pt_cmpR op_eq (pe_dget hu (pv 1) (pe_ix ix_list (pv 2) pe_int (fun _ _ => rfl)) (fun _ _ => rfl)) pe_int (nomark _)))))
          (pss_one (ps_ret (pe_ix ix_list (pv 2) pe_int (fun _ _ => rfl)))) pss_nil)))
      (pss_one (ps_ret pe_non)), ?_⟩
    refine ⟨_, rfl, R, rfl, ⟨_, hL.1⟩, for_list (K := K) (a := R) (xs := refsOf ps) (fun i σ G => G = H ∧ ∃ v : Option V, σ = [some (.ref R), some (.ref B), v] ∧ (Mg.heads ((lsOf ps).take i)).find? (Mg.clear (lsOf ps)) = none)
      ⟨rfl, none, rfl, rfl⟩ (fun i σ G _ p => by rw [p.1]; exact hL.1) ?_ ?_⟩
    · rintro i x σ G hx ⟨rfl, v, rfl, hf⟩
      obtain ⟨q, hq, rfl⟩ := get_map hx
      have mq := List.mem_of_getElem? hq
      have hS := hL.2 q mq
      have hl := lsOf_at hq
      rcases hqv : q.2 with _ | ⟨z, t⟩
      · rw [hqv] at hS hl
        refine ⟨_, rfl, false, .inl ⟨_, hS, rfl⟩, iteF (iteF ⟨rfl, _, rfl, ?_⟩)⟩
        rw [take_snoc hl, heads_snoc_nil]
        exact hf
      · rw [hqv] at hS hl
        have hv := hc z (inL_at mq (by rw [hqv]; exact List.mem_cons_self))
        refine ⟨_, rfl, true, .inl ⟨_, hS, rfl⟩, iteT ?_⟩
        refine ⟨_, rfl, _, rfl, q.1, _, 0, .int z, rfl, rfl, hS, at0 _ _, B, _, rfl, by rw [← hv]; exact DGet.k (k := Sum.inl z) hB, rfl, _, rfl, ?_⟩
        have e : decide (V.int (Mg.cnt (lsOf ps) z : Int) = V.int 0) = Mg.clear (lsOf ps) z := by
          rw [Mg.clear_dec]
          by_cases h0 : (Mg.cnt (lsOf ps) z : Int) = 0
          · rw [h0]
            rfl
          · rw [decide_eq_false h0, decide_eq_false fun e => h0 (V.int.inj e)]
        rw [e]
        cases hcl : Mg.clear (lsOf ps) z with
        | false =>
          refine iteF ⟨rfl, _, rfl, ?_⟩
          rw [take_snoc hl, heads_snoc, List.find?_append, hf]
          show [z].find? (Mg.clear (lsOf ps)) = none
          rw [List.find?_cons_of_neg (by rw [hcl]; decide)]
          rfl
        | true =>
          refine iteT ⟨_, rfl, q.1, _, 0, .int z, rfl, rfl, hS, at0 _ _, ?_⟩
          have ff : Mg.firstFree (lsOf ps) = some z := find_split hf hl hcl
          rw [ff] at k
          exact k
    · rintro σ G ⟨rfl, v, rfl, hf⟩
      have ff : Mg.firstFree (lsOf ps) = none := by
        have e : (lsOf ps).take (refsOf ps).length = lsOf ps := List.take_of_length_le (by rw [List.length_map, List.length_map]; exact Nat.le_refl _)
        rw [e] at hf
        exact hf
      rw [ff] at k
      exact k

/-! ### _take -/
/-- the rests: a list of lists of its own -/
structure Own (H : Hp) (R : Addr) (ps : List (Addr × List Int)) : Prop where
  at_ : H R = some (.lst (refsOf ps))
  each : ∀ p ∈ ps, H p.1 = some (.lst (p.2.map V.int))
  nd : (ps.map (·.1)).Nodup
theorem Own.lofl {K : PySem.W.Frag} {H : Hp} {R : Addr} {ps : List (Addr × List Int)} (o : Own H R ps) : LofL K H R ps := ⟨SqL.of o.at_, fun p hp => SqL.of (o.each p hp)⟩
theorem refs_ints {ps : List (Addr × List Int)} {p : Addr × List Int} (hp : p ∈ ps) : refsOf ps ≠ p.2.map V.int := by
  intro e
  cases ps with
  | nil => cases hp
  | cons q qs =>
    cases h : p.2 with
    | nil =>
      rw [h] at e
      cases e
    | cons z t =>
      rw [h] at e
      cases e
theorem Own.ne {H : Hp} {R : Addr} {ps : List (Addr × List Int)} (o : Own H R ps) {p : Addr × List Int} (hp : p ∈ ps) : p.1 ≠ R :=
  (ne_of o.at_ (o.each p hp) (fun e => refs_ints hp (HO.lst.inj e))).symm
/-- a list of pairs with one more item taken -/
def taken (x : Int) (ps : List (Addr × List Int)) : List (Addr × List Int) := ps.map fun p => (p.1, Mg.pull1 x p.2)
theorem taken_ls (x : Int) (ps : List (Addr × List Int)) : lsOf (taken x ps) = Mg.pull x (lsOf ps) := by
  unfold taken Mg.pull lsOf
  rw [List.map_map, List.map_map]
  rfl
theorem taken_refs (x : Int) (ps : List (Addr × List Int)) : refsOf (taken x ps) = refsOf ps := by
  unfold taken refsOf
  rw [List.map_map]
  rfl
theorem taken_fst (x : Int) (ps : List (Addr × List Int)) : (taken x ps).map (·.1) = ps.map (·.1) := by
  unfold taken
  rw [List.map_map]
  rfl
/-- nothing but these addresses has changed -/
def But (S : Addr → Prop) (H H' : Hp) : Prop := ∀ b o, ¬ S b → H b = some o → H' b = some o
def spTake : Sp := fun vs H Q _ => ∃ (x : Int) (R B : Addr) (ps : List (Addr × List Int)) (kvs : List (Key × V)), vs = [.int x, .ref R, .ref B] ∧ Own H R ps ∧ H B = some (.dK kvs) ∧ kvs.length ≤ 900 ∧
  Cts kvs (inL (lsOf ps)) (fun y => Mg.cnt (lsOf ps) y) ∧ (∀ p ∈ ps, p.2.Nodup ∧ p.2.length ≤ 30) ∧
  ∀ (H' : Hp) (kvs' : List (Key × V)), But (fun b => b = B ∨ b ∈ ps.map (·.1)) H H' → Own H' R (taken x ps) → H' B = some (.dK kvs') → kvs'.length ≤ 900 →
    Cts kvs' (inL (Mg.pull x (lsOf ps))) (fun y => Mg.cnt (Mg.pull x (lsOf ps)) y) → Q .non H'
theorem scTake : FnScope ["item", "rests", "behind", "rest"] ["item", "rests", "behind"] (defScope sTake) := ⟨rfl, rfl, rfl, by decide +kernel, rfl, by decide +kernel, by decide +kernel⟩
theorem nodup_fst {ps : List (Addr × List Int)} (nd : (ps.map (·.1)).Nodup) {i j : Nat} {p q : Addr × List Int} (hp : ps[i]? = some p) (hq : ps[j]? = some q) (e : p.1 = q.1) : i = j := by
  induction ps generalizing i j with
  | nil => simp at hp
  | cons a l ih =>
    have nd := List.nodup_cons.mp nd
    match i, j with
    | 0, 0 => rfl
    | 0, j + 1 =>
      have h1 : a = p := Option.some.inj hp
      have h2 : l[j]? = some q := hq
      exact absurd (List.mem_map.mpr ⟨q, List.mem_of_getElem? h2, by rw [← e, ← h1]⟩) nd.1
    | i + 1, 0 =>
      have h1 : a = q := Option.some.inj hq
      have h2 : l[i]? = some p := hp
      exact absurd (List.mem_map.mpr ⟨p, List.mem_of_getElem? h2, by rw [e, ← h1]⟩) nd.1
    | i + 1, j + 1 => exact congrArg (· + 1) (ih nd.2 (show l[i]? = some p from hp) (show l[j]? = some q from hq))
/-- what stands behind i turns -/
structure TakeI (H G : Hp) (x : Int) (R B : Addr) (ps : List (Addr × List Int)) (kvs : List (Key × V)) (i : Nat) : Prop where
  but : But (fun b => b = B ∨ b ∈ ps.map (·.1)) H G
  at_ : G R = some (.lst (refsOf ps))
  old : ∀ (k : Nat) (p : Addr × List Int), ps[k]? = some p → i ≤ k → G p.1 = some (.lst (p.2.map V.int))
  new : ∀ (k : Nat) (p : Addr × List Int), ps[k]? = some p → k < i → G p.1 = some (.lst ((Mg.pull1 x p.2).map V.int))
  dic : G B = some (.dK kvs)
  len : kvs.length ≤ 900
  cts : Cts kvs (inL (Mg.mix x (lsOf ps) i)) (fun y => Mg.cnt (Mg.mix x (lsOf ps) i) y)
theorem ok_take {f : Addr} {fd : FuncData} (F : Fun K "_take" "_take" sTake f fd) (T : Txt mg) : FnOk P w K mg base CX0 1 f fd ["item", "rests", "behind"] spTake := by
  refine F.ok scTake (fun vs H Q E h => ?_) (fun cdv A outer s H vs Q E hr h => ?_)
  · obtain ⟨x, R, B, ps, kvs, rfl, _⟩ := h
    rfl
  · obtain ⟨x, R, B, ps, kvs, rfl, own, hB, hlen, hc, small, k⟩ := h
    have hu := hu_of hr
    have BR : B ≠ R := ne_of hB own.at_ (by intro e; cases e)
    have Bp : ∀ p ∈ ps, B ≠ p.1 := fun p hp => ne_of hB (own.each p hp) (by intro e; cases e)
    refine ⟨_, pss_one (ps_for PassesOwn.never rfl (pi_list (pv 1)) (pg_name (i := 3) scTake.nd rfl (Or.inl rfl))
        (pss_one (ps_if (PW.pt (pw_and (pt_truth (pv 3) (by intro _; rfl)) (pw_and1 (pt_cmpR op_eq (pe_ix ix_list (pv 3) pe_int (fun _ _ => rfl)) (pv 0) (nomark _)))))
          (pss_cons (ps_delL (pv 3) pe_int) (pss_one (ps_if (pt_truth (pv 3) (by intro _; rfl)) (pss_one (ps_daug hu (pv 2) (pe_ix ix_list (pv 3) pe_int (fun _ _ => rfl)) pe_int in_sub (fun _ _ _ => rfl))) pss_nil))) pss_nil))), ?_⟩
    refine ⟨_, rfl, R, rfl, ⟨_, SqL.of own.at_⟩, for_list (K := K) (a := R) (xs := refsOf ps) (fun i σ G => ∃ (v : Option V) (kvs : List (Key × V)), σ = [some (.int x), some (.ref R), some (.ref B), v] ∧ TakeI H G x R B ps kvs i)
      ⟨none, kvs, rfl, ⟨fun b o _ e => e, own.at_, fun k p hp _ => own.each p (List.mem_of_getElem? hp), fun k p hp h => (Nat.not_lt_zero _ h).elim, hB, hlen, by rw [Mg.mix_zero]; exact hc⟩⟩
      (fun i σ G _ ⟨_, _, _, t⟩ => SqL.of t.at_) ?_ ?_⟩
    · rintro i y σ G hy ⟨v, kvs, rfl, t⟩
      obtain ⟨q, hq, rfl⟩ := get_map hy
      have mq := List.mem_of_getElem? hq
      have hS := t.old i q hq (Nat.le_refl _)
      have hl := lsOf_at hq
      obtain ⟨ndq, szq⟩ := small q mq
      -- a turn that changes nothing
      have idle : Mg.pull1 x q.2 = q.2 → Mg.mix x (lsOf ps) (i + 1) = Mg.mix x (lsOf ps) i → TakeI H G x R B ps kvs (i + 1) := fun e1 e2 =>
        ⟨t.but, t.at_, fun k p hp h => t.old k p hp (by omega), fun k p hp h => by
          by_cases e : k = i
          · subst e
            rw [hq] at hp
            cases hp
            rw [e1]
            exact hS
          · exact t.new k p hp (by omega), t.dic, t.len, by rw [e2]; exact t.cts⟩
      rcases hqv : q.2 with _ | ⟨z, r⟩
      · rw [hqv] at hS hl
        refine ⟨_, rfl, false, .inl ⟨_, SqL.of hS, rfl⟩, iteF (iteF ⟨_, kvs, rfl, idle (by rw [hqv]; rfl) (Mg.mix_none hl (fun e => nomatch e))⟩)⟩
      · rw [hqv] at hS hl
        refine ⟨_, rfl, true, .inl ⟨_, SqL.of hS, rfl⟩, iteT ?_⟩
        refine ⟨_, rfl, q.1, _, 0, .int z, rfl, rfl, SqL.of hS, at0 _ _, _, rfl, rfl, _, rfl, ?_⟩
        by_cases hzx : z = x
        · subst hzx
          rw [decide_eq_true rfl]
          refine iteT ?_
          refine ⟨_, rfl, q.1, _, 0, 0, rfl, rfl, hS, by decide, by decide, seq0 _ _, ?_⟩
          have pz : Mg.pull1 z (z :: r) = r := by unfold Mg.pull1; simp
          have hS2 : upd G q.1 (.lst (((z :: r).map V.int).eraseIdx 0)) q.1 = some (.lst (r.map V.int)) := upd_same
          -- what stands when the list is shorter
          have short : ∀ kvs2 : List (Key × V), ∀ G2 : Hp, (∀ b, b ≠ B → b ≠ q.1 → G2 b = G b) → G2 q.1 = some (.lst (r.map V.int)) → G2 B = some (.dK kvs2) → kvs2.length ≤ 900 → Cts kvs2 (inL (Mg.mix z (lsOf ps) (i + 1))) (fun y => Mg.cnt (Mg.mix z (lsOf ps) (i + 1)) y) →
              TakeI H G2 z R B ps kvs2 (i + 1) := fun kvs2 G2 same hq2 hB2 hl2 hc2 => by
            have other : ∀ (k : Nat) (p : Addr × List Int), ps[k]? = some p → k ≠ i → G2 p.1 = G p.1 := fun k p hp ne =>
              same p.1 (fun e => Bp p (List.mem_of_getElem? hp) e.symm) (fun e => ne (nodup_fst own.nd hp hq e))
            refine ⟨fun b o hb e => ?_, by rw [same R BR.symm (own.ne mq).symm]; exact t.at_, fun k p hp h => by rw [other k p hp (by omega)]; exact t.old k p hp (by omega), fun k p hp h => ?_, hB2, hl2, hc2⟩
            · rw [same b (fun e => hb (.inl e)) (fun e => hb (.inr (by rw [e]; exact List.mem_map.mpr ⟨q, mq, rfl⟩)))]
              exact t.but b o hb e
            · by_cases e : k = i
              · subst e
                rw [hq] at hp
                cases hp
                rw [hqv, pz]
                exact hq2
              · rw [other k p hp e]
                exact t.new k p hp (by omega)
          cases r with
          | nil =>
            refine ⟨_, rfl, false, .inl ⟨_, SqL.of hS2, rfl⟩, iteF ⟨_, kvs, rfl, short kvs _ (fun b h1 h2 => upd_ne h2) hS2 (by rw [upd_ne (Bp q mq)]; exact t.dic) t.len ?_⟩⟩
            refine t.cts.imp (fun y hy => ?_) fun y _ => by rw [Mg.mix_nil hl]
            obtain ⟨r1, hr1, hy⟩ := hy
            obtain ⟨e1, e2⟩ := Mg.mix_at (x := z) hl
            rw [e2] at hr1
            refine ⟨r1, ?_, hy⟩
            rw [e1]
            rcases List.mem_append.mp hr1 with m | m
            · exact List.mem_append_left _ m
            · rcases List.mem_cons.mp m with m | m
              · rw [m, pz] at hy
                cases hy
              · exact List.mem_append_right _ (List.mem_cons_of_mem _ m)
          | cons h' r' =>
            obtain ⟨e1, e2⟩ := Mg.mix_at (x := z) hl
            have inh : inL (Mg.mix z (lsOf ps) i) h' := ⟨z :: h' :: r', by rw [e1]; simp, by simp⟩
            have hv := t.cts h' inh
            have hBu : upd G q.1 (.lst (((z :: h' :: r').map V.int).eraseIdx 0)) B = some (.dK kvs) := by rw [upd_ne (Bp q mq)]; exact t.dic
            refine ⟨_, rfl, true, .inl ⟨_, SqL.of hS2, rfl⟩, iteT ?_⟩
            refine ⟨_, rfl, _, rfl, q.1, _, 0, .int h', rfl, rfl, SqL.of hS2, at0 _ _, B, _, rfl, by rw [← hv]; exact DGet.k (k := Sum.inl h') hBu, _, _, rfl, rfl, _, DPut.k (k := Sum.inl h') hBu (small1000 (by have := t.len; omega)), ?_⟩
            refine ⟨_, _, rfl, short _ _ (fun b h1 h2 => by rw [upd_ne h1, upd_ne h2]) (by rw [upd_ne (Bp q mq).symm]; exact hS2) upd_same (by rw [putK_len hv]; exact t.len) ?_⟩
            rw [hqv] at ndq
            refine t.cts.put (fun y hy ne => ?_) ?_ (fun y _ ne => ?_)
            · obtain ⟨r1, hr1, hy⟩ := hy
              rw [e2] at hr1
              rcases List.mem_append.mp hr1 with m | m
              · exact ⟨r1, by rw [e1]; exact List.mem_append_left _ m, hy⟩
              · rcases List.mem_cons.mp m with m | m
                · rw [m, pz] at hy
                  exact ⟨z :: h' :: r', by rw [e1]; simp, List.mem_cons_of_mem _ hy⟩
                · exact ⟨r1, by rw [e1]; exact List.mem_append_right _ (List.mem_cons_of_mem _ m), hy⟩
            · show (Mg.cnt (Mg.mix z (lsOf ps) (i + 1)) h' : Int) = _
              rw [Mg.mix_cons hl ndq, if_pos rfl]
            · show (Mg.cnt (Mg.mix z (lsOf ps) (i + 1)) y : Int) = _
              rw [Mg.mix_cons hl ndq, if_neg ne]
        · rw [decide_eq_false fun e => hzx (V.int.inj e)]
          have nh : (z :: r).head? ≠ some x := fun e => hzx (Option.some.inj e)
          exact iteF ⟨_, kvs, rfl, idle (by rw [hqv]; unfold Mg.pull1; rw [if_neg nh]) (Mg.mix_none hl nh)⟩
    · rintro σ G ⟨v, kvs, rfl, t⟩
      have e : (refsOf ps).length = (lsOf ps).length := by rw [List.length_map, List.length_map]
      have tc := t.cts
      rw [e, Mg.mix_all] at tc
      refine k G kvs t.but ⟨by rw [taken_refs]; exact t.at_, fun p hp => ?_, by rw [taken_fst]; exact own.nd⟩ t.dic t.len tc
      obtain ⟨q, hq, e2⟩ := List.mem_map.mp (show p ∈ ps.map _ from hp)
      subst e2
      obtain ⟨n, hn⟩ := List.getElem?_of_mem hq
      exact t.new n q hn (by have := (List.getElem?_eq_some_iff.mp hn).1; rw [List.length_map]; exact this)
end
end Pr

set_option autoImplicit false
namespace Mg
/-! ### the way that is gone -/
def hasIt (rs : List (List Int)) (x : Int) (i : Nat) : Bool := ((rs[i]?).getD []).tail.contains x
/-- the first rest in which x stands behind, and its first item -/
def nxt (rs : List (List Int)) (x : Int) : Int × Nat :=
  ((rs[((List.range rs.length).filter (hasIt rs x)).headD 0]?.getD []).headD 0, ((List.range rs.length).filter (hasIt rs x)).headD 0)
def wayOf (rs : List (List Int)) (x0 : Int) : Nat → List (Int × Nat)
  | 0 => []
  | m + 1 => wayOf rs x0 m ++ [nxt rs (((x0 :: (wayOf rs x0 m).map (·.1))[m]?).getD 0)]
theorem wayOf_len (rs : List (List Int)) (x0 : Int) : ∀ m, (wayOf rs x0 m).length = m
  | 0 => rfl
  | m + 1 => by
    show (wayOf rs x0 m ++ [_]).length = m + 1
    rw [List.length_append, wayOf_len rs x0 m]
    rfl
theorem wayOf_take (rs : List (List Int)) (x0 : Int) (m : Nat) : ∀ k, (wayOf rs x0 (m + k)).take m = wayOf rs x0 m
  | 0 => List.take_of_length_le (by rw [Nat.add_zero, wayOf_len]; exact Nat.le_refl _)
  | k + 1 => by
    show (wayOf rs x0 (m + k) ++ [_]).take m = _
    rw [List.take_append_of_le_length (by rw [wayOf_len]; omega)]
    exact wayOf_take rs x0 m k
abbrev xsW (rs : List (List Int)) (x0 : Int) (m : Nat) : List Int := x0 :: (wayOf rs x0 m).map (·.1)
theorem xsW_at (rs : List (List Int)) (x0 : Int) {m j : Nat} (h : j ≤ m) (k : Nat) : (xsW rs x0 (m + k))[j]? = (xsW rs x0 m)[j]? := by
  cases j with
  | zero => rfl
  | succ j =>
    show ((wayOf rs x0 (m + k)).map (·.1))[j]? = ((wayOf rs x0 m).map (·.1))[j]?
    rw [← wayOf_take rs x0 m k, List.map_take, List.getElem?_take_of_lt (by omega)]
/-- the ring that is found -/
def RingDet (rs : List (List Int)) (ring : List (Int × Nat)) : Prop := ∃ (x0 : Int) (m p : Nat), (heads rs).head? = some x0 ∧ ((xsW rs x0 m).take m).Nodup ∧ p < m ∧ (xsW rs x0 m)[p]? = (xsW rs x0 m)[m]? ∧ ring = ((wayOf rs x0 m).drop p).reverse
theorem nodup_get {l : List Int} {i j : Nat} {y : Int} (nd : l.Nodup) (hi : l[i]? = some y) (hj : l[j]? = some y) : i = j := by
  obtain ⟨l1, e1⟩ := List.getElem?_eq_some_iff.mp hi
  obtain ⟨l2, e2⟩ := List.getElem?_eq_some_iff.mp hj
  exact nodup_at nd l1 l2 (e1.trans e2.symm)
theorem ring_lt {rs : List (List Int)} {x0 : Int} {m k p : Nat} (nd : ((xsW rs x0 (m + (k + 1))).take (m + (k + 1))).Nodup) (hp : p < m) (hx : (xsW rs x0 m)[p]? = (xsW rs x0 m)[m]?) : False := by
  have lenm : (xsW rs x0 m).length = m + 1 := by simp [wayOf_len]
  obtain ⟨y, hy⟩ : ∃ y, (xsW rs x0 m)[m]? = some y := ⟨_, List.getElem?_eq_getElem (by omega)⟩
  have a : ((xsW rs x0 (m + (k + 1))).take (m + (k + 1)))[p]? = some y := by
    rw [List.getElem?_take_of_lt (by omega), xsW_at rs x0 (by omega), hx]; exact hy
  have b : ((xsW rs x0 (m + (k + 1))).take (m + (k + 1)))[m]? = some y := by
    rw [List.getElem?_take_of_lt (by omega), xsW_at rs x0 (by omega)]; exact hy
  have := nodup_get nd a b
  omega
theorem RingDet.unique {rs : List (List Int)} {r1 r2 : List (Int × Nat)} (h1 : RingDet rs r1) (h2 : RingDet rs r2) : r1 = r2 := by
  obtain ⟨x, m, p, a1, a2, a3, a4, a5⟩ := h1
  obtain ⟨x', m', p', b1, b2, b3, b4, b5⟩ := h2
  rw [a1] at b1
  cases b1
  have em : m = m' := by
    rcases Nat.lt_trichotomy m m' with h | h | h
    · obtain ⟨k, rfl⟩ := Nat.exists_eq_add_of_lt h
      exact (ring_lt (k := k) (by exact b2) a3 a4).elim
    · exact h
    · obtain ⟨k, rfl⟩ := Nat.exists_eq_add_of_lt h
      exact (ring_lt (k := k) (by exact a2) b3 b4).elim
  subst em
  have lenm : (xsW rs x m).length = m + 1 := by simp [wayOf_len]
  obtain ⟨y, hy⟩ : ∃ y, (xsW rs x m)[m]? = some y := ⟨_, List.getElem?_eq_getElem (by omega)⟩
  have ep : p = p' := nodup_get a2 (y := y) (by rw [List.getElem?_take_of_lt a3, a4]; exact hy) (by rw [List.getElem?_take_of_lt b3, b4]; exact hy)
  subst ep
  rw [a5, b5]
end Mg

set_option Elab.async false
set_option linter.all false
set_option maxRecDepth 100000
set_option maxHeartbeats 4000000
namespace Pr
open PySem L2 Two
def tTru (K : PySem.W.Frag) (ta : TE) : TT := fun σ H Q => ta σ H fun x H' => ∃ k, TruV K x H' k ∧ Q k H'
theorem pt_tru {X : Cx} {a : Expr} {ta : TE} (ha : PE X a ta) (he : ∀ whole, isTrue a X.env whole = (do let v ← whole; standAt a.pos; holding [v] (truthy v)) := by intro _; rfl) : PT X a (tTru X.K ta) := pt_truth ha he
theorem inV_ints (x : Int) : ∀ l : List Int, inV (.int x) (l.map V.int) = l.contains x
  | [] => rfl
  | y :: l => by
    have ih := inV_ints x l
    unfold inV at ih ⊢
    rw [List.map_cons, List.any_cons, ih, List.contains_cons]
    congr 1
    show (y == x) = (x == y)
    exact Bool.beq_comm
theorem flat_ints : ∀ l : List Int, (l.map V.int).all flatV = true
  | [] => rfl
  | _ :: l => flat_ints l
theorem nodup_len : ∀ {l m : List Int}, l.Nodup → (∀ x ∈ l, x ∈ m) → l.length ≤ m.length
  | [], _, _, _ => Nat.zero_le _
  | a :: l, m, nd, h => by
    have nd := List.nodup_cons.mp nd
    have ha := h a List.mem_cons_self
    have q := nodup_len (l := l) (m := m.erase a) nd.2 fun x hx => (List.mem_erase_of_ne (fun e : x = a => nd.1 (by rw [← e]; exact hx))).mpr (h x (List.mem_cons_of_mem _ hx))
    have e := List.length_erase_of_mem ha
    have := List.length_pos_of_mem ha
    simp only [List.length_cons]
    omega
theorem heads_len (rs : List (List Int)) : (Mg.heads rs).length ≤ rs.length := List.length_filterMap_le _ _
def hasB (rs : List (List Int)) (x : Int) (i : Nat) : Bool := ((rs[i]?).getD []).tail.contains x
theorem range_snoc (j : Nat) : List.range (j + 1) = List.range j ++ [j] := List.range_succ
theorem cut_drop (xs : List V) (p : Nat) (h : p ≤ xs.length) : cutV xs (some (p : Int)) none = xs.drop p := by
  unfold cutV
  rw [HT.sIx_nat, HT.sIx_none, Nat.min_eq_left h]
  exact List.take_of_length_le (by rw [List.length_drop]; exact Nat.le_refl _)

/-- tuples (item, index) at the addresses beside them -/
def TupsAt (H : Hp) (us : List (Addr × Int × Nat)) : Prop := ∀ u ∈ us, H u.1 = some (.tup [.int u.2.1, .int (u.2.2 : Nat)])
abbrev tupRefs (us : List (Addr × Int × Nat)) : List V := us.map fun u => V.ref u.1
abbrev xsOf (x0 : Int) (us : List (Addr × Int × Nat)) : List Int := x0 :: (us.map (·.2)).map (·.1)
structure RingI (H0 H : Hp) (Wy Pl : Addr) (rs : List (List Int)) (x0 : Int) (us : List (Addr × Int × Nat)) (kvs : List (Key × V)) (cur : Int) : Prop where
  same : Same H0 H
  wy : H Wy = some (.lst (tupRefs us))
  tup : TupsAt H us
  pl : H Pl = some (.dK kvs)
  len : kvs.length = us.length
  way : Mg.Way rs x0 (us.map (·.2))
  cur : (xsOf x0 us)[us.length]? = some cur
  keys : ∀ (k : Nat) (y : Int), k < us.length → (xsOf x0 us)[k]? = some y → valV kvs (.inl y) = some (.int k)
  no : ∀ y, (∀ k, k < us.length → (xsOf x0 us)[k]? ≠ some y) → valV kvs (.inl y) = none
  nd : ((xsOf x0 us).take us.length).Nodup
  mem : ∀ y ∈ xsOf x0 us, y ∈ Mg.heads rs
  det : us.map (·.2) = Mg.wayOf rs x0 us.length
theorem RingI.few {H0 H : Hp} {Wy Pl : Addr} {rs : List (List Int)} {x0 cur : Int} {us : List (Addr × Int × Nat)} {kvs : List (Key × V)} (r : RingI H0 H Wy Pl rs x0 us kvs cur) : us.length ≤ rs.length := by
  have a := nodup_len r.nd fun y hy => r.mem y (List.mem_of_mem_take hy)
  have b := heads_len rs
  rw [List.length_take] at a
  simp only [List.length_cons, List.length_map] at a
  omega
def spRingOf (K : PySem.W.Frag) : Sp := fun vs H Q _ => ∃ (R : Addr) (ps : List (Addr × List Int)), vs = [.ref R] ∧ LofL K H R ps ∧ ps.length ≤ 30 ∧ (∀ p ∈ ps, p.2.Nodup) ∧ Mg.firstFree (lsOf ps) = none ∧ (∃ r ∈ lsOf ps, r ≠ []) ∧
  ∀ (H' : Hp) (q : Addr) (us : List (Addr × Int × Nat)) (x0 : Int) (way : List (Int × Nat)) (p : Nat), Same H H' → H q = none → H' q = some (.lst (tupRefs us)) → TupsAt H' us → Mg.Way (lsOf ps) x0 way → ((x0 :: way.map (·.1)).take way.length).Nodup → p < way.length →
    (x0 :: way.map (·.1))[p]? = (x0 :: way.map (·.1))[way.length]? → us.map (·.2) = (way.drop p).reverse → us.length ≤ 30 → Mg.RingDet (lsOf ps) (us.map (·.2)) → Q (.ref q) H'
section
variable {P : Program} {w : World} {K : PySem.W.Frag} {mg : Str → Option Value} {base : Heap}
theorem scRingOf : FnScope ["rests", "way", "places", "item", "index", "rest", "at"] ["rests"] (defScope sRingOf) := ⟨rfl, rfl, rfl, by decide +kernel, rfl, by decide +kernel, by decide +kernel⟩
def tHeadOf (K : PySem.W.Frag) : TE := tOp (rIxL K) (tVar 5) (tC (.int 0))
def tHasIt (K : PySem.W.Frag) : TT := tTest (tOp (rIn K false) (tVar 3) (tSl (rSlL K) (tVar 5) (tPart (tC (.int 1))) tNoPart))
theorem ok_ringOf {f : Addr} {fd : FuncData} (F : Fun K "_ring_of" "_ring_of" sRingOf f fd) (T : Txt mg) : FnOk P w K mg base CX0 1 f fd ["rests"] (spRingOf K) := by
  refine F.ok scRingOf (fun vs H Q E h => ?_) (fun cdv A outer s H vs Q E hr h => ?_)
  · obtain ⟨R, ps, rfl, _⟩ := h
    rfl
  · obtain ⟨R, ps, rfl, hL, few, nds, stuck, ⟨r1, hr1, ne1⟩, k⟩ := h
    have hu := hu_of hr
    have szR : (refsOf ps).length ≤ 30 := by rw [List.length_map]; exact few
    refine ⟨_, pss_cons (ps_set (i := 1) scRingOf.nd rfl (Or.inl rfl) (pe_lst pa_nil)) (pss_cons (ps_set (i := 2) scRingOf.nd rfl (Or.inl rfl) pe_dnewK)
      (pss_cons (ps_set (i := 3) scRingOf.nd rfl (Or.inr rfl) (pe_ix ix_list (pe_lc (own := [("rest", 5)]) (g := gName 5) (tt := tTru K (tVar 5)) (te := tHeadOf K) rfl scRingOf.nd (pi_list (pv 0)) (blkOk_by (N := ["rests", "way", "places", "item", "index", "rest", "at"]) (sc := defScope sRingOf) (by decide +kernel))
          (fun _ _ _ _ _ => pg_name (i := 5) scRingOf.nd rfl (Or.inl rfl)) (fun _ _ _ _ _ => pts_one (pt_tru (pv 5))) (fun _ _ _ _ _ => pe_ix ix_list (pv 5) pe_int (fun _ _ => rfl))) pe_int (fun _ _ => rfl)))
      (pss_cons (ps_while PassesOwn.never (pt_cmp (pc_dnotin hu (pv 3) (pv 2)))
        (pss_cons (ps_dput hu (pv 2) (pv 3) (pe_callB call_len_seq (by rfl) T.len PySem.boot_len (pa_cons (pv 1) pa_nil)) rfl)
        (pss_cons (ps_set (i := 4) scRingOf.nd rfl (Or.inl rfl) (pe_ix ix_list (pe_lc (own := [("at", 6), ("rest", 5)]) (g := gTup K 2 (gCons (gName 6) (gCons (gName 5) gNil))) (tt := tHasIt K) (te := tVar 6) rfl scRingOf.nd (pi_enum (by rfl) T.enum (pa_cons (pv 0) pa_nil)) (blkOk_by (N := ["rests", "way", "places", "item", "index", "rest", "at"]) (sc := defScope sRingOf) (by decide +kernel))
            (fun _ _ _ _ _ => pg_tup rfl (pgs_cons (pg_name (i := 6) scRingOf.nd rfl (Or.inl rfl)) (pgs_cons (pg_name (i := 5) scRingOf.nd rfl (Or.inl rfl)) pgs_nil))) (fun _ _ _ _ _ => pts_one (pt_cmpR op_in_seq (pv 3) (pe_slice sl_list (pv 5) (po_some pe_int) po_none) (by rfl))) (fun _ _ _ _ _ => pv 6)) pe_int (fun _ _ => rfl)))
        (pss_cons (ps_set (i := 3) scRingOf.nd rfl (Or.inr rfl) (pe_ix ix_list (pe_ix ix_list (pv 0) (pv 4) (fun _ _ => rfl)) pe_int (fun _ _ => rfl)))
        (pss_one (ps_expr (pe_bm PySem.F.plainAttrs_list PySem.F.slot_list_append PySem.F.type_list_append mt_append (pv 1) (pa_cons (pe_tup (pa_cons (pv 3) (pa_cons (pv 4) pa_nil))) pa_nil))))))))
      (pss_one (ps_ret (pe_revL (pe_slice sl_list (pv 1) (po_some (pe_dget hu (pv 2) (pv 3) (fun _ _ => rfl))) po_none))))))), ?_⟩
    refine ⟨Nat.zero_le _, fun Wy nWy => fun Pl nPl0 => ?_⟩
    have nPl : H Pl = none := none_of_same (same_new nWy) nPl0
    have WP : Wy ≠ Pl := fun e => by rw [← e, upd_same] at nPl0; cases nPl0
    have s0 : Same H (upd (upd H Wy (.lst [])) Pl (.dK [])) := same_upd (same_new nWy) nPl
    refine ⟨_, rfl, R, rfl, ⟨_, s0.seq hL.1⟩, fun D1 hD1 => lc_list (K := K) (a := R) (xs := refsOf ps) (fun j G => Same (upd (upd H Wy (.lst [])) Pl (.dK [])) G ∧ G D1 = some (.lst ((Mg.heads ((lsOf ps).take j)).map V.int)))
      ⟨same_new hD1, upd_same⟩ (fun j G _ p => (s0.trans p.1).seq hL.1) (fun j x G hx p => ?_) (fun G p => ?_)⟩
    · obtain ⟨q, hq, rfl⟩ := get_map hx
      have mq := List.mem_of_getElem? hq
      have hS := (s0.trans p.1).seq (hL.2 q mq)
      have hl := lsOf_at hq
      refine ⟨rfl, ?_⟩
      rcases hqv : q.2 with _ | ⟨z, t⟩
      · rw [hqv] at hS hl
        refine ⟨_, rfl, false, .inl ⟨_, hS, rfl⟩, iteF ⟨p.1, ?_⟩⟩
        rw [take_snoc hl, heads_snoc_nil]
        exact p.2
      · rw [hqv] at hS hl
        refine ⟨_, rfl, true, .inl ⟨_, hS, rfl⟩, iteT ⟨_, rfl, q.1, _, 0, .int z, rfl, rfl, hS, at0 _ _, _, p.2, ?_, same_upd p.1 hD1, ?_⟩⟩
        · have a1 := heads_len ((lsOf ps).take j)
          rw [List.length_map]
          refine small1000 ?_
          rw [List.length_take, List.length_map] at a1
          omega
        · rw [upd_same, take_snoc hl, heads_snoc, List.map_append]
          rfl
    · obtain ⟨s1, hD⟩ := p
      have e : (lsOf ps).take (refsOf ps).length = lsOf ps := List.take_of_length_le (by rw [List.length_map, List.length_map]; exact Nat.le_refl _)
      rw [e] at hD
      obtain ⟨x0, xt, hx0⟩ : ∃ x0 xt, Mg.heads (lsOf ps) = x0 :: xt := by
        cases hh : Mg.heads (lsOf ps) with
        | cons x0 xt => exact ⟨x0, xt, rfl⟩
        | nil =>
          exfalso
          cases r1 with
          | nil => exact ne1 rfl
          | cons z t =>
            have q : z ∈ Mg.heads (lsOf ps) := Mg.mem_heads.mpr ⟨z :: t, hr1, rfl⟩
            rw [hh] at q
            cases q
      have hD2 := hD
      rw [hx0] at hD2
      refine ⟨D1, _, 0, .int x0, rfl, rfl, SqL.of hD2, at0 _ _, ?_⟩
      have start : RingI H G Wy Pl (lsOf ps) x0 [] [] x0 := ⟨s0.trans s1, s1 _ _ (by rw [upd_ne WP]; exact upd_same), (fun u hu => nomatch hu), s1 _ _ upd_same, rfl, Mg.Way.nil, rfl, (fun k y h => nomatch h), fun y _ => rfl, List.nodup_nil, fun y hy => by
        rw [List.mem_singleton.mp hy, hx0]
        exact List.mem_cons_self, rfl⟩
      show tSeq _ _ _ ([some (.ref R), some (.ref Wy), some (.ref Pl), none, none, none, none].set 3 (some (.int x0))) G
      refine while_by (fun σ G => ∃ (v4 : Option V) (us : List (Addr × Int × Nat)) (kvs : List (Key × V)) (cur : Int), σ = [some (.ref R), some (.ref Wy), some (.ref Pl), some (.int cur), v4, none, none] ∧ RingI H G Wy Pl (lsOf ps) x0 us kvs cur)
        (fun σ G => match G Pl with | some (.dK kvs) => 31 - kvs.length | _ => 0) ⟨none, [], [], x0, rfl, start⟩ ?_ ?_
      · rintro σ G ⟨v4, us, kvs, cur, rfl, I⟩
        have fewU : us.length ≤ 30 := by have := I.few; rw [List.length_map] at this; omega
        refine ⟨_, rfl, _, rfl, Pl, _, rfl, DGet.k (k := Sum.inl cur) I.pl, _, rfl, ?_⟩
        cases hv : valV kvs (Sum.inl cur) with
        | some v =>
          refine iteF ?_
          -- the end
          obtain ⟨p, hp, hpx⟩ : ∃ p, p < us.length ∧ (xsOf x0 us)[p]? = some cur := Decidable.byContradiction fun n => by
            rw [I.no cur fun k hk e => n ⟨k, hk, e⟩] at hv
            cases hv
          have hv2 := I.keys p cur hp hpx
          have dg : DGet G Pl (.int cur) (some (.int (p : Nat))) := by rw [← hv2]; exact DGet.k (k := Sum.inl cur) I.pl
          refine ⟨_, rfl, _, rfl, _, rfl, Pl, .int (p : Nat), rfl, dg, (p : Nat), rfl, Wy, _, rfl, SqL.of I.wy, fun L hL2 => ?_⟩
          rw [cut_drop _ _ (by rw [List.length_map]; omega)]
          refine ⟨L, _, rfl, SqL.of upd_same, fun q hq => ?_⟩
          have sL : Same G (upd (upd G L (.lst ((tupRefs us).drop p))) q (.lst ((tupRefs us).drop p).reverse)) := same_upd (same_new hL2) (none_of_same (same_new hL2) hq)
          refine k _ q (us.drop p).reverse x0 (us.map (·.2)) p (I.same.trans sL) (none_of_same (I.same.trans (same_new hL2)) hq) ?_ (fun u hu => sL _ _ (I.tup u (List.mem_of_mem_drop (List.mem_reverse.mp hu)))) I.way ?_ (by rw [List.length_map]; exact hp) ?_ ?_ ?_ ?_
          · unfold tupRefs; rw [upd_same, List.map_reverse, List.map_drop]
          · rw [List.length_map]; exact I.nd
          · rw [List.length_map, I.cur]; exact hpx
          · rw [List.map_reverse, List.map_drop]
          · rw [List.length_reverse, List.length_drop]; omega
          · have e := I.det
            refine ⟨x0, us.length, p, by rw [hx0]; rfl, ?_, hp, ?_, ?_⟩
            · unfold Mg.xsW; rw [← e]; exact I.nd
            · unfold Mg.xsW; rw [← e]; exact hpx.trans I.cur.symm
            · rw [← e, List.map_reverse, List.map_drop]
        | none =>
          refine iteT ?_
          have curIn : cur ∈ Mg.heads (lsOf ps) := I.mem cur (List.mem_of_getElem? I.cur)
          have szU : (tupRefs us).length = us.length := by rw [List.length_map]
          refine ⟨_, rfl, Wy, _, rfl, .inl (SqL.of I.wy), _, rfl, _, rfl, Pl, _, rfl, DPut.k (k := Sum.inl cur) I.pl (small1000 (by rw [I.len]; omega)), ?_⟩
          rw [szU]
          obtain ⟨kvs2, hkv⟩ : ∃ z, z = putK kvs (Sum.inl cur) (.int (us.length : Nat)) := ⟨_, rfl⟩
          rw [← hkv]
          have len2 : kvs2.length = us.length + 1 := by rw [hkv, putK_new _ hv, List.length_append, I.len]; rfl
          obtain ⟨G1, hG1⟩ : ∃ z, z = upd G Pl (.dK kvs2) := ⟨_, rfl⟩
          rw [← hG1]
          have s1 : Same H G1 := by rw [hG1]; exact same_upd I.same nPl
          have wy1 : G1 Wy = some (.lst (tupRefs us)) := by rw [hG1, upd_ne WP]; exact I.wy
          have pl1 : G1 Pl = some (.dK kvs2) := by rw [hG1]; exact upd_same
          have tup1 : TupsAt G1 us := fun u hu => by rw [hG1, upd_ne (ne_of (I.tup u hu) I.pl (by intro e; cases e))]; exact I.tup u hu
          refine ⟨_, rfl, R, _, rfl, s1.seq hL.1, fun D2 hD2 => lc_it (walk_enum (K := K) (a := R) (xs := refsOf ps)) (fun j G' => Same G1 G' ∧ G' D2 = some (.lst (((List.range j).filter (hasB (lsOf ps) cur)).map fun i => V.int (i : Nat))))
            ⟨same_new hD2, upd_same⟩ (fun j G' _ p => (s1.trans p.1).seq hL.1) (fun j x G2 G3 hj p y => ?_) (fun G2 p => ?_)⟩
          · obtain ⟨T1, a1, y1, rfl, nT, rfl, e1, e2⟩ := y
            cases e1
            obtain ⟨q, hq, rfl⟩ := get_map e2
            have mq := List.mem_of_getElem? hq
            have nTD : D2 ≠ T1 := ne_of_none p.2 nT
            have s2 : Same G1 (upd G2 T1 (.tup [.int (j : Nat), .ref q.1])) := same_upd p.1 (none_of_same p.1 nT)
            refine ⟨T1, _, rfl, SqT.of upd_same, rfl, _, _, rfl, _, _, rfl, rfl, rfl, ?_⟩
            refine ⟨_, rfl, _, rfl, 1, rfl, q.1, _, rfl, (s1.trans s2).seq (hL.2 q mq), fun L hL2 => ?_⟩
            rw [cut_tail, ← List.map_tail]
            refine ⟨L, _, rfl, .inl (SqL.of upd_same), rfl, flat_ints _, _, rfl, ?_⟩
            rw [inV_ints]
            have e3 : q.2.tail.contains cur = hasB (lsOf ps) cur j := by unfold hasB; rw [lsOf_at hq]; rfl
            have s3 : Same G1 (upd (upd G2 T1 (.tup [.int (j : Nat), .ref q.1])) L (.lst (q.2.tail.map V.int))) := same_upd s2 (none_of_same s2 hL2)
            have d3 : (upd (upd G2 T1 (.tup [.int (j : Nat), .ref q.1])) L (.lst (q.2.tail.map V.int))) D2 = some (.lst (((List.range j).filter (hasB (lsOf ps) cur)).map fun i => V.int (i : Nat))) := by
              rw [upd_ne (ne_of_none (show (upd G2 T1 (.tup [.int (j : Nat), .ref q.1])) D2 = _ by rw [upd_ne nTD]; exact p.2) hL2), upd_ne nTD]
              exact p.2
            show if (if false = true then !q.2.tail.contains cur else q.2.tail.contains cur) = true then _ else _
            rw [if_neg Bool.false_ne_true, e3]
            cases hb : hasB (lsOf ps) cur j with
            | false =>
              refine iteF ⟨s3, ?_⟩
              rw [range_snoc, List.filter_append, List.filter_cons_of_neg (by rw [hb]; decide), d3]
              simp
            | true =>
              refine iteT ⟨_, rfl, _, d3, ?_, same_upd s3 hD2, ?_⟩
              · refine small1000 ?_
                have := List.length_filter_le (hasB (lsOf ps) cur) (List.range j)
                rw [List.length_range] at this
                rw [List.length_map]
                omega
              · rw [upd_same, range_snoc, List.filter_append, List.filter_cons_of_pos hb, List.map_append]
                rfl
          · obtain ⟨s2, hD3⟩ := p
            obtain ⟨i0, F', hF⟩ : ∃ i0 F', (List.range (refsOf ps).length).filter (hasB (lsOf ps) cur) = i0 :: F' := by
              cases hh : (List.range (refsOf ps).length).filter (hasB (lsOf ps) cur) with
              | cons i0 F' => exact ⟨i0, F', rfl⟩
              | nil =>
                exfalso
                obtain ⟨r, hr, hc⟩ := Mg.firstFree_none stuck curIn
                obtain ⟨n, hn⟩ := List.getElem?_of_mem hr
                have lt := (List.getElem?_eq_some_iff.mp hn).1
                have q := List.filter_eq_nil_iff.mp hh n (List.mem_range.mpr (by rw [List.length_map] at lt ⊢; exact lt))
                unfold hasB at q
                rw [hn] at q
                exact q (List.contains_iff_mem.mpr hc)
            have mF : i0 ∈ (List.range (refsOf ps).length).filter (hasB (lsOf ps) cur) := by rw [hF]; exact List.mem_cons_self
            obtain ⟨m1, m2⟩ := List.mem_filter.mp mF
            have lt0 : i0 < ps.length := by have := List.mem_range.mp m1; rw [List.length_map] at this; exact this
            have hq : ps[i0]? = some ps[i0] := List.getElem?_eq_getElem lt0
            generalize ps[i0] = q at hq
            have mq := List.mem_of_getElem? hq
            have hl := lsOf_at hq
            have cq : cur ∈ q.2.tail := by unfold hasB at m2; rw [hl] at m2; exact List.contains_iff_mem.mp m2
            obtain ⟨a, t, hqv⟩ : ∃ a t, q.2 = a :: t := by
              cases hh : q.2 with
              | nil => rw [hh] at cq; cases cq
              | cons a t => exact ⟨a, t, rfl⟩
            rw [hqv] at cq hl
            rw [hF] at hD3
            have hS := (s1.trans s2).seq (hL.2 q mq)
            rw [hqv] at hS
            have ref0 : (refsOf ps)[i0]? = some (V.ref q.1) := by rw [List.getElem?_map, hq]; rfl
            refine ⟨D2, _, 0, .int (i0 : Nat), rfl, rfl, SqL.of hD3, atI_nat (xs := (i0 :: F').map fun i => V.int (i : Nat)) (j := 0) rfl, ?_⟩
            refine ⟨_, rfl, _, rfl, R, _, (i0 : Nat), .ref q.1, rfl, rfl, (s1.trans s2).seq hL.1, atI_nat ref0, q.1, _, 0, .int a, rfl, rfl, hS, at0 _ _, ?_⟩
            have wy2 := s2 _ _ wy1
            refine ⟨_, rfl, .inl ⟨rfl, _, SqL.of wy2⟩, _, rfl, _, rfl, by show 2 ≤ sizeLine; decide, fun t' ht' => ?_⟩
            have W' : Wy ≠ t' := ne_of_none wy2 ht'
            refine ⟨Wy, _, _, rfl, rfl, by rw [upd_ne W']; exact wy2, small1000 (by rw [szU]; omega), ?_⟩
            have s4 : Same H (upd (upd G2 t' (.tup [.int a, .int (i0 : Nat)])) Wy (.lst (tupRefs us ++ [.ref t']))) := same_upd (same_upd (s1.trans s2) (none_of_same (s1.trans s2) ht')) nWy
            have pl4 : (upd (upd G2 t' (.tup [.int a, .int (i0 : Nat)])) Wy (.lst (tupRefs us ++ [.ref t']))) Pl = some (.dK kvs2) := by
              have pl2 := s2 _ _ pl1
              rw [upd_ne WP.symm, upd_ne (ne_of_none pl2 ht')]
              exact pl2
            have xs' : xsOf x0 (us ++ [(t', a, i0)]) = xsOf x0 us ++ [a] := by simp
            have lx : (xsOf x0 us).length = us.length + 1 := by simp
            have curAt : ∀ k y, k < us.length → (xsOf x0 us)[k]? = some y → y ≠ cur := fun k y hk hy e => by
              have q := I.keys k y hk hy
              rw [e, hv] at q
              cases q
            have aIn : a ∈ Mg.heads (lsOf ps) := Mg.mem_heads.mpr ⟨a :: t, List.mem_of_getElem? hl, rfl⟩
            refine ⟨⟨_, us ++ [(t', a, i0)], kvs2, a, rfl, ⟨s4, by unfold tupRefs; rw [upd_same, List.map_append]; rfl, fun u hu => ?_, pl4, by rw [len2, List.length_append]; rfl, ?_, ?_, fun k y hk hy => ?_, fun y hy => ?_, ?_, fun y hy => ?_, ?_⟩⟩, ?_⟩
            · rcases List.mem_append.mp hu with m | m
              · have t2 := s2 _ _ (tup1 u m)
                rw [upd_ne (ne_of t2 wy2 (by intro e; cases e)), upd_ne (ne_of_none t2 ht')]
                exact t2
              · rw [List.mem_singleton.mp m, upd_ne W'.symm]
                exact upd_same
            · rw [List.map_append]
              exact I.way.snoc (by rw [List.length_map]; exact I.cur) hl cq
            · rw [xs', List.length_append]
              rw [List.getElem?_append_right (by rw [lx]; simp)]
              simp
            · rw [List.length_append] at hk
              have hk : k < us.length + 1 := hk
              rw [xs', List.getElem?_append_left (by rw [lx]; exact hk)] at hy
              rw [hkv, valV_put]
              by_cases e : k < us.length
              · rw [if_neg (fun q => curAt k y e hy (Sum.inl.inj q))]
                exact I.keys k y e hy
              · have e2 : k = us.length := by omega
                subst e2
                rw [I.cur] at hy
                cases hy
                rw [if_pos rfl]
            · have ny : y ≠ cur := fun e => hy us.length (by rw [List.length_append]; simp) (by rw [xs', List.getElem?_append_left (by rw [lx]; omega), e]; exact I.cur)
              rw [hkv, valV_put, if_neg (fun q => ny (Sum.inl.inj q))]
              refine I.no y fun k hk e => hy k (by rw [List.length_append]; omega) ?_
              rw [xs', List.getElem?_append_left (by rw [lx]; omega)]
              exact e
            · have e : (xsOf x0 (us ++ [(t', a, i0)])).take (us ++ [(t', a, i0)]).length = (xsOf x0 us).take us.length ++ [cur] := by
                rw [xs', List.length_append]
                show ((xsOf x0 us) ++ [a]).take (us.length + 1) = _
                rw [List.take_append_of_le_length (by rw [lx]; exact Nat.le_refl _), take_snoc I.cur]
              rw [e]
              refine List.nodup_append.mpr ⟨I.nd, by simp, fun b hb c hc => ?_⟩
              rw [List.mem_singleton.mp hc]
              obtain ⟨n, hn⟩ := List.getElem?_of_mem hb
              have ln : n < us.length := by
                have := (List.getElem?_eq_some_iff.mp hn).1
                rw [List.length_take] at this
                omega
              rw [List.getElem?_take_of_lt ln] at hn
              exact curAt n b ln hn
            · rw [xs'] at hy
              rcases List.mem_append.mp hy with m | m
              · exact I.mem y m
              · rw [List.mem_singleton.mp m]
                exact aIn
            · have e : (us ++ [(t', a, i0)]).length = us.length + 1 := by rw [List.length_append]; rfl
              rw [e]
              show (us ++ [(t', a, i0)]).map (·.2) = Mg.wayOf (lsOf ps) x0 us.length ++ [_]
              rw [List.map_append, I.det]
              show _ ++ [(a, i0)] = _
              congr 2
              have ec : ((x0 :: (Mg.wayOf (lsOf ps) x0 us.length).map (·.1))[us.length]?).getD 0 = cur := by
                rw [← I.det]
                have c := I.cur
                unfold xsOf at c
                rw [c]
                rfl
              rw [ec]
              unfold Mg.nxt
              have ef : (List.range (lsOf ps).length).filter (Mg.hasIt (lsOf ps) cur) = i0 :: F' := by
                have z : (lsOf ps).length = (refsOf ps).length := by rw [List.length_map, List.length_map]
                rw [z]
                exact hF
              rw [ef]
              show (a, i0) = ((((lsOf ps)[i0]?).getD []).headD 0, i0)
              rw [hl]
              rfl
            · show (match (upd (upd G2 t' (.tup [.int a, .int (i0 : Nat)])) Wy (.lst (tupRefs us ++ [.ref t']))) Pl with | some (.dK kvs) => 31 - kvs.length | _ => 0) < (match G Pl with | some (.dK kvs) => 31 - kvs.length | _ => 0)
              rw [pl4, I.pl]
              show 31 - kvs2.length < 31 - kvs.length
              rw [len2, I.len]
              omega
      · rintro σ G Q1 Q2 imp ⟨x, hx, y, hy, a, o, h1, h2, c, h3, h4⟩
        exact ⟨x, hx, y, hy, a, o, h1, h2, c, h3, imp _ _ h4⟩
end
end Pr

set_option Elab.async false
set_option linter.all false
set_option maxRecDepth 100000
set_option maxHeartbeats 4000000
namespace Pr
open PySem L2 Two
theorem while_m {c : TT} {tb : TS} {D : Ends} {σ : L2.St} {H : Hp} (W : Nat → L2.St → Hp → Prop) (h0 : ∃ m, W m σ H)
    (hs : ∀ m σ H, W m σ H → c σ H fun b H1 => if b = true then tb { D with nx := fun σ' H' => ∃ m', m' < m ∧ W m' σ' H', ct := fun σ' H' => ∃ m', m' < m ∧ W m' σ' H', bk := D.nx } σ H1 else D.nx σ H1)
    (mono : ∀ σ H Q Q', (∀ b H1, Q b H1 → Q' b H1) → c σ H Q → c σ H Q') : tWhile c tb D σ H := by
  refine ⟨W, h0, fun m σ H w => mono σ H _ _ (fun b H1 q => ?_) (hs m σ H w)⟩
  cases b with
  | true => exact ⟨_, fun σ' H' z => z, q⟩
  | false => exact q
def rListQ (K : PySem.W.Frag) : List V → Hp → VK → Prop := fun xs H Q => ∃ p ys, xs = [V.ref p] ∧ (SqL K H p ys ∨ SqT K H p ys) ∧ ∀ l, H l = none → Q (.ref l) (upd H l (.lst ys))
theorem call_listQ {X : Cx} : CallR X (.type "list") (rListQ X.K) := call_list_of
/-- lists of lists of ints as data -/
def intsD (l : List Int) : PyData := .list (l.map PyData.int)
def listsD (ls : List (List Int)) : PyData := .list (ls.map intsD)
theorem dp_ints {K : PySem.W.Frag} {H : Hp} : ∀ l : List Int, DpAll K H (l.map V.int) (l.map PyData.int)
  | [] => .nil
  | z :: l => .cons (.int z) (dp_ints l)
theorem dp_list {K : PySem.W.Frag} {H : Hp} {a : Addr} {l : List Int} (h : SqL K H a (l.map V.int)) : Dp K H (.ref a) (intsD l) := .lst h (dp_ints l)
theorem dp_lists {K : PySem.W.Frag} {H : Hp} {a : Addr} {ps : List (Addr × List Int)} (h : LofL K H a ps) : Dp K H (.ref a) (listsD (lsOf ps)) := by
  refine .lst h.1 ?_
  have q : ∀ qs : List (Addr × List Int), (∀ p ∈ qs, SqL K H p.1 (p.2.map V.int)) → DpAll K H (qs.map fun p => V.ref p.1) ((lsOf qs).map intsD) := by
    intro qs
    induction qs with
    | nil => intro _; exact .nil
    | cons p qs ih => intro hq; exact .cons (dp_list (hq p List.mem_cons_self)) (ih fun r hr => hq r (List.mem_cons_of_mem _ hr))
  exact q ps h.2
theorem plain_ints : ∀ l : List Int, PyData.plainAll (l.map PyData.int) = true
  | [] => rfl
  | _ :: l => by
    show (PyData.plain (.int _) && PyData.plainAll (l.map PyData.int)) = true
    rw [plain_ints l]
    rfl
theorem plain_lists : ∀ ls : List (List Int), PyData.plainAll (ls.map intsD) = true
  | [] => rfl
  | l :: ls => by
    show (PyData.plainAll (l.map PyData.int) && PyData.plainAll (ls.map intsD)) = true
    rw [plain_ints, plain_lists ls]
    rfl
theorem truthy_lists : ∀ ls : List (List Int), (ls.map intsD).any PyData.truthy = ls.any fun l => !l.isEmpty
  | [] => rfl
  | l :: ls => by
    rw [List.map_cons, List.any_cons, List.any_cons, truthy_lists ls]
    congr 1
    cases l <;> rfl

/-- what merge hands back -/
def MergeOut (H H' : Hp) (ls : List (List Int)) (v : V) : Prop := ∃ t q : Addr, v = .ref t ∧ H t = none ∧ H q = none ∧
  ((∃ n, (∀ r ∈ (Mg.st ls n).2, r = []) ∧ H' t = some (.tup [.str "order", .ref q]) ∧ H' q = some (.lst ((Mg.st ls n).1.map V.int))) ∨
   (∃ (n : Nat) (us : List (Addr × Int × Nat)), Mg.firstFree (Mg.st ls n).2 = none ∧ (∃ r ∈ (Mg.st ls n).2, r ≠ []) ∧ H' t = some (.tup [.str "ring", .ref q]) ∧ H' q = some (.lst (tupRefs us)) ∧ TupsAt H' us ∧ Mg.IsRing ls (us.map (·.2)) ∧ us.length ≤ 30 ∧ Mg.RingDet (Mg.st ls n).2 (us.map (·.2))))
def spMerge (K : PySem.W.Frag) : Sp := fun vs H Q _ => ∃ (a : Addr) (ps : List (Addr × List Int)), vs = [.ref a] ∧ LofL K H a ps ∧ Fit ps ∧ ∀ v H', Same H H' → MergeOut H H' (lsOf ps) v → Q v H'
theorem scMerge : FnScope ["lists", "rests", "behind", "order", "item", "items"] ["lists"] (defScope sMerge) := ⟨rfl, rfl, rfl, by decide +kernel, rfl, by decide +kernel, by decide +kernel⟩
/-- what holds between two turns of merge -/
structure MrgI (H G : Hp) (R B O : Addr) (ls : List (List Int)) (as : List Addr) (n : Nat) (qs : List (Addr × List Int)) (kvs : List (Key × V)) : Prop where
  same : Same H G
  own : Own G R qs
  fst : qs.map (·.1) = as
  snd : lsOf qs = (Mg.st ls n).2
  dic : G B = some (.dK kvs)
  len : kvs.length ≤ 900
  cts : Cts kvs (inL (lsOf qs)) (fun y => Mg.cnt (lsOf qs) y)
  ord : G O = some (.lst ((Mg.st ls n).1.map V.int))
theorem st_len_le (ls : List (List Int)) : ∀ n, ∀ (i : Nat) (r : List Int), (Mg.st ls n).2[i]? = some r → ∃ l ∈ ls, r.length ≤ l.length
  | 0, i, r, h => ⟨r, List.mem_of_getElem? h, Nat.le_refl _⟩
  | n + 1, i, r, h => by
    cases hf : Mg.firstFree (Mg.st ls n).2 with
    | none => rw [Mg.st_none hf] at h; exact st_len_le ls n i r h
    | some x =>
      rw [Mg.st_some hf] at h
      obtain ⟨r0, h0, rfl⟩ := get_map (f := Mg.pull1 x) h
      obtain ⟨l, hl, e⟩ := st_len_le ls n i r0 h0
      exact ⟨l, hl, Nat.le_trans (Mg.pull1_le x r0) e⟩
theorem st_short {ls : List (List Int)} (h : ∀ l ∈ ls, l.length ≤ 30) (n : Nat) : ∀ r ∈ (Mg.st ls n).2, r.length ≤ 30 := fun r hr => by
  obtain ⟨i, hi⟩ := List.getElem?_of_mem hr
  obtain ⟨l, hl, e⟩ := st_len_le ls n i r hi
  exact Nat.le_trans e (h l hl)
theorem sum_le (ls : List (List Int)) (h : ∀ l ∈ ls, l.length ≤ 30) : Mg.size ls ≤ 30 * ls.length := by
  induction ls with
  | nil => exact Nat.le_refl _
  | cons l ls ih =>
    have a := h l List.mem_cons_self
    have b := ih fun x hx => h x (List.mem_cons_of_mem _ hx)
    show l.length + Mg.size ls ≤ _
    rw [List.length_cons]
    omega
theorem st_ord_len (ls : List (List Int)) : ∀ n, (Mg.st ls n).1.length + Mg.size (Mg.st ls n).2 ≤ Mg.size ls
  | 0 => by show 0 + Mg.size ls ≤ _; omega
  | n + 1 => by
    have ih := st_ord_len ls n
    cases hf : Mg.firstFree (Mg.st ls n).2 with
    | none => rw [Mg.st_none hf]; exact ih
    | some x =>
      have q := Mg.size_step hf
      rw [Mg.st_some hf]
      simp only [List.length_append, List.length_singleton]
      omega
section
variable {P : Program} {w : World} {K : PySem.W.Frag} {mg : Str → Option Value} {base : Heap}
theorem ok_merge {f fC fT fF fK fR : Addr} {fd fdC fdT fdF fdK fdR : FuncData} (F : Fun K "merge" "merge" sMerge f fd) (T : Txt mg)
    (gC : mg "_check_lists" = some (.ref fC)) (kC : PySem.W.keepIn K (.ref fC) = true) (bC : Binds K fdC ["lists"] []) (GC : FnOk P w K mg base CX0 3 fC fdC ["lists"] (spCheck K))
    (gT : mg "_times_behind" = some (.ref fT)) (kT : PySem.W.keepIn K (.ref fT) = true) (bT : Binds K fdT ["lists"] []) (GT : FnOk P w K mg base CX0 1 fT fdT ["lists"] (spTimes K))
    (gF : mg "_first_free" = some (.ref fF)) (kF : PySem.W.keepIn K (.ref fF) = true) (bF : Binds K fdF ["rests", "behind"] []) (GF : FnOk P w K mg base CX0 1 fF fdF ["rests", "behind"] (spFree K))
    (gK : mg "_take" = some (.ref fK)) (kK : PySem.W.keepIn K (.ref fK) = true) (bK : Binds K fdK ["item", "rests", "behind"] []) (GK : FnOk P w K mg base CX0 1 fK fdK ["item", "rests", "behind"] spTake)
    (gR : mg "_ring_of" = some (.ref fR)) (kR : PySem.W.keepIn K (.ref fR) = true) (bR : Binds K fdR ["rests"] []) (GR : FnOk P w K mg base CX0 1 fR fdR ["rests"] (spRingOf K)) :
    FnOk P w K mg base CX0 4 f fd ["lists"] (spMerge K) := by
  refine F.ok scMerge (fun vs H Q E h => ?_) (fun cdv A outer s H vs Q E hr h => ?_)
  · obtain ⟨a, ps, rfl, _⟩ := h
    rfl
  · obtain ⟨a, ps, rfl, hL, fit, k⟩ := h
    have hu := hu_of hr
    have hr1 : Room 1 _ := hr.mono (by decide)
    refine ⟨_, pss_cons (ps_expr (pe_call GC hr rfl gC kC bC .nil pass0 (pa_cons (pv 0) pa_nil)))
      (pss_cons (ps_setLc (i := 1) (own := [("items", 5)]) (g := gName 5) (tt := tYes) (te := tCB (rListQ K) (tCons (tVar 5) tNil)) rfl scMerge.nd rfl rfl (sw_true rfl rfl rfl (by decide +kernel)) (pi_list (pv 0)) (blkOk_by (N := ["lists", "rests", "behind", "order", "item", "items"]) (sc := defScope sMerge) (by decide +kernel))
          (fun _ _ _ _ _ => pg_name (i := 5) scMerge.nd rfl (Or.inl rfl)) (fun _ _ _ _ _ => pts_nil) (fun _ _ _ _ _ => pe_callTy call_listQ (by rfl) T.list (by decide +kernel) (pa_cons (pv 5) pa_nil)))
      (pss_cons (ps_set (i := 2) scMerge.nd rfl (Or.inl rfl) (pe_call GT hr1 rfl gT kT bT .nil pass0 (pa_cons (pv 0) pa_nil)))
      (pss_cons (ps_set (i := 3) scMerge.nd rfl (Or.inl rfl) (pe_lst pa_nil))
      (pss_cons (ps_while PassesOwn.never (pt_val (pe_callB (cr_anyD rfl) (by rfl) T.any (by decide +kernel) (pa_cons (pv 1) pa_nil)))
        (pss_cons (ps_set (i := 4) scMerge.nd rfl (Or.inl rfl) (pe_call GF hr1 rfl gF kF bF .nil pass0 (pa_cons (pv 1) (pa_cons (pv 2) pa_nil))))
        (pss_cons (ps_if (pt_cmpR op_isN (pv 4) pe_non (nomark _)) (pss_one (ps_ret (pe_tup (pa_cons pe_str (pa_cons (pe_call GR hr1 rfl gR kR bR .nil pass0 (pa_cons (pv 1) pa_nil)) pa_nil))))) pss_nil)
        (pss_cons (ps_expr (pe_bm PySem.F.plainAttrs_list PySem.F.slot_list_append PySem.F.type_list_append mt_append (pv 3) (pa_cons (pv 4) pa_nil)))
        (pss_one (ps_expr (pe_call GK hr1 rfl gK kK bK .nil pass0 (pa_cons (pv 4) (pa_cons (pv 1) (pa_cons (pv 2) pa_nil))))))))))
      (pss_one (ps_ret (pe_tup (pa_cons pe_str (pa_cons (pv 3) pa_nil))))))))), ?_⟩
    have fewL : (lsOf ps).length ≤ 30 := by rw [List.length_map]; exact fit.few
    have shortL : ∀ l ∈ lsOf ps, l.length ≤ 30 := fun l hl => by obtain ⟨p, hp, rfl⟩ := List.mem_map.mp hl; exact fit.short p hp
    have ndL : ∀ l ∈ lsOf ps, l.Nodup := fun l hl => by obtain ⟨p, hp, rfl⟩ := List.mem_map.mp hl; exact fit.nd p hp
    have sumL := sum_le (lsOf ps) shortL
    refine ⟨_, rfl, a, ps, rfl, hL, fit, fun H1 s1 => ?_⟩
    refine ⟨_, rfl, a, rfl, ⟨_, s1.seq hL.1⟩, fun R hR => lc_list (K := K) (a := a) (xs := refsOf ps) (fun j G => ∃ qs : List (Addr × List Int), Same H1 G ∧ G R = some (.lst (refsOf qs)) ∧ (∀ q ∈ qs, G q.1 = some (.lst (q.2.map V.int)) ∧ H1 q.1 = none ∧ q.1 ≠ R) ∧ (qs.map (·.1)).Nodup ∧ lsOf qs = (lsOf ps).take j)
      ⟨[], same_new hR, upd_same, (fun q hq => nomatch hq), List.nodup_nil, rfl⟩ (fun j G _ ⟨_, p, _⟩ => (s1.trans p).seq hL.1) (fun j x G hx p => ?_) (fun G p => ?_)⟩
    · obtain ⟨p0, hp0, rfl⟩ := get_map hx
      have mp := List.mem_of_getElem? hp0
      obtain ⟨qs, s2, hGR, each, nd, lq⟩ := p
      have hS := (s1.trans s2).seq (hL.2 p0 mp)
      refine ⟨rfl, ?_⟩
      unfold tYes
      simp only [if_true]
      refine ⟨_, rfl, p0.1, _, rfl, .inl hS, fun l hl => ⟨_, by rw [upd_ne (ne_of_none hGR hl)]; exact hGR, ?_, qs ++ [(l, p0.2)], same_upd (same_upd s2 (none_of_same s2 hl)) hR, ?_, fun q hq => ?_, ?_, ?_⟩⟩
      · refine small1000 ?_
        have e := congrArg List.length lq
        rw [List.length_map, List.length_take, List.length_map] at e
        have := fit.few
        rw [List.length_map]
        omega
      · unfold refsOf
        rw [upd_same, List.map_append]
        rfl
      · rcases List.mem_append.mp hq with m | m
        · obtain ⟨e1, e2, e3⟩ := each q m
          exact ⟨by rw [upd_ne e3, upd_ne (ne_of_none e1 hl)]; exact e1, e2, e3⟩
        · rw [List.mem_singleton.mp m]
          exact ⟨by rw [upd_ne (ne_of_none hGR hl).symm]; exact upd_same, none_of_same s2 hl, (ne_of_none hGR hl).symm⟩
      · rw [List.map_append]
        refine List.nodup_append.mpr ⟨nd, by simp, fun b hb c hc => ?_⟩
        obtain ⟨q, hq, rfl⟩ := List.mem_map.mp hb
        rw [List.mem_singleton.mp hc]
        exact ne_of_none (each q hq).1 hl
      · unfold lsOf
        rw [List.map_append]
        show lsOf qs ++ [p0.2] = _
        rw [lq, take_snoc (lsOf_at hp0)]
    · obtain ⟨qs0, s2, hGR, each, nd, lq⟩ := p
      have e0 : (lsOf ps).take (refsOf ps).length = lsOf ps := List.take_of_length_le (by rw [List.length_map, List.length_map]; exact Nat.le_refl _)
      rw [e0] at lq
      have own0 : Own G R qs0 := ⟨hGR, fun q hq => (each q hq).1, nd⟩
      show tSeq _ _ _ ([some (.ref a), none, none, none, none, none].set 1 (some (.ref R))) G
      refine ⟨_, rfl, a, ps, rfl, hL.keep (s1.trans s2), fit, fun H3 B kvs s3 nB hB hlen hc => ?_⟩
      refine ⟨Nat.zero_le _, fun O hO => ?_⟩
      have s03 : Same H H3 := (s1.trans s2).trans s3
      have nBH : H B = none := none_of_same (s1.trans s2) nB
      have nOH : H O = none := none_of_same s03 hO
      have nR : H R = none := none_of_same s1 hR
      have nq : ∀ b ∈ qs0.map (·.1), H b = none := fun b hb => by
        obtain ⟨q, hq, rfl⟩ := List.mem_map.mp hb
        exact none_of_same s1 (each q hq).2.1
      have O3 : ∀ {b : Addr} {o : HO}, H3 b = some o → (upd H3 O (.lst [])) b = some o := fun {b o} e => by rw [upd_ne (ne_of_none e hO)]; exact e
      have start : MrgI H (upd H3 O (.lst [])) R B O (lsOf ps) (qs0.map (·.1)) 0 qs0 kvs :=
        ⟨same_upd s03 nOH, ⟨O3 (s3 _ _ own0.at_), fun q hq => O3 (s3 _ _ (own0.each q hq)), nd⟩, rfl, lq, O3 hB, hlen, by rw [lq]; exact hc, upd_same⟩
      have OR : O ≠ R := (ne_of_none (s3 _ _ hGR) hO).symm
      have OB : O ≠ B := (ne_of_none hB hO).symm
      have Oq : O ∉ qs0.map (·.1) := fun m => by
        obtain ⟨q, hq, e⟩ := List.mem_map.mp m
        exact ne_of_none (s3 _ _ (own0.each q hq)) hO e
      refine while_m (fun m σ G => ∃ (v4 : Option V) (n : Nat) (qs : List (Addr × List Int)) (kvs : List (Key × V)), m = Mg.size (lsOf qs) ∧ σ = [some (.ref a), some (.ref R), some (.ref B), some (.ref O), v4, none] ∧ MrgI H G R B O (lsOf ps) (qs0.map (·.1)) n qs kvs)
        ⟨_, none, 0, qs0, kvs, rfl, rfl, start⟩ ?_ ?_
      · rintro m σ G ⟨v4, n, qs, kvs, rfl, rfl, I⟩
        have ok := Mg.ok_st ndL n
        have okl : (lsOf qs).length = (lsOf ps).length := by rw [I.snd]; exact ok.len
        have shortQ : ∀ r ∈ lsOf qs, r.length ≤ 30 := by rw [I.snd]; exact st_short shortL n
        have ndQ : ∀ r ∈ lsOf qs, r.Nodup := by rw [I.snd]; exact ok.nodups ndL
        have lofl := I.own.lofl (K := K)
        refine ⟨_, rfl, R, _, rfl, dp_lists lofl, plain_lists _, fun d hd => ?_, _, rfl, ?_⟩
        · obtain ⟨r, hr', rfl⟩ := List.mem_map.mp hd
          show ((r.map PyData.int).length : Int) < 2 ^ 63
          have := shortQ r hr'
          rw [List.length_map]
          omega
        rw [truthy_lists]
        cases hany : (lsOf qs).any fun l => !l.isEmpty with
        | false =>
          refine iteF ?_
          have empty : ∀ r ∈ (Mg.st (lsOf ps) n).2, r = [] := fun r hr' => by
            rw [← I.snd] at hr'
            have q := List.any_eq_false.mp hany r hr'
            cases r with
            | nil => rfl
            | cons z t => exact absurd rfl q
          refine ⟨_, rfl, by show 2 ≤ sizeLine; decide, fun t ht => ?_⟩
          refine k _ _ (same_upd I.same (none_of_same I.same ht)) ⟨t, O, rfl, none_of_same I.same ht, nOH, .inl ⟨n, empty, upd_same, ?_⟩⟩
          rw [upd_ne (ne_of_none I.ord ht)]
          exact I.ord
        | true =>
          refine iteT ?_
          obtain ⟨r1, hr1', hne⟩ := List.any_eq_true.mp hany
          have ne1 : r1 ≠ [] := fun e => by rw [e] at hne; cases hne
          refine ⟨_, rfl, _, rfl, R, B, qs, kvs, rfl, lofl, I.dic, I.cts, ?_⟩
          cases hf : Mg.firstFree (lsOf qs) with
          | none =>
            refine ⟨_, rfl, rfl, _, rfl, ?_⟩
            refine iteT ?_
            have hf' := hf
            rw [I.snd] at hf'
            refine ⟨_, rfl, R, qs, rfl, lofl, by rw [List.length_map, List.length_map] at okl; rw [okl]; exact fit.few, fun p hp => ndQ _ (List.mem_map.mpr ⟨p, hp, rfl⟩), hf, ⟨r1, hr1', ne1⟩, fun H4 q us x0 way pp s4 nq4 hq4 tp hw hnd hp1 hp2 hus hsz det => ?_⟩
            refine ⟨by show 2 ≤ sizeLine; decide, fun t ht => ?_⟩
            have s5 : Same H H4 := I.same.trans s4
            refine k _ _ (same_upd s5 (none_of_same s5 ht)) ⟨t, q, rfl, none_of_same s5 ht, none_of_same I.same nq4, .inr ⟨n, us, hf', ⟨r1, by rw [← I.snd]; exact hr1', ne1⟩, upd_same, by rw [upd_ne (ne_of_none hq4 ht)]; exact hq4, fun u hu => by rw [upd_ne (ne_of_none (tp u hu) ht)]; exact tp u hu, ?_, hsz, by rw [← I.snd]; exact det⟩⟩
            rw [hus]
            refine Mg.ring_of_way (rs := lsOf qs) hw ?_ ndQ hnd hp1 hp2
            rw [I.snd]
            exact ok.suf
          | some x =>
            refine ⟨_, rfl, rfl, _, rfl, ?_⟩
            refine iteF ?_
            have hf' := hf
            rw [I.snd] at hf'
            have ordLen := st_ord_len (lsOf ps) n
            refine ⟨_, rfl, .inl ⟨rfl, _, SqL.of I.ord⟩, _, rfl, O, _, _, rfl, rfl, I.ord, small1000 (by rw [List.length_map]; omega), ?_⟩
            have OR2 : ∀ {b : Addr} {o : HO}, b ≠ O → G b = some o → (upd G O (.lst ((Mg.st (lsOf ps) n).1.map V.int ++ [.int x]))) b = some o := fun {b o} ne e => by rw [upd_ne ne]; exact e
            have qO : ∀ q ∈ qs, q.1 ≠ O := fun q hq e => Oq (by rw [← I.fst]; exact List.mem_map.mpr ⟨q, hq, e⟩)
            refine ⟨_, rfl, _, rfl, _, rfl, x, R, B, qs, kvs, rfl, ⟨OR2 OR.symm I.own.at_, fun q hq => OR2 (qO q hq) (I.own.each q hq), I.own.nd⟩, OR2 OB.symm I.dic, I.len, I.cts, fun p hp => ⟨ndQ _ (List.mem_map.mpr ⟨p, hp, rfl⟩), shortQ _ (List.mem_map.mpr ⟨p, hp, rfl⟩)⟩, fun H4 kvs4 but own4 hB4 hl4 hc4 => ?_⟩
            refine ⟨Mg.size (lsOf (taken x qs)), by rw [taken_ls]; exact Mg.size_step hf, _, n + 1, taken x qs, kvs4, rfl, rfl, fun b o e => ?_, own4, by rw [taken_fst]; exact I.fst, by rw [taken_ls, I.snd, Mg.st_some hf'], hB4, hl4, by rw [taken_ls]; exact hc4, ?_⟩
            · have bO : b ≠ O := ne_of_none e nOH
              refine but b o (fun z => z.elim (ne_of_none e nBH) fun m => ?_) (OR2 bO (I.same b o e))
              rw [I.fst] at m
              exact absurd (nq b m) (by rw [e]; exact fun z => nomatch z)
            · have hO4 := but O _ (fun z => z.elim OB fun m => Oq (by rw [← I.fst]; exact m)) (upd_same (H := G) (a := O) (o := .lst ((Mg.st (lsOf ps) n).1.map V.int ++ [.int x])))
              rw [hO4, Mg.st_some hf', List.map_append]
              rfl
      · rintro σ G Q1 Q2 imp ⟨x, hx, a1, ds, h1, h2, h3, h4, c, h5, h6⟩
        exact ⟨x, hx, a1, ds, h1, h2, h3, h4, c, h5, imp _ _ h6⟩
end
end Pr

set_option Elab.async false
set_option linter.all false
set_option maxRecDepth 100000
set_option maxHeartbeats 4000000
namespace Pr
open PySem L2 Two
/-! ### data of ints -/
theorem canLay_ints : ∀ l : List Int, PyData.canLayAll0 (l.map PyData.int) = true
  | [] => rfl
  | _ :: l => by
    show (PyData.canLay0 (.int _) && PyData.canLayAll0 (l.map PyData.int)) = true
    rw [canLay_ints l]
    rfl
theorem depth_ints : ∀ l : List Int, PyData.depthAll (l.map PyData.int) = 0
  | [] => rfl
  | _ :: l => by
    show max 0 (PyData.depthAll (l.map PyData.int)) = 0
    rw [depth_ints l]
    rfl
theorem shaped_ints (l : List Int) : SeqAt.shaped (intsD l) = true := by
  unfold SeqAt.shaped
  have a : (intsD l).canLay0 = true := canLay_ints l
  have b : (intsD l).depth = 1 := by show PyData.depthAll (l.map PyData.int) + 1 = 1; rw [depth_ints]
  rw [a, b]
  rfl
/-- a word and a list of ints, as a pair -/
def pairD (x : Str) (l : List Int) : PyData := .tuple [.str x, intsD l]
theorem shaped_pair {x : Str} (hx : PyData.canLay0 (.str x) = true) (l : List Int) : SeqAt.shaped (pairD x l) = true := by
  unfold SeqAt.shaped
  have a : (pairD x l).canLay0 = true := by
    show (PyData.canLay0 (.str x) && ((intsD l).canLay0 && true)) = true
    rw [hx, show (intsD l).canLay0 = true from canLay_ints l]
    rfl
  have b : (pairD x l).depth = 2 := by
    show max 0 (max (intsD l).depth 0) + 1 = 2
    have c : (intsD l).depth = 1 := by show PyData.depthAll (l.map PyData.int) + 1 = 1; rw [depth_ints]
    rw [c]
    rfl
  rw [a, b]
  rfl
theorem dp_pair {K : PySem.W.Frag} {H : Hp} {t q : Addr} {x : Str} {l : List Int} (h : H t = some (.tup [.str x, .ref q])) (hq : SqL K H q (l.map V.int)) : Dp K H (.ref t) (pairD x l) :=
  .tup (SqT.of h) (.cons (.str x) (.cons (dp_list hq) .nil))
theorem tyx_tup {K : PySem.W.Frag} {H : Hp} {a : Addr} {xs : List V} (h : H a = some (.tup xs)) : TyX K H (.ref a) (.type "tuple") := .base (.tup h)

section
variable {P : Program} {w : World} {K : PySem.W.Frag} {mg : Str → Option Value} {base : Heap}
/-! ### is_ring -/
theorem oneS_list {w : World} {K : PySem.W.Frag} {a : Addr} {xs : List V} {g : TG} {te : TE} {vs : List Nat} {D : Addr} {σ : L2.St} {Qd : Hp → Prop} {G : Hp} (Pv : Nat → Hp → Prop) (h0 : Pv 0 G) (hl : ∀ i H, i ≤ xs.length → Pv i H → SqL K H a xs)
    (hs : ∀ i x H, xs[i]? = some x → Pv i H → g x (wipe σ vs) H fun σ2 H2 => wipe σ2 vs = wipe σ vs ∧ te σ2 H2 fun y H4 => ∃ (k : Int) (S : Int → Bool) (n : Nat), y = .int k ∧ H4 D = some (SetO w D S n) ∧ n + 1 < scanBound ∧
      Pv (i + 1) (upd H4 D (SetO w D (fun j => S j || decide (j = k)) (if S k = true then n else n + 1)))) (hd : ∀ H, Pv xs.length H → Qd H) : oneS w (Itl K a) g te vs D σ Qd G := by
  refine ⟨fun i m H => m = xs.length - i ∧ i ≤ xs.length ∧ Pv i H, ⟨xs.length, by simp, Nat.zero_le _, h0⟩, ?_⟩
  rintro i m H ⟨rfl, hi, p⟩
  have q := hl i H hi p
  by_cases lt : i < xs.length
  · refine .inr ⟨⟨xs, xs[i], q, by simp [lt]⟩, Pv (i + 1), fun H2 p2 => ⟨xs.length - (i + 1), by omega, rfl, lt, p2⟩, fun x H2 y => ?_⟩
    obtain ⟨e, y⟩ := y
    subst e
    exact hs i x _ (y xs q) p
  · have e : i = xs.length := by omega
    subst e
    exact .inl ⟨⟨xs, q, Nat.le_refl _⟩, hd H p⟩
def spIsRing (K : PySem.W.Frag) : Sp := fun vs H Q _ => ∃ (a q : Addr) (ps : List (Addr × List Int)) (us : List (Addr × Int × Nat)), vs = [.ref a, .ref q] ∧ LofL K H a ps ∧ Fit ps ∧ H q = some (.lst (tupRefs us)) ∧ TupsAt H us ∧ Mg.IsRing (lsOf ps) (us.map (·.2)) ∧ us.length ≤ 30 ∧
  ∀ H', Same H H' → Q (.bl true) H'
theorem cut_one (xs : List V) : cutV xs none (some 1) = xs.take 1 := by
  unfold cutV
  have e : HT.sIx xs.length xs.length (some 1) = min 1 xs.length := HT.sIx_nat xs.length xs.length 1
  rw [e, HT.sIx_none]
  cases xs with
  | nil => rfl
  | cons x xs => simp
theorem turn_get {α : Type} {xs : List α} {k : Nat} (h : k < xs.length) : (xs.tail ++ xs.take 1)[k]? = xs[(k + 1) % xs.length]? := by
  cases xs with
  | nil => simp at h
  | cons x l =>
    simp only [List.length_cons] at h
    by_cases e : k + 1 < (x :: l).length
    · rw [Nat.mod_eq_of_lt e]
      simp only [List.length_cons] at e
      show (l ++ [x])[k]? = (x :: l)[k + 1]?
      rw [List.getElem?_append_left (by omega), List.getElem?_cons_succ]
    · simp only [List.length_cons] at e
      have e2 : k = l.length := by omega
      subst e2
      show (l ++ [x])[l.length]? = (x :: l)[(l.length + 1) % (l.length + 1)]?
      rw [Nat.mod_self]
      simp
def tItem0 (K : PySem.W.Frag) (i : Nat) : TE := tOp (rIxT K) (tVar i) (tC (.int 0))
def tItem1 (K : PySem.W.Frag) (i : Nat) : TE := tOp (rIxT K) (tVar i) (tC (.int 1))
end
end Pr

set_option Elab.async false
set_option linter.all false
set_option maxRecDepth 100000
set_option maxHeartbeats 4000000
/-! The helpers that the laws of merges share: cells, sources, draws. -/
namespace Lw
open PySem L2 Two Pr
abbrev sCell : Stmt := top 19
abbrev sSource : Stmt := top 20
abbrev sDraw : Stmt := top 21
abbrev sPick : Stmt := top 22
/-- a source of draws -/
def Src (H : Hp) (l : Addr) (n : Nat) : Prop := ∃ x y c : Int, H l = some (.lst [.int x, .int y, .int c]) ∧ 0 ≤ x ∧ 0 ≤ y ∧ y < 2147483647 ∧ 0 ≤ c ∧ c ≤ (n : Int)
theorem Src.more {H : Hp} {l : Addr} {n m : Nat} (s : Src H l n) (h : n ≤ m) : Src H l m := by
  obtain ⟨x, y, c, e, a1, a2, a3, a4, a5⟩ := s
  exact ⟨x, y, c, e, a1, a2, a3, a4, by omega⟩
theorem Src.keep {H H' : Hp} {l : Addr} {n : Nat} (s : Src H l n) (k : Same H H') : Src H' l n := by
  obtain ⟨x, y, c, e, r⟩ := s
  exact ⟨x, y, c, k _ _ e, r⟩
section
variable {P : Program} {w : World} {K : PySem.W.Frag} {mg : Str → Option Value} {base : Heap}
/-! ### _law_cell_at -/
def spCell (K : PySem.W.Frag) : Sp := fun vs H Q _ => ∃ (a : Addr) (ns : List Int) (k : Nat), vs = [.ref a, .int k] ∧ SqL K H a (ns.map V.int) ∧ ns.length ≤ 1000 ∧ ∀ z : Int, Q (.int z) H
theorem scCell : FnScope ["_law_script", "_law_k"] ["_law_script", "_law_k"] (defScope sCell) := ⟨rfl, rfl, rfl, by decide +kernel, rfl, by decide +kernel, by decide +kernel⟩
theorem ok_cell {f : Addr} {fd : FuncData} (F : Fun K "_law_cell_at" "_law_cell_at" sCell f fd) (T : Txt mg) : FnOk P w K mg base CX0 1 f fd ["_law_script", "_law_k"] (spCell K) := by
  refine F.ok scCell (fun vs H Q E h => ?_) (fun cdv A outer s H vs Q E hr h => ?_)
  · obtain ⟨a, ns, k, rfl, _⟩ := h
    rfl
  · obtain ⟨a, ns, j, rfl, hS, hl, k⟩ := h
    refine ⟨_, pss_cons (ps_if (pt_cmpR op_lt (pv 1) (pe_callB call_len_seq (by rfl) T.len PySem.boot_len (pa_cons (pv 0) pa_nil)) (nomark _)) (pss_one (ps_ret (pe_ix ix_list (pv 0) (pv 1) (fun _ _ => rfl)))) pss_nil) (pss_one (ps_ret pe_int)), ?_⟩
    refine ⟨_, rfl, _, rfl, a, _, rfl, .inl hS, _, _, rfl, rfl, _, rfl, ?_⟩
    by_cases h : j < ns.length
    · rw [decide_eq_true (by rw [List.length_map]; omega)]
      refine iteT ⟨_, rfl, _, rfl, a, _, (j : Nat), .int ns[j], rfl, rfl, hS, atI_nat (by rw [List.getElem?_map, List.getElem?_eq_getElem h]; rfl), k _⟩
    · rw [decide_eq_false (by rw [List.length_map]; omega)]
      exact iteF (k 0)
/-! ### _law_source -/
def spSource : Sp := fun vs H Q _ => ∃ z : Int, vs = [.int z] ∧ ∀ (H' : Hp) (l : Addr), Same H H' → H l = none → Src H' l 0 → Q (.ref l) H'
theorem scSource : FnScope ["_law_cell"] ["_law_cell"] (defScope sSource) := ⟨rfl, rfl, rfl, by decide +kernel, rfl, by decide +kernel, by decide +kernel⟩
theorem ok_source {f : Addr} {fd : FuncData} (F : Fun K "_law_source" "_law_source" sSource f fd) (T : Txt mg) : FnOk P w K mg base CX0 1 f fd ["_law_cell"] spSource := by
  refine F.ok scSource (fun vs H Q E h => ?_) (fun cdv A outer s H vs Q E hr h => ?_)
  · obtain ⟨z, rfl, _⟩ := h
    rfl
  · obtain ⟨z, rfl, k⟩ := h
    refine ⟨_, pss_one (ps_ret (pe_lst (pa_cons (pe_op op_mul (pv 0) (pe_callTy call_int1 (by rfl) T.int (by decide +kernel) (pa_cons (pe_cmpR op_ge (pv 0) (pe_op op_pow pe_int pe_int) (nomark _)) pa_nil)))
      (pa_cons (pe_op op_mod (pv 0) pe_int) (pa_cons pe_int pa_nil))))), ?_⟩
    refine ⟨_, rfl, _, rfl, _, _, rfl, rfl, by unfold CPow; decide, _, _, rfl, rfl, .inr ⟨_, rfl, ?_⟩⟩
    have pos : 0 ≤ z * (if decide ((10 : Int) ^ (18 : Int).toNat ≤ z) = true then 1 else 0) := by
      by_cases h : (10 : Int) ^ (18 : Int).toNat ≤ z
      · rw [decide_eq_true h, if_pos rfl]
        have : (0 : Int) ≤ 10 ^ (18 : Int).toNat := by decide
        omega
      · rw [decide_eq_false h, if_neg Bool.false_ne_true]
        omega
    refine ⟨_, _, rfl, rfl, .inr ?_, ?_⟩
    · split <;> decide
    refine ⟨_, rfl, _, _, rfl, rfl, (by show (0 : Int) < 2147483647; decide), by show 3 ≤ sizeLine; decide, fun l hl => ?_⟩
    exact k _ l (same_new hl) hl ⟨_, _, _, upd_same, pos, by omega, by omega, by omega, by omega⟩
/-! ### _law_draw -/
def spDraw : Sp := fun vs H Q _ => ∃ (l : Addr) (m : Int) (n : Nat), vs = [.ref l, .int m] ∧ 0 < m ∧ m < 1000000 ∧ Src H l n ∧ n ≤ 1000000 ∧
  ∀ (H' : Hp) (d : Int), But (· = l) H H' → Src H' l (n + 1) → 0 ≤ d → d < m → Q (.int d) H'
theorem scDraw : FnScope ["_law_source_here", "_law_size", "_law_digit", "_law_number"] ["_law_source_here", "_law_size"] (defScope sDraw) := ⟨rfl, rfl, rfl, by decide +kernel, rfl, by decide +kernel, by decide +kernel⟩
theorem but_upd {H : Hp} {l : Addr} {o : HO} : But (· = l) H (upd H l o) := fun b u h e => by rw [upd_ne h]; exact e
theorem ok_draw {f : Addr} {fd : FuncData} (F : Fun K "_law_draw" "_law_draw" sDraw f fd) (T : Txt mg) : FnOk P w K mg base CX0 1 f fd ["_law_source_here", "_law_size"] spDraw := by
  refine F.ok scDraw (fun vs H Q E h => ?_) (fun cdv A outer s H vs Q E hr h => ?_)
  · obtain ⟨l, m, n, rfl, _⟩ := h
    rfl
  · obtain ⟨l, m, n, rfl, hm0, hm1, ⟨x, y, c, hl, hx, hy0, hy1, hc0, hc1⟩, hn, k⟩ := h
    have at0 : atI [V.int x, .int y, .int c] 0 = some (.int x) := rfl
    refine ⟨_, pss_cons (ps_if (pt_cmpR op_gt (pe_ix ix_list (pv 0) pe_int (fun _ _ => rfl)) pe_int (nomark _))
        (pss_cons (ps_set (i := 2) scDraw.nd rfl (Or.inl rfl) (pe_op op_mod (pe_ix ix_list (pv 0) pe_int (fun _ _ => rfl)) (pv 1)))
        (pss_cons (ps_asg (pe_op op_fdiv (pe_ix ix_list (pv 0) pe_int (fun _ _ => rfl)) (pv 1)) (pg_sub (pv 0) pe_int set_list))
        (pss_one (ps_ret (pv 2))))) pss_nil)
      (pss_cons (ps_asg (pe_op op_add (pe_ix ix_list (pv 0) pe_int (fun _ _ => rfl)) pe_int) (pg_sub (pv 0) pe_int set_list))
      (pss_cons (ps_set (i := 3) scDraw.nd rfl (Or.inl rfl) (pe_op op_mod (pe_op op_pow (pe_op op_add (pe_op op_add (pe_ix ix_list (pv 0) pe_int (fun _ _ => rfl)) (pe_op op_mul pe_int (pe_ix ix_list (pv 0) pe_int (fun _ _ => rfl)))) pe_int) pe_int) pe_int))
      (pss_cons (ps_set (i := 3) scDraw.nd rfl (Or.inl rfl) (pe_op op_mod (pe_op op_mul (pv 3) (pe_op op_add (pe_op op_add (pe_op op_fdiv (pv 3) pe_int) pe_int) (pe_ix ix_list (pv 0) pe_int (fun _ _ => rfl)))) pe_int))
      (pss_one (ps_ret (pe_op op_mod (pe_op op_fdiv (pe_op op_mod (pe_op op_mul (pv 3) (pe_op op_add (pe_op op_fdiv (pv 3) pe_int) pe_int)) pe_int) pe_int) (pv 1))))))), ?_⟩
    refine ⟨_, rfl, l, _, 0, .int x, rfl, rfl, SqL.of hl, at0, _, _, rfl, rfl, _, rfl, ?_⟩
    by_cases hx1 : 0 < x
    · rw [decide_eq_true hx1]
      refine iteT ?_
      refine ⟨_, rfl, l, _, 0, .int x, rfl, rfl, SqL.of hl, at0, _, rfl, _, _, rfl, rfl, hm0, ?_⟩
      refine ⟨_, rfl, l, _, 0, .int x, rfl, rfl, SqL.of hl, at0, _, rfl, _, _, rfl, rfl, ⟨hm0, by omega⟩, ?_⟩
      refine ⟨_, rfl, l, _, 0, 0, rfl, rfl, hl, rfl, ?_⟩
      refine ⟨_, rfl, ?_⟩
      refine k _ _ but_upd ⟨_, _, _, upd_same, Int.ediv_nonneg hx (by omega), hy0, hy1, hc0, by omega⟩ (Int.emod_nonneg _ (by omega)) (Int.emod_lt_of_pos _ hm0)
    · rw [decide_eq_false hx1]
      refine iteF ?_
      refine ⟨_, rfl, l, _, 2, .int c, rfl, rfl, SqL.of hl, rfl, _, _, rfl, rfl, ?_⟩
      refine ⟨_, rfl, l, _, 2, 2, rfl, rfl, hl, rfl, ?_⟩
      have hl2 : upd H l (.lst ([V.int x, .int y, .int c].set 2 (.int (c + 1)))) l = some (.lst [.int x, .int y, .int (c + 1)]) := upd_same
      have b2 : But (· = l) H (upd H l (.lst ([V.int x, .int y, .int c].set 2 (.int (c + 1))))) := but_upd
      generalize upd H l (.lst ([V.int x, .int y, .int c].set 2 (.int (c + 1)))) = H2 at hl2 b2
      have sq := SqL.of (K := K) hl2
      refine ⟨_, rfl, l, _, 1, .int y, rfl, rfl, sq, rfl, _, rfl, l, _, 2, .int (c + 1), rfl, rfl, sq, rfl, _, _, rfl, rfl, .inl (by decide), _, _, rfl, rfl, _, _, rfl, rfl, _, _, rfl, rfl, ?_, _, _, rfl, rfl, (by show (0 : Int) < 2147483629; decide), ?_⟩
      · show (0 : Int) ≤ 5 ∧ (5 : Int) ≤ 1000000 ∧ (y + 7919 * (c + 1) + 1).natAbs < 2 ^ 64
        refine ⟨by decide, by decide, ?_⟩
        omega
      obtain ⟨n1, e1⟩ : ∃ z, z = (y + 7919 * (c + 1) + 1) ^ (5 : Int).toNat % 2147483629 := ⟨_, rfl⟩
      have p1 : 0 ≤ n1 := by rw [e1]; exact Int.emod_nonneg _ (by decide)
      have q1 : n1 < 2147483629 := by rw [e1]; exact Int.emod_lt_of_pos _ (by decide)
      show tSeq _ _ _ ([some (.ref l), some (.int m), none, none].set 3 (some (.int ((y + 7919 * (c + 1) + 1) ^ (5 : Int).toNat % 2147483629)))) H2
      rw [← e1]
      refine ⟨_, rfl, _, rfl, _, _, rfl, rfl, ⟨by decide, by decide⟩, _, _, rfl, rfl, _, rfl, l, _, 2, .int (c + 1), rfl, rfl, sq, rfl, _, _, rfl, rfl, _, _, rfl, rfl, .inl (by omega), _, _, rfl, rfl, (by show (0 : Int) < 2147483587; decide), ?_⟩
      obtain ⟨n2, e2⟩ : ∃ z, z = n1 * (n1 / 1009 + 69621 + (c + 1)) % 2147483587 := ⟨_, rfl⟩
      have p2 : 0 ≤ n2 := by rw [e2]; exact Int.emod_nonneg _ (by decide)
      have q2 : n2 < 2147483587 := by rw [e2]; exact Int.emod_lt_of_pos _ (by decide)
      show gName 3 (V.int (n1 * (n1 / 1009 + 69621 + (c + 1)) % 2147483587)) _ _ _
      rw [← e2]
      refine ⟨_, rfl, _, rfl, _, _, rfl, rfl, ⟨by decide, by decide⟩, _, _, rfl, rfl, _, _, rfl, rfl, .inl (by omega), _, _, rfl, rfl, (by show (0 : Int) < 2147483579; decide), _, _, rfl, rfl, ⟨by decide, by decide⟩, _, rfl, _, _, rfl, rfl, hm0, ?_⟩
      exact k H2 _ b2 ⟨_, _, _, hl2, hx, hy0, hy1, by omega, by omega⟩ (Int.emod_nonneg _ (by omega)) (Int.emod_lt_of_pos _ hm0)
/-! ### _law_pick -/
def spPick (K : PySem.W.Frag) : Sp := fun vs H Q _ => ∃ (l b : Addr) (n : Nat) (xs : List V), vs = [.ref l, .ref b] ∧ Src H l n ∧ n ≤ 1000000 ∧ SqL K H b xs ∧ b ≠ l ∧ xs ≠ [] ∧ xs.length ≤ 1000 ∧
  ∀ (H' : Hp) (x : V), But (· = l) H H' → Src H' l (n + 1) → x ∈ xs → Q x H'
theorem scPick : FnScope ["_law_source_here", "_law_items_here"] ["_law_source_here", "_law_items_here"] (defScope sPick) := ⟨rfl, rfl, rfl, by decide +kernel, rfl, by decide +kernel, by decide +kernel⟩
theorem but_seq {H H' : Hp} {l b : Addr} {xs : List V} (k : But (· = l) H H') (ne : b ≠ l) (h : SqL K H b xs) : SqL K H' b xs := by
  rcases h with (h | ⟨o, h⟩) | h
  · exact .inl (.inl (k _ _ ne h))
  · exact .inl (.inr ⟨o, k _ _ ne h⟩)
  · exact .inr h
theorem ok_pick {f fD : Addr} {fd fdD : FuncData} (F : Fun K "_law_pick" "_law_pick" sPick f fd) (T : Txt mg) (gD : mg "_law_draw" = some (.ref fD)) (kD : PySem.W.keepIn K (.ref fD) = true) (bD : Binds K fdD ["_law_source_here", "_law_size"] [])
    (GD : FnOk P w K mg base CX0 1 fD fdD ["_law_source_here", "_law_size"] spDraw) : FnOk P w K mg base CX0 2 f fd ["_law_source_here", "_law_items_here"] (spPick K) := by
  refine F.ok scPick (fun vs H Q E h => ?_) (fun cdv A outer s H vs Q E hr h => ?_)
  · obtain ⟨l, b, n, xs, rfl, _⟩ := h
    rfl
  · obtain ⟨l, b, n, xs, rfl, src, hn, hS, ne, hx, hz, k⟩ := h
    have pos : 0 < xs.length := List.length_pos_iff.mpr hx
    refine ⟨_, pss_one (ps_ret (pe_ix ix_list (pv 1) (pe_call GD hr rfl gD kD bD .nil pass0 (pa_cons (pv 0) (pa_cons (pe_callB call_len_seq (by rfl) T.len PySem.boot_len (pa_cons (pv 1) pa_nil)) pa_nil))) (fun _ _ => rfl))), ?_⟩
    refine ⟨_, rfl, _, rfl, _, rfl, b, _, rfl, .inl hS, l, _, n, rfl, by omega, by omega, src, hn, fun H' d but src' h0 h1 => ?_⟩
    obtain ⟨d', rfl⟩ := Int.eq_ofNat_of_zero_le h0
    have hd : d' < xs.length := by omega
    exact ⟨b, xs, (d' : Nat), xs[d'], rfl, rfl, but_seq but ne hS, atI_nat (by simp [hd]), k H' _ but src' (List.getElem_mem hd)⟩
end
end Lw

set_option autoImplicit false
namespace Mg
def ne (r : List Int) : Bool := !r.isEmpty
def nonE (rs : List (List Int)) : List (List Int) := rs.filter ne
theorem ne_iff {r : List Int} : ne r = true ↔ r ≠ [] := by cases r <;> simp [ne]
theorem heads_nonE : ∀ rs : List (List Int), heads (nonE rs) = heads rs
  | [] => rfl
  | [] :: rs => by
    show heads (nonE rs) = heads ([[]] ++ rs)
    rw [heads_append, heads_nonE rs]
    rfl
  | (z :: t) :: rs => by
    show heads ([z :: t] ++ nonE rs) = heads ([z :: t] ++ rs)
    rw [heads_append, heads_append, heads_nonE rs]
theorem clear_nonE (rs : List (List Int)) (x : Int) : clear (nonE rs) x = clear rs x := by
  have h : (clear (nonE rs) x = true) ↔ (clear rs x = true) := by
    rw [clear_iff, clear_iff]
    refine ⟨fun h r hr => ?_, fun h r hr => h r (List.mem_filter.mp hr).1⟩
    by_cases e : r = []
    · rw [e]
      simp
    · exact h r (List.mem_filter.mpr ⟨hr, ne_iff.mpr e⟩)
  cases h1 : clear (nonE rs) x <;> cases h2 : clear rs x
  · rfl
  · rw [h.mpr h2] at h1; cases h1
  · rw [h.mp h1] at h2; cases h2
  · rfl
theorem free_nonE (rs : List (List Int)) : firstFree (nonE rs) = firstFree rs := by
  unfold firstFree
  rw [heads_nonE]
  congr 1
  funext x
  exact clear_nonE rs x
theorem free_head (rs : List (List Int)) : firstFree rs = ((heads rs).filter (clear rs)).head? := by
  unfold firstFree
  rw [List.head?_filter]
def drop1 (x : Int) (r : List Int) : List Int := r.filter fun y => decide (y ≠ x)
theorem drop1_pull {x : Int} {r : List Int} (nd : r.Nodup) (h : x ∉ r.tail) : drop1 x r = pull1 x r := by
  unfold drop1
  rcases pull1_cases (x := x) r with ⟨t, e, q⟩ | ⟨n, q⟩
  · rw [q, e, List.filter_cons_of_neg (by simp)]
    have nt : x ∉ t := by rw [e] at nd; exact (List.nodup_cons.mp nd).1
    exact List.filter_eq_self.mpr fun y hy => decide_eq_true fun k => nt (k ▸ hy)
  · rw [q]
    have nr := not_mem_of n h
    exact List.filter_eq_self.mpr fun y hy => decide_eq_true fun k => nr (k ▸ hy)
theorem nonE_pull {x : Int} : ∀ {rs : List (List Int)}, (∀ r ∈ rs, r.Nodup ∧ x ∉ r.tail) → nonE ((nonE rs).map (drop1 x)) = nonE (pull x rs)
  | [], _ => rfl
  | r :: rs, h => by
    have ih := nonE_pull (rs := rs) fun q hq => h q (List.mem_cons_of_mem _ hq)
    obtain ⟨a, b⟩ := h r List.mem_cons_self
    have e := drop1_pull a b
    cases r with
    | nil => exact ih
    | cons z t =>
      show (drop1 x (z :: t) :: (nonE rs).map (drop1 x)).filter ne = (pull1 x (z :: t) :: pull x rs).filter ne
      rw [e]
      have ih : ((nonE rs).map (drop1 x)).filter ne = (pull x rs).filter ne := ih
      by_cases c : ne (pull1 x (z :: t)) = true
      · rw [List.filter_cons_of_pos c, List.filter_cons_of_pos c, ih]
      · rw [List.filter_cons_of_neg c, List.filter_cons_of_neg c, ih]
theorem nonE_empty {rs : List (List Int)} : nonE rs = [] ↔ ∀ r ∈ rs, r = [] := by
  unfold nonE
  rw [List.filter_eq_nil_iff]
  refine ⟨fun h r hr => Decidable.byContradiction fun k => h r hr (ne_iff.mpr k), fun h r hr k => ne_iff.mp k (h r hr)⟩
end Mg

set_option Elab.async false
set_option linter.all false
set_option maxRecDepth 100000
set_option maxHeartbeats 4000000
namespace Lw
open PySem L2 Two Pr
/-- [f of x for x in xs if c of x], nothing made that stands in the way -/
theorem lc_sel {α : Type} {K : PySem.W.Frag} {a : Addr} {ps : List α} {gv : α → V} {te : TE} {tt : TT} {vs : List Nat} {σ : L2.St} {H1 : Hp} {D : Addr} {Qd : Hp → Prop} (i : Nat) (f : α → V) (c : α → Bool) (hS : SqL K H1 a (ps.map gv)) (hz : ps.length < sizeLine) (hD : H1 D = none)
    (hw : ∀ x, wipe ((wipe σ vs).set i (some x)) vs = wipe σ vs)
    (tstep : ∀ (j : Nat) (x : α) (H : Hp) (Q : Bool → Hp → Prop), ps[j]? = some x → Same H1 H → (∀ H', Same H H' → Q (c x) H') → tt ((wipe σ vs).set i (some (gv x))) H Q)
    (estep : ∀ (j : Nat) (x : α) (H : Hp) (Q : VK), ps[j]? = some x → c x = true → Same H1 H → (∀ H', Same H H' → Q (f x) H') → te ((wipe σ vs).set i (some (gv x))) H Q)
    (done : ∀ H, Same H1 H → H D = some (.lst ((ps.filter c).map f)) → Qd H) :
    ∃ W : Nat → Nat → Hp → Prop, (∃ m, W 0 m (upd H1 D (.lst []))) ∧ ∀ i' m H, W i' m H →
      ((Itl K a).stop i' H ∧ Qd H) ∨ ((Itl K a).go i' H ∧ ∃ Nx : Hp → Prop, (∀ H', Nx H' → ∃ m', m' < m ∧ W (i' + 1) m' H') ∧ ∀ x H', (Itl K a).yld i' H x H' → gName i x (wipe σ vs) H' fun σ2 H2 => wipe σ2 vs = wipe σ vs ∧ tt σ2 H2 fun b H3 =>
        if b = true then te σ2 H3 fun y H4 => ∃ acc, H4 D = some (.lst acc) ∧ acc.length < sizeLine ∧ Nx (upd H4 D (.lst (acc ++ [y]))) else Nx H3) := by
  refine lc_list (xs := ps.map gv) (fun j H => Same H1 H ∧ H D = some (.lst (((ps.take j).filter c).map f))) ⟨same_new hD, upd_same⟩ (fun j H _ p => p.1.seq hS) (fun j x H hx p => ?_)
    fun H p => done H p.1 (by rw [List.length_map, List.take_length] at p; exact p.2)
  obtain ⟨x, hx1, rfl⟩ := get_map hx
  refine ⟨hw _, tstep j x H _ hx1 p.1 fun H' s => ?_⟩
  have s1 := p.1.trans s
  have d1 := s _ _ p.2
  cases hc : c x with
  | false =>
    refine iteF ⟨s1, ?_⟩
    rw [d1, take_snoc hx1, List.filter_append, List.filter_cons_of_neg (by rw [hc]; decide)]
    simp
  | true =>
    refine iteT (estep j x H' _ hx1 hc s1 fun H2 s2 => ⟨_, s2 _ _ d1, ?_, same_upd (s1.trans s2) hD, ?_⟩)
    · have a1 := List.length_filter_le c (ps.take j)
      have a2 := (List.getElem?_eq_some_iff.mp hx1).1
      rw [List.length_take] at a1
      rw [List.length_map]
      omega
    · rw [upd_same, take_snoc hx1, List.filter_append, List.filter_cons_of_pos hc, List.map_append]
      rfl
theorem eqv_nil (l : List Int) : PyData.eqv (intsD l) (.list []) = l.isEmpty := by
  cases l <;> rfl
theorem eqvs_nil (ls : List (List Int)) : PyData.eqv (listsD ls) (.list []) = ls.isEmpty := by
  cases ls <;> rfl
theorem canLay_lists : ∀ ls : List (List Int), PyData.canLayAll0 (ls.map intsD) = true
  | [] => rfl
  | l :: ls => by
    show ((intsD l).canLay0 && PyData.canLayAll0 (ls.map intsD)) = true
    rw [canLay_lists ls, show (intsD l).canLay0 = true from canLay_ints l]
    rfl
theorem depth_lists : ∀ ls : List (List Int), PyData.depthAll (ls.map intsD) ≤ 1
  | [] => Nat.zero_le _
  | l :: ls => by
    show max (intsD l).depth (PyData.depthAll (ls.map intsD)) ≤ 1
    have a := depth_lists ls
    have b : (intsD l).depth = 1 := by show PyData.depthAll (l.map PyData.int) + 1 = 1; rw [depth_ints]
    omega
theorem shaped_lists (ls : List (List Int)) : SeqAt.shaped (listsD ls) = true := by
  unfold SeqAt.shaped
  have a : (listsD ls).canLay0 = true := canLay_lists ls
  have b : (listsD ls).depth ≤ 64 := by
    have := depth_lists ls
    show PyData.depthAll (ls.map intsD) + 1 ≤ 64
    omega
  rw [a, decide_eq_true b]
  rfl
theorem dp_nil {K : PySem.W.Frag} {H : Hp} {a : Addr} (h : H a = some (.lst [])) : Dp K H (.ref a) (.list []) := .lst (SqL.of h) .nil
theorem shaped_nil : SeqAt.shaped (.list []) = true := rfl
/-- an object at a that stands apart from l, or is of the written part -/
def Off (K : PySem.W.Frag) (l a : Addr) (xs : List V) : Prop := a ≠ l ∨ ∀ H', SqL K H' a xs
theorem Off.of {K : PySem.W.Frag} {H : Hp} {l a : Addr} {xs : List V} (h : SqL K H a xs) (n : H l = none) : Off K l a xs := by
  rcases h with (h | ⟨o, h⟩) | h
  · exact .inl (ne_of_none h n)
  · exact .inl (ne_of_none h n)
  · exact .inr fun H' => .inr h
theorem Off.seq {K : PySem.W.Frag} {H H' : Hp} {l a : Addr} {xs : List V} (o : Off K l a xs) (b : But (· = l) H H') (h : SqL K H a xs) : SqL K H' a xs := o.elim (fun ne => but_seq b ne h) fun k => k H'
abbrev sMerged : Stmt := top 27
/-- the test x != [] of a list of ints -/
def tNe (K : PySem.W.Frag) (i : Nat) : TT := tTest (tOp (rNeD K) (tVar i) (tLst tNil))
theorem tNe_step {K : PySem.W.Frag} {i : Nat} {σ : L2.St} {H : Hp} {a : Addr} {l : List Int} {Q : Bool → Hp → Prop} (hi : σ[i]? = some (some (.ref a))) (h : SqL K H a (l.map V.int)) (q : ∀ H', Same H H' → Q (Mg.ne l) H') : tNe K i σ H Q := by
  refine ⟨_, hi, Nat.zero_le _, fun p hp => ⟨intsD l, .list [], dp_list ((same_new hp).seq h), dp_nil upd_same, shaped_ints l, shaped_nil, _, rfl, ?_⟩⟩
  rw [eqv_nil]
  exact q _ (same_new hp)
def tFirst (K : PySem.W.Frag) (i : Nat) : TE := tOp (rIxL K) (tVar i) (tC (.int 0))
/-- one[0] in other[1:] -/
def tBeh (K : PySem.W.Frag) : TT := tTest (tOp (rIn K false) (tFirst K 4) (tSl (rSlL K) (tVar 5) (tPart (tC (.int 1))) tNoPart))
/-- [other for other in left if one[0] in other[1:]] == [] -/
def tFreeT (K : PySem.W.Frag) : TT := tTest (tOp (rEqD K) (tLc (iList K (tVar 1)) (gName 5) (tBeh K) (tVar 5) [5]) (tLst tNil))
/-- [item for item in one if item != free[0]] -/
def tDropE (K : PySem.W.Frag) : TE := tLc (iList K (tVar 4)) (gName 6) (tTest (tOp rNe (tVar 6) (tFirst K 3))) (tVar 6) [6]
/-- what the law's own merge hands back -/
def LMOut (H H' : Hp) (ls : List (List Int)) (v : V) : Prop :=
  (∃ n q, (∀ r ∈ (Mg.st ls n).2, r = []) ∧ v = .ref q ∧ H q = none ∧ H' q = some (.lst ((Mg.st ls n).1.map V.int))) ∨ (∃ n, Mg.firstFree (Mg.st ls n).2 = none ∧ (∃ r ∈ (Mg.st ls n).2, r ≠ []) ∧ v = .non)
def spLMerged (K : PySem.W.Frag) : Sp := fun vs H Q _ => ∃ (a : Addr) (ps : List (Addr × List Int)), vs = [.ref a] ∧ LofL K H a ps ∧ Fit ps ∧ ∀ v H', Same H H' → LMOut H H' (lsOf ps) v → Q v H'
abbrev nMerged : List Str := ["_law_lists_here", "_law_left", "_law_found", "_law_free", "_law_one", "_law_other", "_law_item"]
theorem scMerged : FnScope nMerged ["_law_lists_here"] (defScope sMerged) := ⟨rfl, rfl, rfl, by decide +kernel, rfl, by decide +kernel, by decide +kernel⟩
section
variable {P : Program} {w : World} {K : PySem.W.Frag} {mg : Str → Option Value} {base : Heap}
theorem ok_merged {f : Addr} {fd : FuncData} (F : Fun K "_law_merged" "_law_merged" sMerged f fd) (T : Txt mg) : FnOk P w K mg base CX0 1 f fd ["_law_lists_here"] (spLMerged K) := by
  refine F.ok scMerged (fun vs H Q E h => ?_) (fun cdv A outer s H vs Q E hr h => ?_)
  · obtain ⟨a, ps, rfl, _⟩ := h
    rfl
  · obtain ⟨a, ps, rfl, hL, fit, k⟩ := h
    refine ⟨_, pss_cons (ps_set (i := 1) scMerged.nd rfl (Or.inr rfl) (pe_lc (own := [("_law_one", 4)]) (g := gName 4) (tt := tNe K 4) (te := tVar 4) rfl scMerged.nd (pi_list (pv 0)) (blkOk_by (N := nMerged) (sc := defScope sMerged) (by decide +kernel))
          (fun _ _ _ _ _ => pg_name (i := 4) scMerged.nd rfl (Or.inl rfl)) (fun _ _ _ _ _ => pts_one (pt_cmpR (op_neD hr.units) (pv 4) (pe_lst pa_nil) (nomark _))) (fun _ _ _ _ _ => pv 4)))
      (pss_cons (ps_set (i := 2) scMerged.nd rfl (Or.inl rfl) (pe_lst pa_nil))
      (pss_cons (ps_while PassesOwn.never (pt_cmpR (op_neD hr.units) (pv 1) (pe_lst pa_nil) (nomark _))
        (pss_cons (ps_set (i := 3) scMerged.nd rfl (Or.inr rfl) (pe_lc (own := [("_law_one", 4)]) (g := gName 4) (tt := tFreeT K) (te := tFirst K 4) rfl scMerged.nd (pi_list (pv 1)) (blkOk_by (N := nMerged) (sc := defScope sMerged) (by decide +kernel))
            (fun _ _ _ _ _ => pg_name (i := 4) scMerged.nd rfl (Or.inr rfl)) (fun _ _ _ _ _ => pts_one (pt_cmpR (op_eqD hr.units) (pe_lc (own := [("_law_other", 5)]) (g := gName 5) (tt := tBeh K) (te := tVar 5) rfl scMerged.nd (pi_list (pv 1)) (show BlkOk nMerged (relS _ (defScope sMerged)) _ _ from blkOk_by (by decide +kernel))
                (fun _ _ _ _ _ => pg_name (i := 5) scMerged.nd rfl (Or.inl rfl)) (fun _ _ _ _ _ => pts_one (pt_cmpR op_in_seq (pe_ix ix_list (pv 4) pe_int (fun _ _ => rfl)) (pe_slice sl_list (pv 5) (po_some pe_int) po_none) (by rfl))) (fun _ _ _ _ _ => pv 5)) (pe_lst pa_nil) (nomark _)))
            (fun _ _ _ _ _ => pe_ix ix_list (pv 4) pe_int (fun _ _ => rfl))))
        (pss_cons (ps_if (pt_cmpR (op_eqD hr.units) (pv 3) (pe_lst pa_nil) (nomark _)) (pss_one (ps_ret pe_non)) pss_nil)
        (pss_cons (ps_expr (pe_bm PySem.F.plainAttrs_list PySem.F.slot_list_append PySem.F.type_list_append mt_append (pv 2) (pa_cons (pe_ix ix_list (pv 3) pe_int (fun _ _ => rfl)) pa_nil)))
        (pss_cons (ps_set (i := 1) scMerged.nd rfl (Or.inr rfl) (pe_lc (own := [("_law_one", 4)]) (g := gName 4) (tt := tYes) (te := tDropE K) rfl scMerged.nd (pi_list (pv 1)) (blkOk_by (N := nMerged) (sc := defScope sMerged) (by decide +kernel))
            (fun _ _ _ _ _ => pg_name (i := 4) scMerged.nd rfl (Or.inl rfl)) (fun _ _ _ _ _ => pts_nil) (fun _ _ _ _ _ => pe_lc (own := [("_law_item", 6)]) (g := gName 6) (tt := tTest (tOp rNe (tVar 6) (tFirst K 3))) (te := tVar 6) rfl scMerged.nd (pi_list (pv 4)) (show BlkOk nMerged (relS _ (defScope sMerged)) _ _ from blkOk_by (by decide +kernel))
              (fun _ _ _ _ _ => pg_name (i := 6) scMerged.nd rfl (Or.inl rfl)) (fun _ _ _ _ _ => pts_one (pt_cmpR op_ne (pv 6) (pe_ix ix_list (pv 3) pe_int (fun _ _ => rfl)) (nomark _))) (fun _ _ _ _ _ => pv 6))))
        (pss_one (ps_set (i := 1) scMerged.nd rfl (Or.inr rfl) (pe_lc (own := [("_law_one", 4)]) (g := gName 4) (tt := tNe K 4) (te := tVar 4) rfl scMerged.nd (pi_list (pv 1)) (blkOk_by (N := nMerged) (sc := defScope sMerged) (by decide +kernel))
            (fun _ _ _ _ _ => pg_name (i := 4) scMerged.nd rfl (Or.inl rfl)) (fun _ _ _ _ _ => pts_one (pt_cmpR (op_neD hr.units) (pv 4) (pe_lst pa_nil) (nomark _))) (fun _ _ _ _ _ => pv 4)))))))))
      (pss_one (ps_ret (pv 2))))), ?_⟩
    have fewP : ps.length ≤ 30 := fit.few
    have ndL : ∀ l ∈ lsOf ps, l.Nodup := fun l hl => by obtain ⟨p, hp, rfl⟩ := List.mem_map.mp hl; exact fit.nd p hp
    have shortL : ∀ l ∈ lsOf ps, l.length ≤ 30 := fun l hl => by obtain ⟨p, hp, rfl⟩ := List.mem_map.mp hl; exact fit.short p hp
    have sumL := sum_le (lsOf ps) shortL
    have fewL : (lsOf ps).length ≤ 30 := by rw [List.length_map]; exact fit.few
    refine ⟨_, rfl, a, rfl, ⟨_, hL.1⟩, fun L0 hL0 => lc_sel (K := K) (ps := ps) (gv := fun p => V.ref p.1) 4 (fun p => V.ref p.1) (fun p => Mg.ne p.2) hL.1 (small1000 (by omega)) hL0 (fun _ => rfl)
      (fun j p G Q1 hp s q => tNe_step rfl (s.seq (hL.2 p (List.mem_of_getElem? hp))) q) (fun j p G Q1 hp _ s q => ⟨_, rfl, q _ (Same.refl _)⟩) fun G s1 hG => ?_⟩
    refine ⟨Nat.zero_le _, fun Fd hFd => ?_⟩
    have nFd : H Fd = none := none_of_same s1 hFd
    have s2 : Same H (upd G Fd (.lst [])) := same_upd s1 nFd
    have LF : L0 ≠ Fd := ne_of_none hG hFd
    have lq0 : lsOf (ps.filter fun p => Mg.ne p.2) = Mg.nonE (lsOf ps) := by
      unfold Mg.nonE lsOf
      rw [List.filter_map]
      rfl
    refine while_m (fun m σ G => ∃ (L : Addr) (v3 : Option V) (n : Nat) (qs : List (Addr × List Int)), m = Mg.size (Mg.st (lsOf ps) n).2 ∧ σ = [some (.ref a), some (.ref L), some (.ref Fd), v3, none, none, none] ∧
        Same H G ∧ LofL K G L qs ∧ lsOf qs = Mg.nonE (Mg.st (lsOf ps) n).2 ∧ G Fd = some (.lst ((Mg.st (lsOf ps) n).1.map V.int)) ∧
        L ≠ Fd ∧ ∀ p ∈ qs, Off K Fd p.1 (p.2.map V.int))
      ⟨_, L0, none, 0, ps.filter fun p => Mg.ne p.2, rfl, rfl, s2, ⟨SqL.of (by rw [upd_ne LF]; exact hG), fun p hp => s2.seq (hL.2 p (List.mem_filter.mp hp).1)⟩, lq0, upd_same, LF, fun p hp => Off.of (hL.2 p (List.mem_filter.mp hp).1) nFd⟩ ?_ ?_
    · rintro m σ G ⟨L, v3, n, qs, rfl, rfl, s3, hQ, lq, hOrd, LFd, off⟩
      have ok := Mg.ok_st ndL n
      have fewQ : qs.length ≤ 30 := by
        have e := congrArg List.length lq
        have e2 := List.length_filter_le Mg.ne (Mg.st (lsOf ps) n).2
        have e3 := ok.len
        unfold Mg.nonE at e
        rw [List.length_map] at e
        omega
      have neQ : ∀ p ∈ qs, ∃ z t, p.2 = z :: t := fun p hp => by
        have m : p.2 ∈ Mg.nonE (Mg.st (lsOf ps) n).2 := by rw [← lq]; exact List.mem_map.mpr ⟨p, hp, rfl⟩
        have e := Mg.ne_iff.mp (List.mem_filter.mp m).2
        cases h : p.2 with
        | nil => exact absurd h e
        | cons z t => exact ⟨z, t, rfl⟩
      refine ⟨_, rfl, Nat.zero_le _, fun p1 hp1 => ⟨listsD (lsOf qs), .list [], dp_lists (hQ.keep (same_new hp1)), dp_nil upd_same, shaped_lists _, shaped_nil, _, rfl, ?_⟩⟩
      rw [eqvs_nil]
      have s4 : Same G (upd G p1 (.lst [])) := same_new hp1
      generalize upd G p1 (.lst []) = G1 at s4
      cases hem : (lsOf qs).isEmpty with
      | true =>
        refine iteF ?_
        have e : lsOf qs = [] := List.isEmpty_iff.mp hem
        rw [lq] at e
        exact ⟨_, rfl, k _ _ (s3.trans s4) (.inl ⟨n, Fd, Mg.nonE_empty.mp e, rfl, nFd, s4 _ _ hOrd⟩)⟩
      | false =>
        refine iteT ?_
        have hQ1 := hQ.keep s4
        refine ⟨_, rfl, L, rfl, ⟨_, hQ1.1⟩, fun D hD => lc_sel (K := K) (ps := qs) (gv := fun p => V.ref p.1) 4 (fun p => V.int (p.2.headD 0)) (fun p => Mg.clear (lsOf qs) (p.2.headD 0)) hQ1.1 (small1000 (by omega)) hD (fun _ => rfl)
          (fun j p G2 Q1 hp s q => ?_) (fun j p G2 Q1 hp _ s q => ?_) fun G2 s5 hF => ?_⟩
        · obtain ⟨z, t, hz⟩ := neQ p (List.mem_of_getElem? hp)
          have hQ2 := hQ1.keep s
          have hS := hQ2.2 p (List.mem_of_getElem? hp)
          rw [hz] at q hS
          refine ⟨_, rfl, L, rfl, ⟨_, hQ2.1⟩, fun D2 hD2 => lc_sel (K := K) (ps := qs) (gv := fun p => V.ref p.1) 5 (fun o => V.ref o.1) (fun o => o.2.tail.contains z) hQ2.1 (small1000 (by omega)) hD2 (fun _ => rfl)
            (fun i o G3 Q2 ho s' q' => ?_) (fun i o G3 Q2 ho _ s' q' => ⟨_, rfl, q' _ (Same.refl _)⟩) fun G3 s' h3 => ?_⟩
          · refine ⟨_, rfl, p.1, _, 0, .int z, rfl, rfl, s'.seq hS, at0 _ _, _, rfl, 1, rfl, o.1, _, rfl, (hQ2.keep s').2 o (List.mem_of_getElem? ho), fun L3 hL3 => ⟨L3, _, rfl, .inl (SqL.of upd_same), rfl, ?_, _, rfl, ?_⟩⟩
            · rw [cut_tail, ← List.map_tail]; exact flat_ints _
            · rw [cut_tail, ← List.map_tail, inV_ints]
              exact q' _ (same_new hL3)
          · refine ⟨Nat.zero_le _, fun p2 hp2 => ⟨listsD (lsOf (qs.filter fun o => o.2.tail.contains z)), .list [], dp_lists ⟨SqL.of (by rw [upd_ne (ne_of_none h3 hp2)]; exact h3), fun o ho => ((hQ2.keep s').keep (same_new hp2)).2 o (List.mem_filter.mp ho).1⟩, dp_nil upd_same, shaped_lists _, shaped_nil, _, rfl, ?_⟩⟩
            rw [eqvs_nil]
            have e : (lsOf (qs.filter fun o => o.2.tail.contains z)).isEmpty = Mg.clear (lsOf qs) z := by
              have h : (lsOf (qs.filter fun o => o.2.tail.contains z)).isEmpty = true ↔ Mg.clear (lsOf qs) z = true := by
                rw [List.isEmpty_iff, List.map_eq_nil_iff, List.filter_eq_nil_iff, Mg.clear_iff]
                refine ⟨fun h r hr => ?_, fun h o ho hc => h o.2 (List.mem_map.mpr ⟨o, ho, rfl⟩) (List.contains_iff_mem.mp hc)⟩
                obtain ⟨o, ho, rfl⟩ := List.mem_map.mp hr
                exact fun c => h o ho (List.contains_iff_mem.mpr c)
              cases h1 : (lsOf (qs.filter fun o => o.2.tail.contains z)).isEmpty <;> cases h2 : Mg.clear (lsOf qs) z
              · rfl
              · rw [h.mpr h2] at h1; cases h1
              · rw [h.mp h1] at h2; cases h2
              · rfl
            rw [e]
            exact q _ (s'.trans (same_new hp2))
        · obtain ⟨z, t, hz⟩ := neQ p (List.mem_of_getElem? hp)
          have hS := (hQ1.keep s).2 p (List.mem_of_getElem? hp)
          rw [hz] at q hS
          exact ⟨_, rfl, p.1, _, 0, .int z, rfl, rfl, hS, at0 _ _, q _ (Same.refl _)⟩
        · -- the free items
          have fr : ((qs.filter fun p => Mg.clear (lsOf qs) (p.2.headD 0)).map fun p => V.int (p.2.headD 0)) = ((Mg.heads (lsOf qs)).filter (Mg.clear (lsOf qs))).map V.int := by
            have g : ∀ (c : Int → Bool) (l : List (Addr × List Int)), (∀ p ∈ l, ∃ z t, p.2 = z :: t) → ((l.filter fun p => c (p.2.headD 0)).map fun p => V.int (p.2.headD 0)) = ((Mg.heads (lsOf l)).filter c).map V.int := by
              intro c l
              induction l with
              | nil => intro _; rfl
              | cons p l ih =>
                intro h
                obtain ⟨z, t, hz⟩ := h p List.mem_cons_self
                have ih := ih fun q hq => h q (List.mem_cons_of_mem _ hq)
                have e : Mg.heads (lsOf (p :: l)) = z :: Mg.heads (lsOf l) := by
                  show Mg.heads (p.2 :: lsOf l) = _
                  rw [hz]
                  rfl
                have e0 : p.2.headD 0 = z := by rw [hz]; rfl
                rw [e]
                by_cases hc : c z = true
                · rw [List.filter_cons_of_pos (by rw [e0]; exact hc), List.filter_cons_of_pos hc, List.map_cons, List.map_cons, ih, e0]
                · rw [List.filter_cons_of_neg (by rw [e0]; exact hc), List.filter_cons_of_neg hc, ih]
            exact g _ qs neQ
          rw [fr] at hF
          have hd := Mg.free_head (lsOf qs)
          have same : Mg.firstFree (lsOf qs) = Mg.firstFree (Mg.st (lsOf ps) n).2 := by rw [lq, Mg.free_nonE]
          generalize (Mg.heads (lsOf qs)).filter (Mg.clear (lsOf qs)) = frees at hF hd
          refine ⟨_, rfl, Nat.zero_le _, fun p3 hp3 => ⟨intsD frees, .list [], dp_list (SqL.of (by rw [upd_ne (ne_of_none hF hp3)]; exact hF)), dp_nil upd_same, shaped_ints _, shaped_nil, _, rfl, ?_⟩⟩
          rw [eqv_nil]
          have s6 : Same G2 (upd G2 p3 (.lst [])) := same_new hp3
          have hF3 := s6 _ _ hF
          generalize upd G2 p3 (.lst []) = G3 at s6 hF3
          have s7 : Same G G3 := s4.trans (s5.trans s6)
          cases frees with
          | nil =>
            refine iteT (k _ _ (s3.trans s7) (.inr ⟨n, by rw [← same, hd]; rfl, ?_, rfl⟩))
            cases hq : lsOf qs with
            | nil => rw [hq] at hem; cases hem
            | cons r rs =>
              have m : r ∈ Mg.nonE (Mg.st (lsOf ps) n).2 := by rw [← lq, hq]; exact List.mem_cons_self
              exact ⟨r, (List.mem_filter.mp m).1, Mg.ne_iff.mp (List.mem_filter.mp m).2⟩
          | cons x fr' =>
            have ff : Mg.firstFree (Mg.st (lsOf ps) n).2 = some x := by rw [← same, hd]; rfl
            have ordLen := st_ord_len (lsOf ps) n
            refine iteF ?_
            refine ⟨_, rfl, .inl ⟨rfl, _, SqL.of (s7 _ _ hOrd)⟩, _, rfl, D, _, 0, .int x, rfl, rfl, SqL.of hF3, at0 _ _, Fd, _, _, rfl, rfl, s7 _ _ hOrd, small1000 (by rw [List.length_map]; omega), ?_⟩
            have DF : D ≠ Fd := (ne_of_none (s4 _ _ hOrd) hD).symm
            have s8 : Same H (upd G3 Fd (.lst ((Mg.st (lsOf ps) n).1.map V.int ++ [.int x]))) := same_upd (s3.trans s7) nFd
            have hF4 : (upd G3 Fd (.lst ((Mg.st (lsOf ps) n).1.map V.int ++ [.int x]))) D = some (.lst ((x :: fr').map V.int)) := by rw [upd_ne DF]; exact hF3
            have hO4 : (upd G3 Fd (.lst ((Mg.st (lsOf ps) n).1.map V.int ++ [.int x]))) Fd = some (.lst ((Mg.st (lsOf ps) n).1.map V.int ++ [.int x])) := upd_same
            have b4 : But (· = Fd) G3 (upd G3 Fd (.lst ((Mg.st (lsOf ps) n).1.map V.int ++ [.int x]))) := but_upd
            have hQ3 := hQ.keep s7
            have hQ4 : LofL K (upd G3 Fd (.lst ((Mg.st (lsOf ps) n).1.map V.int ++ [.int x]))) L qs := ⟨but_seq b4 LFd hQ3.1, fun p hp => (off p hp).seq b4 (hQ3.2 p hp)⟩
            generalize upd G3 Fd (.lst ((Mg.st (lsOf ps) n).1.map V.int ++ [.int x])) = G4 at s8 hF4 hO4 hQ4
            refine ⟨_, rfl, L, rfl, ⟨_, hQ4.1⟩, fun E1 hE1 => lc_list (K := K) (a := L) (xs := refsOf qs) (fun j G' => ∃ ts : List (Addr × List Int), Same G4 G' ∧ G' E1 = some (.lst (refsOf ts)) ∧ (∀ t ∈ ts, G' t.1 = some (.lst (t.2.map V.int))) ∧ (∀ t ∈ ts, G4 t.1 = none) ∧ lsOf ts = ((lsOf qs).take j).map (Mg.drop1 x))
              ⟨[], same_new hE1, upd_same, (fun t ht => nomatch ht), (fun t ht => nomatch ht), rfl⟩ (fun j G' _ ⟨_, s, _⟩ => s.seq hQ4.1) (fun j y G' hy p => ?_) fun G' p => ?_⟩
            · obtain ⟨q, hq, rfl⟩ := get_map hy
              obtain ⟨ts, s9, hE, each, fresh, lt⟩ := p
              have mq := List.mem_of_getElem? hq
              refine ⟨rfl, ?_⟩
              unfold tYes
              simp only [if_true]
              have hS := (hQ4.keep s9).2 q mq
              have shortq : q.2.length ≤ 30 := by
                have m : q.2 ∈ Mg.nonE (Mg.st (lsOf ps) n).2 := by rw [← lq]; exact List.mem_map.mpr ⟨q, mq, rfl⟩
                exact st_short shortL n _ (List.mem_filter.mp m).1
              refine ⟨_, rfl, q.1, rfl, ⟨_, hS⟩, fun D3 hD3 => lc_sel (K := K) (ps := q.2) (gv := V.int) 6 V.int (fun y => decide (y ≠ x)) hS (small1000 (by omega)) hD3 (fun _ => rfl)
                (fun i y G5 Q2 _ s' q' => ?_) (fun i y G5 Q2 _ _ s' q' => ⟨_, rfl, q' _ (Same.refl _)⟩) fun G5 s' h5 => ?_⟩
              · refine ⟨_, rfl, _, rfl, D, _, 0, .int x, rfl, rfl, SqL.of (s' _ _ (s9 _ _ hF4)), at0 _ _, rfl, _, rfl, ?_⟩
                have e : (!decide (V.int y = V.int x)) = decide (y ≠ x) := by
                  by_cases h : y = x
                  · rw [h]; simp
                  · rw [decide_eq_false (fun e => h (V.int.inj e)), decide_eq_true h]; rfl
                rw [e]
                exact q' _ (Same.refl _)
              · have E5 := s' _ _ hE
                have DE : D3 ≠ E1 := (ne_of_none hE hD3).symm
                refine ⟨_, E5, ?_, ts ++ [(D3, Mg.drop1 x q.2)], same_upd (s9.trans s') hE1, ?_, fun t ht => ?_, fun t ht => ?_, ?_⟩
                · have e := congrArg List.length lt
                  rw [List.length_map, List.length_map, List.length_take, List.length_map] at e
                  rw [List.length_map]
                  exact small1000 (by omega)
                · unfold refsOf
                  rw [upd_same, List.map_append]
                  rfl
                · rcases List.mem_append.mp ht with m | m
                  · have e1 := s' _ _ (each t m)
                    have ne1 : t.1 ≠ E1 := fun e => by
                      have f := fresh t m
                      have e2 := each t m
                      rw [e, hE] at e2
                      cases hts : ts with
                      | nil => rw [hts] at m; cases m
                      | cons t0 ts' =>
                        rw [hts] at e2
                        have e3 := HO.lst.inj (Option.some.inj e2)
                        cases h2 : t.2 with
                        | nil => rw [h2] at e3; cases e3
                        | cons z r => rw [h2] at e3; cases e3
                    rw [upd_ne ne1]
                    exact e1
                  · rw [List.mem_singleton.mp m, upd_ne DE]
                    exact h5
                · rcases List.mem_append.mp ht with m | m
                  · exact fresh t m
                  · rw [List.mem_singleton.mp m]
                    exact none_of_same s9 hD3
                · unfold lsOf
                  rw [List.map_append]
                  show lsOf ts ++ [Mg.drop1 x q.2] = _
                  rw [lt, take_snoc (lsOf_at hq), List.map_append]
                  rfl
            · obtain ⟨ts, s9, hE, each, fresh, lt⟩ := p
              have e0 : (lsOf qs).take (refsOf qs).length = lsOf qs := List.take_of_length_le (by rw [List.length_map, List.length_map]; exact Nat.le_refl _)
              rw [e0] at lt
              have lenT : ts.length = qs.length := by
                have e := congrArg List.length lt
                rw [List.length_map, List.length_map, List.length_map] at e
                exact e
              refine ⟨_, rfl, E1, rfl, ⟨_, SqL.of hE⟩, fun E2 hE2 => lc_sel (K := K) (ps := ts) (gv := fun p => V.ref p.1) 4 (fun p => V.ref p.1) (fun p => Mg.ne p.2) (SqL.of hE) (small1000 (by omega)) hE2 (fun _ => rfl)
                (fun j p G5 Q1 hp s q => tNe_step rfl (SqL.of (s _ _ (each p (List.mem_of_getElem? hp)))) q) (fun j p G5 Q1 hp _ s q => ⟨_, rfl, q _ (Same.refl _)⟩) fun G5 s10 h5 => ?_⟩
              have clearX := (Mg.firstFree_some ff).2
              refine ⟨Mg.size (Mg.st (lsOf ps) (n + 1)).2, by rw [Mg.st_some ff]; exact Mg.size_step ff, E2, _, n + 1, ts.filter fun p => Mg.ne p.2, rfl, rfl, s8.trans (s9.trans s10), ⟨SqL.of h5, fun p hp => SqL.of (s10 _ _ (each p (List.mem_filter.mp hp).1))⟩, ?_, ?_, ?_, fun p hp => .inl ?_⟩
              · have e : lsOf (ts.filter fun p => Mg.ne p.2) = Mg.nonE (lsOf ts) := by
                  unfold Mg.nonE lsOf
                  rw [List.filter_map]
                  rfl
                rw [e, lt, lq, Mg.nonE_pull (fun r hr => ⟨ok.nodups ndL r hr, Mg.clear_iff.mp clearX r hr⟩), Mg.st_some ff]
              · rw [s10 _ _ (s9 _ _ hO4), Mg.st_some ff, List.map_append]
                rfl
              · exact (ne_of_none (s9 _ _ hO4) hE2).symm
              · exact fun e => by
                  have f := fresh p (List.mem_filter.mp hp).1
                  rw [e, hO4] at f
                  cases f
    · rintro σ G Q1 Q2 imp ⟨x, hx, z, h⟩
      exact ⟨x, hx, z, fun p hp => let ⟨d, e, h1, h2, h3, h4, c, h5, h6⟩ := h p hp; ⟨d, e, h1, h2, h3, h4, c, h5, imp _ _ h6⟩⟩
end
end Lw

set_option Elab.async false
set_option linter.all false
set_option maxRecDepth 100000
set_option maxHeartbeats 4000000
namespace Lw
open PySem L2 Two Pr
abbrev sLInt : Stmt := top 28
abbrev sLRing : Stmt := top 29
section
variable {P : Program} {w : World} {K : PySem.W.Frag} {mg : Str → Option Value} {base : Heap}
theorem scLInt : FnScope ["_law_value"] ["_law_value"] (defScope sLInt) := ⟨rfl, rfl, rfl, by decide +kernel, rfl, by decide +kernel, by decide +kernel⟩
theorem ok_lInt {f : Addr} {fd : FuncData} (F : Fun K "_law_is_integer" "_law_is_integer" sLInt f fd) (T : Txt mg) : FnOk P w K mg base CX0 1 f fd ["_law_value"] (spIsInt K) := by
  refine F.ok scLInt (fun vs H Q E h => ?_) (fun cdv A outer s H vs Q E hr h => ?_)
  · obtain ⟨x, _, _, _, rfl, _⟩ := h
    rfl
  · obtain ⟨x, t, b1, b2, rfl, ty, h1, h2, k⟩ := h
    refine ⟨_, pss_one (ps_ret (pe_and (pe_callB call_isi (by rfl) T.isinstance (by decide +kernel) (pa_cons (pv 0) (pa_cons (pe_bltn (v := .ty "int") (by rfl) T.int (by decide +kernel) rfl) pa_nil)))
      (pe_one (pe_not (pe_callB call_isi (by rfl) T.isinstance (by decide +kernel) (pa_cons (pv 0) (pa_cons (pe_bltn (v := .ty "bool") (by rfl) T.bool (by decide +kernel) rfl) pa_nil))))))), ?_⟩
    refine ⟨x, rfl, x, .ty "int", t, .type "int", b1, rfl, .ty _, ty, h1, b1, rfl, ?_⟩
    cases b1 with
    | false => exact iteF k
    | true => exact iteT ⟨x, rfl, x, .ty "bool", t, .type "bool", b2, rfl, .ty _, ty, h2, b2, rfl, k⟩

/-! ### _law_is_ring, where it is one -/
abbrev nLRing : List Str := ["_law_lists_here", "_law_ring", "_law_link", "_law_items_here", "_law_k", "_law_one", "_law_ahead", "_law_behind"]
theorem scLRing : FnScope nLRing ["_law_lists_here", "_law_ring"] (defScope sLRing) := ⟨rfl, rfl, rfl, by decide +kernel, rfl, by decide +kernel, by decide +kernel⟩
theorem ok_lRing {f fI : Addr} {fd fdI : FuncData} (F : Fun K "_law_is_ring" "_law_is_ring" sLRing f fd) (T : Txt mg) (gI : mg "_law_is_integer" = some (.ref fI)) (kI : PySem.W.keepIn K (.ref fI) = true) (bI : Binds K fdI ["_law_value"] [])
    (GI : FnOk P w K mg base CX0 1 fI fdI ["_law_value"] (spIsInt K)) : FnOk P w K mg base CX0 2 f fd ["_law_lists_here", "_law_ring"] (spIsRing K) := by
  refine F.ok scLRing (fun vs H Q E h => ?_) (fun cdv A outer s H vs Q E hr h => ?_)
  · obtain ⟨a, q, ps, us, rfl, _⟩ := h
    rfl
  · obtain ⟨a, q, ps, us, rfl, hL, fit, hq, tp, ring, hsz, k⟩ := h
    refine ⟨_, pss_cons (ps_if (PW.pt (pw_or (pt_not (pt_val (pe_callB call_isi (by rfl) T.isinstance (by decide +kernel) (pa_cons (pv 1) (pa_cons (pe_bltn (v := .ty "list") (by rfl) T.list (by decide +kernel) rfl) pa_nil)))))
        (pw_or1 (pt_cmpR op_lt (pe_callB call_len_seq (by rfl) T.len PySem.boot_len (pa_cons (pv 1) pa_nil)) pe_int (nomark _))))) pss_never pss_nil)
      (pss_cons (ps_for PassesOwn.never rfl (pi_list (pv 1)) (pg_name (i := 2) scLRing.nd rfl (Or.inl rfl))
        (pss_cons (ps_if (PW.pt (pw_or (pt_not (pt_val (pe_callB call_isi (by rfl) T.isinstance (by decide +kernel) (pa_cons (pv 2) (pa_cons (pe_bltn (v := .ty "tuple") (by rfl) T.tuple (by decide +kernel) rfl) pa_nil)))))
            (pw_or1 (pt_cmpR op_ne (pe_callB call_len_seq (by rfl) T.len PySem.boot_len (pa_cons (pv 2) pa_nil)) pe_int (nomark _))))) pss_never pss_nil)
        (pss_cons (ps_if (PW.pt (pw_or (pt_not (pt_val (pe_call GI hr rfl gI kI bI .nil pass0 (pa_cons (pe_ix ix_tup (pv 2) pe_int (fun _ _ => rfl)) pa_nil))))
            (pw_or1 (pt_not (pt_val (pe_call GI hr rfl gI kI bI .nil pass0 (pa_cons (pe_ix ix_tup (pv 2) pe_int (fun _ _ => rfl)) pa_nil))))))) pss_never pss_nil)
        (pss_one (ps_if (pt_not (pt_chain op_le op_lt pe_int (pe_ix ix_tup (pv 2) pe_int (fun _ _ => rfl)) (pe_callB call_len_seq (by rfl) T.len PySem.boot_len (pa_cons (pv 0) pa_nil)))) pss_never pss_nil)))))
      (pss_cons (ps_setLc (i := 3) (own := [("_law_link", 2)]) (g := gName 2) (tt := tYes) (te := tItem0 K 2) rfl scLRing.nd rfl rfl (sw_true rfl rfl rfl (by decide +kernel)) (pi_list (pv 1)) (blkOk_by (N := nLRing) (sc := defScope sLRing) (by decide +kernel))
          (fun _ _ _ _ _ => pg_name (i := 2) scLRing.nd rfl (Or.inl rfl)) (fun _ _ _ _ _ => pts_nil) (fun _ _ _ _ _ => pe_ix ix_tup (pv 2) pe_int (fun _ _ => rfl)))
      (pss_cons (ps_if (pt_cmpR op_lt (RZ.pe_lenSetI (by rfl) T.len (by rfl) T.set (pv 3)) (pe_callB call_len_seq (by rfl) T.len PySem.boot_len (pa_cons (pv 3) pa_nil)) (nomark _)) pss_never pss_nil)
      (pss_cons (ps_for PassesOwn.never rfl (pi_range1 rfl T.range (pa_cons (pe_callB call_len_seq (by rfl) T.len PySem.boot_len (pa_cons (pv 1) pa_nil)) pa_nil)) (pg_name (i := 4) scLRing.nd rfl (Or.inl rfl))
        (pss_cons (ps_set (i := 5) scLRing.nd rfl (Or.inl rfl) (pe_ix ix_list (pv 0) (pe_ix ix_tup (pe_ix ix_list (pv 1) (pv 4) (fun _ _ => rfl)) pe_int (fun _ _ => rfl)) (fun _ _ => rfl)))
        (pss_cons (ps_par (i := 6) (j := 7) rfl scLRing.nd rfl rfl (by decide) rfl rfl (pa_cons (pe_ix ix_list (pv 3) (pv 4) (fun _ _ => rfl)) (pa_cons (pe_ix ix_list (pv 3) (pe_op op_mod (pe_op op_add (pv 4) pe_int) (pe_callB call_len_seq (by rfl) T.len PySem.boot_len (pa_cons (pv 1) pa_nil))) (fun _ _ => rfl)) pa_nil)) (by rfl))
        (pss_one (ps_if (PW.pt (pw_or (pt_cmpR op_notIn_seq (pv 6) (pv 5) (by rfl)) (pw_or (pt_cmpR op_notIn_seq (pv 7) (pv 5) (by rfl))
          (pw_or1 (pt_cmpR op_ge (pe_bm PySem.F.plainAttrs_list PySem.F.slot_list_index PySem.F.type_list_index mt_index (pv 5) (pa_cons (pv 6) pa_nil)) (pe_bm PySem.F.plainAttrs_list PySem.F.slot_list_index PySem.F.type_list_index mt_index (pv 5) (pa_cons (pv 7) pa_nil)) (nomark _)))))) pss_never pss_nil)))))
      (pss_one (ps_ret pe_bl)))))), ?_⟩
    have szq : (tupRefs us).length = us.length := by rw [List.length_map]
    have two : 2 ≤ us.length := by have := ring.two; rw [List.length_map] at this; exact this
    refine ⟨_, rfl, _, .ty "list", .type "list", .type "list", true, rfl, .ty _, tyx_list (SqL.of hq), kit_ty (by decide +kernel), true, rfl, iteF ?_⟩
    refine ⟨_, rfl, q, _, rfl, .inl (SqL.of hq), _, _, rfl, rfl, _, rfl, ?_⟩
    rw [decide_eq_false (by rw [szq]; omega)]
    refine iteF ?_
    have link : ∀ (j : Nat) (u : Addr × Int × Nat), us[j]? = some u → u.2.2 < ps.length := fun j u hu => by
      obtain ⟨a1, i1, b1, j1, l1, e1, e2, e3, e4⟩ := ring.link j (by rw [List.length_map]; exact (List.getElem?_eq_some_iff.mp hu).1)
      rw [List.getElem?_map, hu] at e1
      have e1 : some u.2 = some (a1, i1) := e1
      have e5 : u.2.2 = i1 := by rw [Option.some.inj e1]
      rw [e5]
      have := (List.getElem?_eq_some_iff.mp e3).1
      rw [List.length_map] at this
      exact this
    refine ⟨_, rfl, q, rfl, ⟨_, SqL.of hq⟩, for_list (K := K) (a := q) (xs := tupRefs us) (fun i σ G => G = H ∧ ∃ v : Option V, σ = [some (.ref a), some (.ref q), v, none, none, none, none, none]) ⟨rfl, none, rfl⟩ (fun i σ G _ p => by rw [p.1]; exact SqL.of hq) ?_ ?_⟩
    · rintro j x σ G hx ⟨rfl, v, rfl⟩
      obtain ⟨u, hu, rfl⟩ := get_map hx
      have ht := tp u (List.mem_of_getElem? hu)
      have hlk := link j u hu
      refine ⟨_, rfl, _, .ty "tuple", .type "tuple", .type "tuple", true, rfl, .ty _, tyx_tup ht, kit_ty (by decide +kernel), true, rfl, iteF ?_⟩
      refine ⟨_, rfl, u.1, _, rfl, .inr (SqT.of ht), rfl, _, rfl, iteF ?_⟩
      refine ⟨_, rfl, u.1, _, 0, .int u.2.1, rfl, rfl, SqT.of ht, rfl, .int u.2.1, .type "int", true, false, rfl, .base (.int _), kit_ty (by decide +kernel), kit_ty (by decide +kernel), true, rfl, iteF ?_⟩
      refine ⟨_, rfl, u.1, _, 1, .int (u.2.2 : Nat), rfl, rfl, SqT.of ht, rfl, .int (u.2.2 : Nat), .type "int", true, false, rfl, .base (.int _), kit_ty (by decide +kernel), kit_ty (by decide +kernel), true, rfl, iteF ?_⟩
      refine ⟨_, rfl, u.1, _, 1, .int (u.2.2 : Nat), rfl, rfl, SqT.of ht, rfl, 0, _, rfl, rfl, _, rfl, ?_⟩
      rw [decide_eq_true (by omega)]
      refine iteT ⟨_, rfl, a, _, rfl, .inl hL.1, _, _, rfl, rfl, _, rfl, ?_⟩
      rw [decide_eq_true (by rw [List.length_map]; omega)]
      exact iteF ⟨rfl, _, rfl⟩
    · rintro σ G ⟨rfl, v, rfl⟩
      refine ⟨_, rfl, q, rfl, ⟨_, SqL.of hq⟩, fun D hD => lc_sel (K := K) (ps := us) (gv := fun u => V.ref u.1) 2 (fun u => V.int u.2.1) (fun _ => true) (SqL.of hq) (small1000 (by omega)) hD (fun _ => rfl)
        (fun j u G1 Q1 _ s q' => q' _ (Same.refl _)) (fun j u G1 Q1 hu _ s q' => ⟨_, rfl, u.1, _, 0, .int u.2.1, rfl, rfl, SqT.of (s _ _ (tp u (List.mem_of_getElem? hu))), rfl, q' _ (Same.refl _)⟩) fun G1 s1 h1 => ?_⟩
      rw [List.filter_eq_self.mpr fun _ _ => rfl] at h1
      have items : us.map (fun u => V.int u.2.1) = (((us.map (·.2)).map (·.1))).map V.int := by
        rw [List.map_map, List.map_map]
        rfl
      rw [items] at h1
      generalize hits : (us.map (·.2)).map (·.1) = its at h1
      have lenI : its.length = us.length := by rw [← hits, List.length_map, List.length_map]
      have ndI : its.Nodup := by rw [← hits]; exact ring.nd
      refine ⟨_, rfl, D, its, rfl, SqL.of h1, ndI, by omega, _, rfl, D, _, rfl, .inl (SqL.of h1), _, _, rfl, rfl, _, rfl, ?_⟩
      rw [decide_eq_false (by rw [List.length_map]; omega)]
      refine iteF ?_
      have hq1 := s1 _ _ hq
      refine ⟨_, rfl, q, _, rfl, .inl (SqL.of hq1), _, rfl, by omega, by rw [szq]; omega, for_range (lo := 0) (n := (((tupRefs us).length : Nat) : Int).toNat) (fun i σ G => G = G1 ∧ ∃ (v2 v4 v5 v6 v7 : Option V), σ = [some (.ref a), some (.ref q), v2, some (.ref D), v4, v5, v6, v7]) ⟨rfl, _, _, _, _, _, rfl⟩ ?_ ?_⟩
      · rintro j σ G hj ⟨rfl, v2, v4, v5, v6, v7, rfl⟩
        rw [szq] at hj
        have hj : j < us.length := by omega
        obtain ⟨a1, i1, b1, j1, l1, g1, g2, g3, g4⟩ := ring.link j (by rw [List.length_map]; exact hj)
        rw [List.length_map] at g2
        obtain ⟨u, hu, e1⟩ := get_map g1
        obtain ⟨p0, hp0, e0⟩ := get_map g3
        have mp := List.mem_of_getElem? hp0
        have ht := s1 _ _ (tp u (List.mem_of_getElem? hu))
        rw [← e1] at ht
        have hS := s1.seq (hL.2 p0 mp)
        rw [← e0] at hS
        have short1 : l1.length ≤ 30 := by rw [e0]; exact fit.short p0 mp
        obtain ⟨ia, ib, ha, hb, hab, na, nb⟩ := g4.at (by rw [e0]; exact fit.nd p0 mp)
        have rp : (refsOf ps)[i1]? = some (V.ref p0.1) := by rw [List.getElem?_map, hp0]; rfl
        have ru : (tupRefs us)[j]? = some (V.ref u.1) := by rw [List.getElem?_map, hu]; rfl
        have z0 : (0 : Int) + (j : Nat) = ((j : Nat) : Int) := by omega
        have itA : its[j]? = some a1 := by rw [← hits, List.getElem?_map, g1]; rfl
        have itB : its[(j + 1) % us.length]? = some b1 := by rw [← hits, List.getElem?_map, g2]; rfl
        have z1 : ((j : Nat) + 1 : Int) % (((tupRefs us).length : Nat) : Int) = (((j + 1) % us.length : Nat) : Int) := by rw [szq]; exact (Int.natCast_emod (j + 1) us.length).symm
        rw [z0]
        refine ⟨_, rfl, _, rfl, _, rfl, q, _, (j : Nat), .ref u.1, rfl, rfl, SqL.of hq1, atI_nat ru, u.1, _, 1, .int (i1 : Nat), rfl, rfl, SqT.of ht, rfl, a, _, (i1 : Nat), .ref p0.1, rfl, rfl, s1.seq hL.1, atI_nat rp, ?_⟩
        refine ⟨_, rfl, _, rfl, D, _, (j : Nat), .int a1, rfl, rfl, SqL.of h1, atI_nat (by rw [List.getElem?_map, itA]; rfl), _, rfl, _, rfl, _, _, rfl, rfl, _, rfl, q, _, rfl, .inl (SqL.of hq1), _, _, rfl, rfl, (by show (0 : Int) < (((tupRefs us).length : Nat) : Int); rw [szq]; omega), D, _, _, .int b1, rfl, rfl, SqL.of h1, ?_, _, _, rfl, ?_⟩
        · rw [z1]
          exact atI_nat (by rw [List.getElem?_map, itB]; rfl)
        refine ⟨_, rfl, _, rfl, p0.1, _, rfl, .inl hS, rfl, flat_ints _, _, rfl, ?_⟩
        show if (!inV (.int a1) (l1.map V.int)) = true then _ else _
        rw [inV_ints, List.contains_iff_mem.mpr (List.mem_of_getElem? ha)]
        refine iteF ?_
        refine ⟨_, rfl, _, rfl, p0.1, _, rfl, .inl hS, rfl, flat_ints _, _, rfl, ?_⟩
        show if (!inV (.int b1) (l1.map V.int)) = true then _ else _
        rw [inV_ints, List.contains_iff_mem.mpr (List.mem_of_getElem? hb)]
        refine iteF ?_
        have idx : ∀ (z : Int) (n : Nat), l1[n]? = some z → (∀ m, m < n → l1[m]? ≠ some z) → ∀ (m : Nat) (z' : V), m < n → (l1.map V.int)[m]? = some z' → eqV z' (.int z) = false := fun z n _ no m z' hm hz => by
          obtain ⟨y, hy, rfl⟩ := get_map hz
          show (y == z) = false
          exact beq_eq_false_iff_ne.mpr fun e => no m hm (by rw [hy, e])
        refine ⟨_, rfl, .inl ⟨rfl, _, hS⟩, _, rfl, p0.1, _, .int a1, ia, .int a1, rfl, rfl, hS, rfl, flat_ints _, by rw [List.getElem?_map, ha]; rfl, beq_self_eq_true a1, idx a1 ia ha na, ?_⟩
        refine ⟨_, rfl, .inl ⟨rfl, _, hS⟩, _, rfl, p0.1, _, .int b1, ib, .int b1, rfl, rfl, hS, rfl, flat_ints _, by rw [List.getElem?_map, hb]; rfl, beq_self_eq_true b1, idx b1 ib hb nb, _, _, rfl, rfl, _, rfl, ?_⟩
        rw [decide_eq_false (by omega)]
        exact iteF ⟨rfl, _, _, _, _, _, rfl⟩
      · rintro σ G ⟨rfl, _⟩
        exact k _ s1
end
end Lw

set_option Elab.async false
set_option linter.all false
set_option maxRecDepth 100000
set_option maxHeartbeats 8000000
/-! set(xs) of a list of ints. -/
namespace Two
open PySem PySem.Spec PyProof.Rows L2
section
variable {P : Program} {w : World} {A : Around} {E : Value → Shared → Prop} {s : Shared}
/-- the object of an empty set -/
abbrev setOb (w : World) : Obj := { cls := .type "set", dict := none, data := .set #[] 0 (.fresh 0 0 (!w.params.followText "set-order")) }
theorem call_set_lstI {l : Addr} {its : Array Value} (ns : List Int) {Q : Value → Shared → Prop} (hh : A.handled = none) (hl : s.heap.IsList l its) (hi : IntsAre its.toList ns) (hb : ns.length + 1 < scanBound)
    (h : ∀ (h' : Heap) (tk c : Nat), SetR w h' s.heap.objs.size (fun j => decide (j ∈ ns)) c → (∀ b o, s.heap.get? b = some o → h'.get? b = some o) → Q (.ref s.heap.objs.size) { s with heap := h', toks := tk }) :
    wpAny (model P w) A (call (.type "set") [.ref l]) Q E s := by
  have size : its.size = ns.length := by have q := hi.length; rwa [Array.length_toList] at q
  obtain ⟨c, tl, hmro⟩ := F.called_set.mro
  have hmade := F.called_set.made
  have hsub := F.called_set.sub
  refine wpAny_call (codeAny_of_tree ?_)
  show wpAny _ _ (callAny (.type "set") _) _ _ _
  refine wpAny_pure ⟨Code.quiet_builtin _ (by decide +kernel), codeAny_builtin F.entry_type_call ?_⟩
  rw [Around.under_plain (weight_type_call_type "set" [.ref l] []) rfl]
  have h1 := F.called_set.notType
  have h2 := F.called_set.canCreate
  have h3 := F.typeCall_set_1 (.ref l)
  repeat (any_goals (first | assumption | wp_step))
  refine codeAny_mono (code_set_led1 (.ref l) (E := E) (Q₁ := fun ob z => ob = .ref s.heap.objs.size ∧ z = { s with heap := s.heap.push (setOb w) }) ⟨rfl, rfl⟩) fun r z hr => ?_
  match r, hr with
  | .error e, hr => exact hr
  | .ok .next, hr => exact hr.elim
  | .ok .brk, hr => exact hr.elim
  | .ok .cont, hr => exact hr.elim
  | .ok (.ret ob), hr =>
    obtain ⟨rfl, rfl⟩ := hr
    have new : (s.heap.push (setOb w)).get? s.heap.objs.size = some (setOb w) := Heap.get?_push_size _ rfl
    have hT : Shared.TypeIs { s with heap := s.heap.push (setOb w) } (.ref s.heap.objs.size) "set" := ⟨_, new, rfl⟩
    have i1 := F.called_set.init.lookup
    have i2 := F.called_set.init.bind (.ref s.heap.objs.size)
    repeat (any_goals (first | assumption | wp_step))
    refine codeAny_mono (codeAny_call_builtin (R := wants (fun r y => r = .none ∧ ∃ h' tk c, y = { s with heap := h', toks := tk } ∧ SetR w h' s.heap.objs.size (fun j => decide (j ∈ ns)) c ∧ (∀ b o, s.heap.get? b = some o → h'.get? b = some o)) E)
      F.called_set.init.plain F.entry_set_init (check_set_init_1 hT ?_)) fun r y hr => ?_
    · obtain ⟨⟨ocls, odict, odata, oslots⟩, hol, hcl, nl, hdl⟩ := hl
      have hcl : ocls = .type "list" := hcl
      have hdl : odata = .seq its nl := hdl
      subst hcl hdl
      have kept : (s.heap.push (setOb w)).get? l = some { cls := .type "list", dict := odict, data := .seq its nl, slots := oslots } := Heap.get?_push_of_some _ hol
      have t1 := F.sub_list_set
      have t2 := F.sub_list_frozenset
      have t3 : (Value.type "list" == Value.type "dict") = false := by decide
      have isL : (s.heap.push (setOb w)).IsList l its := ⟨_, kept, rfl, nl, rfl⟩
      unfold Builtin.«set.__init__» noKeywords Builtin.Frozenset.updateFrom
      generalize hPI : pyIter = PI
      wp_walk
      subst hPI
      refine wpAny_pyIter_list isL ?_
      refine wpAny_bind (wpAny_runValue ?_)
      have lS : l < s.heap.objs.size := Heap.lt_size hol
      have hh3 : A.in1.in1.in1.handled = none := by simp [hh]
      have ne1 : l ≠ (s.heap.push (setOb w)).objs.size := by rw [Heap.size_push]; exact Nat.ne_of_lt (Nat.lt_succ_of_lt lS)
      have out : s.heap.objs.size ∉ [(s.heap.push (setOb w)).objs.size, l] := by
        rw [Heap.size_push]
        simp only [List.mem_cons, List.not_mem_nil, or_false, not_or]
        exact ⟨Nat.ne_of_lt (Nat.lt_succ_self _), Nat.ne_of_gt lS⟩
      have val : ∀ (i : Nat) (v : Value), its[i]? = some v → ∃ k t, ns[i]? = some k ∧ v = .int k t := fun i v hv => by
        have lt : i < ns.length := by rw [← size]; exact (Array.getElem?_eq_some_iff.mp hv).1
        obtain ⟨t, e⟩ := hi.int_at i v (by rw [Array.getElem?_toList]; exact hv)
        exact ⟨ns[i], t, List.getElem?_eq_getElem lt, by rw [e, List.getD_eq_getElem?_getD, List.getElem?_eq_getElem lt] <;> rfl⟩
      refine set_update_ints ((Walks.list hh3 _ l ne1 its).toS) s.heap.objs.size out ns size hb val (its.size - 0) 0 _ (by omega) (Nat.zero_le _) ⟨⟨_, Heap.get?_push_size _ rfl, rfl, rfl⟩, isL.push _⟩
        ⟨0, Nat.le_refl 0, setR_new_at (Heap.get?_push_of_some _ new)⟩ ?_
      intro y c' hm hc' hS
      obtain ⟨h', g2, d', tk', os'⟩ := y
      obtain rfl : g2 = s.gens := hm.gens
      obtain rfl : d' = s.drawn := hm.drawn
      obtain rfl : os' = s.os := hm.os
      show wpAny _ _ _ _ _ _
      refine wpAny_pure ?_
      show wpAny _ _ (ret Value.none) _ _ _
      refine wpAny_pure ⟨rfl, h', tk', c', rfl, hS, fun b o e => ?_⟩
      have lt0 : b < s.heap.objs.size := Heap.lt_size e
      refine hm.heap b o ?_ (Heap.get?_push_of_some _ (Heap.get?_push_of_some _ e))
      simp only [List.mem_cons, List.not_mem_nil, or_false, not_or]
      exact ⟨Nat.ne_of_lt lt0, by rw [Heap.size_push]; exact Nat.ne_of_lt (Nat.lt_succ_of_lt lt0)⟩
    · match r, hr with
      | .error e, hr => exact hr
      | .ok .next, hr => exact hr.elim
      | .ok .brk, hr => exact hr.elim
      | .ok .cont, hr => exact hr.elim
      | .ok (.ret r), hr =>
        obtain ⟨rfl, h', tk, c', rfl, hS, hk⟩ := hr
        repeat (any_goals (first | assumption | wp_step))
        exact h _ _ _ hS hk
end
theorem nodup_le_len : ∀ {l m : List Int}, l.Nodup → (∀ x ∈ l, x ∈ m) → l.length ≤ m.length
  | [], _, _, _ => Nat.zero_le _
  | a :: l, m, nd, h => by
    have nd := List.nodup_cons.mp nd
    have ha := h a List.mem_cons_self
    have q := nodup_le_len (l := l) (m := m.erase a) nd.2 fun x hx => (List.mem_erase_of_ne (fun e : x = a => nd.1 (by rw [← e]; exact hx))).mpr (h x (List.mem_cons_of_mem _ hx))
    have e := List.length_erase_of_mem ha
    have := List.length_pos_of_mem ha
    simp only [List.length_cons]
    omega
section
variable {X : Cx}
/-- set(xs), xs a list of ints that are all of U -/
def rSetL (K : PySem.W.Frag) (w : World) : List V → Hp → VK → Prop := fun vs H Q => ∃ (a : Addr) (ns U : List Int), vs = [V.ref a] ∧ SqL K H a (ns.map V.int) ∧ ns.length ≤ 1000 ∧ (∀ z ∈ ns, z ∈ U) ∧
  ∀ (p : Addr) (c : Nat), H p = none → c ≤ U.length → Q (.ref p) (upd H p (SetO w p (fun j => decide (j ∈ ns)) c))
theorem cr_setL (hc : X.calm = true) : CallR X (.type "set") (rSetL X.K X.w) := by
  intro pins s σ H vs us Q I r h
  obtain ⟨a, ns, U, rfl, hs, hz, hU, q⟩ := h
  rw [Vals.ref1 r]
  obtain ⟨its, rv, pl, _⟩ := I.list hs
  refine call_set_lstI ns (I.ok.hd hc) pl.isList (by simpa using RZ.intsAre_vals rv) (by unfold scanBound; omega) fun h' tk c R k => ?_
  have few : c ≤ U.length := by
    obtain ⟨o, es, ep, t, _, _, _, _, nd, mem, _, _, hn, _⟩ := R
    have e : (es.toList.map keyOf).length = c := by rw [List.length_map, Array.length_toList, hn]
    rw [← e]
    exact nodup_le_len nd fun x hx => hU x (of_decide_eq_true ((mem x).mpr hx))
  exact ⟨.ref _, _, I.laid (t' := tk) k (Nat.le_refl _) (setO_new R), rfl, q _ c (I.hok.fresh (Nat.le_refl _)) few⟩
end
end Two

set_option Elab.async false
set_option linter.all false
set_option maxRecDepth 100000
set_option maxHeartbeats 4000000
namespace Lw
open PySem L2 Two Pr
abbrev sItems : Stmt := top 23
abbrev sSome : Stmt := top 24
abbrev sTurned : Stmt := top 25
abbrev sLists : Stmt := top 26
structure TxtL (mg : Str → Option Value) : Prop where
  base : Txt mg
  sorted : mg "sorted" = none
  repr : mg "repr" = none
def Big (z : Int) : Prop := z.natAbs ≤ 10 ^ 30
def rMul : R2 := rI CMul fun i j => .int (i * j)
def rSub : R2 := rI0 fun i j => .int (i - j)
def rLt : R2 := rI0 fun i j => .bl (decide (i < j))
theorem but_trans {l : Addr} {H H1 H2 : Hp} (a : But (· = l) H H1) (b : But (· = l) H1 H2) : But (· = l) H H2 := fun p o n e => b p o n (a p o n e)
theorem but_same {l : Addr} {H H1 : Hp} (a : Same H H1) : But (· = l) H H1 := fun p o _ e => a p o e
theorem but_new {l p : Addr} {H H1 : Hp} {o : HO} (a : But (· = l) H H1) (n : H p = none) : But (· = l) H (upd H1 p o) := fun b u nb e => by
  rw [upd_ne (ne_of_none e n)]
  exact a b u nb e
theorem but_none {l p : Addr} {H H1 : Hp} (a : But (· = l) H H1) (n : H1 p = none) (ne : p ≠ l) : H p = none := by
  cases h : H p with
  | none => rfl
  | some o => rw [a p o ne h] at n; cases n
theorem src_none {H : Hp} {l p : Addr} {n : Nat} (s : Src H l n) (h : H p = none) : p ≠ l := fun e => by
  obtain ⟨x, y, c, e2, _⟩ := s
  rw [e, e2] at h
  cases h
theorem Src.upd {H : Hp} {l p : Addr} {n : Nat} {o : HO} (s : Src H l n) (h : p ≠ l) : Src (upd H p o) l n := by
  obtain ⟨x, y, c, e2, r⟩ := s
  exact ⟨x, y, c, by rw [upd_ne h.symm]; exact e2, r⟩
section
variable {P : Program} {w : World} {K : PySem.W.Frag} {mg : Str → Option Value} {base : Heap}
/-! ### _law_items -/
def spItems : Sp := fun vs H Q _ => ∃ (l : Addr) (m n : Nat), vs = [.ref l, .int m] ∧ m ≤ 20 ∧ Src H l n ∧ n ≤ 900000 ∧
  ∀ (H' : Hp) (r : Addr) (its : List Int), But (· = l) H H' → Src H' l (n + 64) → H r = none → H' r = some (.lst (its.map V.int)) → its.Nodup → its.length ≤ m + 2 → (∀ z ∈ its, Big z) → Q (.ref r) H'
abbrev nItems : List Str := ["_law_source_here", "_law_count", "_law_left", "_law_found", "_law_k"]
theorem scItems : FnScope nItems ["_law_source_here", "_law_count"] (defScope sItems) := ⟨rfl, rfl, rfl, by decide +kernel, rfl, by decide +kernel, by decide +kernel⟩
/-- k * pick(source, [1, 7]) - draw(source, 3) * 100 -/
def tDrawn (K : PySem.W.Frag) : TE := tOp rSub (tOp rMul (tVar 4) (tCall (spPick K) [] E0 (tCons (tVar 0) (tCons (tLst (tCons (tC (.int 1)) (tCons (tC (.int 7)) tNil))) tNil)))) (tOp rMul (tCall spDraw [] E0 (tCons (tVar 0) (tCons (tC (.int 3)) tNil))) (tC (.int 100)))
theorem pair_lt_nodup {l : List Int} (h : l.Pairwise (· < ·)) : l.Nodup := List.Pairwise.imp (fun {a b} (k : a < b) => by omega) h
theorem erase_perm' : ∀ {l : List Int} {k : Nat} {y : Int}, l[k]? = some y → (y :: l.eraseIdx k).Perm l
  | [], k, y, h => by simp at h
  | a :: l, 0, y, h => by
    have e : a = y := Option.some.inj h
    rw [e]
    exact List.Perm.refl _
  | a :: l, k + 1, y, h => (List.Perm.swap a y _).trans ((erase_perm' (l := l) (k := k) (y := y) h).cons a)
theorem map_erase' {α β : Type} (f : α → β) : ∀ (l : List α) (k : Nat), (l.map f).eraseIdx k = (l.eraseIdx k).map f
  | [], _ => rfl
  | _ :: _, 0 => rfl
  | a :: l, k + 1 => congrArg (f a :: ·) (map_erase' f l k)
theorem seq_nat' {n k : Nat} (h : k < n) : seqIndex? (k : Int) n = some k := by
  unfold seqIndex?
  have a : ¬ (k : Int) < 0 := by omega
  simp only [a, if_false]
  have b : (0 ≤ (k : Int)) := by omega
  have c : ((k : Int) < n) := by omega
  rw [decide_eq_true b, decide_eq_true c]
  rfl
theorem ok_items {f fD fP : Addr} {fd dD dP : FuncData} (F : Fun K "_law_items" "_law_items" sItems f fd) (T : TxtL mg)
    (gD : mg "_law_draw" = some (.ref fD)) (kD : PySem.W.keepIn K (.ref fD) = true) (bD : Binds K dD ["_law_source_here", "_law_size"] []) (GD : FnOk P w K mg base CX0 1 fD dD ["_law_source_here", "_law_size"] spDraw)
    (gP : mg "_law_pick" = some (.ref fP)) (kP : PySem.W.keepIn K (.ref fP) = true) (bP : Binds K dP ["_law_source_here", "_law_items_here"] []) (GP : FnOk P w K mg base CX0 2 fP dP ["_law_source_here", "_law_items_here"] (spPick K)) :
    FnOk P w K mg base CX0 3 f fd ["_law_source_here", "_law_count"] spItems := by
  refine F.ok scItems (fun vs H Q E h => ?_) (fun cdv A outer s H vs Q E hr h => ?_)
  · obtain ⟨l, m, n, rfl, _⟩ := h
    rfl
  · obtain ⟨l, m, n, rfl, hm, src, hn, k⟩ := h
    have hr1 : Room 1 _ := hr.mono (by decide)
    refine ⟨_, pss_cons (ps_setLc (i := 2) (own := [("_law_k", 4)]) (g := gName 4) (tt := tYes) (te := tDrawn K) rfl scItems.nd rfl rfl (sw_true rfl rfl rfl (by decide +kernel)) (pi_range1 rfl T.base.range (pa_cons (pv 1) pa_nil)) (blkOk_by (N := nItems) (sc := defScope sItems) (by decide +kernel))
          (fun _ _ _ _ _ => pg_name (i := 4) scItems.nd rfl (Or.inl rfl)) (fun _ _ _ _ _ => pts_nil) (fun _ _ _ _ _ => pe_op op_sub (pe_op op_mul (pv 4) (pe_call GP hr rfl gP kP bP .nil pass0 (pa_cons (pv 0) (pa_cons (pe_lst (pa_cons pe_int (pa_cons pe_int pa_nil))) pa_nil))))
            (pe_op op_mul (pe_call GD hr1 rfl gD kD bD .nil pass0 (pa_cons (pv 0) (pa_cons pe_int pa_nil))) pe_int)))
      (pss_cons (ps_set (i := 2) scItems.nd rfl (Or.inl rfl) (pe_callB (cr_sortedSet rfl) (by rfl) T.sorted (by decide +kernel) (pa_cons (pe_callTy (cr_setL rfl) (by rfl) T.base.set (by decide +kernel) (pa_cons (pe_op op_cat (pv 2) (pe_lst (pa_cons (pe_op op_pow pe_int pe_int) (pa_cons (pe_op op_sub pe_int (pe_op op_pow pe_int pe_int)) pa_nil)))) pa_nil)) pa_nil)))
      (pss_cons (ps_set (i := 3) scItems.nd rfl (Or.inl rfl) (pe_lst pa_nil))
      (pss_cons (ps_while PassesOwn.never (pt_cmpR (op_neD hr.units) (pv 2) (pe_lst pa_nil) (nomark _))
        (pss_one (ps_expr (pe_bm PySem.F.plainAttrs_list PySem.F.slot_list_append PySem.F.type_list_append mt_append (pv 3) (pa_cons (pe_bm PySem.F.plainAttrs_list PySem.F.slot_list_pop PySem.F.type_list_pop mt_popAt (pv 2)
          (pa_cons (pe_call GD hr1 rfl gD kD bD .nil pass0 (pa_cons (pv 0) (pa_cons (pe_callB call_len_seq (by rfl) T.base.len PySem.boot_len (pa_cons (pv 2) pa_nil)) pa_nil))) pa_nil)) pa_nil)))))
      (pss_one (ps_ret (pv 3)))))), ?_⟩
    have tn : ((m : Nat) : Int).toNat = m := rfl
    refine ⟨_, rfl, _, rfl, by omega, by omega, ?_⟩
    rw [tn]
    refine fun D hD => lc_range (lo := 0) (n := m) (fun j G => ∃ zs : List Int, But (· = l) H G ∧ Src G l (n + 2 * j) ∧ G D = some (.lst (zs.map V.int)) ∧ zs.length = j ∧ ∀ z ∈ zs, z.natAbs ≤ 1000)
      ⟨[], but_new (but_same (Same.refl H)) hD, src.upd (src_none src hD), upd_same, rfl, fun z hz => nomatch hz⟩ (fun j G hj p => ?_) (fun G p => ?_)
    · obtain ⟨zs, b1, src1, hG, lz, hz⟩ := p
      refine ⟨rfl, ?_⟩
      unfold tYes
      simp only [if_true]
      refine ⟨_, rfl, _, rfl, by show 2 ≤ sizeLine; decide, fun p hp => ?_⟩
      have pl := src_none src1 hp
      refine ⟨l, p, n + 2 * j, _, rfl, src1.upd pl, by omega, SqL.of upd_same, pl, by simp, by show 2 ≤ 1000; decide, fun G2 x b2 src2 hx => ?_⟩
      obtain ⟨xi, rfl, x0, x1⟩ : ∃ xi : Int, x = .int xi ∧ 0 ≤ xi ∧ xi ≤ 7 := by
        rcases List.mem_cons.mp hx with rfl | hx
        · exact ⟨1, rfl, by decide, by decide⟩
        · rw [List.mem_singleton.mp hx]; exact ⟨7, rfl, by decide, by decide⟩
      refine ⟨_, _, rfl, rfl, .inr ⟨by omega, by omega⟩, ?_⟩
      refine ⟨_, rfl, l, 3, n + 2 * j + 1, rfl, by decide, by decide, src2, by omega, fun G3 d b3 src3 d0 d1 => ?_⟩
      refine ⟨_, _, rfl, rfl, .inr ⟨by decide, by decide⟩, _, _, rfl, rfl, ?_⟩
      have DL : D ≠ l := src_none src hD
      have pD : D ≠ p := ne_of_none hG hp
      have hG3 : G3 D = some (.lst (zs.map V.int)) := b3 _ _ DL (b2 _ _ DL (by rw [upd_ne pD]; exact hG))
      refine ⟨_, hG3, small1000 (by rw [List.length_map]; omega), zs ++ [((0 : Int) + (j : Nat)) * xi - d * 100], but_new (but_trans b1 (but_trans (but_same (same_new hp)) (but_trans b2 b3))) hD, (src3.upd DL).more (by omega), by rw [upd_same, List.map_append]; rfl, by rw [List.length_append, lz]; rfl, fun z hz' => ?_⟩
      rcases List.mem_append.mp hz' with q | q
      · exact hz z q
      · rw [List.mem_singleton.mp q]
        have h1 : (0 + (j : Int)) * xi ≤ 20 * 7 := Int.mul_le_mul (by omega) x1 x0 (by decide)
        have h2 : 0 ≤ (0 + (j : Int)) * xi := Int.mul_nonneg (by omega) x0
        omega
    · obtain ⟨zs, b1, src1, hG, lz, hz⟩ := p
      have DL : D ≠ l := src_none src hD
      refine ⟨_, rfl, _, _, rfl, rfl, by unfold CPow; decide, _, _, rfl, rfl, by unfold CPow; decide, _, _, rfl, rfl, by show 2 ≤ sizeLine; decide, fun p hp => ?_⟩
      have pD : D ≠ p := ne_of_none hG hp
      have s2 : Same G (upd G p (.lst [.int ((10 : Int) ^ (30 : Int).toNat), .int (0 - (10 : Int) ^ (20 : Int).toNat)])) := same_new hp
      refine ⟨D, p, _, _, rfl, rfl, s2 _ _ hG, upd_same, by rw [List.length_map]; exact Nat.le_of_lt (small1000 (by show zs.length + 2 ≤ 1000; omega)), fun q hq => ?_⟩
      have s3 := s2.trans (same_new (o := .lst (zs.map V.int ++ [.int ((10 : Int) ^ (30 : Int).toNat), .int (0 - (10 : Int) ^ (20 : Int).toNat)])) hq)
      obtain ⟨all, hall⟩ : ∃ all : List Int, all = zs ++ [(10 : Int) ^ (30 : Int).toNat, 0 - (10 : Int) ^ (20 : Int).toNat] := ⟨_, rfl⟩
      have eall : zs.map V.int ++ [.int ((10 : Int) ^ (30 : Int).toNat), .int (0 - (10 : Int) ^ (20 : Int).toNat)] = all.map V.int := by rw [hall, List.map_append]; rfl
      rw [eall] at s3 ⊢
      have lall : all.length = m + 2 := by rw [hall, List.length_append, lz]; rfl
      have bigA : ∀ z ∈ all, Big z := fun z hz' => by
        rw [hall] at hz'
        unfold Big
        rcases List.mem_append.mp hz' with h | h
        · have := hz z h
          have : (1000 : Nat) ≤ 10 ^ 30 := by decide
          omega
        · rcases List.mem_cons.mp h with rfl | h
          · decide
          · rw [List.mem_singleton.mp h]; decide
      refine ⟨q, all, all, rfl, SqL.of upd_same, by omega, fun z h => h, fun S c hS hc => ?_⟩
      have s4 := s3.trans (same_new (o := SetO w S (fun j => decide (j ∈ all)) c) hS)
      refine ⟨S, _, c, rfl, upd_same, by omega, fun ys Lf pw mem len hLf => ?_⟩
      have s5 := s4.trans (same_new (o := .lst (ys.map V.int)) hLf)
      have hLf5 : (upd (upd (upd (upd G p (.lst [.int ((10 : Int) ^ (30 : Int).toNat), .int (0 - (10 : Int) ^ (20 : Int).toNat)])) q (.lst (all.map V.int))) S (SetO w S (fun j => decide (j ∈ all)) c)) Lf (.lst (ys.map V.int))) Lf = some (.lst (ys.map V.int)) := upd_same
      have src5 := src1.keep s5
      have Lfl : Lf ≠ l := src_none (src1.keep s4) hLf
      refine ⟨Nat.zero_le _, fun Fd hFd => ?_⟩
      have b5 := but_trans b1 (but_same s5)
      have nFd : H Fd = none := but_none b5 hFd (src_none src5 hFd)
      have Fdl := src_none src5 hFd
      have nLf : H Lf = none := but_none (but_trans b1 (but_same s4)) hLf Lfl
      have FL : Lf ≠ Fd := ne_of_none hLf5 hFd
      have bigY : ∀ y ∈ ys, Big y := fun y hy => bigA y (of_decide_eq_true ((mem y).mp hy))
      have ndY := pair_lt_nodup pw
      refine while_m (fun j σ G => ∃ (left found : List Int) (n' : Nat), j = left.length ∧ σ = [some (.ref l), some (.int m), some (.ref Lf), some (.ref Fd), none] ∧ But (· = l) H G ∧ Src G l n' ∧ G Lf = some (.lst (left.map V.int)) ∧ G Fd = some (.lst (found.map V.int)) ∧ (found ++ left).Perm ys ∧ n' + left.length ≤ n + 2 * m + ys.length)
        ⟨_, ys, [], n + 2 * m, rfl, rfl, but_new b5 nFd, src5.upd Fdl, by rw [upd_ne FL]; exact hLf5, upd_same, List.Perm.refl _, Nat.le_refl _⟩ ?_ ?_
      · rintro j σ G6 ⟨left, found, n', rfl, rfl, b6, src6, hL6, hF6, pm, bud⟩
        refine ⟨_, rfl, Nat.zero_le _, fun p1 hp1 => ⟨intsD left, .list [], dp_list (SqL.of (by rw [upd_ne (ne_of_none hL6 hp1)]; exact hL6)), dp_nil upd_same, shaped_ints _, shaped_nil, _, rfl, ?_⟩⟩
        rw [eqv_nil]
        have s7 : Same G6 (upd G6 p1 (.lst [])) := same_new hp1
        generalize upd G6 p1 (.lst []) = G7 at s7
        have b7 := but_trans b6 (but_same s7)
        cases left with
        | nil =>
          refine iteF ?_
          rw [List.append_nil] at pm
          exact ⟨_, rfl, k G7 Fd found b7 ((src6.keep s7).more (by omega)) nFd (s7 _ _ hF6) (pm.nodup_iff.mpr ndY) (by rw [pm.length_eq]; omega) fun z hz => bigY z (pm.mem_iff.mp hz)⟩
        | cons y0 left' =>
          refine iteT ?_
          have lenp := pm.length_eq
          rw [List.length_append] at lenp
          have lenY : ys.length ≤ 22 := by omega
          refine ⟨_, rfl, .inl ⟨rfl, _, SqL.of (s7 _ _ hF6)⟩, _, rfl, .inl ⟨rfl, _, SqL.of (s7 _ _ hL6)⟩, _, rfl, _, rfl, Lf, _, rfl, .inl (SqL.of (s7 _ _ hL6)), l, _, n', rfl, by rw [List.length_map, List.length_cons]; omega, by rw [List.length_map]; omega, src6.keep s7, by omega, fun G8 d b8 src8 d0 d1 => ?_⟩
          rw [List.length_map] at d1
          obtain ⟨d', rfl⟩ := Int.eq_ofNat_of_zero_le d0
          have dl : d' < (y0 :: left').length := by omega
          have hget : (y0 :: left')[d']? = some (y0 :: left')[d'] := List.getElem?_eq_getElem dl
          generalize (y0 :: left')[d'] = y at hget
          have hL8 := b8 _ _ Lfl (s7 _ _ hL6)
          have hF8 := b8 _ _ Fdl (s7 _ _ hF6)
          refine ⟨Lf, _, (d' : Nat), d', .int y, rfl, rfl, hL8, by omega, by omega, by rw [List.length_map]; exact seq_nat' dl, by rw [List.getElem?_map, hget]; rfl, ?_⟩
          refine ⟨Fd, _, .int y, rfl, rfl, by rw [upd_ne FL.symm]; exact hF8, small1000 (by rw [List.length_map]; omega), ?_⟩
          have el : ((y0 :: left').eraseIdx d').length + 1 = (y0 :: left').length := by
            have q := (erase_perm' hget).length_eq
            rw [List.length_cons] at q
            exact q
          refine ⟨((y0 :: left').eraseIdx d').length, by omega, (y0 :: left').eraseIdx d', found ++ [y], n' + 1, rfl, rfl, but_new (but_new (but_trans b7 b8) nLf) nFd, (src8.upd Lfl).upd Fdl, by rw [upd_ne FL, upd_same, map_erase'], by rw [upd_same, List.map_append]; rfl, ?_, by omega⟩
          have q : ((found ++ [y]) ++ (y0 :: left').eraseIdx d').Perm (found ++ (y0 :: left')) := by
            rw [List.append_assoc]
            exact (erase_perm' hget).append_left found
          exact q.trans pm
      · rintro σ G Q1 Q2 imp ⟨x, hx, z, h⟩
        exact ⟨x, hx, z, fun p hp => let ⟨d, e, h1, h2, h3, h4, c, h5, h6⟩ := h p hp; ⟨d, e, h1, h2, h3, h4, c, h5, imp _ _ h6⟩⟩
end
end Lw

set_option Elab.async false
set_option linter.all false
set_option maxRecDepth 100000
set_option maxHeartbeats 4000000
namespace Lw
open PySem L2 Two Pr
section
variable {P : Program} {w : World} {K : PySem.W.Frag} {mg : Str → Option Value} {base : Heap}
/-! ### _law_some -/
def spSome (K : PySem.W.Frag) : Sp := fun vs H Q _ => ∃ (l b : Addr) (n : Nat) (its : List Int), vs = [.ref l, .ref b] ∧ Src H l n ∧ n ≤ 900000 ∧ SqL K H b (its.map V.int) ∧ b ≠ l ∧ its.length ≤ 30 ∧
  ∀ (H' : Hp) (r : Addr) (ts : List Int), But (· = l) H H' → Src H' l (n + 31) → H r = none → H' r = some (.lst (ts.map V.int)) → ts.Sublist its → Q (.ref r) H'
abbrev nSome : List Str := ["_law_source_here", "_law_items_here", "_law_share", "_law_item"]
theorem scSome : FnScope nSome ["_law_source_here", "_law_items_here"] (defScope sSome) := ⟨rfl, rfl, rfl, by decide +kernel, rfl, by decide +kernel, by decide +kernel⟩
theorem ok_some {f fD : Addr} {fd dD : FuncData} (F : Fun K "_law_some" "_law_some" sSome f fd) (T : Txt mg)
    (gD : mg "_law_draw" = some (.ref fD)) (kD : PySem.W.keepIn K (.ref fD) = true) (bD : Binds K dD ["_law_source_here", "_law_size"] []) (GD : FnOk P w K mg base CX0 1 fD dD ["_law_source_here", "_law_size"] spDraw) :
    FnOk P w K mg base CX0 2 f fd ["_law_source_here", "_law_items_here"] (spSome K) := by
  refine F.ok scSome (fun vs H Q E h => ?_) (fun cdv A outer s H vs Q E hr h => ?_)
  · obtain ⟨l, b, n, its, rfl, _⟩ := h
    rfl
  · obtain ⟨l, b, n, its, rfl, src, hn, hS, ne, hl, k⟩ := h
    refine ⟨_, pss_cons (ps_set (i := 2) scSome.nd rfl (Or.inr rfl) (pe_op op_add pe_int (pe_call GD hr rfl gD kD bD .nil pass0 (pa_cons (pv 0) (pa_cons pe_int pa_nil)))))
      (pss_one (ps_ret (pe_lc (own := [("_law_item", 3)]) (g := gName 3) (tt := tTest (tOp rLt (tCall spDraw [] E0 (tCons (tVar 0) (tCons (tC (.int 4)) tNil))) (tVar 2))) (te := tVar 3) rfl scSome.nd (pi_list (pv 1)) (blkOk_by (N := nSome) (sc := defScope sSome) (by decide +kernel))
          (fun _ _ _ _ _ => pg_name (i := 3) scSome.nd rfl (Or.inl rfl)) (fun _ _ _ _ _ => pts_one (pt_cmpR op_lt (pe_call GD hr rfl gD kD bD .nil pass0 (pa_cons (pv 0) (pa_cons pe_int pa_nil))) (pv 2) (nomark _))) (fun _ _ _ _ _ => pv 3)))), ?_⟩
    refine ⟨_, rfl, l, 4, n, rfl, by decide, by decide, src, by omega, fun H1 d b1 src1 d0 d1 => ?_⟩
    refine ⟨_, _, rfl, rfl, ?_⟩
    refine ⟨_, rfl, b, rfl, ⟨_, but_seq b1 ne hS⟩, fun D hD => ?_⟩
    have nD : H D = none := but_none b1 hD (src_none src1 hD)
    have Dl := src_none src1 hD
    refine lc_list (K := K) (a := b) (xs := its.map V.int) (fun j G => ∃ ts : List Int, But (· = l) H G ∧ Src G l (n + 1 + j) ∧ G D = some (.lst (ts.map V.int)) ∧ ts.Sublist (its.take j))
      ⟨[], but_new b1 nD, src1.upd Dl, upd_same, List.nil_sublist _⟩ (fun j G _ ⟨_, p, _⟩ => but_seq p ne hS) (fun j x G hx p => ?_) (fun G p => ?_)
    · obtain ⟨ts, b2, src2, hG, sub⟩ := p
      obtain ⟨z, hz, rfl⟩ := get_map hx
      have hj := (List.getElem?_eq_some_iff.mp hz).1
      refine ⟨rfl, ?_⟩
      refine ⟨_, rfl, l, 4, n + 1 + j, rfl, by decide, by decide, src2, by omega, fun G2 e b3 src3 e0 e1 => ?_⟩
      refine ⟨_, rfl, _, _, rfl, rfl, _, rfl, ?_⟩
      have hG2 := b3 _ _ Dl hG
      have lts := sub.length_le
      rw [List.length_take] at lts
      cases hb : decide (e < 1 + d) with
      | false =>
        refine iteF ⟨ts, but_trans b2 b3, src3, hG2, ?_⟩
        rw [take_snoc hz]
        exact sub.trans (List.sublist_append_left _ _)
      | true =>
        refine iteT ⟨_, rfl, _, hG2, small1000 (by rw [List.length_map]; omega), ts ++ [z], but_new (but_trans b2 b3) nD, src3.upd Dl, by rw [upd_same, List.map_append]; rfl, ?_⟩
        rw [take_snoc hz]
        exact sub.append (List.Sublist.refl _)
    · obtain ⟨ts, b2, src2, hG, sub⟩ := p
      rw [List.length_map] at src2 sub
      rw [List.take_length] at sub
      exact k G D ts b2 (src2.more (by omega)) nD hG sub
/-! ### _law_turned -/
def spTurned (K : PySem.W.Frag) : Sp := fun vs H Q _ => ∃ (l b : Addr) (n : Nat) (its : List Int), vs = [.ref l, .ref b] ∧ Src H l n ∧ n ≤ 900000 ∧ SqL K H b (its.map V.int) ∧ b ≠ l ∧ its.length ≤ 30 ∧
  ∀ (H' : Hp) (r : Addr) (ts : List Int), But (· = l) H H' → Src H' l (n + 3) → H r = none → H' r = some (.lst (ts.map V.int)) → ts.Perm its → Q (.ref r) H'
abbrev nTurned : List Str := ["_law_source_here", "_law_items_here", "_law_found", "_law_at", "_law_other"]
theorem scTurned : FnScope nTurned ["_law_source_here", "_law_items_here"] (defScope sTurned) := ⟨rfl, rfl, rfl, by decide +kernel, rfl, by decide +kernel, by decide +kernel⟩
theorem ixN_nat' {n k : Nat} (h : k < n) : ixN n (k : Int) = some k := by
  unfold ixN
  rw [if_pos (by omega), if_pos (by omega)]
  rfl
theorem map_set' {α β : Type} (f : α → β) : ∀ (l : List α) (k : Nat) (x : α), (l.map f).set k (f x) = (l.set k x).map f
  | [], _, _ => rfl
  | _ :: _, 0, _ => rfl
  | a :: l, k + 1, x => congrArg (f a :: ·) (map_set' f l k x)
theorem ok_turned {f fD fP : Addr} {fd dD dP : FuncData} (F : Fun K "_law_turned" "_law_turned" sTurned f fd) (T : Txt mg)
    (gD : mg "_law_draw" = some (.ref fD)) (kD : PySem.W.keepIn K (.ref fD) = true) (bD : Binds K dD ["_law_source_here", "_law_size"] []) (GD : FnOk P w K mg base CX0 1 fD dD ["_law_source_here", "_law_size"] spDraw)
    (gP : mg "_law_pick" = some (.ref fP)) (kP : PySem.W.keepIn K (.ref fP) = true) (bP : Binds K dP ["_law_source_here", "_law_items_here"] []) (GP : FnOk P w K mg base CX0 2 fP dP ["_law_source_here", "_law_items_here"] (spPick K)) :
    FnOk P w K mg base CX0 3 f fd ["_law_source_here", "_law_items_here"] (spTurned K) := by
  refine F.ok scTurned (fun vs H Q E h => ?_) (fun cdv A outer s H vs Q E hr h => ?_)
  · obtain ⟨l, b, n, its, rfl, _⟩ := h
    rfl
  · obtain ⟨l, b, n, its, rfl, src, hn, hS, ne, hl, k⟩ := h
    have hr1 : Room 1 _ := hr.mono (by decide)
    refine ⟨_, pss_cons (ps_set (i := 2) scTurned.nd rfl (Or.inl rfl) (pe_callTy call_listQ (by rfl) T.list (by decide +kernel) (pa_cons (pv 1) pa_nil)))
      (pss_cons (ps_if (pt_cmpR op_gt (pe_callB call_len_seq (by rfl) T.len PySem.boot_len (pa_cons (pv 2) pa_nil)) pe_int (nomark _))
        (pss_cons (ps_set (i := 3) scTurned.nd rfl (Or.inl rfl) (pe_call GD hr1 rfl gD kD bD .nil pass0 (pa_cons (pv 0) (pa_cons (pe_op op_sub (pe_callB call_len_seq (by rfl) T.len PySem.boot_len (pa_cons (pv 2) pa_nil)) pe_int) pa_nil))))
        (pss_cons (ps_set (i := 4) scTurned.nd rfl (Or.inl rfl) (pe_call GP hr rfl gP kP bP .nil pass0 (pa_cons (pv 0) (pa_cons (pe_lst (pa_cons (pe_op op_add (pv 3) pe_int) (pa_cons (pe_call GD hr1 rfl gD kD bD .nil pass0 (pa_cons (pv 0) (pa_cons (pe_callB call_len_seq (by rfl) T.len PySem.boot_len (pa_cons (pv 2) pa_nil)) pa_nil))) pa_nil))) pa_nil))))
        (pss_one (ps_asg (pe_tup (pa_cons (pe_ix ix_list (pv 2) (pv 4) (fun _ _ => rfl)) (pa_cons (pe_ix ix_list (pv 2) (pv 3) (fun _ _ => rfl)) pa_nil)))
          (pg_tup rfl (pgs_cons (pg_sub (pv 2) (pv 3) set_list) (pgs_cons (pg_sub (pv 2) (pv 4) set_list) pgs_nil)))))))
        pss_nil)
      (pss_one (ps_ret (pv 2)))), ?_⟩
    refine ⟨_, rfl, b, _, rfl, .inl hS, fun R hR => ?_⟩
    have Rl := src_none src hR
    have h1 : upd H R (.lst (its.map V.int)) R = some (.lst (its.map V.int)) := upd_same
    have b1 : But (· = l) H (upd H R (.lst (its.map V.int))) := but_same (same_new hR)
    have src1 : Src (upd H R (.lst (its.map V.int))) l n := src.upd Rl
    refine ⟨_, rfl, R, _, rfl, .inl (SqL.of h1), _, _, rfl, rfl, _, rfl, ?_⟩
    by_cases h2 : 1 < its.length
    · rw [decide_eq_true (by rw [List.length_map]; omega)]
      refine iteT ?_
      refine ⟨_, rfl, _, rfl, R, _, rfl, .inl (SqL.of h1), _, _, rfl, rfl, l, _, n, rfl, by rw [List.length_map]; omega, by rw [List.length_map]; omega, src1, by omega, fun H2 d b2 src2 d0 d1 => ?_⟩
      rw [List.length_map] at d1
      obtain ⟨i, rfl⟩ := Int.eq_ofNat_of_zero_le d0
      have hi : i + 1 < its.length := by omega
      have h2 := b2 _ _ Rl h1
      refine ⟨_, rfl, _, rfl, _, _, rfl, rfl, _, rfl, _, rfl, R, _, rfl, .inl (SqL.of h2), l, _, n + 1, rfl, by rw [List.length_map]; omega, by rw [List.length_map]; omega, src2, by omega, fun H3 e b3 src3 e0 e1 => ?_⟩
      rw [List.length_map] at e1
      obtain ⟨j, rfl⟩ := Int.eq_ofNat_of_zero_le e0
      have hj : j < its.length := by omega
      have h3 := b3 _ _ Rl h2
      refine ⟨by show 2 ≤ sizeLine; decide, fun p hp => ?_⟩
      have pl := src_none src3 hp
      have pR : R ≠ p := ne_of_none h3 hp
      refine ⟨l, p, n + 2, _, rfl, src3.upd pl, by omega, SqL.of upd_same, pl, by simp, by show 2 ≤ 1000; decide, fun H4 x b4 src4 hx => ?_⟩
      obtain ⟨o, rfl, ho⟩ : ∃ o : Nat, x = .int (o : Nat) ∧ o < its.length := by
        rcases List.mem_cons.mp hx with rfl | hx
        · exact ⟨i + 1, rfl, hi⟩
        · rw [List.mem_singleton.mp hx]; exact ⟨j, rfl, hj⟩
      have h4 := b4 _ _ Rl (show upd H3 p _ R = _ by rw [upd_ne pR]; exact h3)
      have bA : But (· = l) H H4 := but_trans b1 (but_trans b2 (but_trans b3 (but_trans (but_same (same_new hp)) b4)))
      have iL : i < its.length := by omega
      have ei : (its.map V.int)[i]? = some (.int its[i]) := by rw [List.getElem?_map, List.getElem?_eq_getElem iL]; rfl
      have eo : (its.map V.int)[o]? = some (.int its[o]) := by rw [List.getElem?_map, List.getElem?_eq_getElem ho]; rfl
      refine ⟨_, rfl, _, rfl, R, _, (o : Nat), .int its[o], rfl, rfl, SqL.of h4, atI_nat eo, _, rfl, _, rfl, R, _, (i : Nat), .int its[i], rfl, rfl, SqL.of h4, atI_nat ei, by show 2 ≤ sizeLine; decide, fun t ht => ?_⟩
      have tR : R ≠ t := ne_of_none h4 ht
      have tl := src_none src4 ht
      refine ⟨t, _, rfl, SqT.of upd_same, rfl, ?_⟩
      have h5 : upd H4 t (.tup [.int its[o], .int its[i]]) R = some (.lst (its.map V.int)) := by rw [upd_ne tR]; exact h4
      refine ⟨_, _, rfl, _, rfl, _, rfl, R, _, (i : Nat), i, rfl, rfl, h5, by rw [List.length_map]; exact ixN_nat' iL, ?_⟩
      refine ⟨_, _, rfl, _, rfl, _, rfl, R, _, (o : Nat), o, rfl, rfl, upd_same, by rw [List.length_set, List.length_map]; exact ixN_nat' ho, rfl, ?_⟩
      refine ⟨_, rfl, ?_⟩
      refine k _ R ((its.set i its[o]).set o its[i]) ?_ (((src4.upd tl).upd Rl).upd Rl |>.more (by omega)) hR (by rw [upd_same, map_set', map_set']) (List.set_set_perm iL ho)
      exact but_new (but_new (but_trans bA (but_same (same_new ht))) hR) hR
    · rw [decide_eq_false (by rw [List.length_map]; omega)]
      exact iteF ⟨_, rfl, k _ R its b1 (src1.more (by omega)) hR h1 (List.Perm.refl _)⟩
end
end Lw

set_option Elab.async false
set_option linter.all false
set_option maxRecDepth 100000
set_option maxHeartbeats 4000000
namespace Lw
open PySem L2 Two Pr
/-- lists as the law draws them -/
structure Drawn (ps : List (Addr × List Int)) (U : List Int) : Prop where
  few : ps.length ≤ 15
  short : ∀ p ∈ ps, p.2.length ≤ 15
  nd : ∀ p ∈ ps, p.2.Nodup
  big : ∀ p ∈ ps, ∀ z ∈ p.2, Big z
  all : ∀ p ∈ ps, ∀ z ∈ p.2, z ∈ U
  uni : U.length ≤ 60
theorem Drawn.fit {ps U} (d : Drawn ps U) : Fit ps := ⟨by have := d.few; omega, fun p hp => by have := d.short p hp; omega, d.nd⟩
section
variable {P : Program} {w : World} {K : PySem.W.Frag} {mg : Str → Option Value} {base : Heap}
def spLists (K : PySem.W.Frag) : Sp := fun vs H Q _ => ∃ (l : Addr), vs = [.ref l, .int 8] ∧ Src H l 0 ∧
  ∀ (H' : Hp) (R : Addr) (ps : List (Addr × List Int)) (U : List Int), But (· = l) H H' → H' R = some (.lst (refsOf ps)) → LofL K H' R ps → Drawn ps U → Q (.ref R) H'
abbrev nLists : List Str := ["_law_source_here", "_law_most", "_law_items_here", "_law_way", "_law_found", "_law_k", "_law_some_here"]
theorem scLists : FnScope nLists ["_law_source_here", "_law_most"] (defScope sLists) := ⟨rfl, rfl, rfl, by decide +kernel, rfl, by decide +kernel, by decide +kernel⟩
/-- what the loop of _law_lists keeps -/
structure LstInv (l R I : Addr) (its : List Int) (way : Int) (H G : Hp) (j : Nat) (qs : List (Addr × List Int)) : Prop where
  but : But (· = l) H G
  src : Src G l (200 + 200 * j)
  lst : G R = some (.lst (refsOf qs))
  each : ∀ q ∈ qs, G q.1 = some (.lst (q.2.map V.int))
  apart : ∀ q ∈ qs, q.1 ≠ R ∧ q.1 ≠ l
  hits : G I = some (.lst (its.map V.int))
  len : qs.length = j
  short : ∀ q ∈ qs, q.2.length ≤ 12
  nd : ∀ q ∈ qs, q.2.Nodup
  big : ∀ q ∈ qs, ∀ z ∈ q.2, Big z
  from' : (way ≠ 3 ∧ ∀ q ∈ qs, ∀ z ∈ q.2, z ∈ its) ∨ (way = 3 ∧ ∀ q ∈ qs, q.2.length ≤ 7)
theorem flat_len {B : Nat} : ∀ (qs : List (Addr × List Int)), (∀ q ∈ qs, q.2.length ≤ B) → ((qs.map (·.2)).flatten).length ≤ B * qs.length
  | [], _ => Nat.zero_le _
  | q :: qs, h => by
    have a := h q List.mem_cons_self
    have b := flat_len qs fun x hx => h x (List.mem_cons_of_mem _ hx)
    simp only [List.map_cons, List.flatten_cons, List.length_append, List.length_cons]
    rw [Nat.mul_succ]
    omega
/-- a new list at the end -/
theorem LstInv.add {l R I : Addr} {its : List Int} {way : Int} {H G G2 : Hp} {j : Nat} {qs : List (Addr × List Int)} (L : LstInv l R I its way H G j qs) (Rl : R ≠ l) (Il : I ≠ l) (RI : R ≠ I) (nR : H R = none) {r : Addr} {ts : List Int}
    (b : But (· = l) G G2) (src : Src G2 l (200 + 200 * j + 200)) (hr : G r = none) (h : G2 r = some (.lst (ts.map V.int))) (rl : r ≠ l) (short : ts.length ≤ 12) (nd : ts.Nodup) (big : ∀ z ∈ ts, Big z) (fr : (way ≠ 3 ∧ ∀ z ∈ ts, z ∈ its) ∨ (way = 3 ∧ ts.length ≤ 7)) :
    LstInv l R I its way H (upd G2 R (.lst (refsOf qs ++ [.ref r]))) (j + 1) (qs ++ [(r, ts)]) := by
  have Rr : R ≠ r := ne_of_none L.lst hr
  refine ⟨but_new (but_trans L.but b) nR, (src.upd Rl).more (by omega), ?_, fun q hq => ?_, fun q hq => ?_, ?_, by rw [List.length_append, L.len]; rfl, fun q hq => ?_, fun q hq => ?_, fun q hq => ?_, ?_⟩
  · rw [upd_same]
    unfold refsOf
    rw [List.map_append]
    rfl
  · rcases List.mem_append.mp hq with m | m
    · obtain ⟨a1, a2⟩ := L.apart q m
      rw [upd_ne a1]
      exact b _ _ a2 (L.each q m)
    · rw [List.mem_singleton.mp m, upd_ne Rr.symm]
      exact h
  · rcases List.mem_append.mp hq with m | m
    · exact L.apart q m
    · rw [List.mem_singleton.mp m]
      exact ⟨Rr.symm, rl⟩
  · rw [upd_ne RI.symm]
    exact b _ _ Il L.hits
  · rcases List.mem_append.mp hq with m | m
    · exact L.short q m
    · rw [List.mem_singleton.mp m]; exact short
  · rcases List.mem_append.mp hq with m | m
    · exact L.nd q m
    · rw [List.mem_singleton.mp m]; exact nd
  · rcases List.mem_append.mp hq with m | m
    · exact L.big q m
    · rw [List.mem_singleton.mp m]; exact big
  · rcases fr with ⟨n3, k⟩ | ⟨e3, k⟩
    · refine .inl ⟨n3, fun q hq => ?_⟩
      rcases List.mem_append.mp hq with m | m
      · exact L.from'.elim (fun f => f.2 q m) fun f => absurd f.1 n3
      · rw [List.mem_singleton.mp m]; exact k
    · refine .inr ⟨e3, fun q hq => ?_⟩
      rcases List.mem_append.mp hq with m | m
      · exact L.from'.elim (fun f => absurd e3 f.1) fun f => f.2 q m
      · rw [List.mem_singleton.mp m]; exact k
theorem seqJ {s1 s2 : TS} {D : Ends} {σ : L2.St} {H : Hp} (I : L2.St → Hp → Prop) (h2 : ∀ σ' H', I σ' H' → s2 D σ' H') (h1 : ∀ N : L2.St → Hp → Prop, (∀ σ' H', I σ' H' → N σ' H') → s1 { D with nx := N } σ H) : tSeq s1 s2 D σ H := h1 _ h2
theorem ok_lists {f fD fI fS fT : Addr} {fd dD dI dS dT : FuncData} (F : Fun K "_law_lists" "_law_lists" sLists f fd) (T : Txt mg)
    (gD : mg "_law_draw" = some (.ref fD)) (kD : PySem.W.keepIn K (.ref fD) = true) (bD : Binds K dD ["_law_source_here", "_law_size"] []) (GD : FnOk P w K mg base CX0 1 fD dD ["_law_source_here", "_law_size"] spDraw)
    (gI : mg "_law_items" = some (.ref fI)) (kI : PySem.W.keepIn K (.ref fI) = true) (bI : Binds K dI ["_law_source_here", "_law_count"] []) (GI : FnOk P w K mg base CX0 3 fI dI ["_law_source_here", "_law_count"] spItems)
    (gS : mg "_law_some" = some (.ref fS)) (kS : PySem.W.keepIn K (.ref fS) = true) (bS : Binds K dS ["_law_source_here", "_law_items_here"] []) (GS : FnOk P w K mg base CX0 2 fS dS ["_law_source_here", "_law_items_here"] (spSome K))
    (gT : mg "_law_turned" = some (.ref fT)) (kT : PySem.W.keepIn K (.ref fT) = true) (bT : Binds K dT ["_law_source_here", "_law_items_here"] []) (GT : FnOk P w K mg base CX0 3 fT dT ["_law_source_here", "_law_items_here"] (spTurned K)) :
    FnOk P w K mg base CX0 4 f fd ["_law_source_here", "_law_most"] (spLists K) := by
  refine F.ok scLists (fun vs H Q E h => ?_) (fun cdv A outer s H vs Q E hr h => ?_)
  · obtain ⟨l, rfl, _⟩ := h
    rfl
  · obtain ⟨l, rfl, src, k⟩ := h
    have hr1 : Room 1 _ := hr.mono (by decide)
    have hr2 : Room 2 _ := hr.mono (by decide)
    refine ⟨_, pss_cons (ps_set (i := 2) scLists.nd rfl (Or.inl rfl) (pe_call GI hr rfl gI kI bI .nil pass0 (pa_cons (pv 0) (pa_cons (pe_op op_add pe_int (pe_call GD hr1 rfl gD kD bD .nil pass0 (pa_cons (pv 0) (pa_cons pe_int pa_nil)))) pa_nil))))
      (pss_cons (ps_set (i := 3) scLists.nd rfl (Or.inl rfl) (pe_call GD hr1 rfl gD kD bD .nil pass0 (pa_cons (pv 0) (pa_cons pe_int pa_nil))))
      (pss_cons (ps_set (i := 4) scLists.nd rfl (Or.inl rfl) (pe_lst pa_nil))
      (pss_cons (ps_for PassesOwn.never rfl (pi_range1 rfl T.range (pa_cons (pe_call GD hr1 rfl gD kD bD .nil pass0 (pa_cons (pv 0) (pa_cons (pe_op op_add (pv 1) pe_int) pa_nil))) pa_nil)) (pg_name (i := 5) scLists.nd rfl (Or.inl rfl))
        (pss_cons (ps_set (i := 6) scLists.nd rfl (Or.inl rfl) (pe_call GS hr2 rfl gS kS bS .nil pass0 (pa_cons (pv 0) (pa_cons (pv 2) pa_nil))))
        (pss_cons (ps_if (PW.pt (pw_or (PW.pt (pw_and (pt_cmpR op_eq (pv 3) pe_int (nomark _)) (pw_and1 (pt_cmpR op_eq (pv 5) pe_int (nomark _))))) (pw_or1 (PW.pt (pw_and (pt_cmpR op_eq (pv 3) pe_int (nomark _)) (pw_and1 (pt_cmpR op_eq (pe_call GD hr1 rfl gD kD bD .nil pass0 (pa_cons (pv 0) (pa_cons pe_int pa_nil))) pe_int (nomark _))))))))
            (pss_one (ps_set (i := 6) scLists.nd rfl (Or.inl rfl) (pe_call GT hr rfl gT kT bT .nil pass0 (pa_cons (pv 0) (pa_cons (pv 6) pa_nil))))) pss_nil)
        (pss_cons (ps_if (pt_cmpR op_eq (pv 3) pe_int (nomark _))
            (pss_one (ps_set (i := 6) scLists.nd rfl (Or.inl rfl) (pe_call GS hr2 rfl gS kS bS .nil pass0 (pa_cons (pv 0) (pa_cons (pe_call GI hr rfl gI kI bI .nil pass0 (pa_cons (pv 0) (pa_cons pe_int pa_nil))) pa_nil))))) pss_nil)
        (pss_one (ps_expr (pe_bm PySem.F.plainAttrs_list PySem.F.slot_list_append PySem.F.type_list_append mt_append (pv 4) (pa_cons (pv 6) pa_nil))))))))
      (pss_one (ps_ret (pv 4)))))), ?_⟩
    refine ⟨_, rfl, _, rfl, l, 10, 0, rfl, by decide, by decide, src, by decide, fun H1 d b1 src1 d0 d1 => ?_⟩
    obtain ⟨c, rfl⟩ := Int.eq_ofNat_of_zero_le d0
    refine ⟨_, _, rfl, rfl, l, 1 + c, 1, by rw [Int.natCast_add]; rfl, by omega, src1, by decide, fun H2 I its b2 src2 nI hI ndI lenI bigI => ?_⟩
    have Il := src_none src1 nI
    have nI0 : H I = none := but_none b1 nI Il
    refine ⟨_, rfl, l, 4, 1 + 64, rfl, by decide, by decide, src2, by decide, fun H3 way b3 src3 w0 w1 => ?_⟩
    refine ⟨Nat.zero_le _, fun R hR => ?_⟩
    have Rl := src_none src3 hR
    have hI3 := b3 _ _ Il hI
    have RI : R ≠ I := (ne_of_none hI3 hR).symm
    have bH3 : But (· = l) H H3 := but_trans b1 (but_trans b2 b3)
    have nR : H R = none := but_none bH3 hR Rl
    refine ⟨_, rfl, _, rfl, _, _, rfl, rfl, ?_⟩
    refine ⟨l, _, 1 + 64 + 1, rfl, by decide, by decide, src3.upd Rl, by decide, fun H4 e b4 src4 e0 e1 => ?_⟩
    obtain ⟨t, rfl⟩ := Int.eq_ofNat_of_zero_le e0
    have e1 : (t : Int) < 8 + 1 := e1
    have b04 : But (· = l) H H4 := but_trans (but_new bH3 nR) b4
    refine ⟨_, rfl, by omega, by omega, for_range (lo := 0) (n := t) (fun j σ G => ∃ (v5 v6 : Option V) (qs : List (Addr × List Int)), σ = [some (.ref l), some (.int 8), some (.ref I), some (.int way), some (.ref R), v5, v6] ∧ LstInv l R I its way H G j qs)
      ⟨_, _, [], rfl, b04, src4.more (by omega), b4 _ _ Rl upd_same, (fun q hq => nomatch hq), (fun q hq => nomatch hq), b4 _ _ Il (by rw [upd_ne RI.symm]; exact hI3), rfl, (fun q hq => nomatch hq), (fun q hq => nomatch hq), (fun q hq => nomatch hq), if h3 : way = 3 then .inr ⟨h3, fun q hq => nomatch hq⟩ else .inl ⟨h3, fun q hq => nomatch hq⟩⟩ ?_ ?_⟩
    · rintro j σ G hj ⟨v5, v6, qs, rfl, L⟩
      refine ⟨_, rfl, _, rfl, l, I, _, its, rfl, L.src, by omega, SqL.of L.hits, Il, by omega, fun G1 r ts c1 s1 nr hr1 sub => ?_⟩
      have rl := src_none L.src nr
      have lts := sub.length_le
      have ndT := sub.nodup ndI
      have inT : ∀ z ∈ ts, z ∈ its := fun z hz => sub.subset hz
      have fewQ : (refsOf qs).length < sizeLine := small1000 (by rw [List.length_map, L.len]; omega)
      have bG : But (· = l) H G := L.but
      dsimp only [gName]
      refine seqJ (fun σ' G' => ∃ (r2 : Addr) (ts2 : List Int), σ' = [some (.ref l), some (.int 8), some (.ref I), some (.int way), some (.ref R), some (.int (0 + (j : Nat))), some (.ref r2)] ∧ But (· = l) G G' ∧ Src G' l (200 + 200 * j + 40) ∧ G r2 = none ∧ r2 ≠ l ∧ G' r2 = some (.lst (ts2.map V.int)) ∧ ts2.length ≤ 12 ∧ ts2.Nodup ∧ ∀ z ∈ ts2, z ∈ its) ?_ ?_
      · rintro σ' G2 ⟨r2, ts2, rfl, c2, s2, n2, l2, h2, len2, nd2, in2⟩
        refine seqJ (fun σ' G' => ∃ (r3 : Addr) (ts3 : List Int), σ' = [some (.ref l), some (.int 8), some (.ref I), some (.int way), some (.ref R), some (.int (0 + (j : Nat))), some (.ref r3)] ∧ But (· = l) G G' ∧ Src G' l (200 + 200 * j + 200) ∧ G r3 = none ∧ r3 ≠ l ∧ G' r3 = some (.lst (ts3.map V.int)) ∧ ts3.length ≤ 12 ∧ ts3.Nodup ∧ (∀ z ∈ ts3, Big z) ∧ ((way ≠ 3 ∧ ∀ z ∈ ts3, z ∈ its) ∨ (way = 3 ∧ ts3.length ≤ 7))) ?_ ?_
        · rintro σ3 G3 ⟨r3, ts3, rfl, c3, s3, n3, l3, h3, len3, nd3, big3, fr⟩
          exact ⟨_, rfl, .inl ⟨rfl, _, SqL.of (c3 _ _ Rl L.lst)⟩, _, rfl, R, _, .ref r3, rfl, rfl, c3 _ _ Rl L.lst, fewQ, _, _, _, rfl, L.add Rl Il RI nR c3 s3 n3 h3 l3 len3 nd3 big3 fr⟩
        · intro N hN
          refine ⟨_, rfl, rfl, _, rfl, ?_⟩
          by_cases w3 : way = 3
          · rw [decide_eq_true (congrArg V.int w3)]
            refine iteT ?_
            refine ⟨_, rfl, _, rfl, l, 5, _, rfl, by decide, s2, by omega, fun G4 I4 its4 c4 s4 nI4 hI4 ndI4 lenI4 bigI4 => ?_⟩
            have I4l := src_none s2 nI4
            refine ⟨l, I4, _, its4, rfl, s4, by omega, SqL.of hI4, I4l, by omega, fun G5 r5 ts5 c5 s5 nr5 hr5 sub5 => ?_⟩
            have r5l := src_none s4 nr5
            have lts5 := sub5.length_le
            exact hN _ _ ⟨r5, ts5, rfl, but_trans c2 (but_trans c4 c5), s5.more (by omega), but_none (but_trans c2 c4) nr5 r5l, r5l, hr5, by omega, sub5.nodup ndI4, fun z hz => bigI4 z (sub5.subset hz), .inr ⟨w3, by omega⟩⟩
          · rw [decide_eq_false (fun e => w3 (V.int.inj e))]
            exact iteF (hN _ _ ⟨r2, ts2, rfl, c2, s2.more (by omega), n2, l2, h2, len2, nd2, fun z hz => bigI z (in2 z hz), .inl ⟨w3, in2⟩⟩)
      · intro N hN
        have stay : N [some (.ref l), some (.int 8), some (.ref I), some (.int way), some (.ref R), some (.int (0 + (j : Nat))), some (.ref r)] G1 := hN _ _ ⟨r, ts, rfl, c1, s1.more (by omega), nr, rl, hr1, by omega, ndT, inT⟩
        have turn : ∀ (G2 : Hp) (m : Nat), But (· = l) G1 G2 → Src G2 l m → m ≤ 200 + 200 * j + 37 → spTurned K [.ref l, .ref r] G2 (fun x H' => N [some (.ref l), some (.int 8), some (.ref I), some (.int way), some (.ref R), some (.int (0 + (j : Nat))), some x] H') E0 := fun G2 m c2 s2 hm =>
          ⟨l, r, m, ts, rfl, s2, by omega, SqL.of (c2 _ _ rl hr1), rl, by omega, fun G3 r3 ts3 c3 s3 n3 h3 pm => by
            have r3l := src_none s2 n3
            exact hN _ _ ⟨r3, ts3, rfl, but_trans c1 (but_trans c2 c3), s3.more (by omega), but_none (but_trans c1 c2) n3 r3l, r3l, h3, by rw [pm.length_eq]; omega, pm.nodup_iff.mpr ndT, fun z hz => inT z (pm.mem_iff.mp hz)⟩⟩
        have same1 : But (· = l) G1 G1 := fun p o _ e => e
        refine ⟨_, rfl, rfl, _, rfl, ?_⟩
        by_cases a1 : way = 1
        · rw [decide_eq_true (congrArg V.int a1)]
          refine iteT ⟨_, rfl, rfl, _, rfl, ?_⟩
          cases decide (V.int (0 + (j : Nat)) = V.int 1) with
          | true => exact iteT (iteT ⟨_, rfl, _, rfl, turn G1 _ same1 s1 (by omega)⟩)
          | false =>
            refine iteF ⟨_, rfl, rfl, _, rfl, ?_⟩
            rw [decide_eq_false (fun e => by have := V.int.inj e; omega)]
            exact iteF (iteF stay)
        · rw [decide_eq_false (fun e => a1 (V.int.inj e))]
          refine iteF (iteF ⟨_, rfl, rfl, _, rfl, ?_⟩)
          cases decide (V.int way = V.int 2) with
          | false => exact iteF (iteF stay)
          | true =>
            refine iteT ⟨_, rfl, l, 4, _, rfl, by decide, by decide, s1, by omega, fun G2 e c2 s2 e0 e1 => ⟨rfl, _, rfl, ?_⟩⟩
            cases decide (V.int e = V.int 0) with
            | true => exact iteT ⟨_, rfl, _, rfl, turn G2 _ c2 s2 (by omega)⟩
            | false => exact iteF (hN _ _ ⟨r, ts, rfl, but_trans c1 c2, s2.more (by omega), nr, rl, c2 _ _ rl hr1, by omega, ndT, inT⟩)
    · rintro σ G ⟨v5, v6, qs, rfl, L⟩
      refine ⟨_, rfl, ?_⟩
      have fits : ∀ p ∈ qs, SqL K G p.1 (p.2.map V.int) := fun p hp => SqL.of (L.each p hp)
      have lq := L.len
      rcases L.from' with ⟨_, f⟩ | ⟨_, f⟩
      · exact k G R qs its L.but L.lst ⟨SqL.of L.lst, fits⟩ ⟨by omega, fun p hp => by have := L.short p hp; omega, L.nd, L.big, f, by omega⟩
      · refine k G R qs (qs.map (·.2)).flatten L.but L.lst ⟨SqL.of L.lst, fits⟩ ⟨by omega, fun p hp => by have := L.short p hp; omega, L.nd, L.big, fun p hp z hz => List.mem_flatten.mpr ⟨p.2, List.mem_map.mpr ⟨p, hp, rfl⟩, hz⟩, ?_⟩
        have := flat_len (B := 7) qs f
        omega
end
end Lw

/-! Coming round by the lists. -/
set_option autoImplicit false
namespace Mg
def Edge (ls : List (List Int)) (x y : Int) : Prop := ∃ l ∈ ls, Ahead l x y
inductive Reach (ls : List (List Int)) : Int → Int → Prop
  | one {x y : Int} : Edge ls x y → Reach ls x y
  | step {x y z : Int} : Reach ls x y → Edge ls y z → Reach ls x z
def Round (ls : List (List Int)) : Prop := ∃ x, Reach ls x x
theorem idx_lt {x y : Int} : ∀ {L : List Int}, L.Nodup → [x, y].Sublist L → L.idxOf x < L.idxOf y
  | [], _, h => nomatch h
  | a :: L, nd, h => by
    have nd := List.nodup_cons.mp nd
    cases h with
    | cons _ h =>
      have hx : x ∈ L := h.subset List.mem_cons_self
      have hy : y ∈ L := h.subset (List.mem_cons_of_mem _ List.mem_cons_self)
      have ex : ¬ a = x := fun e => nd.1 (by rw [e]; exact hx)
      have ey : ¬ a = y := fun e => nd.1 (by rw [e]; exact hy)
      have ih := idx_lt nd.2 h
      rw [List.idxOf_cons, List.idxOf_cons, beq_eq_false_iff_ne.mpr ex, beq_eq_false_iff_ne.mpr ey]
      simp only [cond_false]
      omega
    | cons_cons _ h =>
      have hy : y ∈ L := h.subset List.mem_cons_self
      have ey : ¬ x = y := fun e => nd.1 (by rw [e]; exact hy)
      rw [List.idxOf_cons, List.idxOf_cons, beq_self_eq_true, beq_eq_false_iff_ne.mpr ey]
      simp only [cond_true, cond_false]
      omega
theorem Ahead.sub {l : List Int} {a b : Int} (h : Ahead l a b) : [a, b].Sublist l := by
  obtain ⟨u, v, rfl, hb⟩ := h
  exact ((List.singleton_sublist.mpr hb).cons_cons a).trans (List.sublist_append_right _ _)
theorem no_round {ls : List (List Int)} {s : List Int × List (List Int)} (o : Ok ls s) (e : ∀ r ∈ s.2, r = []) : ¬ Round ls := by
  rintro ⟨x, hx⟩
  have lt : ∀ {a b : Int}, Edge ls a b → s.1.idxOf a < s.1.idxOf b := fun {a b} ⟨l, hl, h⟩ => by
    refine idx_lt o.nd (h.sub.trans ?_)
    have q := end_inside o e hl
    have := List.filter_sublist (l := s.1) (p := fun y => l.contains y)
    rw [q] at this
    exact this
  have all : ∀ {a b : Int}, Reach ls a b → s.1.idxOf a < s.1.idxOf b := fun {a b} h => by
    induction h with
    | one h => exact lt h
    | step _ h ih => exact Nat.lt_trans ih (lt h)
  exact Nat.lt_irrefl _ (all hx)
theorem ring_round {ls : List (List Int)} {ring : List (Int × Nat)} (r : IsRing ls ring) : Round ls := by
  have two := r.two
  obtain ⟨a0, i0, b0, j0, l0, e1, e2, e3, e4⟩ := r.link 0 (by omega)
  refine ⟨a0, ?_⟩
  have all : ∀ k, k + 1 < ring.length → ∃ a i, ring[k + 1]? = some (a, i) ∧ Reach ls a0 a := fun k => by
    induction k with
    | zero =>
      intro hk
      rw [Nat.mod_eq_of_lt hk] at e2
      exact ⟨b0, j0, e2, .one ⟨l0, List.mem_of_getElem? e3, e4⟩⟩
    | succ k ih =>
      intro hk
      obtain ⟨a, i, h, ra⟩ := ih (by omega)
      obtain ⟨a1, i1, b1, j1, l1, f1, f2, f3, f4⟩ := r.link (k + 1) (by omega)
      rw [h] at f1
      have f1 := Option.some.inj f1
      rw [Nat.mod_eq_of_lt hk] at f2
      refine ⟨b1, j1, f2, .step ra ⟨l1, List.mem_of_getElem? f3, ?_⟩⟩
      have : a = a1 := congrArg Prod.fst f1
      rw [this]
      exact f4
  obtain ⟨k, ek⟩ : ∃ k, ring.length = k + 2 := ⟨ring.length - 2, by omega⟩
  obtain ⟨a, i, h, ra⟩ := all k (by omega)
  obtain ⟨a1, i1, b1, j1, l1, f1, f2, f3, f4⟩ := r.link (k + 1) (by omega)
  rw [h] at f1
  have f1 := Option.some.inj f1
  have md : (k + 1 + 1) % ring.length = 0 := by rw [ek]; exact Nat.mod_self _
  rw [md, e1] at f2
  have f2 := Option.some.inj f2
  have ea : a = a1 := congrArg Prod.fst f1
  have eb : a0 = b1 := congrArg Prod.fst f2
  refine .step ra ⟨l1, List.mem_of_getElem? f3, ?_⟩
  rw [ea, eb]
  exact f4
/-- the items behind y -/
def beh (y : Int) : List Int → List Int
  | [] => []
  | x :: l => if x = y then l else beh y l
theorem beh_none {y : Int} : ∀ {l : List Int}, y ∉ l → beh y l = []
  | [], _ => rfl
  | x :: l, h => by
    unfold beh
    rw [if_neg (fun e => h (by rw [e]; exact List.mem_cons_self))]
    exact beh_none fun k => h (List.mem_cons_of_mem _ k)
theorem beh_at {y : Int} : ∀ {l : List Int} {k : Nat}, l.Nodup → l[k]? = some y → beh y l = l.drop (k + 1)
  | [], k, _, h => by simp at h
  | x :: l, 0, _, h => by
    have e : x = y := Option.some.inj h
    unfold beh
    rw [if_pos e]
    rfl
  | x :: l, k + 1, nd, h => by
    have nd := List.nodup_cons.mp nd
    have h : l[k]? = some y := h
    unfold beh
    rw [if_neg (fun e => nd.1 (by rw [e]; exact List.mem_of_getElem? h))]
    exact beh_at nd.2 h
theorem beh_sub {y : Int} : ∀ (l : List Int), (beh y l).Sublist l
  | [] => List.Sublist.refl _
  | x :: l => by
    unfold beh
    split
    · exact List.sublist_cons_self _ _
    · exact (beh_sub l).cons x
theorem mem_beh {y z : Int} : ∀ {l : List Int}, l.Nodup → (z ∈ beh y l ↔ Ahead l y z)
  | [], _ => ⟨(fun h => nomatch h), fun ⟨u, v, h, _⟩ => by simp at h⟩
  | x :: l, nd => by
    have nd' := List.nodup_cons.mp nd
    unfold beh
    split
    · next e =>
      subst e
      refine ⟨fun h => ⟨[], l, rfl, h⟩, fun ⟨u, v, h, hz⟩ => ?_⟩
      cases u with
      | nil => injection h with _ h; rw [h]; exact hz
      | cons a u =>
        injection h with h1 h2
        exact absurd (by rw [h2]; simp) nd'.1
    · next e =>
      rw [mem_beh nd'.2]
      refine ⟨fun ⟨u, v, h, hz⟩ => ⟨x :: u, v, by rw [h]; rfl, hz⟩, fun ⟨u, v, h, hz⟩ => ?_⟩
      cases u with
      | nil => injection h with h _; exact absurd h e
      | cons a u =>
        injection h with h1 h2
        exact ⟨u, v, h2, hz⟩
def behs (ls : List (List Int)) (y : Int) : List Int := (ls.map (beh y)).flatten
theorem mem_behs {ls : List (List Int)} (nd : ∀ l ∈ ls, l.Nodup) {y z : Int} : z ∈ behs ls y ↔ Edge ls y z := by
  unfold behs Edge
  rw [List.mem_flatten]
  refine ⟨fun ⟨b, hb, hz⟩ => ?_, fun ⟨l, hl, h⟩ => ⟨beh y l, List.mem_map.mpr ⟨l, hl, rfl⟩, (mem_beh (nd l hl)).mpr h⟩⟩
  obtain ⟨l, hl, rfl⟩ := List.mem_map.mp hb
  exact ⟨l, hl, (mem_beh (nd l hl)).mp hz⟩
theorem behs_len {B : Nat} (y : Int) : ∀ {ls : List (List Int)}, (∀ l ∈ ls, l.length ≤ B) → (behs ls y).length ≤ B * ls.length
  | [], _ => Nat.zero_le _
  | l :: ls, h => by
    have a := (beh_sub (y := y) l).length_le
    have b := h l List.mem_cons_self
    have c := behs_len y fun x hx => h x (List.mem_cons_of_mem l hx)
    have e : behs (l :: ls) y = beh y l ++ behs ls y := rfl
    rw [e, List.length_append, List.length_cons, Nat.mul_succ]
    omega
theorem behs_append (a b : List (List Int)) (y : Int) : behs (a ++ b) y = behs a y ++ behs b y := by
  unfold behs
  rw [List.map_append, List.flatten_append]
theorem mem_behs_in {ls : List (List Int)} {y z : Int} (h : z ∈ behs ls y) : ∃ l ∈ ls, z ∈ l := by
  obtain ⟨b, hb, hz⟩ := List.mem_flatten.mp h
  obtain ⟨l, hl, rfl⟩ := List.mem_map.mp hb
  exact ⟨l, hl, (beh_sub l).subset hz⟩
theorem closed_reach {ls : List (List Int)} (nd : ∀ l ∈ ls, l.Nodup) {x : Int} {fs : List Int} (h0 : ∀ z ∈ behs ls x, z ∈ fs) (hc : ∀ y ∈ fs, ∀ z ∈ behs ls y, z ∈ fs) {z : Int} (h : Reach ls x z) : z ∈ fs := by
  induction h with
  | one h => exact h0 _ ((mem_behs nd).mpr h)
  | step _ h ih => exact hc _ ih _ ((mem_behs nd).mpr h)
theorem reach_in {ls : List (List Int)} {x y : Int} (h : Reach ls x y) : ∃ l ∈ ls, x ∈ l := by
  induction h with
  | one h => obtain ⟨l, hl, u, v, rfl, _⟩ := h; exact ⟨_, hl, by simp⟩
  | step _ _ ih => exact ih
end Mg

set_option Elab.async false
set_option linter.all false
set_option maxRecDepth 100000
set_option maxHeartbeats 4000000
namespace Lw
open PySem L2 Two Pr
abbrev sRound : Stmt := top 30
/-! ### the dict of what stands behind -/
def fAt (A : List (List Int)) (y : Int) : Option (List Int) := if y ∈ A.flatten then some (Mg.behs A y) else none
def fIn (A : List (List Int)) (l : List Int) (k : Nat) (y : Int) : Option (List Int) := if y ∈ A.flatten ++ l.take k then some (Mg.behs A y ++ (if y ∈ l.take k then Mg.beh y l else [])) else none
theorem fIn_zero (A : List (List Int)) (l : List Int) (y : Int) : fIn A l 0 y = fAt A y := by
  unfold fIn fAt
  simp
theorem fIn_all (A : List (List Int)) (l : List Int) (y : Int) : fIn A l l.length y = fAt (A ++ [l]) y := by
  unfold fIn fAt
  rw [List.take_length, Mg.behs_append]
  have e : Mg.behs [l] y = Mg.beh y l := by unfold Mg.behs; simp
  have f : (A ++ [l]).flatten = A.flatten ++ l := by rw [List.flatten_append]; simp
  rw [e, f]
  by_cases h : y ∈ l
  · rw [if_pos h]
  · rw [if_neg h, Mg.beh_none h]
theorem behs_none {A : List (List Int)} {y : Int} (h : y ∉ A.flatten) : Mg.behs A y = [] := by
  unfold Mg.behs
  rw [List.flatten_eq_nil_iff]
  intro b hb
  obtain ⟨l, hl, rfl⟩ := List.mem_map.mp hb
  exact Mg.beh_none fun k => h (List.mem_flatten.mpr ⟨l, hl, k⟩)
theorem fIn_get {A : List (List Int)} {l : List Int} {k : Nat} {z : Int} (nd : l.Nodup) (h : l[k]? = some z) : (fIn A l k z).getD [] = Mg.behs A z := by
  have n : z ∉ l.take k := fun m => by
    obtain ⟨i, hi⟩ := List.getElem?_of_mem m
    have lt : i < k := by
      have := (List.getElem?_eq_some_iff.mp hi).1
      rw [List.length_take] at this
      omega
    rw [List.getElem?_take_of_lt lt] at hi
    have := Mg.nodup_get nd hi h
    omega
  unfold fIn
  rw [if_neg n, List.append_nil]
  by_cases q : z ∈ A.flatten ++ l.take k
  · rw [if_pos q]; rfl
  · rw [if_neg q, behs_none fun m => q (List.mem_append.mpr (.inl m))]; rfl
theorem fIn_succ {A : List (List Int)} {l : List Int} {k : Nat} {z : Int} (nd : l.Nodup) (h : l[k]? = some z) (y : Int) : fIn A l (k + 1) y = if y = z then some ((fIn A l k z).getD [] ++ l.drop (k + 1)) else fIn A l k y := by
  rw [fIn_get nd h]
  unfold fIn
  rw [take_snoc h]
  by_cases e : y = z
  · subst e
    rw [if_pos (by simp), if_pos (by simp), if_pos rfl, Mg.beh_at nd h]
  · have q : (y ∈ l.take k ++ [z]) ↔ y ∈ l.take k := by simp [e]
    have q2 : (y ∈ A.flatten ++ (l.take k ++ [z])) ↔ y ∈ A.flatten ++ l.take k := by simp [e]
    rw [if_neg e]
    simp only [q, q2]
theorem mem_putK {kvs : List (Key × V)} {k : Key} {v : V} {kv : Key × V} (h : kv ∈ putK kvs k v) : kv.1 = k ∨ ∃ kv' ∈ kvs, kv'.1 = kv.1 := by
  unfold putK at h
  split at h
  · obtain ⟨p, hp, e⟩ := List.mem_map.mp h
    split at e
    · next q => rw [← e]; exact .inl q
    · rw [← e]; exact .inr ⟨p, hp, rfl⟩
  · rcases List.mem_append.mp h with h | h
    · exact .inr ⟨kv, h, rfl⟩
    · rw [List.mem_singleton.mp h]; exact .inl rfl
theorem val_of_mem {kvs : List (Key × V)} {k : Key} {v : V} (h : (k, v) ∈ kvs) : ∃ u, valV kvs k = some u := by
  unfold valV
  cases e : kvs.find? fun kv => decide (kv.1 = k) with
  | some p => exact ⟨p.2, rfl⟩
  | none =>
    have := List.find?_eq_none.mp e _ h
    simp at this
theorem mem_of_val {kvs : List (Key × V)} {k : Key} {u : V} (h : valV kvs k = some u) : ∃ kv ∈ kvs, kv.1 = k := by
  unfold valV at h
  cases e : kvs.find? fun kv => decide (kv.1 = k) with
  | some p => exact ⟨p, List.mem_of_find?_eq_some e, by have := List.find?_some e; simpa using this⟩
  | none => rw [e] at h; cases h
structure AhI (H G : Hp) (D : Addr) (kvs : List (Key × V)) (n : Nat) (f : Int → Option (List Int)) : Prop where
  same : Same H G
  dic : G D = some (.dK kvs)
  few : kvs.length ≤ n
  keys : ∀ kv ∈ kvs, ∃ y : Int, kv.1 = .inl y
  yes : ∀ y vs, f y = some vs → ∃ r, valV kvs (.inl y) = some (.ref r) ∧ G r = some (.lst (vs.map V.int)) ∧ r ≠ D
  no : ∀ y, f y = none → valV kvs (.inl y) = none
theorem AhI.imp {H G : Hp} {D : Addr} {kvs : List (Key × V)} {n m : Nat} {f g : Int → Option (List Int)} (a : AhI H G D kvs n f) (h : n ≤ m) (e : ∀ y, g y = f y) : AhI H G D kvs m g :=
  ⟨a.same, a.dic, Nat.le_trans a.few h, a.keys, fun y vs q => a.yes y vs (by rw [← e]; exact q), fun y q => a.no y (by rw [← e]; exact q)⟩
theorem AhI.keep {H G G' : Hp} {D : Addr} {kvs : List (Key × V)} {n : Nat} {f : Int → Option (List Int)} (a : AhI H G D kvs n f) (s : Same G G') : AhI H G' D kvs n f :=
  ⟨a.same.trans s, s _ _ a.dic, a.few, a.keys, fun y vs q => by obtain ⟨r, h1, h2, h3⟩ := a.yes y vs q; exact ⟨r, h1, s _ _ h2, h3⟩, a.no⟩
theorem AhI.put {H G : Hp} {D r : Addr} {kvs : List (Key × V)} {n : Nat} {f g : Int → Option (List Int)} {z : Int} {vs : List Int} (nD : H D = none) (a : AhI H G D kvs n f) (hr : G r = some (.lst (vs.map V.int))) (rD : r ≠ D) (e : ∀ y, g y = if y = z then some vs else f y) :
    AhI H (upd G D (.dK (putK kvs (.inl z) (.ref r)))) D (putK kvs (.inl z) (.ref r)) (n + 1) g := by
  refine ⟨same_upd a.same nD, upd_same, Nat.le_trans (length_putK _ _ _) (by have := a.few; omega), fun kv h => ?_, fun y us q => ?_, fun y q => ?_⟩
  · rcases mem_putK h with h | ⟨p, hp, h⟩
    · exact ⟨z, h⟩
    · rw [← h]; exact a.keys p hp
  · rw [e] at q
    rw [valV_put]
    by_cases h : y = z
    · rw [if_pos h] at q
      rw [if_pos (by rw [h]), ← Option.some.inj q]
      exact ⟨r, rfl, by rw [upd_ne rD]; exact hr, rD⟩
    · rw [if_neg h] at q
      rw [if_neg fun x => h (Sum.inl.inj x)]
      obtain ⟨r1, h1, h2, h3⟩ := a.yes y us q
      exact ⟨r1, h1, by rw [upd_ne h3]; exact h2, h3⟩
  · rw [e] at q
    by_cases h : y = z
    · rw [if_pos h] at q; cases q
    · rw [if_neg h] at q
      rw [valV_put, if_neg fun x => h (Sum.inl.inj x)]
      exact a.no y q
/-! ### going round -/
structure Bfs (ls : List (List Int)) (U : List Int) (y : Int) (fs : List Int) (t : Nat) : Prop where
  ex : ∃ ex, fs = Mg.behs ls y ++ ex ∧ ex.Nodup ∧ ∀ z ∈ ex, z ∈ U
  reach : ∀ z ∈ fs, Mg.Reach ls y z
  done : ∀ j w, j < t → fs[j]? = some w → ∀ z ∈ Mg.behs ls w, z ∈ fs
  le : t ≤ fs.length
theorem Bfs.start {ls : List (List Int)} {U : List Int} {y : Int} (nd : ∀ l ∈ ls, l.Nodup) : Bfs ls U y (Mg.behs ls y) 0 :=
  ⟨⟨[], by simp, List.nodup_nil, fun z h => nomatch h⟩, fun z h => .one ((Mg.mem_behs nd).mp h), fun j w h => absurd h (Nat.not_lt_zero _), Nat.zero_le _⟩
theorem Bfs.len {ls : List (List Int)} {U : List Int} {y : Int} {fs : List Int} {t : Nat} (b : Bfs ls U y fs t) (few : ls.length ≤ 15) (short : ∀ l ∈ ls, l.length ≤ 15) (u : U.length ≤ 60) : fs.length ≤ 285 := by
  obtain ⟨ex, e, nd, h⟩ := b.ex
  have a := nodup_le_len nd h
  have c := Mg.behs_len y short
  have d : 15 * ls.length ≤ 15 * 15 := Nat.mul_le_mul_left _ few
  rw [e, List.length_append]
  omega
theorem Bfs.step {ls : List (List Int)} {U : List Int} {y w : Int} {fs ys : List Int} {t : Nat} (b : Bfs ls U y fs t) (nd : ∀ l ∈ ls, l.Nodup) (inU : ∀ l ∈ ls, ∀ z ∈ l, z ∈ U) (hw : fs[t]? = some w) (mem : ∀ z, z ∈ ys ↔ z ∈ Mg.behs ls w) (ny : ys.Nodup) :
    Bfs ls U y (fs ++ ys.filter fun z => !fs.contains z) (t + 1) := by
  obtain ⟨ex, e, ne, h⟩ := b.ex
  have ht := (List.getElem?_eq_some_iff.mp hw).1
  have fm : ∀ z, z ∈ ys.filter (fun z => !fs.contains z) ↔ z ∈ ys ∧ z ∉ fs := fun z => by simp
  refine ⟨⟨ex ++ ys.filter fun z => !fs.contains z, by rw [← List.append_assoc, ← e], ?_, fun z hz => ?_⟩, fun z hz => ?_, fun j v hj hv z hz => ?_, by rw [List.length_append]; omega⟩
  · refine List.nodup_append.mpr ⟨ne, ny.filter _, fun p hp q hq => ?_⟩
    rintro rfl
    exact ((fm p).mp hq).2 (by rw [e]; exact List.mem_append.mpr (.inr hp))
  · rcases List.mem_append.mp hz with hz | hz
    · exact h z hz
    · obtain ⟨l, hl, q⟩ := Mg.mem_behs_in ((mem z).mp ((fm z).mp hz).1)
      exact inU l hl z q
  · rcases List.mem_append.mp hz with hz | hz
    · exact b.reach z hz
    · exact .step (b.reach w (List.mem_of_getElem? hw)) ((Mg.mem_behs nd).mp ((mem z).mp ((fm z).mp hz).1))
  · have at1 : fs[j]? = some v := by rw [← hv, List.getElem?_append_left (by omega)]
    by_cases q : z ∈ fs
    · exact List.mem_append.mpr (.inl q)
    by_cases hj2 : j < t
    · exact absurd (b.done j v hj2 at1 z hz) q
    · have ej : j = t := by omega
      subst ej
      rw [hw] at at1
      have : w = v := Option.some.inj at1
      subst this
      exact List.mem_append.mpr (.inr ((fm z).mpr ⟨(mem z).mpr hz, q⟩))
theorem Bfs.ends {ls : List (List Int)} {U : List Int} {y : Int} {fs : List Int} (b : Bfs ls U y fs fs.length) (nd : ∀ l ∈ ls, l.Nodup) : y ∈ fs ↔ Mg.Reach ls y y := by
  refine ⟨b.reach y, Mg.closed_reach nd (fun z hz => ?_) fun w hw z hz => ?_⟩
  · obtain ⟨ex, e, _⟩ := b.ex
    rw [e]
    exact List.mem_append.mpr (.inl hz)
  · obtain ⟨j, hj⟩ := List.getElem?_of_mem hw
    exact b.done j w (List.getElem?_eq_some_iff.mp hj).1 hj z hz
theorem reach_to {ls : List (List Int)} {x y : Int} (h : Mg.Reach ls x y) : y ∈ ls.flatten := by
  have e : ∀ {x y}, Mg.Edge ls x y → y ∈ ls.flatten := fun {x y} ⟨l, hl, u, v, q, hv⟩ => List.mem_flatten.mpr ⟨l, hl, by rw [q]; exact List.mem_append.mpr (.inr (List.mem_cons_of_mem _ hv))⟩
  cases h with
  | one h => exact e h
  | step _ h => exact e h
end Lw

set_option Elab.async false
set_option linter.all false
set_option maxRecDepth 100000
set_option maxHeartbeats 8000000
namespace Lw
open PySem L2 Two Pr
section
variable {P : Program} {w : World} {K : PySem.W.Frag} {mg : Str → Option Value} {base : Heap}
def spRound (K : PySem.W.Frag) : Sp := fun vs H Q _ => ∃ (a : Addr) (ps : List (Addr × List Int)) (U : List Int), vs = [.ref a] ∧ LofL K H a ps ∧ Drawn ps U ∧ ∀ b H', Same H H' → (b = true ↔ Mg.Round (lsOf ps)) → Q (.bl b) H'
abbrev nRound : List Str := ["_law_lists_here", "_law_ahead", "_law_one", "_law_at", "_law_item", "_law_found", "_law_other"]
theorem scRound : FnScope nRound ["_law_lists_here"] (defScope sRound) := ⟨rfl, rfl, rfl, by decide +kernel, rfl, by decide +kernel, by decide +kernel⟩
/-- sorted(set(ahead[found[at]])) -/
def tSorted (K : PySem.W.Frag) (w : World) : TE := tCB (rSortedSet w) (tCons (tCB (Two.rSetL K w) (tCons (tDGet (tVar 1) (tOp (rIxL K) (tVar 5) (tVar 3))) tNil)) tNil)
theorem ok_round {f : Addr} {fd : FuncData} (F : Fun K "_law_comes_round" "_law_comes_round" sRound f fd) (T : TxtL mg) : FnOk P w K mg base CX0 1 f fd ["_law_lists_here"] (spRound K) := by
  refine F.ok scRound (fun vs H Q E h => ?_) (fun cdv A outer s H vs Q E hr h => ?_)
  · obtain ⟨a, ps, U, rfl, _⟩ := h
    rfl
  · obtain ⟨a, ps, U, rfl, hL, dr, k⟩ := h
    have hu := hu_of hr
    refine ⟨_, pss_cons (ps_set (i := 1) scRound.nd rfl (Or.inl rfl) pe_dnewK)
      (pss_cons (ps_for PassesOwn.never rfl (pi_list (pv 0)) (pg_name (i := 2) scRound.nd rfl (Or.inl rfl))
        (pss_one (ps_for PassesOwn.never rfl (pi_enum (by rfl) T.base.enum (pa_cons (pv 2) pa_nil)) (pg_tup rfl (pgs_cons (pg_name (i := 3) scRound.nd rfl (Or.inl rfl)) (pgs_cons (pg_name (i := 4) scRound.nd rfl (Or.inl rfl)) pgs_nil)))
          (pss_one (ps_dput hu (pv 1) (pv 4) (pe_op op_cat (pe_dget2 hu (pv 1) (pv 4) (pe_lst pa_nil) ⟨rfl, rfl, rfl, rfl⟩) (pe_slice sl_list (pv 2) (po_some (pe_op op_add (pv 3) pe_int)) po_none)) rfl)))))
      (pss_cons (ps_lock (ps_for PassesOwn.never rfl (pi_keys (pv 1)) (pg_name (i := 4) scRound.nd rfl (Or.inl rfl))
        (pss_cons (ps_set (i := 5) scRound.nd rfl (Or.inr rfl) (pe_callTy call_listQ (by rfl) T.base.list (by decide +kernel) (pa_cons (pe_dget hu (pv 1) (pv 4) (fun _ _ => rfl)) pa_nil)))
        (pss_cons (ps_set (i := 3) scRound.nd rfl (Or.inl rfl) pe_int)
        (pss_cons (ps_while PassesOwn.never (pt_cmpR op_lt (pv 3) (pe_callB call_len_seq (by rfl) T.base.len PySem.boot_len (pa_cons (pv 5) pa_nil)) (nomark _))
          (pss_cons (ps_set (i := 5) scRound.nd rfl (Or.inr rfl) (pe_op op_cat (pv 5) (pe_lc (own := [("_law_other", 6)]) (wi := iList K (tSorted K w)) (g := gName 6) (tt := tTest (tOp (rIn K true) (tVar 6) (tVar 5))) (te := tVar 6) rfl scRound.nd
              (pi_list (pe_callB (cr_sortedSet rfl) (by rfl) T.sorted (by decide +kernel) (pa_cons (pe_callTy (cr_setL rfl) (by rfl) T.base.set (by decide +kernel) (pa_cons (pe_dget hu (pv 1) (pe_ix ix_list (pv 5) (pv 3) (fun _ _ => rfl)) (fun _ _ => rfl)) pa_nil)) pa_nil)))
              (blkOk_by (N := nRound) (sc := defScope sRound) (by decide +kernel))
              (fun _ _ _ _ _ => pg_name (i := 6) scRound.nd rfl (Or.inl rfl)) (fun _ _ _ _ _ => pts_one (pt_cmpR op_notIn_seq (pv 6) (pv 5) (by rfl))) (fun _ _ _ _ _ => pv 6))))
          (pss_one (ps_set (i := 3) scRound.nd rfl (Or.inl rfl) (pe_op op_add (pv 3) pe_int)))))
        (pss_one (ps_if (pt_cmpR op_in_seq (pv 4) (pv 5) (by rfl)) (pss_one (ps_ret pe_bl)) pss_nil)))))))
      (pss_one (ps_ret pe_bl)))), ?_⟩
    have few : (lsOf ps).length ≤ 15 := by rw [List.length_map]; exact dr.few
    have short : ∀ l ∈ lsOf ps, l.length ≤ 15 := fun l hl => by obtain ⟨p, hp, rfl⟩ := List.mem_map.mp hl; exact dr.short p hp
    have nd : ∀ l ∈ lsOf ps, l.Nodup := fun l hl => by obtain ⟨p, hp, rfl⟩ := List.mem_map.mp hl; exact dr.nd p hp
    have inU : ∀ l ∈ lsOf ps, ∀ z ∈ l, z ∈ U := fun l hl => by obtain ⟨p, hp, rfl⟩ := List.mem_map.mp hl; exact dr.all p hp
    have behL : ∀ (i : Nat) (y : Int), (Mg.behs ((lsOf ps).take i) y).length ≤ 225 := fun i y => by
      have a1 := Mg.behs_len (B := 15) (ls := (lsOf ps).take i) y fun l hl => short l (List.mem_of_mem_take hl)
      have a2 : 15 * ((lsOf ps).take i).length ≤ 15 * 15 := Nat.mul_le_mul_left _ (by rw [List.length_take]; omega)
      omega
    intro D hD
    refine ⟨_, rfl, a, rfl, ⟨_, (same_new hD).seq hL.1⟩, for_list (K := K) (a := a) (xs := refsOf ps) (fun i σ G => ∃ (v2 v3 v4 : Option V) (kvs : List (Key × V)), σ = [some (.ref a), some (.ref D), v2, v3, v4, none, none] ∧ AhI H G D kvs (15 * i) (fAt ((lsOf ps).take i)))
      ⟨_, _, _, [], rfl, same_new hD, upd_same, Nat.zero_le _, (fun kv h => nomatch h), (fun y vs q => by unfold fAt at q; simp at q), fun y _ => rfl⟩ (fun i σ G _ ⟨_, _, _, _, _, p⟩ => p.same.seq hL.1) ?_ ?_⟩
    · rintro i x σ G hx ⟨v2, v3, v4, kvs, rfl, p⟩
      obtain ⟨q, hq, rfl⟩ := get_map hx
      have mq := List.mem_of_getElem? hq
      have hl := lsOf_at hq
      have shq := dr.short q mq
      have hi : i < 15 := by
        have := (List.getElem?_eq_some_iff.mp hq).1
        have := dr.few
        omega
      refine ⟨_, rfl, q.1, _, rfl, p.same.seq (hL.2 q mq), ?_⟩
      refine for_it (walk_enum (K := K) (a := q.1) (xs := q.2.map V.int)) (fun j σ G => ∃ (v3 v4 : Option V) (kvs : List (Key × V)), σ = [some (.ref a), some (.ref D), some (.ref q.1), v3, v4, none, none] ∧ AhI H G D kvs (15 * i + j) (fIn ((lsOf ps).take i) q.2 j))
        ⟨_, _, kvs, rfl, p.imp (by omega) fun y => fIn_zero _ _ y⟩ (fun j σ G _ ⟨_, _, _, _, p⟩ => p.same.seq (hL.2 q mq)) ?_ ?_
      · rintro j x σ G G2 hj ⟨v3, v4, kvs, rfl, p⟩ ⟨t, e1, e2, rfl, ht, rfl, he1, he2⟩
        rw [List.length_map] at hj
        obtain rfl := Option.some.inj he1
        obtain ⟨z, hz, rfl⟩ := get_map he2
        have s1 : Same G (upd G t (.tup [.int (j : Nat), .int z])) := same_new ht
        have ht2 : upd G t (.tup [.int (j : Nat), .int z]) t = some (.tup [.int (j : Nat), .int z]) := upd_same
        have p1 := p.keep s1
        generalize upd G t (.tup [.int (j : Nat), .int z]) = G2 at p1 s1 ht2 ⊢
        refine ⟨t, _, rfl, SqT.of ht2, rfl, _, _, rfl, _, _, rfl, rfl, ?_⟩
        refine ⟨_, rfl, D, rfl, .inl ⟨kvs, .inl p1.dic⟩, _, rfl, Nat.zero_le _, fun e he => ?_⟩
        have s2 : Same G2 (upd G2 e (.lst [])) := same_new he
        have p2 := p1.keep s2
        have he2 : upd G2 e (.lst []) e = some (.lst []) := upd_same
        generalize upd G2 e (.lst []) = G3 at p2 s2 he2 ⊢
        have look : ∃ r, ((valV kvs (.inl z)).getD (.ref e)) = .ref r ∧ G3 r = some (.lst (((fIn ((lsOf ps).take i) q.2 j z).getD []).map V.int)) := by
          cases hf : fIn ((lsOf ps).take i) q.2 j z with
          | none => rw [p2.no z hf]; exact ⟨e, rfl, he2⟩
          | some vs => obtain ⟨r, h1, h2, _⟩ := p2.yes z vs hf; rw [h1]; exact ⟨r, rfl, h2⟩
        obtain ⟨r, hr1, hr2⟩ := look
        have lenR : ((fIn ((lsOf ps).take i) q.2 j z).getD []).length ≤ 225 := by rw [fIn_get (dr.nd q mq) hz]; exact behL i z
        refine ⟨_, DGet.k (k := Sum.inl z) p2.dic, ?_⟩
        rw [hr1]
        have hS := p2.same.seq (hL.2 q mq)
        have j1 : ((j : Nat) : Int) + 1 = ((j + 1 : Nat) : Int) := rfl
        refine ⟨_, rfl, _, rfl, _, _, rfl, rfl, _, rfl, q.1, _, rfl, hS, fun sl hsl => ?_⟩
        rw [j1, cut_drop _ _ (by rw [List.length_map]; omega), ← List.map_drop]
        have s3 : Same G3 (upd G3 sl (.lst ((q.2.drop (j + 1)).map V.int))) := same_new hsl
        have p3 := p2.keep s3
        have hsl2 : upd G3 sl (.lst ((q.2.drop (j + 1)).map V.int)) sl = some (.lst ((q.2.drop (j + 1)).map V.int)) := upd_same
        have hr3 := s3 _ _ hr2
        generalize upd G3 sl (.lst ((q.2.drop (j + 1)).map V.int)) = G4 at p3 s3 hsl2 hr3 ⊢
        have lenD : (q.2.drop (j + 1)).length ≤ 15 := by rw [List.length_drop]; omega
        refine ⟨r, sl, _, _, rfl, rfl, hr3, hsl2, Nat.le_of_lt (small1000 (by rw [List.length_map, List.length_map]; omega)), fun nw hnw => ?_⟩
        rw [← List.map_append]
        obtain ⟨new, enew⟩ : ∃ new, new = (fIn ((lsOf ps).take i) q.2 j z).getD [] ++ q.2.drop (j + 1) := ⟨_, rfl⟩
        rw [← enew]
        have s4 : Same G4 (upd G4 nw (.lst (new.map V.int))) := same_new hnw
        have p4 := p3.keep s4
        have hnw2 : upd G4 nw (.lst (new.map V.int)) nw = some (.lst (new.map V.int)) := upd_same
        have nwD : nw ≠ D := (ne_of_none p3.dic hnw).symm
        generalize upd G4 nw (.lst (new.map V.int)) = G5 at p4 s4 hnw2 ⊢
        refine ⟨_, rfl, _, rfl, D, _, rfl, .inl ⟨kvs, .inl z, p4.dic, rfl, ?_, rfl⟩, _, _, _, rfl, p4.put hD hnw2 nwD fun y => ?_⟩
        · have := p4.few
          exact small1000 (by omega)
        · rw [enew]
          exact fIn_succ (dr.nd q mq) hz y
      · rintro σ G ⟨v3, v4, kvs, rfl, p⟩
        rw [List.length_map] at p
        refine ⟨_, _, _, kvs, rfl, p.imp (by omega) fun y => ?_⟩
        rw [fIn_all, take_snoc hl]
    · rintro σ G ⟨v2, v3, v4, kvs, rfl, p⟩
      have e0 : (lsOf ps).take (refsOf ps).length = lsOf ps := List.take_of_length_le (by rw [List.length_map, List.length_map]; exact Nat.le_refl _)
      rw [e0] at p
      have atD : ∀ y, y ∈ (lsOf ps).flatten → ∃ r, valV kvs (.inl y) = some (.ref r) ∧ G r = some (.lst ((Mg.behs (lsOf ps) y).map V.int)) ∧ r ≠ D := fun y hy => p.yes y _ (if_pos hy)
      have keyIn : ∀ (i : Nat) (kk : Key) (v : V), kvs[i]? = some (kk, v) → ∃ y : Int, kk = .inl y ∧ y ∈ (lsOf ps).flatten := fun i kk v h => by
        have m := List.mem_of_getElem? h
        obtain ⟨y, e⟩ := p.keys _ m
        have e : kk = .inl y := e
        refine ⟨y, e, Decidable.byContradiction fun n => ?_⟩
        obtain ⟨u, hu'⟩ := val_of_mem m
        rw [e, p.no y (if_neg n)] at hu'
        cases hu'
      have inKey : ∀ y, y ∈ (lsOf ps).flatten → ∃ i : Nat, i < kvs.length ∧ ∃ v, kvs[i]? = some (.inl y, v) := fun y hy => by
        obtain ⟨r, h1, _⟩ := atD y hy
        obtain ⟨kv, m, e⟩ := mem_of_val h1
        obtain ⟨i, hi⟩ := List.getElem?_of_mem m
        exact ⟨i, (List.getElem?_eq_some_iff.mp hi).1, kv.2, by rw [hi, ← e]⟩
      refine ⟨D, _, p.dic, trivial, fun od => ?_⟩
      have lockD : upd G D (.frz od (.dK kvs)) D = some (.frz od (.dK kvs)) := upd_same
      have atR : ∀ y, y ∈ (lsOf ps).flatten → ∃ r, valV kvs (.inl y) = some (.ref r) ∧ upd G D (.frz od (.dK kvs)) r = some (.lst ((Mg.behs (lsOf ps) y).map V.int)) := fun y hy => by
        obtain ⟨r, h1, h2, h3⟩ := atD y hy
        exact ⟨r, h1, by rw [upd_ne h3]; exact h2⟩
      have sameG : Same H (upd G D (.frz od (.dK kvs))) := same_upd p.same hD
      generalize upd G D (.frz od (.dK kvs)) = G1 at lockD atR sameG ⊢
      refine ⟨_, rfl, D, od, rfl, .inl ⟨kvs, lockD, ?_⟩⟩
      refine for_it walk_keys (fun i σ G => (∃ (v2 v3 v4 v5 : Option V), σ = [some (.ref a), some (.ref D), v2, v3, v4, v5, none]) ∧ Same G1 G ∧ ∀ (j : Nat) (y : Int) (v : V), j < i → kvs[j]? = some (.inl y, v) → ¬ Mg.Reach (lsOf ps) y y)
        ⟨⟨_, _, _, _, rfl⟩, Same.refl _, fun j y v h => absurd h (Nat.not_lt_zero _)⟩ (fun i σ G _ p => p.2.1 _ _ lockD) ?_ ?_
      · rintro i x σ G2 G2' hi ⟨⟨v2, v3, v4, v5, rfl⟩, s2, before⟩ ⟨rfl, kk, v, hk, rfl⟩
        obtain ⟨y, rfl, hy⟩ := keyIn i kk v hk
        obtain ⟨ry, hry1, hry2⟩ := atR y hy
        refine ⟨_, rfl, _, rfl, D, .ref ry, rfl, .inl ⟨kvs, .inl y, .inr ⟨od, s2 _ _ lockD⟩, rfl, hry1.symm⟩, ry, _, rfl, .inl (SqL.of (s2 _ _ hry2)), fun F0 hF0 => ?_⟩
        refine while_m (fun m σ G => ∃ (Fa : Addr) (fs : List Int) (t : Nat), m = 285 - t ∧ σ = [some (.ref a), some (.ref D), v2, some (.int (t : Nat)), some (.int y), some (.ref Fa), none] ∧ Same G1 G ∧ G Fa = some (.lst (fs.map V.int)) ∧ Bfs (lsOf ps) U y fs t)
          ⟨_, F0, _, 0, rfl, rfl, same_upd s2 (none_of_same s2 hF0), upd_same, Bfs.start nd⟩ ?_ ?_
        · rintro m σ G3 ⟨Fa, fs, t, rfl, rfl, s3, hF, b⟩
          have lenF := b.len few short dr.uni
          refine ⟨_, rfl, _, rfl, Fa, _, rfl, .inl (SqL.of hF), _, _, rfl, rfl, _, rfl, ?_⟩
          by_cases ht : t < fs.length
          · rw [decide_eq_true (by rw [List.length_map]; omega)]
            refine iteT ?_
            have hw : fs[t]? = some fs[t] := List.getElem?_eq_getElem ht
            generalize fs[t] = w0 at hw
            have wIn := reach_to (b.reach w0 (List.mem_of_getElem? hw))
            obtain ⟨rw0, hv0, hc0⟩ := atR w0 wIn
            have lenB : (Mg.behs (lsOf ps) w0).length ≤ 225 := by
              have := behL (lsOf ps).length w0
              rw [List.take_length] at this
              exact this
            refine ⟨_, rfl, _, rfl, _, rfl, _, rfl, Fa, _, (t : Nat), .int w0, rfl, rfl, SqL.of hF, atI_nat (by rw [List.getElem?_map, hw]; rfl), D, .ref rw0, rfl, .inl ⟨kvs, .inl w0, .inr ⟨od, s3 _ _ lockD⟩, rfl, hv0.symm⟩, ?_⟩
            refine ⟨rw0, Mg.behs (lsOf ps) w0, U, rfl, SqL.of (s3 _ _ hc0), by omega, fun z hz => ?_, fun S c hS hc => ?_⟩
            · obtain ⟨l, hl, q⟩ := Mg.mem_behs_in hz
              exact inU l hl z q
            have s4 : Same G3 _ := same_new (o := SetO w S (fun j => decide (j ∈ Mg.behs (lsOf ps) w0)) c) hS
            have uni := dr.uni
            refine ⟨S, _, c, rfl, upd_same, by omega, fun ys Lf pw mem len hLf => ?_⟩
            have s5 := s4.trans (same_new (o := .lst (ys.map V.int)) hLf)
            refine ⟨Lf, rfl, ⟨_, SqL.of upd_same⟩, fun D1 hD1 => ?_⟩
            refine lc_sel (K := K) (ps := ys) (gv := V.int) 6 V.int (fun z => !fs.contains z) (SqL.of upd_same) (small1000 (by omega)) hD1 (fun _ => rfl)
              (fun j z G4 Q1 hz s6 q => ⟨_, rfl, _, rfl, Fa, _, rfl, .inl (SqL.of (s6 _ _ (s5 _ _ hF))), rfl, flat_ints _, _, rfl, ?_⟩)
              (fun j z G4 Q1 hz _ s6 q => ⟨_, rfl, q _ (Same.refl _)⟩) fun G4 s6 h4 => ?_
            · rw [inV_ints]
              exact q _ (Same.refl _)
            have lenN : (ys.filter fun z => !fs.contains z).length ≤ ys.length := List.length_filter_le _ _
            refine ⟨Fa, D1, _, _, rfl, rfl, s6 _ _ (s5 _ _ hF), h4, Nat.le_of_lt (small1000 (by rw [List.length_map, List.length_map]; omega)), fun E1 hE1 => ?_⟩
            rw [← List.map_append]
            refine ⟨_, rfl, _, _, rfl, rfl, 285 - (t + 1), by omega, E1, _, t + 1, rfl, rfl, same_upd (s3.trans (s5.trans s6)) (none_of_same (s3.trans (s5.trans s6)) hE1), upd_same, b.step nd inU hw (fun z => ?_) (pair_lt_nodup pw)⟩
            rw [mem z]
            exact decide_eq_true_iff
          · rw [decide_eq_false (by rw [List.length_map]; omega)]
            refine iteF ?_
            have te : t = fs.length := by have := b.le; omega
            subst te
            refine ⟨_, rfl, _, rfl, Fa, _, rfl, .inl (SqL.of hF), rfl, flat_ints _, _, rfl, ?_⟩
            rw [inV_ints]
            cases hc : fs.contains y with
            | true =>
              refine iteT ⟨s3 _ _ lockD, k true _ (same_upd (sameG.trans s3) hD) ⟨fun _ => ⟨y, b.ends nd |>.mp (List.contains_iff_mem.mp hc)⟩, fun _ => rfl⟩⟩
            | false =>
              refine iteF ⟨⟨_, _, _, _, rfl⟩, s3, fun j z v hj hz hr => ?_⟩
              by_cases e : j < i
              · exact before j z v e hz hr
              · have : j = i := by omega
                subst this
                rw [hk] at hz
                have : y = z := Sum.inl.inj (Prod.mk.inj (Option.some.inj hz)).1
                subst this
                rw [List.contains_iff_mem.mpr (b.ends nd |>.mpr hr)] at hc
                cases hc
        · rintro σ G Q1 Q2 imp ⟨x, hx, y, hy, p, ys, e1, e2, i, j, e3, e4, bb, e5, h⟩
          exact ⟨x, hx, y, hy, p, ys, e1, e2, i, j, e3, e4, bb, e5, imp _ _ h⟩
      · rintro σ G2 ⟨⟨v2, v3, v4, v5, rfl⟩, s2, before⟩
        refine ⟨s2 _ _ lockD, k false _ (same_upd (sameG.trans s2) hD) ⟨(fun h => nomatch h), fun ⟨y, hy⟩ => ?_⟩⟩
        obtain ⟨l, hl, hyl⟩ := Mg.reach_in hy
        obtain ⟨i, hi, v, hv⟩ := inKey y (List.mem_flatten.mpr ⟨l, hl, hyl⟩)
        exact absurd hy (before i y v hi hv)
end
end Lw

set_option Elab.async false
set_option linter.all false
set_option maxRecDepth 100000
set_option maxHeartbeats 4000000
namespace Lw
open PySem L2 Two Pr
/-! ### repr of what merge hands back -/
structure Shows (d : PyData) : Prop where
  a : d.showable = true
  b : d.hasDict = false
  c : d.depth ≤ 32
  d' : d.shown.length ≤ sizeLine
theorem showable_int {y : Int} (h : Big y) : PyData.showable (.int y) = true := by
  show decide (y.natAbs.log2 < 1920) = true
  refine decide_eq_true ?_
  have a : y.natAbs < 2 ^ 110 := Nat.lt_of_le_of_lt h (by decide)
  by_cases h0 : y.natAbs = 0
  · rw [h0]
    decide
  · have := (Nat.log2_lt h0).mpr a
    omega
theorem showable_ints : ∀ l : List Int, (∀ z ∈ l, Big z) → PyData.showableAll (l.map PyData.int) = true
  | [], _ => rfl
  | y :: l, h => by
    show (PyData.showable (.int y) && PyData.showableAll (l.map PyData.int)) = true
    rw [showable_int (h y List.mem_cons_self), showable_ints l fun z hz => h z (List.mem_cons_of_mem _ hz)]
    rfl
theorem showable_lists : ∀ ls : List (List Int), (∀ l ∈ ls, ∀ z ∈ l, Big z) → PyData.showableAll (ls.map intsD) = true
  | [], _ => rfl
  | l :: ls, h => by
    show (PyData.showableAll (l.map PyData.int) && PyData.showableAll (ls.map intsD)) = true
    rw [showable_ints l (h l List.mem_cons_self), showable_lists ls fun z hz => h z (List.mem_cons_of_mem _ hz)]
    rfl
theorem noDict_ints : ∀ l : List Int, PyData.hasDictAll (l.map PyData.int) = false
  | [] => rfl
  | _ :: l => by
    show (PyData.hasDict (.int _) || PyData.hasDictAll (l.map PyData.int)) = false
    rw [noDict_ints l]
    rfl
theorem noDict_lists : ∀ ls : List (List Int), PyData.hasDictAll (ls.map intsD) = false
  | [] => rfl
  | l :: ls => by
    show (PyData.hasDictAll (l.map PyData.int) || PyData.hasDictAll (ls.map intsD)) = false
    rw [noDict_ints l, noDict_lists ls]
    rfl
theorem shownAll_len : ∀ xs : List PyData, (PyData.shownAll xs).length = xs.length
  | [] => rfl
  | _ :: xs => congrArg (· + 1) (shownAll_len xs)
theorem shownAll_sum (B : Nat) : ∀ xs : List PyData, (∀ x ∈ xs, x.shown.length ≤ B) → ((PyData.shownAll xs).map (·.length)).sum ≤ B * xs.length
  | [], _ => Nat.zero_le _
  | x :: xs, h => by
    have a := h x List.mem_cons_self
    have b := shownAll_sum B xs fun y hy => h y (List.mem_cons_of_mem _ hy)
    show x.shown.length + ((PyData.shownAll xs).map (·.length)).sum ≤ B * (xs.length + 1)
    rw [Nat.mul_succ]
    omega
theorem shown_big {y : Int} (h : Big y) : (PyData.shown (.int y)).length ≤ 40 := by
  have e := int_text_length_le10 (k := 31) (a := y) (by decide) (Nat.lt_of_le_of_lt h (by decide))
  rw [PyData.shown_int]
  show (Str.ofString (toString y)).length ≤ 40
  rw [ofString_length]
  omega
theorem shown_list {B : Nat} {xs : List PyData} {n : Nat} (h : ∀ x ∈ xs, x.shown.length ≤ B) (hn : xs.length ≤ n) : (PyData.shown (.list xs)).length ≤ B * n + 2 * n + 3 := by
  have a : PyData.shown (.list xs) = listText (PyData.shownAll xs) := rfl
  rw [a]
  have b := listText_len_le (PyData.shownAll xs)
  have c := shownAll_sum B xs h
  rw [shownAll_len] at b
  have d : B * xs.length ≤ B * n := Nat.mul_le_mul_left _ hn
  omega
theorem shown_tup {B : Nat} {xs : List PyData} {n : Nat} (h : ∀ x ∈ xs, x.shown.length ≤ B) (hn : xs.length ≤ n) : (PyData.shown (.tuple xs)).length ≤ B * n + 2 * n + 3 := by
  have a : PyData.shown (.tuple xs) = tupleText (PyData.shownAll xs) := rfl
  rw [a]
  have b := tupleText_len_le (PyData.shownAll xs)
  have c := shownAll_sum B xs h
  rw [shownAll_len] at b
  have d : B * xs.length ≤ B * n := Nat.mul_le_mul_left _ hn
  omega
theorem shown_ints {l : List Int} (h : ∀ z ∈ l, Big z) (hl : l.length ≤ 60) : (intsD l).shown.length ≤ 2523 := by
  refine shown_list (B := 40) (n := 60) (fun x hx => ?_) (by rw [List.length_map]; exact hl)
  obtain ⟨y, hy, rfl⟩ := List.mem_map.mp hx
  exact shown_big (h y hy)
theorem shows_lists {ls : List (List Int)} (h : ∀ l ∈ ls, (∀ z ∈ l, Big z) ∧ l.length ≤ 15) (hl : ls.length ≤ 15) : Shows (listsD ls) := by
  refine ⟨showable_lists _ fun l q => (h l q).1, noDict_lists _, by have := depth_lists ls; show PyData.depthAll (ls.map intsD) + 1 ≤ 32; omega, ?_⟩
  refine Nat.le_trans (shown_list (B := 2523) (n := 15) (fun x hx => ?_) (by rw [List.length_map]; exact hl)) (by decide)
  obtain ⟨l, hl, rfl⟩ := List.mem_map.mp hx
  exact shown_ints (h l hl).1 (by have := (h l hl).2; omega)
theorem shown_word {x : Str} (hx : x = "order" ∨ x = "ring") : (PyData.shown (.str x)).length ≤ 52 := by
  rcases hx with rfl | rfl
  · have a : PyData.shown (.str ("order" : Str)) = reprText "order" := rfl
    rw [a]
    exact PySem.StrLaws.reprText_len "order" (by decide +kernel)
  · have a : PyData.shown (.str ("ring" : Str)) = reprText "ring" := rfl
    rw [a]
    exact Nat.le_trans (PySem.StrLaws.reprText_len "ring" (by decide +kernel)) (by decide)
theorem shows_order {l : List Int} (h : ∀ z ∈ l, Big z) (hl : l.length ≤ 60) : Shows (pairD "order" l) := by
  refine ⟨?_, ?_, ?_, Nat.le_trans (shown_tup (B := 2523) (n := 2) (fun x hx => ?_) (Nat.le_refl _)) (by decide)⟩
  · show (PyData.showable (.str "order") && (PyData.showableAll (l.map PyData.int) && true)) = true
    rw [showable_ints l h]
    rfl
  · show (PyData.hasDict (.str "order") || (PyData.hasDictAll (l.map PyData.int) || false)) = false
    rw [noDict_ints l]
    rfl
  · show max 0 (max (PyData.depthAll (l.map PyData.int) + 1) 0) + 1 ≤ 32
    rw [depth_ints]
    decide
  · rcases List.mem_cons.mp hx with rfl | hx
    · exact Nat.le_trans (shown_word (.inl rfl)) (by decide)
    · rw [List.mem_singleton.mp hx]
      exact shown_ints h hl
/-- a ring -/
def linkD (u : Int × Nat) : PyData := .tuple [.int u.1, .int (u.2 : Nat)]
def linksD (us : List (Int × Nat)) : PyData := .list (us.map linkD)
def ringD (us : List (Int × Nat)) : PyData := .tuple [.str "ring", linksD us]
theorem dp_link {K : PySem.W.Frag} {H : Hp} {a : Addr} {u : Int × Nat} (h : H a = some (.tup [.int u.1, .int (u.2 : Nat)])) : Dp K H (.ref a) (linkD u) := .tup (SqT.of h) (.cons (.int _) (.cons (.int _) .nil))
theorem dp_ring {K : PySem.W.Frag} {H : Hp} {t q : Addr} {us : List (Addr × Int × Nat)} (ht : H t = some (.tup [.str "ring", .ref q])) (hq : H q = some (.lst (tupRefs us))) (tp : TupsAt H us) : Dp K H (.ref t) (ringD (us.map (·.2))) := by
  have all : ∀ vs : List (Addr × Int × Nat), (∀ u ∈ vs, H u.1 = some (.tup [.int u.2.1, .int (u.2.2 : Nat)])) → DpAll K H (tupRefs vs) ((vs.map (·.2)).map linkD) := by
    intro vs
    induction vs with
    | nil => intro _; exact .nil
    | cons u vs ih => intro h; exact .cons (dp_link (h u List.mem_cons_self)) (ih fun v hv => h v (List.mem_cons_of_mem _ hv))
  exact .tup (SqT.of ht) (.cons (.str _) (.cons (.lst (SqL.of hq) (all us tp)) .nil))
theorem big_nat {n : Nat} (h : n < 100) : Big (n : Nat) := by
  show n ≤ 10 ^ 30
  have : (100 : Nat) ≤ 10 ^ 30 := by decide
  omega
theorem showable_links : ∀ us : List (Int × Nat), (∀ u ∈ us, Big u.1 ∧ u.2 < 100) → PyData.showableAll (us.map linkD) = true
  | [], _ => rfl
  | u :: us, h => by
    have a := h u List.mem_cons_self
    show ((PyData.showable (.int u.1) && (PyData.showable (.int (u.2 : Nat)) && true)) && PyData.showableAll (us.map linkD)) = true
    rw [showable_int a.1, showable_int (big_nat a.2), showable_links us fun z hz => h z (List.mem_cons_of_mem _ hz)]
    rfl
theorem noDict_links : ∀ us : List (Int × Nat), PyData.hasDictAll (us.map linkD) = false
  | [] => rfl
  | u :: us => by
    show ((PyData.hasDict (.int u.1) || (PyData.hasDict (.int (u.2 : Nat)) || false)) || PyData.hasDictAll (us.map linkD)) = false
    rw [noDict_links us]
    rfl
theorem depth_links : ∀ us : List (Int × Nat), PyData.depthAll (us.map linkD) ≤ 1
  | [] => Nat.zero_le _
  | u :: us => by
    show max (max 0 (max 0 0) + 1) (PyData.depthAll (us.map linkD)) ≤ 1
    have := depth_links us
    omega
theorem shows_ring {us : List (Int × Nat)} (h : ∀ u ∈ us, Big u.1 ∧ u.2 < 100) (hl : us.length ≤ 30) : Shows (ringD us) := by
  have b1 : (linksD us).shown.length ≤ 2793 := by
    refine shown_list (B := 87 + 4) (n := 30) (fun x hx => ?_) (by rw [List.length_map]; exact hl)
    obtain ⟨u, hu, rfl⟩ := List.mem_map.mp hx
    refine Nat.le_trans (shown_tup (B := 40) (n := 2) (fun x hx => ?_) (Nat.le_refl _)) (by decide)
    rcases List.mem_cons.mp hx with rfl | hx
    · exact shown_big (h u hu).1
    · rw [List.mem_singleton.mp hx]
      exact shown_big (big_nat (h u hu).2)
  refine ⟨?_, ?_, ?_, Nat.le_trans (shown_tup (B := 2793) (n := 2) (fun x hx => ?_) (Nat.le_refl _)) (by decide)⟩
  · show (PyData.showable (.str "ring") && (PyData.showableAll (us.map linkD) && true)) = true
    rw [showable_links us h]
    rfl
  · show (PyData.hasDict (.str "ring") || (PyData.hasDictAll (us.map linkD) || false)) = false
    rw [noDict_links us]
    rfl
  · show max 0 (max (PyData.depthAll (us.map linkD) + 1) 0) + 1 ≤ 32
    have := depth_links us
    omega
  · rcases List.mem_cons.mp hx with rfl | hx
    · exact Nat.le_trans (shown_word (.inr rfl)) (by decide)
    · rw [List.mem_singleton.mp hx]
      exact b1
end Lw

set_option Elab.async false
set_option linter.all false
set_option maxRecDepth 100000
set_option maxHeartbeats 1000000
namespace Lw
open PySem L2 Two Pr
abbrev sRight : Stmt := top 31
theorem Drawn.sh {ps : List (Addr × List Int)} {U : List Int} (d : Drawn ps U) : Shows (listsD (lsOf ps)) := shows_lists (fun l hl => by
  obtain ⟨p, hp, rfl⟩ := List.mem_map.mp hl
  exact ⟨d.big p hp, d.short p hp⟩) (by rw [List.length_map]; exact d.few)
theorem Drawn.nds {ps : List (Addr × List Int)} {U : List Int} (d : Drawn ps U) : ∀ l ∈ lsOf ps, l.Nodup := fun l hl => by
  obtain ⟨p, hp, rfl⟩ := List.mem_map.mp hl
  exact d.nd p hp
theorem Drawn.orderLen {ps : List (Addr × List Int)} {U : List Int} (d : Drawn ps U) (n : Nat) : (Mg.st (lsOf ps) n).1.length ≤ 60 := by
  have items := (Mg.st_items (lsOf ps) n).1
  refine Nat.le_trans (nodup_le_len (m := U) (Mg.ok_st d.nds n).nd fun z hz => ?_) d.uni
  obtain ⟨l, hl, hz⟩ := items z hz
  obtain ⟨p, hp, rfl⟩ := List.mem_map.mp hl
  exact d.all p hp z hz
theorem Drawn.order {ps : List (Addr × List Int)} {U : List Int} (d : Drawn ps U) (n : Nat) : Shows (pairD "order" (Mg.st (lsOf ps) n).1) := by
  have items := (Mg.st_items (lsOf ps) n).1
  have ok := Mg.ok_st d.nds n
  refine shows_order (fun z hz => ?_) ?_
  · obtain ⟨l, hl, hz⟩ := items z hz
    obtain ⟨p, hp, rfl⟩ := List.mem_map.mp hl
    exact d.big p hp z hz
  · refine Nat.le_trans (nodup_le_len (m := U) ok.nd fun z hz => ?_) d.uni
    obtain ⟨l, hl, hz⟩ := items z hz
    obtain ⟨p, hp, rfl⟩ := List.mem_map.mp hl
    exact d.all p hp z hz
theorem Drawn.ring {ps : List (Addr × List Int)} {U : List Int} (d : Drawn ps U) {us : List (Int × Nat)} (r : Mg.IsRing (lsOf ps) us) (h : us.length ≤ 30) : Shows (ringD us) := by
  refine shows_ring (fun u hu => ?_) h
  obtain ⟨k, hk⟩ := List.getElem?_of_mem hu
  obtain ⟨a, i, b, j, l, e1, e2, e3, e4⟩ := r.link k (List.getElem?_eq_some_iff.mp hk).1
  rw [hk] at e1
  have e1 := Option.some.inj e1
  obtain ⟨u1, v1, q, _⟩ := e4
  obtain ⟨p, hp, e⟩ := List.mem_map.mp (List.mem_of_getElem? e3)
  refine ⟨d.big p hp _ ?_, ?_⟩
  · rw [e, q, e1]
    simp
  · have := (List.getElem?_eq_some_iff.mp e3).1
    rw [List.length_map] at this
    have f := d.few
    rw [e1]
    show i < 100
    omega
section
variable {P : Program} {w : World} {K : PySem.W.Frag} {mg : Str → Option Value} {base : Heap}
def spRight (K : PySem.W.Frag) : Sp := fun vs H Q _ => ∃ (a : Addr) (ps : List (Addr × List Int)) (U : List Int), vs = [.ref a] ∧ LofL K H a ps ∧ Drawn ps U ∧ ∀ H', Same H H' → Q (.bl true) H'
abbrev nRight : List Str := ["_law_lists_here", "_law_original", "_law_told", "_law_due", "_law_kept"]
theorem scRight : FnScope nRight ["_law_lists_here"] (defScope sRight) := ⟨rfl, rfl, rfl, by decide +kernel, rfl, by decide +kernel, by decide +kernel⟩
theorem ok_right {f fM fL fR fC : Addr} {fd dM dL dR dC : FuncData} (F : Fun K "_law_right" "_law_right" sRight f fd) (T : TxtL mg)
    (gM : mg "merge" = some (.ref fM)) (kM : PySem.W.keepIn K (.ref fM) = true) (bM : Binds K dM ["lists"] []) (GM : FnOk P w K mg base CX0 4 fM dM ["lists"] (spMerge K))
    (gL : mg "_law_merged" = some (.ref fL)) (kL : PySem.W.keepIn K (.ref fL) = true) (bL : Binds K dL ["_law_lists_here"] []) (GL : FnOk P w K mg base CX0 1 fL dL ["_law_lists_here"] (spLMerged K))
    (gR : mg "_law_is_ring" = some (.ref fR)) (kR : PySem.W.keepIn K (.ref fR) = true) (bR : Binds K dR ["_law_lists_here", "_law_ring"] []) (GR : FnOk P w K mg base CX0 2 fR dR ["_law_lists_here", "_law_ring"] (spIsRing K))
    (gC : mg "_law_comes_round" = some (.ref fC)) (kC : PySem.W.keepIn K (.ref fC) = true) (bC : Binds K dC ["_law_lists_here"] []) (GC : FnOk P w K mg base CX0 1 fC dC ["_law_lists_here"] (spRound K)) :
    FnG P w K mg base CX0 5 f fd ["_law_lists_here"] (spRight K) := by
  refine FnG.of F scRight (fun vs H Q E h => ?_) (fun cdv A outer s H vs Q E hr hg h => ?_)
  · obtain ⟨a, ps, U, rfl, _⟩ := h
    rfl
  · obtain ⟨a, ps, U, rfl, hL, dr, k⟩ := h
    have hu := hu_of hr
    have hr1 : Room 1 _ := hr.mono (by decide)
    have hr2 : Room 2 _ := hr.mono (by decide)
    refine ⟨_, pss_cons (ps_set (i := 1) scRight.nd rfl (Or.inl rfl) (pe_callB (cr_reprD hg hr.units) (by rfl) T.repr (by decide +kernel) (pa_cons (pv 0) pa_nil)))
      (pss_cons (ps_par (i := 2) (j := 3) rfl scRight.nd rfl rfl (by decide) rfl rfl (pa_cons (pe_call GM hr rfl gM kM bM .nil pass0 (pa_cons (pv 0) pa_nil)) (pa_cons (pe_call GL hr1 rfl gL kL bL .nil pass0 (pa_cons (pv 0) pa_nil)) pa_nil)) (by rfl))
      (pss_cons (ps_if (PW.pt (pw_or (pt_not (pt_val (pe_callB call_isi (by rfl) T.base.isinstance (by decide +kernel) (pa_cons (pv 2) (pa_cons (pe_bltn (v := .ty "tuple") (by rfl) T.base.tuple (by decide +kernel) rfl) pa_nil)))))
          (pw_or (pt_cmpR op_ne (pe_callB call_len_seq (by rfl) T.base.len PySem.boot_len (pa_cons (pv 2) pa_nil)) pe_int (nomark _))
            (pw_or1 (pt_not (pt_val (pe_callB call_isi (by rfl) T.base.isinstance (by decide +kernel) (pa_cons (pe_ix ix_tup (pv 2) pe_int (fun _ _ => rfl)) (pa_cons (pe_bltn (v := .ty "list") (by rfl) T.base.list (by decide +kernel) rfl) pa_nil))))))))) pss_never pss_nil)
      (pss_cons (ps_if (PW.pt (pw_and (pt_cmpR op_notN (pv 3) pe_non (nomark _)) (pw_and1 (pt_cmpR op_ne (pe_callB (cr_reprD hg hr.units) (by rfl) T.repr (by decide +kernel) (pa_cons (pv 2) pa_nil)) (pe_callB (cr_reprD hg hr.units) (by rfl) T.repr (by decide +kernel) (pa_cons (pe_tup (pa_cons pe_str (pa_cons (pv 3) pa_nil))) pa_nil)) (nomark _))))) pss_never pss_nil)
      (pss_cons (ps_if (PW.pt (pw_and (pt_cmpR op_isN (pv 3) pe_non (nomark _)) (pw_and1 (PW.pt (pw_or (pt_cmpR op_ne (pe_ix ix_tup (pv 2) pe_int (fun _ _ => rfl)) pe_str (nomark _)) (pw_or1 (pt_not (pt_val (pe_call GR hr2 rfl gR kR bR .nil pass0 (pa_cons (pv 0) (pa_cons (pe_ix ix_tup (pv 2) pe_int (fun _ _ => rfl)) pa_nil)))))))))) ) pss_never pss_nil)
      (pss_cons (ps_if (pt_cmpR op_ne (pe_cmpR op_isN (pv 3) pe_non (nomark _)) (pe_call GC hr1 rfl gC kC bC .nil pass0 (pa_cons (pv 0) pa_nil)) (nomark _)) pss_never pss_nil)
      (pss_cons (ps_set (i := 4) scRight.nd rfl (Or.inl rfl) (pe_callB (cr_reprD hg hr.units) (by rfl) T.repr (by decide +kernel) (pa_cons (pv 2) pa_nil)))
      (pss_cons (ps_expr (pe_bm PySem.F.plainAttrs_list PySem.F.slot_list_append PySem.F.type_list_append mt_append (pe_ix ix_tup (pv 2) pe_int (fun _ _ => rfl)) (pa_cons pe_non pa_nil)))
      (pss_one (ps_ret (pe_and (pe_cmpR op_eq (pe_callB (cr_reprD hg hr.units) (by rfl) T.repr (by decide +kernel) (pa_cons (pe_call GM hr rfl gM kM bM .nil pass0 (pa_cons (pv 0) pa_nil)) pa_nil)) (pv 4) (nomark _))
        (pe_one (pe_cmpR op_eq (pe_callB (cr_reprD hg hr.units) (by rfl) T.repr (by decide +kernel) (pa_cons (pv 0) pa_nil)) (pv 1) (nomark _))))))))))))), ?_⟩
    have SL := dr.sh
    have fit := dr.fit
    refine ⟨_, rfl, a, listsD (lsOf ps), rfl, dp_lists hL, SL.a, SL.b, SL.c, SL.d', ?_⟩
    refine ⟨_, rfl, a, ps, rfl, hL, fit, fun vt H1 s1 outM => ?_⟩
    refine ⟨_, rfl, a, ps, rfl, hL.keep s1, fit, fun vd H2 s2 outL => ?_⟩
    refine ⟨_, _, rfl, ?_⟩
    obtain ⟨t, q, rfl, nt, nq, rM⟩ := outM
    have hL2 := hL.keep (s1.trans s2)
    have s02 := s1.trans s2
    -- the end, for what merge hands back
    rcases rM with ⟨n, em, ht, hq⟩ | ⟨n, us, stuck, ⟨r0, hr0, ner⟩, ht, hq, tp, ring, few, det⟩
    · -- an order
      have fin := Mg.firstFree_of_empty em
      rcases outL with ⟨m, q2, em2, rfl, nq2, hq2⟩ | ⟨m, stuck, ⟨r1, hr1', ner⟩, rfl⟩
      · rw [Mg.final_unique (Mg.firstFree_of_empty em2) fin] at hq2
        have ok := Mg.ok_st dr.nds n
        have SO := dr.order n
        have ht2 := s2 _ _ ht
        have hq3 := s2 _ _ hq
        obtain ⟨due, edue⟩ : ∃ due, due = (Mg.st (lsOf ps) n).1 := ⟨_, rfl⟩
        rw [← edue] at hq2 hq3 SO
        refine ⟨_, rfl, _, .ty "tuple", .type "tuple", .type "tuple", true, rfl, .ty _, tyx_tup ht2, kit_ty (by decide +kernel), true, rfl, iteF ?_⟩
        refine ⟨_, rfl, t, _, rfl, .inr (SqT.of ht2), rfl, _, rfl, iteF ?_⟩
        refine ⟨_, rfl, t, _, 1, .ref q, rfl, rfl, SqT.of ht2, rfl, _, .ty "list", .type "list", .type "list", true, rfl, .ty _, tyx_list (SqL.of hq3), kit_ty (by decide +kernel), true, rfl, iteF ?_⟩
        refine ⟨_, rfl, rfl, _, rfl, ?_⟩
        rw [decide_eq_false (by intro e; cases e)]
        refine iteT ?_
        refine ⟨_, rfl, t, pairD "order" due, rfl, dp_pair ht2 (SqL.of hq3), SO.a, SO.b, SO.c, SO.d', ?_⟩
        refine ⟨_, rfl, by show 2 ≤ sizeLine; decide, fun tq htq => ?_⟩
        have s3 : Same H2 (upd H2 tq (.tup [.str "order", .ref q2])) := same_new htq
        have htq3 : (upd H2 tq (.tup [.str "order", .ref q2])) tq = some (.tup [.str "order", .ref q2]) := upd_same
        generalize upd H2 tq (.tup [.str "order", .ref q2]) = H3 at s3 htq3
        have hq2' := s3 _ _ hq2
        refine ⟨tq, pairD "order" due, rfl, dp_pair htq3 (SqL.of hq2'), SO.a, SO.b, SO.c, SO.d', rfl, _, rfl, ?_⟩
        rw [decide_eq_true rfl]
        refine iteF ?_
        refine ⟨_, rfl, rfl, _, rfl, ?_⟩
        rw [decide_eq_false (by intro e; cases e)]
        refine iteF (iteF ?_)
        refine ⟨_, rfl, rfl, _, rfl, a, ps, U, rfl, hL2.keep s3, dr, fun b H4 s4 hb => ?_⟩
        have hb0 : b = false := by
          cases b with
          | false => rfl
          | true => exact absurd (hb.mp rfl) (Mg.no_round ok em)
        subst hb0
        refine ⟨rfl, _, rfl, iteF ?_⟩
        have ht4 := s4 _ _ (s3 _ _ ht2)
        have hq4 := s4 _ _ (s3 _ _ hq3)
        refine ⟨_, rfl, t, pairD "order" due, rfl, dp_pair ht4 (SqL.of hq4), SO.a, SO.b, SO.c, SO.d', ?_⟩
        refine ⟨_, rfl, t, _, 1, .ref q, rfl, rfl, SqT.of ht4, rfl, .inl ⟨rfl, _, SqL.of hq4⟩, q, _, .non, rfl, rfl, hq4, ?_, ?_⟩
        · have l60 : due.length ≤ 60 := by
            rw [edue]
            exact dr.orderLen n
          exact small1000 (by rw [List.length_map]; omega)
        have s5 : Same H (upd H4 q (.lst (due.map V.int ++ [.non]))) := same_upd (s02.trans (s3.trans s4)) nq
        generalize upd H4 q (.lst (due.map V.int ++ [.non])) = H5 at s5 ⊢
        refine ⟨_, rfl, a, ps, rfl, hL.keep s5, fit, fun vt6 H6 s6 outM6 => ?_⟩
        obtain ⟨t6, q6, rfl, nt6, nq6, rM6⟩ := outM6
        have hL6 := hL.keep (s5.trans s6)
        rcases rM6 with ⟨n6, em6, ht6, hq6⟩ | ⟨n6, us6, stuck6, ⟨r6, hr6, ner6⟩, _⟩
        · rw [Mg.final_unique (Mg.firstFree_of_empty em6) fin, ← edue] at hq6
          refine ⟨t6, pairD "order" due, rfl, dp_pair ht6 (SqL.of hq6), SO.a, SO.b, SO.c, SO.d', _, rfl, rfl, true, ?_, iteT ?_⟩
          · rw [decide_eq_true rfl]
          refine ⟨_, rfl, a, listsD (lsOf ps), rfl, dp_lists hL6, SL.a, SL.b, SL.c, SL.d', _, rfl, rfl, ?_⟩
          rw [decide_eq_true rfl]
          exact k _ (s5.trans s6)
        · rw [Mg.final_unique stuck6 fin] at hr6
          exact absurd (em r6 hr6) ner6
      · rw [← Mg.final_unique fin stuck] at hr1'
        exact absurd (em r1 hr1') ner
    · -- a ring
      rcases outL with ⟨m, q2, em2, rfl, nq2, hq2⟩ | ⟨m, stuck2, ⟨r1, hr1', ner2⟩, rfl⟩
      · rw [Mg.final_unique stuck (Mg.firstFree_of_empty em2)] at hr0
        exact absurd (em2 r0 hr0) ner
      · obtain ⟨d, ed⟩ : ∃ d, d = ringD (us.map (·.2)) := ⟨_, rfl⟩
        have SO : Shows d := by
          rw [ed]
          exact dr.ring ring (by rw [List.length_map]; exact few)
        have ht2 := s2 _ _ ht
        have hq3 := s2 _ _ hq
        have lT : (tupRefs us).length < sizeLine := by
          have e : (tupRefs us).length = us.length := List.length_map ..
          rw [e]
          exact small1000 (by omega)
        have tp2 : TupsAt H2 us := fun u h => s2 _ _ (tp u h)
        refine ⟨_, rfl, _, .ty "tuple", .type "tuple", .type "tuple", true, rfl, .ty _, tyx_tup ht2, kit_ty (by decide +kernel), true, rfl, iteF ?_⟩
        refine ⟨_, rfl, t, _, rfl, .inr (SqT.of ht2), rfl, _, rfl, iteF ?_⟩
        refine ⟨_, rfl, t, _, 1, .ref q, rfl, rfl, SqT.of ht2, rfl, _, .ty "list", .type "list", .type "list", true, rfl, .ty _, tyx_list (SqL.of hq3), kit_ty (by decide +kernel), true, rfl, iteF ?_⟩
        refine ⟨_, rfl, rfl, _, rfl, ?_⟩
        rw [decide_eq_true rfl]
        refine iteF (iteF ?_)
        refine ⟨_, rfl, rfl, _, rfl, ?_⟩
        rw [decide_eq_true rfl]
        refine iteT ?_
        refine ⟨_, rfl, t, _, 0, .str "ring", rfl, rfl, SqT.of ht2, rfl, rfl, _, rfl, ?_⟩
        rw [decide_eq_true rfl]
        refine iteF ?_
        refine ⟨_, rfl, _, rfl, t, _, 1, .ref q, rfl, rfl, SqT.of ht2, rfl, a, q, ps, us, rfl, hL2, fit, hq3, tp2, ring, few, fun H3 s3 => ?_⟩
        refine ⟨true, rfl, iteF ?_⟩
        refine ⟨_, rfl, rfl, _, rfl, a, ps, U, rfl, hL2.keep s3, dr, fun b H4 s4 hb => ?_⟩
        have hb0 : b = true := hb.mpr (Mg.ring_round ring)
        subst hb0
        refine ⟨rfl, _, rfl, iteF ?_⟩
        have s24 := s3.trans s4
        have ht4 := s24 _ _ ht2
        have hq4 := s24 _ _ hq3
        have tp4 : TupsAt H4 us := fun u h => s24 _ _ (tp2 u h)
        have dp4 : Dp K H4 (.ref t) d := by
          rw [ed]
          exact dp_ring ht4 hq4 tp4
        refine ⟨_, rfl, t, d, rfl, dp4, SO.a, SO.b, SO.c, SO.d', ?_⟩
        refine ⟨_, rfl, t, _, 1, .ref q, rfl, rfl, SqT.of ht4, rfl, .inl ⟨rfl, _, SqL.of hq4⟩, q, _, .non, rfl, rfl, hq4, lT, ?_⟩
        have s5 : Same H (upd H4 q (.lst (tupRefs us ++ [.non]))) := same_upd (s02.trans s24) nq
        generalize upd H4 q (.lst (tupRefs us ++ [.non])) = H5 at s5 ⊢
        refine ⟨_, rfl, a, ps, rfl, hL.keep s5, fit, fun vt6 H6 s6 outM6 => ?_⟩
        obtain ⟨t6, q6, rfl, nt6, nq6, rM6⟩ := outM6
        have hL6 := hL.keep (s5.trans s6)
        rcases rM6 with ⟨n6, em6, ht6, hq6⟩ | ⟨n6, us6, stuck6, ⟨r6, hr6, ner6⟩, ht6, hq6, tp6, ring6, few6, det6⟩
        · rw [Mg.final_unique stuck (Mg.firstFree_of_empty em6)] at hr0
          exact absurd (em6 r0 hr0) ner
        · rw [Mg.final_unique stuck6 stuck] at det6
          have eu : us6.map (·.2) = us.map (·.2) := det6.unique det
          have dp6 := dp_ring (K := K) ht6 hq6 tp6
          rw [eu, ← ed] at dp6
          refine ⟨t6, d, rfl, dp6, SO.a, SO.b, SO.c, SO.d', _, rfl, rfl, true, ?_, iteT ?_⟩
          · rw [decide_eq_true rfl]
          refine ⟨_, rfl, a, listsD (lsOf ps), rfl, dp_lists hL6, SL.a, SL.b, SL.c, SL.d', _, rfl, rfl, ?_⟩
          rw [decide_eq_true rfl]
          exact k _ (s5.trans s6)
end
end Lw

set_option Elab.async false
set_option linter.all false
set_option maxRecDepth 100000
set_option maxHeartbeats 1000000
namespace Lw
open PySem L2 Two Pr
abbrev sWide : Stmt := top 32
/-! ### fifteen parts of one order -/
def wIx (k : Nat) : List Nat := (List.range 20).filter fun j => decide ((j + k) % 4 ≠ 0)
def wRow (its : List Int) (k : Nat) : List Int := (wIx k).map fun j => its.getD j 0
theorem all_row {its : List Int} (h : its.length = 20) : (List.range 20).map (fun j => its.getD j 0) = its := by
  refine List.ext_getElem (by simp [h]) fun i h1 h2 => ?_
  simp [List.getD_eq_getElem?_getD, List.getElem?_eq_getElem h2]
theorem row_sub {its : List Int} (h : its.length = 20) (k : Nat) : (wRow its k).Sublist its := by
  have q := (List.filter_sublist (l := List.range 20) (p := fun j => decide ((j + k) % 4 ≠ 0))).map fun j => its.getD j 0
  rw [all_row h] at q
  exact q
theorem ahead_of {l : List Int} {a b : Int} (h : [a, b].Sublist l) : Mg.Ahead l a b := by
  induction l with
  | nil => cases h
  | cons x l ih =>
    cases h with
    | cons _ h =>
      obtain ⟨u, v, e, hb⟩ := ih h
      exact ⟨x :: u, v, by rw [e]; rfl, hb⟩
    | cons_cons _ h => exact ⟨[], l, rfl, h.subset List.mem_cons_self⟩
theorem no_round_sub {ls : List (List Int)} {L : List Int} (nd : L.Nodup) (h : ∀ l ∈ ls, l.Sublist L) : ¬ Mg.Round ls := by
  rintro ⟨x, hx⟩
  have lt : ∀ {a b : Int}, Mg.Edge ls a b → L.idxOf a < L.idxOf b := fun {a b} ⟨l, hl, q⟩ => Mg.idx_lt nd (q.sub.trans (h l hl))
  have all : ∀ {a b : Int}, Mg.Reach ls a b → L.idxOf a < L.idxOf b := fun {a b} q => by
    induction q with
    | one q => exact lt q
    | step _ q ih => exact Nat.lt_trans ih (lt q)
  exact Nat.lt_irrefl _ (all hx)
theorem turned_round {its : List Int} {ls : List (List Int)} (h0 : ls[0]? = some (wRow its 0)) (h14 : ls[14]? = some (wRow its 14).reverse) : Mg.Round ls := by
  have a0 : [1, 3].Sublist (wIx 0) := by decide
  have a14 : [1, 3].Sublist (wIx 14) := by decide
  have b0 := a0.map fun j => its.getD j 0
  have b14 := (a14.map fun j => its.getD j 0).reverse
  refine ⟨its.getD 1 0, .step (.one ⟨_, List.mem_of_getElem? h0, ahead_of b0⟩) ⟨_, List.mem_of_getElem? h14, ahead_of b14⟩⟩
theorem iota20 : rgV 0 20 = ((List.range 20).map fun j : Nat => (j : Int)).map V.int := by rfl
section
variable {P : Program} {w : World} {K : PySem.W.Frag} {mg : Str → Option Value} {base : Heap}
def spWide : Sp := fun vs H Q _ => ∃ (l : Addr), vs = [.ref l] ∧ Src H l 0 ∧ ∀ H', But (· = l) H H' → Q (.bl true) H'
abbrev nWide : List Str := ["_law_source_here", "_law_left", "_law_items_here", "_law_lists_here", "_law_told", "_law_k", "_law_j"]
theorem scWide : FnScope nWide ["_law_source_here"] (defScope sWide) := ⟨rfl, rfl, rfl, by decide +kernel, rfl, by decide +kernel, by decide +kernel⟩
def rAdd : R2 := rI0 fun i j => .int (i + j)
def rMod : R2 := rI (fun _ j => 0 < j) fun i j => .int (i % j)
def tPartT : TT := tTest (tOp rNe (tOp rMod (tOp rAdd (tVar 6) (tVar 5)) (tC (.int 4))) (tC (.int 0)))
def tRow (K : PySem.W.Frag) (wi : TI) : TE := tLc wi (gName 6) tPartT (tOp (rIxL K) (tVar 2) (tVar 6)) [6]
theorem ok_wide {f fD fM fL fR : Addr} {fd dD dM dL dR : FuncData} (F : Fun K "_law_wide_right" "_law_wide_right" sWide f fd) (T : TxtL mg)
    (gD : mg "_law_draw" = some (.ref fD)) (kD : PySem.W.keepIn K (.ref fD) = true) (bD : Binds K dD ["_law_source_here", "_law_size"] []) (GD : FnOk P w K mg base CX0 1 fD dD ["_law_source_here", "_law_size"] spDraw)
    (gM : mg "merge" = some (.ref fM)) (kM : PySem.W.keepIn K (.ref fM) = true) (bM : Binds K dM ["lists"] []) (GM : FnOk P w K mg base CX0 4 fM dM ["lists"] (spMerge K))
    (gL : mg "_law_merged" = some (.ref fL)) (kL : PySem.W.keepIn K (.ref fL) = true) (bL : Binds K dL ["_law_lists_here"] []) (GL : FnOk P w K mg base CX0 1 fL dL ["_law_lists_here"] (spLMerged K))
    (gR : mg "_law_is_ring" = some (.ref fR)) (kR : PySem.W.keepIn K (.ref fR) = true) (bR : Binds K dR ["_law_lists_here", "_law_ring"] []) (GR : FnOk P w K mg base CX0 2 fR dR ["_law_lists_here", "_law_ring"] (spIsRing K)) :
    FnOk P w K mg base CX0 5 f fd ["_law_source_here"] spWide := by
  refine F.ok scWide (fun vs H Q E h => ?_) (fun cdv A outer s H vs Q E hr h => ?_)
  · obtain ⟨l, rfl, _⟩ := h
    rfl
  · obtain ⟨l, rfl, src, k⟩ := h
    have hr1 : Room 1 _ := hr.mono (by decide)
    have hr2 : Room 2 _ := hr.mono (by decide)
    refine ⟨_, pss_cons (ps_set (i := 1) scWide.nd rfl (Or.inl rfl) (pe_listRg rfl (by rfl) T.base.list (prg_1 (by rfl) T.base.range pe_int)))
      (pss_cons (ps_set (i := 2) scWide.nd rfl (Or.inr rfl) (pe_lst pa_nil))
      (pss_cons (ps_while PassesOwn.never (pt_cmpR (op_neD hr.units) (pv 1) (pe_lst pa_nil) (nomark _))
        (pss_one (ps_expr (pe_bm PySem.F.plainAttrs_list PySem.F.slot_list_append PySem.F.type_list_append mt_append (pv 2) (pa_cons (pe_bm PySem.F.plainAttrs_list PySem.F.slot_list_pop PySem.F.type_list_pop mt_popAt (pv 1)
          (pa_cons (pe_call GD hr1 rfl gD kD bD .nil pass0 (pa_cons (pv 0) (pa_cons (pe_callB call_len_seq (by rfl) T.base.len PySem.boot_len (pa_cons (pv 1) pa_nil)) pa_nil))) pa_nil)) pa_nil)))))
      (pss_cons (ps_setLc (i := 3) (own := [("_law_k", 5)]) (g := gName 5) (tt := tYes) (te := tRow K _) rfl scWide.nd rfl rfl (sw_true rfl rfl rfl (by decide +kernel)) (pi_range1 rfl T.base.range (pa_cons pe_int pa_nil)) (blkOk_by (N := nWide) (sc := defScope sWide) (by decide +kernel))
          (fun _ _ _ _ _ => pg_name (i := 5) scWide.nd rfl (Or.inr rfl)) (fun _ _ _ _ _ => pts_nil) (fun _ _ _ _ _ => pe_lc (own := [("_law_j", 6)]) (g := gName 6) (tt := tPartT) (te := tOp (rIxL K) (tVar 2) (tVar 6)) rfl scWide.nd (pi_range1 rfl T.base.range (pa_cons pe_int pa_nil)) (show BlkOk nWide (relS _ (defScope sWide)) _ _ from blkOk_by (by decide +kernel))
              (fun _ _ _ _ _ => pg_name (i := 6) scWide.nd rfl (Or.inl rfl)) (fun _ _ _ _ _ => pts_one (pt_cmpR op_ne (pe_op op_mod (pe_op op_add (pv 6) (pv 5)) pe_int) pe_int (nomark _))) (fun _ _ _ _ _ => pe_ix ix_list (pv 2) (pv 6) (fun _ _ => rfl))))
      (pss_cons (ps_if (pt_cmpR (op_neD hr.units) (pe_call GM hr rfl gM kM bM .nil pass0 (pa_cons (pv 3) pa_nil)) (pe_tup (pa_cons pe_str (pa_cons (pe_call GL hr1 rfl gL kL bL .nil pass0 (pa_cons (pv 3) pa_nil)) pa_nil))) (nomark _)) pss_never pss_nil)
      (pss_cons (ps_asg (pe_revL (pe_ix ix_list (pv 3) pe_int (fun _ _ => rfl))) (pg_sub (pv 3) pe_int set_list))
      (pss_cons (ps_set (i := 4) scWide.nd rfl (Or.inl rfl) (pe_call GM hr rfl gM kM bM .nil pass0 (pa_cons (pv 3) pa_nil)))
      (pss_one (ps_ret (pe_and (pe_cmpR op_eq (pe_ix ix_tup (pv 4) pe_int (fun _ _ => rfl)) pe_str (nomark _)) (pe_one (pe_call GR hr2 rfl gR kR bR .nil pass0 (pa_cons (pv 3) (pa_cons (pe_ix ix_tup (pv 4) pe_int (fun _ _ => rfl)) pa_nil))))))))))))), ?_⟩
    refine ⟨20, rfl, .of_le (by decide) (by decide) (by decide) (by decide), fun Lf hLf => ?_⟩
    rw [iota20]
    obtain ⟨iota, eiota⟩ : ∃ iota : List Int, iota = (List.range 20).map fun j : Nat => (j : Int) := ⟨_, rfl⟩
    have ndI : iota.Nodup := by rw [eiota]; decide
    have lenI : iota.length = 20 := by rw [eiota]; rfl
    rw [← eiota]
    have Lfl := src_none src hLf
    have b1 : But (· = l) H (upd H Lf (.lst (iota.map V.int))) := but_same (same_new hLf)
    have hL1 : upd H Lf (.lst (iota.map V.int)) Lf = some (.lst (iota.map V.int)) := upd_same
    have src1 : Src (upd H Lf (.lst (iota.map V.int))) l 0 := src.upd Lfl
    refine ⟨Nat.zero_le _, fun Fd hFd => ?_⟩
    have Fdl := src_none src1 hFd
    have nFd : H Fd = none := but_none b1 hFd Fdl
    have FL : Lf ≠ Fd := ne_of_none hL1 hFd
    refine while_m (fun j σ G => ∃ (left found : List Int) (n' : Nat), j = left.length ∧ σ = [some (.ref l), some (.ref Lf), some (.ref Fd), none, none, none, none] ∧ But (· = l) H G ∧ Src G l n' ∧ G Lf = some (.lst (left.map V.int)) ∧ G Fd = some (.lst (found.map V.int)) ∧ (found ++ left).Perm iota ∧ n' + left.length ≤ 20)
      ⟨_, iota, [], 0, rfl, rfl, but_new b1 nFd, src1.upd Fdl, by rw [upd_ne FL]; exact hL1, upd_same, List.Perm.refl _, by omega⟩ ?_ ?_
    · rintro j σ G6 ⟨left, found, n', rfl, rfl, b6, src6, hL6, hF6, pm, bud⟩
      refine ⟨_, rfl, Nat.zero_le _, fun p1 hp1 => ⟨intsD left, .list [], dp_list (SqL.of (by rw [upd_ne (ne_of_none hL6 hp1)]; exact hL6)), dp_nil upd_same, shaped_ints _, shaped_nil, _, rfl, ?_⟩⟩
      rw [eqv_nil]
      have s7 : Same G6 (upd G6 p1 (.lst [])) := same_new hp1
      generalize upd G6 p1 (.lst []) = G7 at s7
      have b7 := but_trans b6 (but_same s7)
      cases left with
      | nil =>
        refine iteF ?_
        rw [List.append_nil] at pm
        have ndF : found.Nodup := pm.nodup_iff.mpr ndI
        have lenF : found.length = 20 := by rw [pm.length_eq, lenI]
        have hF7 := s7 _ _ hF6
        have src7 := src6.keep s7
        refine ⟨15, rfl, by decide, by decide, fun D1 hD1 => ?_⟩
        refine lc_range (lo := 0) (n := 15) (fun kk G => ∃ qs : List (Addr × List Int), Same G7 G ∧ G D1 = some (.lst (refsOf qs)) ∧ (∀ q ∈ qs, G q.1 = some (.lst (q.2.map V.int)) ∧ q.1 ≠ D1) ∧ lsOf qs = (List.range kk).map (wRow found))
          ⟨[], same_new hD1, upd_same, (fun q hq => nomatch hq), rfl⟩ (fun kk G hk p => ?_) (fun G p => ?_)
        · obtain ⟨qs, s8, hG, each, lq⟩ := p
          have lenQ : qs.length = kk := by
            have e := congrArg List.length lq
            rw [List.length_map, List.length_map, List.length_range] at e
            exact e
          refine ⟨rfl, ?_⟩
          unfold tYes
          simp only [if_true]
          refine ⟨20, rfl, by decide, by decide, fun D2 hD2 => ?_⟩
          refine lc_range (lo := 0) (n := 20) (fun j G' => Same G G' ∧ G' D2 = some (.lst ((((List.range j).filter fun j => decide ((j + kk) % 4 ≠ 0)).map fun j => found.getD j 0).map V.int)))
            ⟨same_new hD2, upd_same⟩ (fun j G' hj p => ?_) (fun G' p => ?_)
          · obtain ⟨s9, h9⟩ := p
            have z0 : (0 : Int) + (j : Nat) = ((j : Nat) : Int) := by omega
            have hjF : j < found.length := by omega
            rw [z0]
            refine ⟨rfl, ?_⟩
            refine ⟨_, rfl, _, rfl, _, _, rfl, rfl, _, _, rfl, rfl, (by show (0 : Int) < 4; decide), rfl, _, rfl, ?_⟩
            by_cases c : (j + kk) % 4 ≠ 0
            · rw [decide_eq_false (p := V.int ((((j : Nat) : Int) + (0 + (kk : Nat))) % 4) = V.int 0) (fun e => by have := V.int.inj e; omega)]
              refine iteT ⟨_, rfl, _, rfl, Fd, _, (j : Nat), .int found[j], rfl, rfl, SqL.of (s9 _ _ (s8 _ _ hF7)), atI_nat (by rw [List.getElem?_map, List.getElem?_eq_getElem hjF]; rfl), _, h9, ?_, same_upd s9 hD2, ?_⟩
              · refine small1000 ?_
                have a1 := List.length_filter_le (fun j => decide ((j + kk) % 4 ≠ 0)) (List.range j)
                rw [List.length_range] at a1
                rw [List.length_map, List.length_map]
                omega
              · rw [upd_same, List.range_succ, List.filter_append, List.filter_cons_of_pos (by exact decide_eq_true c), List.map_append, List.map_append]
                simp [List.getD_eq_getElem?_getD, List.getElem?_eq_getElem hjF]
            · rw [decide_eq_true (p := V.int ((((j : Nat) : Int) + (0 + (kk : Nat))) % 4) = V.int 0) (congrArg V.int (by omega))]
              refine iteF ⟨s9, ?_⟩
              rw [h9, List.range_succ, List.filter_append, List.filter_cons_of_neg (by simpa using c)]
              simp
          · obtain ⟨s9, h9⟩ := p
            have DD : D2 ≠ D1 := (ne_of_none hG hD2).symm
            refine ⟨_, s9 _ _ hG, small1000 (by rw [List.length_map]; omega), qs ++ [(D2, wRow found kk)], same_upd (s8.trans s9) hD1, ?_, fun q hq => ?_, ?_⟩
            · unfold refsOf
              rw [upd_same, List.map_append]
              rfl
            · rcases List.mem_append.mp hq with m | m
              · exact ⟨by rw [upd_ne (each q m).2]; exact s9 _ _ (each q m).1, (each q m).2⟩
              · rw [List.mem_singleton.mp m]
                exact ⟨by rw [upd_ne DD]; exact h9, DD⟩
            · unfold lsOf
              rw [List.map_append, List.range_succ, List.map_append]
              show lsOf qs ++ _ = _
              rw [lq]
              rfl
        · obtain ⟨qs, s8, hG, each, lq⟩ := p
          have lenQ : qs.length = 15 := by
            have e := congrArg List.length lq
            rw [List.length_map, List.length_map, List.length_range] at e
            exact e
          have rows : ∀ q ∈ qs, q.2.Sublist found := fun q hq => by
            have m : q.2 ∈ lsOf qs := List.mem_map.mpr ⟨q, hq, rfl⟩
            rw [lq] at m
            obtain ⟨j, _, e⟩ := List.mem_map.mp m
            rw [← e]
            exact row_sub lenF j
          have hL : LofL K G D1 qs := ⟨SqL.of hG, fun q hq => SqL.of (each q hq).1⟩
          have fit : Fit qs := ⟨by omega, fun q hq => by have := (rows q hq).length_le; omega, fun q hq => (rows q hq).nodup ndF⟩
          have b8 := but_trans b7 (but_same s8)
          have nr : ¬ Mg.Round (lsOf qs) := no_round_sub ndF fun l hl => by
            obtain ⟨q, hq, rfl⟩ := List.mem_map.mp hl
            exact rows q hq
          have src8 := src7.keep s8
          refine ⟨_, rfl, D1, qs, rfl, hL, fit, fun vt G1 s1 outM => ?_⟩
          refine ⟨_, rfl, D1, qs, rfl, hL.keep s1, fit, fun vd G2 s2 outL => ?_⟩
          refine ⟨by show 2 ≤ sizeLine; decide, fun tq htq => ?_⟩
          obtain ⟨t, q, rfl, nt, nq, rM⟩ := outM
          have s12 := s1.trans s2
          rcases rM with ⟨n, em, ht, hq⟩ | ⟨n, us, stuck, _, ht, hq, tp, ring, few, det⟩
          · have fin := Mg.firstFree_of_empty em
            rcases outL with ⟨m, q2, em2, rfl, nq2, hq2⟩ | ⟨m, stuck, ⟨r1, hr1', ner⟩, rfl⟩
            · rw [Mg.final_unique (Mg.firstFree_of_empty em2) fin] at hq2
              have s3 : Same G2 (upd G2 tq (.tup [.str "order", .ref q2])) := same_new htq
              have htq3 : (upd G2 tq (.tup [.str "order", .ref q2])) tq = some (.tup [.str "order", .ref q2]) := upd_same
              generalize upd G2 tq (.tup [.str "order", .ref q2]) = G3 at s3 htq3
              refine ⟨pairD "order" (Mg.st (lsOf qs) n).1, pairD "order" (Mg.st (lsOf qs) n).1, dp_pair (s3 _ _ (s2 _ _ ht)) (SqL.of (s3 _ _ (s2 _ _ hq))), dp_pair htq3 (SqL.of (s3 _ _ hq2)), shaped_pair (by decide +kernel) _, shaped_pair (by decide +kernel) _, _, rfl, ?_⟩
              rw [SeqAt.eqv_refl _ (SeqAt.canLay_of_shaped (shaped_pair (by decide +kernel) _))]
              refine iteF ?_
              have s13 := s12.trans s3
              have hG3 := s13 _ _ hG
              have q14 : qs[14]? = some qs[14] := List.getElem?_eq_getElem (by omega)
              have m14 : qs[14] ∈ qs := List.getElem_mem ..
              generalize qs[14] = p14 at q14 m14
              have row14 : p14.2 = wRow found 14 := by
                have e := congrArg (fun l : List (List Int) => l[14]?) lq
                simp only [List.getElem?_map, q14] at e
                exact Option.some.inj e
              refine ⟨_, rfl, D1, _, 14, .ref p14.1, rfl, rfl, SqL.of hG3, atI_nat (j := 14) (by rw [List.getElem?_map, q14]; rfl), p14.1, _, rfl, SqL.of (s13 _ _ (each p14 m14).1), fun Rv hRv => ?_⟩
              rw [← List.map_reverse]
              have s4 : Same G3 (upd G3 Rv (.lst (p14.2.reverse.map V.int))) := same_new hRv
              have hRv4 : upd G3 Rv (.lst (p14.2.reverse.map V.int)) Rv = some (.lst (p14.2.reverse.map V.int)) := upd_same
              have RD : Rv ≠ D1 := (ne_of_none hG3 hRv).symm
              generalize upd G3 Rv (.lst (p14.2.reverse.map V.int)) = G4 at s4 hRv4
              have s14 := s13.trans s4
              have hG4 := s14 _ _ hG
              refine ⟨_, rfl, D1, _, 14, 14, rfl, rfl, hG4, ?_, ?_⟩
              · have e : (refsOf qs).length = qs.length := List.length_map ..
                rw [e]
                exact ixN_nat' (k := 14) (by omega)
              have bG5 : But (· = l) G7 (upd G4 D1 (.lst ((refsOf qs).set 14 (.ref Rv)))) := but_new (but_trans (but_same s8) (but_same s14)) hD1
              have e5 : (refsOf qs).set 14 (.ref Rv) = refsOf (qs.set 14 (Rv, p14.2.reverse)) := map_set' (fun p : Addr × List Int => V.ref p.1) qs 14 (Rv, p14.2.reverse)
              rw [e5] at bG5 ⊢
              have hG5 : upd G4 D1 (.lst (refsOf (qs.set 14 (Rv, p14.2.reverse)))) D1 = some (.lst (refsOf (qs.set 14 (Rv, p14.2.reverse)))) := upd_same
              have each5 : ∀ q ∈ qs.set 14 (Rv, p14.2.reverse), upd G4 D1 (.lst (refsOf (qs.set 14 (Rv, p14.2.reverse)))) q.1 = some (.lst (q.2.map V.int)) ∧ q.2.length ≤ 30 ∧ q.2.Nodup := fun q hq => by
                rcases List.mem_or_eq_of_mem_set hq with m | rfl
                · exact ⟨by rw [upd_ne (each q m).2]; exact s14 _ _ (each q m).1, fit.short q m, fit.nd q m⟩
                · exact ⟨by rw [upd_ne RD]; exact hRv4, by show p14.2.reverse.length ≤ 30; rw [List.length_reverse]; exact fit.short p14 m14, Mg.nodup_rev (fit.nd p14 m14)⟩
              have len5 : (qs.set 14 (Rv, p14.2.reverse)).length = 15 := by rw [List.length_set]; exact lenQ
              have ls5 : Mg.Round (lsOf (qs.set 14 (Rv, p14.2.reverse))) := by
                refine turned_round (its := found) ?_ ?_
                · have e := congrArg (fun l : List (List Int) => l[0]?) lq
                  rw [List.getElem?_map, List.getElem?_set_ne (by decide), ← List.getElem?_map]
                  exact e
                · rw [List.getElem?_map, List.getElem?_set_self (by omega), ← row14]
                  rfl
              generalize upd G4 D1 (.lst (refsOf (qs.set 14 (Rv, p14.2.reverse)))) = G5 at bG5 hG5 each5 ⊢
              generalize qs.set 14 (Rv, p14.2.reverse) = q5 at hG5 each5 len5 ls5 ⊢
              have hL5 : LofL K G5 D1 q5 := ⟨SqL.of hG5, fun q hq => SqL.of (each5 q hq).1⟩
              have fit5 : Fit q5 := ⟨by omega, fun q hq => (each5 q hq).2.1, fun q hq => (each5 q hq).2.2⟩
              refine ⟨_, rfl, D1, q5, rfl, hL5, fit5, fun vt6 G6' s6 outM6 => ?_⟩
              obtain ⟨t6, q6, rfl, nt6, nq6, rM6⟩ := outM6
              rcases rM6 with ⟨n6, em6, ht6, hq6⟩ | ⟨n6, us6, stuck6, _, ht6, hq6, tp6, ring6, few6, det6⟩
              · have nd5 : ∀ l ∈ lsOf q5, l.Nodup := fun l hl => by obtain ⟨p, hp, rfl⟩ := List.mem_map.mp hl; exact fit5.nd p hp
                exact absurd ls5 (Mg.no_round (Mg.ok_st nd5 n6) em6)
              · refine ⟨_, rfl, t6, _, 0, .str "ring", rfl, rfl, SqT.of ht6, rfl, rfl, true, ?_, iteT ?_⟩
                · rw [decide_eq_true rfl]
                refine ⟨_, rfl, _, rfl, t6, _, 1, .ref q6, rfl, rfl, SqT.of ht6, rfl, D1, q6, q5, us6, rfl, hL5.keep s6, fit5, hq6, tp6, ring6, few6, fun H3 s7' => ?_⟩
                exact k _ (but_trans b7 (but_trans bG5 (but_same (s6.trans s7'))))
            · rw [← Mg.final_unique fin stuck] at hr1'
              exact absurd (em r1 hr1') ner
          · exact absurd (Mg.ring_round ring) nr
      | cons y0 left' =>
        refine iteT ?_
        have lenp := pm.length_eq
        rw [List.length_append] at lenp
        refine ⟨_, rfl, .inl ⟨rfl, _, SqL.of (s7 _ _ hF6)⟩, _, rfl, .inl ⟨rfl, _, SqL.of (s7 _ _ hL6)⟩, _, rfl, _, rfl, Lf, _, rfl, .inl (SqL.of (s7 _ _ hL6)), l, _, n', rfl, by rw [List.length_map, List.length_cons]; omega, by rw [List.length_map]; omega, src6.keep s7, by omega, fun G8 d b8 src8 d0 d1 => ?_⟩
        rw [List.length_map] at d1
        obtain ⟨d', rfl⟩ := Int.eq_ofNat_of_zero_le d0
        have dl : d' < (y0 :: left').length := by omega
        have hget : (y0 :: left')[d']? = some (y0 :: left')[d'] := List.getElem?_eq_getElem dl
        generalize (y0 :: left')[d'] = y at hget
        have hL8 := b8 _ _ Lfl (s7 _ _ hL6)
        have hF8 := b8 _ _ Fdl (s7 _ _ hF6)
        refine ⟨Lf, _, (d' : Nat), d', .int y, rfl, rfl, hL8, by omega, by omega, by rw [List.length_map]; exact seq_nat' dl, by rw [List.getElem?_map, hget]; rfl, ?_⟩
        refine ⟨Fd, _, .int y, rfl, rfl, by rw [upd_ne FL.symm]; exact hF8, small1000 (by rw [List.length_map]; omega), ?_⟩
        have el : ((y0 :: left').eraseIdx d').length + 1 = (y0 :: left').length := by
          have q := (erase_perm' hget).length_eq
          rw [List.length_cons] at q
          exact q
        refine ⟨((y0 :: left').eraseIdx d').length, by omega, (y0 :: left').eraseIdx d', found ++ [y], n' + 1, rfl, rfl, but_new (but_new (but_trans b7 b8) hLf) nFd, (src8.upd Lfl).upd Fdl, by rw [upd_ne FL, upd_same, map_erase'], by rw [upd_same, List.map_append]; rfl, ?_, by omega⟩
        have q : ((found ++ [y]) ++ (y0 :: left').eraseIdx d').Perm (found ++ (y0 :: left')) := by
          rw [List.append_assoc]
          exact (erase_perm' hget).append_left found
        exact q.trans pm
    · rintro σ G Q1 Q2 imp ⟨x, hx, z, h⟩
      exact ⟨x, hx, z, fun p hp => let ⟨d, e, h1, h2, h3, h4, c, h5, h6⟩ := h p hp; ⟨d, e, h1, h2, h3, h4, c, h5, imp _ _ h6⟩⟩
end
end Lw

set_option Elab.async false
set_option linter.all false
set_option maxRecDepth 100000
set_option maxHeartbeats 1000000
namespace Lw
open PySem L2 Two Pr
abbrev sLaw : Stmt := top 33
abbrev nLaw : List Str := ["_law_script", "_law_lists_here", "_law_cell"]
structure Defs (P : Program) (w : World) (K : PySem.W.Frag) (mg : Str → Option Value) (base : Heap) (fC fS fW fR fT : Addr) (dC dS dW dR dT : FuncData) : Prop where
  gC : mg "_law_cell_at" = some (.ref fC)
  kC : PySem.W.keepIn K (.ref fC) = true
  bC : Binds K dC ["_law_script", "_law_k"] []
  GC : FnOk P w K mg base CX0 1 fC dC ["_law_script", "_law_k"] (spCell K)
  gS : mg "_law_source" = some (.ref fS)
  kS : PySem.W.keepIn K (.ref fS) = true
  bS : Binds K dS ["_law_cell"] []
  GS : FnOk P w K mg base CX0 1 fS dS ["_law_cell"] spSource
  gW : mg "_law_wide_right" = some (.ref fW)
  kW : PySem.W.keepIn K (.ref fW) = true
  bW : Binds K dW ["_law_source_here"] []
  GW : FnOk P w K mg base CX0 5 fW dW ["_law_source_here"] spWide
  gR : mg "_law_right" = some (.ref fR)
  kR : PySem.W.keepIn K (.ref fR) = true
  bR : Binds K dR ["_law_lists_here"] []
  GR : FnG P w K mg base CX0 5 fR dR ["_law_lists_here"] (spRight K)
  gT : mg "_law_lists" = some (.ref fT)
  kT : PySem.W.keepIn K (.ref fT) = true
  bT : Binds K dT ["_law_source_here", "_law_most"] []
  GT : FnOk P w K mg base CX0 4 fT dT ["_law_source_here", "_law_most"] (spLists K)
def spLaw (K : PySem.W.Frag) : Sp := fun vs H Q _ => ∃ (a : Addr) (ns : List Int), vs = [.ref a] ∧ SqL K H a (ns.map V.int) ∧ ns.length ≤ 63 ∧ ∀ H', Q (.bl true) H'
theorem scLaw : FnScope nLaw ["_law_script"] (defScope sLaw) := ⟨rfl, rfl, rfl, by decide +kernel, rfl, by decide +kernel, by decide +kernel⟩
theorem lof_nil {K : PySem.W.Frag} {H : Hp} {a : Addr} (h : H a = some (.lst [])) : LofL K H a [] := ⟨SqL.of h, fun p hp => nomatch hp⟩
theorem lof_one {K : PySem.W.Frag} {H : Hp} {a b : Addr} {l : List Int} (h : H a = some (.lst [.ref b])) (hb : H b = some (.lst (l.map V.int))) : LofL K H a [(b, l)] := ⟨SqL.of h, fun p hp => by rw [List.mem_singleton.mp hp]; exact SqL.of hb⟩
theorem lof_two {K : PySem.W.Frag} {H : Hp} {a b c : Addr} {l m : List Int} (h : H a = some (.lst [.ref b, .ref c])) (hb : H b = some (.lst (l.map V.int))) (hc : H c = some (.lst (m.map V.int))) : LofL K H a [(b, l), (c, m)] := ⟨SqL.of h, fun p hp => by
  rcases List.mem_cons.mp hp with rfl | hp
  · exact SqL.of hb
  · rw [List.mem_singleton.mp hp]; exact SqL.of hc⟩
theorem big_small {z : Int} (h : z.natAbs ≤ 100) : Big z := by
  unfold Big
  have : (100 : Nat) ≤ 10 ^ 30 := by decide
  omega
theorem drawn_nil : Drawn [] [] := ⟨by decide, fun p hp => (nomatch hp), fun p hp => (nomatch hp), fun p hp => (nomatch hp), fun p hp => (nomatch hp), by decide⟩
theorem drawn_one {b : Addr} {l : List Int} (h1 : l.length ≤ 15) (h2 : l.Nodup) (h3 : ∀ z ∈ l, z.natAbs ≤ 100) : Drawn [(b, l)] l :=
  ⟨by show 1 ≤ 15; decide, fun p hp => by rw [List.mem_singleton.mp hp]; exact h1, fun p hp => by rw [List.mem_singleton.mp hp]; exact h2, fun p hp => by rw [List.mem_singleton.mp hp]; exact fun z hz => big_small (h3 z hz), fun p hp => by rw [List.mem_singleton.mp hp]; exact fun z hz => hz, by omega⟩
theorem drawn_two {b c : Addr} {l m : List Int} (h1 : l.length ≤ 15) (h2 : l.Nodup) (h3 : ∀ z ∈ l, z.natAbs ≤ 100) (g1 : m.length ≤ 15) (g2 : m.Nodup) (g3 : ∀ z ∈ m, z.natAbs ≤ 100) : Drawn [(b, l), (c, m)] (l ++ m) := by
  have two : ∀ p ∈ [(b, l), (c, m)], p.2 = l ∨ p.2 = m := fun p hp => by
    rcases List.mem_cons.mp hp with rfl | hp
    · exact .inl rfl
    · rw [List.mem_singleton.mp hp]; exact .inr rfl
  refine ⟨by show 2 ≤ 15; decide, fun p hp => ?_, fun p hp => ?_, fun p hp => ?_, fun p hp => ?_, by rw [List.length_append]; omega⟩
  · rcases two p hp with e | e <;> rw [e] <;> assumption
  · rcases two p hp with e | e <;> rw [e] <;> assumption
  · rcases two p hp with e | e <;> rw [e] <;> intro z hz
    · exact big_small (h3 z hz)
    · exact big_small (g3 z hz)
  · rcases two p hp with e | e <;> rw [e] <;> intro z hz
    · exact List.mem_append.mpr (.inl hz)
    · exact List.mem_append.mpr (.inr hz)
section
variable {P : Program} {w : World} {K : PySem.W.Frag} {mg : Str → Option Value} {base : Heap} {fC fS fW fR fT : Addr} {dC dS dW dR dT : FuncData}
theorem ok_law {f : Addr} {fd : FuncData} (F : Fun K "law" "law" sLaw f fd) (T : TxtL mg) (D : Defs P w K mg base fC fS fW fR fT dC dS dW dR dT) : FnG P w K mg base CX0 6 f fd ["_law_script"] (spLaw K) := by
  refine FnG.of F scLaw (fun vs H Q E h => ?_) (fun cdv A outer s H vs Q E hr hg h => ?_)
  · obtain ⟨a, ns, rfl, _⟩ := h
    rfl
  · obtain ⟨a, ns, rfl, hS, hlen, k⟩ := h
    have hr1 : Room 1 _ := hr.mono (by decide)
    have hr4 : Room 4 _ := hr.mono (by decide)
    refine ⟨_, pss_cons (ps_if (pt_not (pt_val (pe_call D.GW hr rfl D.gW D.kW D.bW .nil pass0 (pa_cons (pe_call D.GS hr1 rfl D.gS D.kS D.bS .nil pass0 (pa_cons (pe_call D.GC hr1 rfl D.gC D.kC D.bC .nil pass0 (pa_cons (pv 0) (pa_cons pe_int pa_nil))) pa_nil)) pa_nil)))) pss_never pss_nil)
      (pss_cons (ps_for PassesOwn.never rfl (pi_tup (pe_tup (pa_cons (pe_lst pa_nil) (pa_cons (pe_lst (pa_cons (pe_lst pa_nil) pa_nil)) (pa_cons (pe_lst (pa_cons (pe_lst pa_nil) (pa_cons (pe_lst pa_nil) pa_nil)))
          (pa_cons (pe_lst (pa_cons (pe_lst (pa_cons pe_int (pa_cons pe_int pa_nil))) (pa_cons (pe_lst (pa_cons pe_int (pa_cons pe_int pa_nil))) pa_nil))) (pa_cons (pe_lst (pa_cons (pe_lst (pa_cons pe_int pa_nil)) pa_nil)) pa_nil))))))) (pg_name (i := 1) scLaw.nd rfl (Or.inl rfl))
        (pss_one (ps_if (pt_not (pt_val (pe_callG D.GR hr hg rfl D.gR D.kR D.bR pass0 (pa_cons (pv 1) pa_nil)))) pss_never pss_nil)))
      (pss_cons (ps_for PassesOwn.never rfl (pi_list (pe_op op_cat (pe_lst (pa_cons (pe_call D.GC hr1 rfl D.gC D.kC D.bC .nil pass0 (pa_cons (pv 0) (pa_cons pe_int pa_nil))) pa_nil)) (pe_slice sl_list (pv 0) (po_some pe_int) (po_some pe_int)))) (pg_name (i := 2) scLaw.nd rfl (Or.inl rfl))
        (pss_one (ps_if (pt_not (pt_val (pe_callG D.GR hr hg rfl D.gR D.kR D.bR pass0 (pa_cons (pe_call D.GT hr4 rfl D.gT D.kT D.bT .nil pass0 (pa_cons (pe_call D.GS hr1 rfl D.gS D.kS D.bS .nil pass0 (pa_cons (pv 2) pa_nil)) (pa_cons pe_int pa_nil))) pa_nil)))) pss_never pss_nil)))
      (pss_one (ps_ret pe_bl)))), ?_⟩
    refine ⟨_, rfl, a, ns, 0, rfl, hS, by omega, fun z => ?_⟩
    refine ⟨z, rfl, fun H1 l s1 nl src => ⟨l, rfl, src, fun H2 b2 => ⟨true, rfl, iteF ?_⟩⟩⟩
    have s2 : Same H H2 := fun p o e => b2 p o (ne_of_none e nl) (s1 p o e)
    refine ⟨Nat.zero_le _, fun p0 h_p0 => ?_⟩
    have t_0 : Same H2 (upd H2 p0 (.lst [])) := same_new h_p0
    have e_p0 : (upd H2 p0 (.lst [])) p0 = some (.lst []) := upd_same
    generalize upd H2 p0 (.lst []) = J0 at t_0 e_p0 ⊢
    have s_0 : Same H J0 := s2.trans t_0
    refine ⟨Nat.zero_le _, fun a1 h_a1 => ?_⟩
    have t_1 : Same J0 (upd J0 a1 (.lst [])) := same_new h_a1
    have e_a1 : (upd J0 a1 (.lst [])) a1 = some (.lst []) := upd_same
    generalize upd J0 a1 (.lst []) = J1 at t_1 e_a1 ⊢
    replace e_p0 := t_1 _ _ e_p0
    have s_1 : Same H J1 := s_0.trans t_1
    refine ⟨by show 1 ≤ sizeLine; decide, fun p1 h_p1 => ?_⟩
    have t_2 : Same J1 (upd J1 p1 (.lst [.ref a1])) := same_new h_p1
    have e_p1 : (upd J1 p1 (.lst [.ref a1])) p1 = some (.lst [.ref a1]) := upd_same
    generalize upd J1 p1 (.lst [.ref a1]) = J2 at t_2 e_p1 ⊢
    replace e_p0 := t_2 _ _ e_p0
    replace e_a1 := t_2 _ _ e_a1
    have s_2 : Same H J2 := s_1.trans t_2
    refine ⟨Nat.zero_le _, fun a2 h_a2 => ?_⟩
    have t_3 : Same J2 (upd J2 a2 (.lst [])) := same_new h_a2
    have e_a2 : (upd J2 a2 (.lst [])) a2 = some (.lst []) := upd_same
    generalize upd J2 a2 (.lst []) = J3 at t_3 e_a2 ⊢
    replace e_p0 := t_3 _ _ e_p0
    replace e_a1 := t_3 _ _ e_a1
    replace e_p1 := t_3 _ _ e_p1
    have s_3 : Same H J3 := s_2.trans t_3
    refine ⟨Nat.zero_le _, fun a3 h_a3 => ?_⟩
    have t_4 : Same J3 (upd J3 a3 (.lst [])) := same_new h_a3
    have e_a3 : (upd J3 a3 (.lst [])) a3 = some (.lst []) := upd_same
    generalize upd J3 a3 (.lst []) = J4 at t_4 e_a3 ⊢
    replace e_p0 := t_4 _ _ e_p0
    replace e_a1 := t_4 _ _ e_a1
    replace e_p1 := t_4 _ _ e_p1
    replace e_a2 := t_4 _ _ e_a2
    have s_4 : Same H J4 := s_3.trans t_4
    refine ⟨by show 2 ≤ sizeLine; decide, fun p2 h_p2 => ?_⟩
    have t_5 : Same J4 (upd J4 p2 (.lst [.ref a2, .ref a3])) := same_new h_p2
    have e_p2 : (upd J4 p2 (.lst [.ref a2, .ref a3])) p2 = some (.lst [.ref a2, .ref a3]) := upd_same
    generalize upd J4 p2 (.lst [.ref a2, .ref a3]) = J5 at t_5 e_p2 ⊢
    replace e_p0 := t_5 _ _ e_p0
    replace e_a1 := t_5 _ _ e_a1
    replace e_p1 := t_5 _ _ e_p1
    replace e_a2 := t_5 _ _ e_a2
    replace e_a3 := t_5 _ _ e_a3
    have s_5 : Same H J5 := s_4.trans t_5
    refine ⟨by show 2 ≤ sizeLine; decide, fun a4 h_a4 => ?_⟩
    have t_6 : Same J5 (upd J5 a4 (.lst [.int 1, .int 2])) := same_new h_a4
    have e_a4 : (upd J5 a4 (.lst [.int 1, .int 2])) a4 = some (.lst [.int 1, .int 2]) := upd_same
    generalize upd J5 a4 (.lst [.int 1, .int 2]) = J6 at t_6 e_a4 ⊢
    replace e_p0 := t_6 _ _ e_p0
    replace e_a1 := t_6 _ _ e_a1
    replace e_p1 := t_6 _ _ e_p1
    replace e_a2 := t_6 _ _ e_a2
    replace e_a3 := t_6 _ _ e_a3
    replace e_p2 := t_6 _ _ e_p2
    have s_6 : Same H J6 := s_5.trans t_6
    refine ⟨by show 2 ≤ sizeLine; decide, fun a5 h_a5 => ?_⟩
    have t_7 : Same J6 (upd J6 a5 (.lst [.int 2, .int 1])) := same_new h_a5
    have e_a5 : (upd J6 a5 (.lst [.int 2, .int 1])) a5 = some (.lst [.int 2, .int 1]) := upd_same
    generalize upd J6 a5 (.lst [.int 2, .int 1]) = J7 at t_7 e_a5 ⊢
    replace e_p0 := t_7 _ _ e_p0
    replace e_a1 := t_7 _ _ e_a1
    replace e_p1 := t_7 _ _ e_p1
    replace e_a2 := t_7 _ _ e_a2
    replace e_a3 := t_7 _ _ e_a3
    replace e_p2 := t_7 _ _ e_p2
    replace e_a4 := t_7 _ _ e_a4
    have s_7 : Same H J7 := s_6.trans t_7
    refine ⟨by show 2 ≤ sizeLine; decide, fun p3 h_p3 => ?_⟩
    have t_8 : Same J7 (upd J7 p3 (.lst [.ref a4, .ref a5])) := same_new h_p3
    have e_p3 : (upd J7 p3 (.lst [.ref a4, .ref a5])) p3 = some (.lst [.ref a4, .ref a5]) := upd_same
    generalize upd J7 p3 (.lst [.ref a4, .ref a5]) = J8 at t_8 e_p3 ⊢
    replace e_p0 := t_8 _ _ e_p0
    replace e_a1 := t_8 _ _ e_a1
    replace e_p1 := t_8 _ _ e_p1
    replace e_a2 := t_8 _ _ e_a2
    replace e_a3 := t_8 _ _ e_a3
    replace e_p2 := t_8 _ _ e_p2
    replace e_a4 := t_8 _ _ e_a4
    replace e_a5 := t_8 _ _ e_a5
    have s_8 : Same H J8 := s_7.trans t_8
    refine ⟨by show 1 ≤ sizeLine; decide, fun a6 h_a6 => ?_⟩
    have t_9 : Same J8 (upd J8 a6 (.lst [.int 3])) := same_new h_a6
    have e_a6 : (upd J8 a6 (.lst [.int 3])) a6 = some (.lst [.int 3]) := upd_same
    generalize upd J8 a6 (.lst [.int 3]) = J9 at t_9 e_a6 ⊢
    replace e_p0 := t_9 _ _ e_p0
    replace e_a1 := t_9 _ _ e_a1
    replace e_p1 := t_9 _ _ e_p1
    replace e_a2 := t_9 _ _ e_a2
    replace e_a3 := t_9 _ _ e_a3
    replace e_p2 := t_9 _ _ e_p2
    replace e_a4 := t_9 _ _ e_a4
    replace e_a5 := t_9 _ _ e_a5
    replace e_p3 := t_9 _ _ e_p3
    have s_9 : Same H J9 := s_8.trans t_9
    refine ⟨by show 1 ≤ sizeLine; decide, fun p4 h_p4 => ?_⟩
    have t_10 : Same J9 (upd J9 p4 (.lst [.ref a6])) := same_new h_p4
    have e_p4 : (upd J9 p4 (.lst [.ref a6])) p4 = some (.lst [.ref a6]) := upd_same
    generalize upd J9 p4 (.lst [.ref a6]) = J10 at t_10 e_p4 ⊢
    replace e_p0 := t_10 _ _ e_p0
    replace e_a1 := t_10 _ _ e_a1
    replace e_p1 := t_10 _ _ e_p1
    replace e_a2 := t_10 _ _ e_a2
    replace e_a3 := t_10 _ _ e_a3
    replace e_p2 := t_10 _ _ e_p2
    replace e_a4 := t_10 _ _ e_a4
    replace e_a5 := t_10 _ _ e_a5
    replace e_p3 := t_10 _ _ e_p3
    replace e_a6 := t_10 _ _ e_a6
    have s_10 : Same H J10 := s_9.trans t_10
    refine ⟨by show 5 ≤ sizeLine; decide, fun tq h_tq => ?_⟩
    have t_11 : Same J10 (upd J10 tq (.tup [.ref p0, .ref p1, .ref p2, .ref p3, .ref p4])) := same_new h_tq
    have e_tq : (upd J10 tq (.tup [.ref p0, .ref p1, .ref p2, .ref p3, .ref p4])) tq = some (.tup [.ref p0, .ref p1, .ref p2, .ref p3, .ref p4]) := upd_same
    generalize upd J10 tq (.tup [.ref p0, .ref p1, .ref p2, .ref p3, .ref p4]) = J at t_11 e_tq ⊢
    have s_J := s_10.trans t_11
    refine ⟨tq, rfl, ⟨_, SqT.of e_tq⟩, for_tup (K := K) (a := tq) (xs := [.ref p0, .ref p1, .ref p2, .ref p3, .ref p4]) (fun i σ G => Same J G ∧ ∃ v1 : Option V, σ = [some (.ref a), v1, none]) ⟨Same.refl _, _, rfl⟩ (fun i σ G _ p => SqT.of (p.1 _ _ e_tq)) ?_ ?_⟩
    · rintro i x σ G hx ⟨sG, v1, rfl⟩
      obtain ⟨p, ps, U, rfl, hL, dr⟩ : ∃ (p : Addr) (ps : List (Addr × List Int)) (U : List Int), x = .ref p ∧ LofL K G p ps ∧ Drawn ps U := by
        have st := t_11.trans sG
        have m := List.mem_of_getElem? hx
        rcases List.mem_cons.mp m with rfl | m
        · exact ⟨p0, [], [], rfl, lof_nil (st _ _ e_p0), drawn_nil⟩
        rcases List.mem_cons.mp m with rfl | m
        · exact ⟨p1, _, _, rfl, lof_one (l := []) (st _ _ e_p1) (st _ _ e_a1), drawn_one (by decide) (by decide) (by decide)⟩
        rcases List.mem_cons.mp m with rfl | m
        · exact ⟨p2, _, _, rfl, lof_two (l := []) (m := []) (st _ _ e_p2) (st _ _ e_a2) (st _ _ e_a3), drawn_two (by decide) (by decide) (by decide) (by decide) (by decide) (by decide)⟩
        rcases List.mem_cons.mp m with rfl | m
        · exact ⟨p3, _, _, rfl, lof_two (l := [1, 2]) (m := [2, 1]) (st _ _ e_p3) (st _ _ e_a4) (st _ _ e_a5), drawn_two (by decide) (by decide) (by decide) (by decide) (by decide) (by decide)⟩
        · rw [List.mem_singleton.mp m]
          exact ⟨p4, _, _, rfl, lof_one (l := [3]) (st _ _ e_p4) (st _ _ e_a6), drawn_one (by decide) (by decide) (by decide)⟩
      exact ⟨_, rfl, p, ps, U, rfl, hL, dr, fun G2 s3 => ⟨true, rfl, iteF ⟨sG.trans s3, _, rfl⟩⟩⟩
    · rintro σ G ⟨sG, v1, rfl⟩
      have sH := s_J.trans sG
      refine ⟨_, rfl, a, ns, 0, rfl, sH.seq hS, by omega, fun z0 => ?_⟩
      refine ⟨by show 1 ≤ sizeLine; decide, fun A1 hA1 => ?_⟩
      have s1 : Same G (upd G A1 (.lst [.int z0])) := same_new hA1
      have hA1e : (upd G A1 (.lst [.int z0])) A1 = some (.lst [.int z0]) := upd_same
      generalize upd G A1 (.lst [.int z0]) = G1 at s1 hA1e ⊢
      refine ⟨_, rfl, _, rfl, _, rfl, a, _, rfl, (sH.trans s1).seq hS, fun A2 hA2 => ?_⟩
      obtain ⟨cs, hcs⟩ : ∃ cs : List Int, cutV (ns.map V.int) (some 1) (some 10) = cs.map V.int := by
        refine ⟨((ns.drop (HT.sIx (ns.map V.int).length 0 (some 1))).take (HT.sIx (ns.map V.int).length (ns.map V.int).length (some 10) - HT.sIx (ns.map V.int).length 0 (some 1))), ?_⟩
        unfold cutV
        rw [List.map_take, List.map_drop]
      have lcs : cs.length ≤ 63 := by
        have e := cutV_length (ns.map V.int) (some 1) (some 10)
        rw [hcs, List.length_map, List.length_map] at e
        omega
      rw [hcs]
      have s2 : Same G1 (upd G1 A2 (.lst (cs.map V.int))) := same_new hA2
      have hA2e : (upd G1 A2 (.lst (cs.map V.int))) A2 = some (.lst (cs.map V.int)) := upd_same
      generalize upd G1 A2 (.lst (cs.map V.int)) = G2 at s2 hA2e ⊢
      refine ⟨A1, A2, _, _, rfl, rfl, s2 _ _ hA1e, hA2e, Nat.le_of_lt (small1000 (by rw [List.length_map]; show 1 + cs.length ≤ 1000; omega)), fun Cs hCs => ?_⟩
      have ez : [V.int z0] ++ cs.map V.int = (z0 :: cs).map V.int := rfl
      rw [ez]
      have s3 : Same G2 (upd G2 Cs (.lst ((z0 :: cs).map V.int))) := same_new hCs
      have hCe : (upd G2 Cs (.lst ((z0 :: cs).map V.int))) Cs = some (.lst ((z0 :: cs).map V.int)) := upd_same
      generalize upd G2 Cs (.lst ((z0 :: cs).map V.int)) = G3 at s3 hCe ⊢
      refine ⟨Cs, rfl, ⟨_, SqL.of hCe⟩, for_list (K := K) (a := Cs) (xs := (z0 :: cs).map V.int) (fun i σ G => Same G3 G ∧ ∃ v2 : Option V, σ = [some (.ref a), v1, v2]) ⟨Same.refl _, _, rfl⟩ (fun i σ G _ p => SqL.of (p.1 _ _ hCe)) ?_ ?_⟩
      · rintro i x σ G4 hx ⟨s4, v2, rfl⟩
        obtain ⟨y, _, rfl⟩ := get_map hx
        refine ⟨_, rfl, y, rfl, fun G5 l5 s5 nl5 src5 => ⟨l5, rfl, src5, fun G6 R ps U b6 hR hL dr => ⟨R, ps, U, rfl, hL, dr, fun G7 s7 => ⟨true, rfl, iteF ⟨?_, _, rfl⟩⟩⟩⟩⟩
        exact fun p o e => s7 _ _ (b6 p o (ne_of_none (s4 _ _ e) nl5) (s5 _ _ (s4 _ _ e)))
      · rintro σ G4 _
        exact k _
end
end Lw

set_option Elab.async false
set_option linter.all false
set_option maxRecDepth 100000
set_option maxHeartbeats 4000000
namespace Lw
open PySem L2 Two Pr
/-! ### what the top has written -/
theorem all_mk {l : PySem.W.OpenLaw} {w : World} {K : PySem.W.Frag} {h : Heap} {mg : Str → Option Value} {fa : Addr} (X : K.In h) (G : h.Ns mainGlobals mg) (hfa : mg "law" = some (.ref fa))
    {tm : Tok} (most : PySem.W.nsIn K mainGlobals "MOST_ITEMS" = some (some (.int 30 tm)))
    (z_isinstance : PySem.W.nsIn K mainGlobals "isinstance" = some none)
    (z_int : PySem.W.nsIn K mainGlobals "int" = some none)
    (z_bool : PySem.W.nsIn K mainGlobals "bool" = some none)
    (z_str : PySem.W.nsIn K mainGlobals "str" = some none)
    (z_list : PySem.W.nsIn K mainGlobals "list" = some none)
    (z_tuple : PySem.W.nsIn K mainGlobals "tuple" = some none)
    (z_set : PySem.W.nsIn K mainGlobals "set" = some none)
    (z_len : PySem.W.nsIn K mainGlobals "len" = some none)
    (z_all : PySem.W.nsIn K mainGlobals "all" = some none)
    (z_any : PySem.W.nsIn K mainGlobals "any" = some none)
    (z_zip : PySem.W.nsIn K mainGlobals "zip" = some none)
    (z_enumerate : PySem.W.nsIn K mainGlobals "enumerate" = some none)
    (z_range : PySem.W.nsIn K mainGlobals "range" = some none)
    (z_sorted : PySem.W.nsIn K mainGlobals "sorted" = some none)
    (z_repr : PySem.W.nsIn K mainGlobals "repr" = some none)
    {f_I : Addr} {od_I an_I : Option Addr} {sl_I : Array (Option Value)} {oc_I kV_I dc_I pm_I cd_I ct_I : Value} (a_I : PySem.W.nsIn K mainGlobals "is_int" = some (some (.ref f_I)))
    (l_I : K.lookup f_I = some ⟨oc_I, od_I, .func (PySem.W.fnOf "is_int" "is_int" (defArgs sIsInt) (defBody sIsInt) (defScope sIsInt) .none kV_I dc_I pm_I an_I cd_I ct_I), sl_I⟩) (c_I : PySem.W.codeIn K cd_I "is_int" = true) (k_I : PySem.W.keepIn K (.ref f_I) = true)
    {f_U : Addr} {od_U an_U : Option Addr} {sl_U : Array (Option Value)} {oc_U kV_U dc_U pm_U cd_U ct_U : Value} (a_U : PySem.W.nsIn K mainGlobals "check_unlike" = some (some (.ref f_U)))
    (l_U : K.lookup f_U = some ⟨oc_U, od_U, .func (PySem.W.fnOf "check_unlike" "check_unlike" (defArgs sUnlike) (defBody sUnlike) (defScope sUnlike) .none kV_U dc_U pm_U an_U cd_U ct_U), sl_U⟩) (c_U : PySem.W.codeIn K cd_U "check_unlike" = true) (k_U : PySem.W.keepIn K (.ref f_U) = true)
    {f_M : Addr} {od_M an_M : Option Addr} {sl_M : Array (Option Value)} {oc_M kV_M dc_M pm_M cd_M ct_M : Value} (a_M : PySem.W.nsIn K mainGlobals "merge" = some (some (.ref f_M)))
    (l_M : K.lookup f_M = some ⟨oc_M, od_M, .func (PySem.W.fnOf "merge" "merge" (defArgs sMerge) (defBody sMerge) (defScope sMerge) .none kV_M dc_M pm_M an_M cd_M ct_M), sl_M⟩) (c_M : PySem.W.codeIn K cd_M "merge" = true) (k_M : PySem.W.keepIn K (.ref f_M) = true)
    {f_C : Addr} {od_C an_C : Option Addr} {sl_C : Array (Option Value)} {oc_C kV_C dc_C pm_C cd_C ct_C : Value} (a_C : PySem.W.nsIn K mainGlobals "_check_lists" = some (some (.ref f_C)))
    (l_C : K.lookup f_C = some ⟨oc_C, od_C, .func (PySem.W.fnOf "_check_lists" "_check_lists" (defArgs sCheck) (defBody sCheck) (defScope sCheck) .none kV_C dc_C pm_C an_C cd_C ct_C), sl_C⟩) (c_C : PySem.W.codeIn K cd_C "_check_lists" = true) (k_C : PySem.W.keepIn K (.ref f_C) = true)
    {f_L : Addr} {od_L an_L : Option Addr} {sl_L : Array (Option Value)} {oc_L kV_L dc_L pm_L cd_L ct_L : Value} (a_L : PySem.W.nsIn K mainGlobals "_is_list_of_ints" = some (some (.ref f_L)))
    (l_L : K.lookup f_L = some ⟨oc_L, od_L, .func (PySem.W.fnOf "_is_list_of_ints" "_is_list_of_ints" (defArgs sIsList) (defBody sIsList) (defScope sIsList) .none kV_L dc_L pm_L an_L cd_L ct_L), sl_L⟩) (c_L : PySem.W.codeIn K cd_L "_is_list_of_ints" = true) (k_L : PySem.W.keepIn K (.ref f_L) = true)
    {f_T : Addr} {od_T an_T : Option Addr} {sl_T : Array (Option Value)} {oc_T kV_T dc_T pm_T cd_T ct_T : Value} (a_T : PySem.W.nsIn K mainGlobals "_times_behind" = some (some (.ref f_T)))
    (l_T : K.lookup f_T = some ⟨oc_T, od_T, .func (PySem.W.fnOf "_times_behind" "_times_behind" (defArgs sTimes) (defBody sTimes) (defScope sTimes) .none kV_T dc_T pm_T an_T cd_T ct_T), sl_T⟩) (c_T : PySem.W.codeIn K cd_T "_times_behind" = true) (k_T : PySem.W.keepIn K (.ref f_T) = true)
    {f_F : Addr} {od_F an_F : Option Addr} {sl_F : Array (Option Value)} {oc_F kV_F dc_F pm_F cd_F ct_F : Value} (a_F : PySem.W.nsIn K mainGlobals "_first_free" = some (some (.ref f_F)))
    (l_F : K.lookup f_F = some ⟨oc_F, od_F, .func (PySem.W.fnOf "_first_free" "_first_free" (defArgs sFree) (defBody sFree) (defScope sFree) .none kV_F dc_F pm_F an_F cd_F ct_F), sl_F⟩) (c_F : PySem.W.codeIn K cd_F "_first_free" = true) (k_F : PySem.W.keepIn K (.ref f_F) = true)
    {f_K : Addr} {od_K an_K : Option Addr} {sl_K : Array (Option Value)} {oc_K kV_K dc_K pm_K cd_K ct_K : Value} (a_K : PySem.W.nsIn K mainGlobals "_take" = some (some (.ref f_K)))
    (l_K : K.lookup f_K = some ⟨oc_K, od_K, .func (PySem.W.fnOf "_take" "_take" (defArgs sTake) (defBody sTake) (defScope sTake) .none kV_K dc_K pm_K an_K cd_K ct_K), sl_K⟩) (c_K : PySem.W.codeIn K cd_K "_take" = true) (k_K : PySem.W.keepIn K (.ref f_K) = true)
    {f_O : Addr} {od_O an_O : Option Addr} {sl_O : Array (Option Value)} {oc_O kV_O dc_O pm_O cd_O ct_O : Value} (a_O : PySem.W.nsIn K mainGlobals "_ring_of" = some (some (.ref f_O)))
    (l_O : K.lookup f_O = some ⟨oc_O, od_O, .func (PySem.W.fnOf "_ring_of" "_ring_of" (defArgs sRingOf) (defBody sRingOf) (defScope sRingOf) .none kV_O dc_O pm_O an_O cd_O ct_O), sl_O⟩) (c_O : PySem.W.codeIn K cd_O "_ring_of" = true) (k_O : PySem.W.keepIn K (.ref f_O) = true)
    {f_c : Addr} {od_c an_c : Option Addr} {sl_c : Array (Option Value)} {oc_c kV_c dc_c pm_c cd_c ct_c : Value} (a_c : PySem.W.nsIn K mainGlobals "_law_cell_at" = some (some (.ref f_c)))
    (l_c : K.lookup f_c = some ⟨oc_c, od_c, .func (PySem.W.fnOf "_law_cell_at" "_law_cell_at" (defArgs sCell) (defBody sCell) (defScope sCell) .none kV_c dc_c pm_c an_c cd_c ct_c), sl_c⟩) (c_c : PySem.W.codeIn K cd_c "_law_cell_at" = true) (k_c : PySem.W.keepIn K (.ref f_c) = true)
    {f_s : Addr} {od_s an_s : Option Addr} {sl_s : Array (Option Value)} {oc_s kV_s dc_s pm_s cd_s ct_s : Value} (a_s : PySem.W.nsIn K mainGlobals "_law_source" = some (some (.ref f_s)))
    (l_s : K.lookup f_s = some ⟨oc_s, od_s, .func (PySem.W.fnOf "_law_source" "_law_source" (defArgs sSource) (defBody sSource) (defScope sSource) .none kV_s dc_s pm_s an_s cd_s ct_s), sl_s⟩) (c_s : PySem.W.codeIn K cd_s "_law_source" = true) (k_s : PySem.W.keepIn K (.ref f_s) = true)
    {f_d : Addr} {od_d an_d : Option Addr} {sl_d : Array (Option Value)} {oc_d kV_d dc_d pm_d cd_d ct_d : Value} (a_d : PySem.W.nsIn K mainGlobals "_law_draw" = some (some (.ref f_d)))
    (l_d : K.lookup f_d = some ⟨oc_d, od_d, .func (PySem.W.fnOf "_law_draw" "_law_draw" (defArgs sDraw) (defBody sDraw) (defScope sDraw) .none kV_d dc_d pm_d an_d cd_d ct_d), sl_d⟩) (c_d : PySem.W.codeIn K cd_d "_law_draw" = true) (k_d : PySem.W.keepIn K (.ref f_d) = true)
    {f_p : Addr} {od_p an_p : Option Addr} {sl_p : Array (Option Value)} {oc_p kV_p dc_p pm_p cd_p ct_p : Value} (a_p : PySem.W.nsIn K mainGlobals "_law_pick" = some (some (.ref f_p)))
    (l_p : K.lookup f_p = some ⟨oc_p, od_p, .func (PySem.W.fnOf "_law_pick" "_law_pick" (defArgs sPick) (defBody sPick) (defScope sPick) .none kV_p dc_p pm_p an_p cd_p ct_p), sl_p⟩) (c_p : PySem.W.codeIn K cd_p "_law_pick" = true) (k_p : PySem.W.keepIn K (.ref f_p) = true)
    {f_e : Addr} {od_e an_e : Option Addr} {sl_e : Array (Option Value)} {oc_e kV_e dc_e pm_e cd_e ct_e : Value} (a_e : PySem.W.nsIn K mainGlobals "_law_items" = some (some (.ref f_e)))
    (l_e : K.lookup f_e = some ⟨oc_e, od_e, .func (PySem.W.fnOf "_law_items" "_law_items" (defArgs sItems) (defBody sItems) (defScope sItems) .none kV_e dc_e pm_e an_e cd_e ct_e), sl_e⟩) (c_e : PySem.W.codeIn K cd_e "_law_items" = true) (k_e : PySem.W.keepIn K (.ref f_e) = true)
    {f_o : Addr} {od_o an_o : Option Addr} {sl_o : Array (Option Value)} {oc_o kV_o dc_o pm_o cd_o ct_o : Value} (a_o : PySem.W.nsIn K mainGlobals "_law_some" = some (some (.ref f_o)))
    (l_o : K.lookup f_o = some ⟨oc_o, od_o, .func (PySem.W.fnOf "_law_some" "_law_some" (defArgs sSome) (defBody sSome) (defScope sSome) .none kV_o dc_o pm_o an_o cd_o ct_o), sl_o⟩) (c_o : PySem.W.codeIn K cd_o "_law_some" = true) (k_o : PySem.W.keepIn K (.ref f_o) = true)
    {f_t : Addr} {od_t an_t : Option Addr} {sl_t : Array (Option Value)} {oc_t kV_t dc_t pm_t cd_t ct_t : Value} (a_t : PySem.W.nsIn K mainGlobals "_law_turned" = some (some (.ref f_t)))
    (l_t : K.lookup f_t = some ⟨oc_t, od_t, .func (PySem.W.fnOf "_law_turned" "_law_turned" (defArgs sTurned) (defBody sTurned) (defScope sTurned) .none kV_t dc_t pm_t an_t cd_t ct_t), sl_t⟩) (c_t : PySem.W.codeIn K cd_t "_law_turned" = true) (k_t : PySem.W.keepIn K (.ref f_t) = true)
    {f_l : Addr} {od_l an_l : Option Addr} {sl_l : Array (Option Value)} {oc_l kV_l dc_l pm_l cd_l ct_l : Value} (a_l : PySem.W.nsIn K mainGlobals "_law_lists" = some (some (.ref f_l)))
    (l_l : K.lookup f_l = some ⟨oc_l, od_l, .func (PySem.W.fnOf "_law_lists" "_law_lists" (defArgs sLists) (defBody sLists) (defScope sLists) .none kV_l dc_l pm_l an_l cd_l ct_l), sl_l⟩) (c_l : PySem.W.codeIn K cd_l "_law_lists" = true) (k_l : PySem.W.keepIn K (.ref f_l) = true)
    {f_m : Addr} {od_m an_m : Option Addr} {sl_m : Array (Option Value)} {oc_m kV_m dc_m pm_m cd_m ct_m : Value} (a_m : PySem.W.nsIn K mainGlobals "_law_merged" = some (some (.ref f_m)))
    (l_m : K.lookup f_m = some ⟨oc_m, od_m, .func (PySem.W.fnOf "_law_merged" "_law_merged" (defArgs sMerged) (defBody sMerged) (defScope sMerged) .none kV_m dc_m pm_m an_m cd_m ct_m), sl_m⟩) (c_m : PySem.W.codeIn K cd_m "_law_merged" = true) (k_m : PySem.W.keepIn K (.ref f_m) = true)
    {f_i : Addr} {od_i an_i : Option Addr} {sl_i : Array (Option Value)} {oc_i kV_i dc_i pm_i cd_i ct_i : Value} (a_i : PySem.W.nsIn K mainGlobals "_law_is_integer" = some (some (.ref f_i)))
    (l_i : K.lookup f_i = some ⟨oc_i, od_i, .func (PySem.W.fnOf "_law_is_integer" "_law_is_integer" (defArgs sLInt) (defBody sLInt) (defScope sLInt) .none kV_i dc_i pm_i an_i cd_i ct_i), sl_i⟩) (c_i : PySem.W.codeIn K cd_i "_law_is_integer" = true) (k_i : PySem.W.keepIn K (.ref f_i) = true)
    {f_r : Addr} {od_r an_r : Option Addr} {sl_r : Array (Option Value)} {oc_r kV_r dc_r pm_r cd_r ct_r : Value} (a_r : PySem.W.nsIn K mainGlobals "_law_is_ring" = some (some (.ref f_r)))
    (l_r : K.lookup f_r = some ⟨oc_r, od_r, .func (PySem.W.fnOf "_law_is_ring" "_law_is_ring" (defArgs sLRing) (defBody sLRing) (defScope sLRing) .none kV_r dc_r pm_r an_r cd_r ct_r), sl_r⟩) (c_r : PySem.W.codeIn K cd_r "_law_is_ring" = true) (k_r : PySem.W.keepIn K (.ref f_r) = true)
    {f_u : Addr} {od_u an_u : Option Addr} {sl_u : Array (Option Value)} {oc_u kV_u dc_u pm_u cd_u ct_u : Value} (a_u : PySem.W.nsIn K mainGlobals "_law_comes_round" = some (some (.ref f_u)))
    (l_u : K.lookup f_u = some ⟨oc_u, od_u, .func (PySem.W.fnOf "_law_comes_round" "_law_comes_round" (defArgs sRound) (defBody sRound) (defScope sRound) .none kV_u dc_u pm_u an_u cd_u ct_u), sl_u⟩) (c_u : PySem.W.codeIn K cd_u "_law_comes_round" = true) (k_u : PySem.W.keepIn K (.ref f_u) = true)
    {f_g : Addr} {od_g an_g : Option Addr} {sl_g : Array (Option Value)} {oc_g kV_g dc_g pm_g cd_g ct_g : Value} (a_g : PySem.W.nsIn K mainGlobals "_law_right" = some (some (.ref f_g)))
    (l_g : K.lookup f_g = some ⟨oc_g, od_g, .func (PySem.W.fnOf "_law_right" "_law_right" (defArgs sRight) (defBody sRight) (defScope sRight) .none kV_g dc_g pm_g an_g cd_g ct_g), sl_g⟩) (c_g : PySem.W.codeIn K cd_g "_law_right" = true) (k_g : PySem.W.keepIn K (.ref f_g) = true)
    {f_x : Addr} {od_x an_x : Option Addr} {sl_x : Array (Option Value)} {oc_x kV_x dc_x pm_x cd_x ct_x : Value} (a_x : PySem.W.nsIn K mainGlobals "_law_wide_right" = some (some (.ref f_x)))
    (l_x : K.lookup f_x = some ⟨oc_x, od_x, .func (PySem.W.fnOf "_law_wide_right" "_law_wide_right" (defArgs sWide) (defBody sWide) (defScope sWide) .none kV_x dc_x pm_x an_x cd_x ct_x), sl_x⟩) (c_x : PySem.W.codeIn K cd_x "_law_wide_right" = true) (k_x : PySem.W.keepIn K (.ref f_x) = true)
    {f_w : Addr} {od_w an_w : Option Addr} {sl_w : Array (Option Value)} {oc_w kV_w dc_w pm_w cd_w ct_w : Value} (a_w : PySem.W.nsIn K mainGlobals "law" = some (some (.ref f_w)))
    (l_w : K.lookup f_w = some ⟨oc_w, od_w, .func (PySem.W.fnOf "law" "law" (defArgs sLaw) (defBody sLaw) (defScope sLaw) .none kV_w dc_w pm_w an_w cd_w ct_w), sl_w⟩) (c_w : PySem.W.codeIn K cd_w "law" = true) (k_w : PySem.W.keepIn K (.ref f_w) = true)
    : ∃ fd : FuncData, (∀ (s : Shared) (v : Value), BindsTo s fd ⟨[v], []⟩ [("_law_script", v)]) ∧ ∀ base : Heap, K.In base → base.Ns mainGlobals mg → FnG l.prog w K mg base CX0 6 fa fd ["_law_script"] (spLaw K) := by
  have e := hfa.symm.trans (PySem.W.mg_of X G a_w)
  cases e
  have T : Txt mg := ⟨PySem.W.mg_none_of X G z_isinstance, PySem.W.mg_none_of X G z_int, PySem.W.mg_none_of X G z_bool, PySem.W.mg_none_of X G z_str, PySem.W.mg_none_of X G z_list, PySem.W.mg_none_of X G z_tuple, PySem.W.mg_none_of X G z_set, PySem.W.mg_none_of X G z_len, PySem.W.mg_none_of X G z_all, PySem.W.mg_none_of X G z_any, PySem.W.mg_none_of X G z_zip, PySem.W.mg_none_of X G z_enumerate, PySem.W.mg_none_of X G z_range, ⟨tm, PySem.W.mg_of X G most⟩⟩
  have TL : TxtL mg := ⟨T, PySem.W.mg_none_of X G z_sorted, PySem.W.mg_none_of X G z_repr⟩
  have F_I := fun_mk (st := sIsInt) l_I c_I k_I
  have b_I := F_I.binds (ps := ["thing"]) fun _ _ _ _ _ _ us hl => match us, hl with | [_], _ => rfl
  have g_I := PySem.W.mg_of X G a_I
  have F_U := fun_mk (st := sUnlike) l_U c_U k_U
  have b_U := F_U.binds (ps := ["things"]) fun _ _ _ _ _ _ us hl => match us, hl with | [_], _ => rfl
  have g_U := PySem.W.mg_of X G a_U
  have F_M := fun_mk (st := sMerge) l_M c_M k_M
  have b_M := F_M.binds (ps := ["lists"]) fun _ _ _ _ _ _ us hl => match us, hl with | [_], _ => rfl
  have g_M := PySem.W.mg_of X G a_M
  have F_C := fun_mk (st := sCheck) l_C c_C k_C
  have b_C := F_C.binds (ps := ["lists"]) fun _ _ _ _ _ _ us hl => match us, hl with | [_], _ => rfl
  have g_C := PySem.W.mg_of X G a_C
  have F_L := fun_mk (st := sIsList) l_L c_L k_L
  have b_L := F_L.binds (ps := ["items"]) fun _ _ _ _ _ _ us hl => match us, hl with | [_], _ => rfl
  have g_L := PySem.W.mg_of X G a_L
  have F_T := fun_mk (st := sTimes) l_T c_T k_T
  have b_T := F_T.binds (ps := ["lists"]) fun _ _ _ _ _ _ us hl => match us, hl with | [_], _ => rfl
  have g_T := PySem.W.mg_of X G a_T
  have F_F := fun_mk (st := sFree) l_F c_F k_F
  have b_F := F_F.binds (ps := ["rests", "behind"]) fun _ _ _ _ _ _ us hl => match us, hl with | [_, _], _ => rfl
  have g_F := PySem.W.mg_of X G a_F
  have F_K := fun_mk (st := sTake) l_K c_K k_K
  have b_K := F_K.binds (ps := ["item", "rests", "behind"]) fun _ _ _ _ _ _ us hl => match us, hl with | [_, _, _], _ => rfl
  have g_K := PySem.W.mg_of X G a_K
  have F_O := fun_mk (st := sRingOf) l_O c_O k_O
  have b_O := F_O.binds (ps := ["rests"]) fun _ _ _ _ _ _ us hl => match us, hl with | [_], _ => rfl
  have g_O := PySem.W.mg_of X G a_O
  have F_c := fun_mk (st := sCell) l_c c_c k_c
  have b_c := F_c.binds (ps := ["_law_script", "_law_k"]) fun _ _ _ _ _ _ us hl => match us, hl with | [_, _], _ => rfl
  have g_c := PySem.W.mg_of X G a_c
  have F_s := fun_mk (st := sSource) l_s c_s k_s
  have b_s := F_s.binds (ps := ["_law_cell"]) fun _ _ _ _ _ _ us hl => match us, hl with | [_], _ => rfl
  have g_s := PySem.W.mg_of X G a_s
  have F_d := fun_mk (st := sDraw) l_d c_d k_d
  have b_d := F_d.binds (ps := ["_law_source_here", "_law_size"]) fun _ _ _ _ _ _ us hl => match us, hl with | [_, _], _ => rfl
  have g_d := PySem.W.mg_of X G a_d
  have F_p := fun_mk (st := sPick) l_p c_p k_p
  have b_p := F_p.binds (ps := ["_law_source_here", "_law_items_here"]) fun _ _ _ _ _ _ us hl => match us, hl with | [_, _], _ => rfl
  have g_p := PySem.W.mg_of X G a_p
  have F_e := fun_mk (st := sItems) l_e c_e k_e
  have b_e := F_e.binds (ps := ["_law_source_here", "_law_count"]) fun _ _ _ _ _ _ us hl => match us, hl with | [_, _], _ => rfl
  have g_e := PySem.W.mg_of X G a_e
  have F_o := fun_mk (st := sSome) l_o c_o k_o
  have b_o := F_o.binds (ps := ["_law_source_here", "_law_items_here"]) fun _ _ _ _ _ _ us hl => match us, hl with | [_, _], _ => rfl
  have g_o := PySem.W.mg_of X G a_o
  have F_t := fun_mk (st := sTurned) l_t c_t k_t
  have b_t := F_t.binds (ps := ["_law_source_here", "_law_items_here"]) fun _ _ _ _ _ _ us hl => match us, hl with | [_, _], _ => rfl
  have g_t := PySem.W.mg_of X G a_t
  have F_l := fun_mk (st := sLists) l_l c_l k_l
  have b_l := F_l.binds (ps := ["_law_source_here", "_law_most"]) fun _ _ _ _ _ _ us hl => match us, hl with | [_, _], _ => rfl
  have g_l := PySem.W.mg_of X G a_l
  have F_m := fun_mk (st := sMerged) l_m c_m k_m
  have b_m := F_m.binds (ps := ["_law_lists_here"]) fun _ _ _ _ _ _ us hl => match us, hl with | [_], _ => rfl
  have g_m := PySem.W.mg_of X G a_m
  have F_i := fun_mk (st := sLInt) l_i c_i k_i
  have b_i := F_i.binds (ps := ["_law_value"]) fun _ _ _ _ _ _ us hl => match us, hl with | [_], _ => rfl
  have g_i := PySem.W.mg_of X G a_i
  have F_r := fun_mk (st := sLRing) l_r c_r k_r
  have b_r := F_r.binds (ps := ["_law_lists_here", "_law_ring"]) fun _ _ _ _ _ _ us hl => match us, hl with | [_, _], _ => rfl
  have g_r := PySem.W.mg_of X G a_r
  have F_u := fun_mk (st := sRound) l_u c_u k_u
  have b_u := F_u.binds (ps := ["_law_lists_here"]) fun _ _ _ _ _ _ us hl => match us, hl with | [_], _ => rfl
  have g_u := PySem.W.mg_of X G a_u
  have F_g := fun_mk (st := sRight) l_g c_g k_g
  have b_g := F_g.binds (ps := ["_law_lists_here"]) fun _ _ _ _ _ _ us hl => match us, hl with | [_], _ => rfl
  have g_g := PySem.W.mg_of X G a_g
  have F_x := fun_mk (st := sWide) l_x c_x k_x
  have b_x := F_x.binds (ps := ["_law_source_here"]) fun _ _ _ _ _ _ us hl => match us, hl with | [_], _ => rfl
  have g_x := PySem.W.mg_of X G a_x
  have F_w := fun_mk (st := sLaw) l_w c_w k_w
  have g_w := PySem.W.mg_of X G a_w
  refine ⟨PySem.W.fnOf "law" "law" (defArgs sLaw) (defBody sLaw) (defScope sLaw) .none kV_w dc_w pm_w an_w cd_w ct_w, fun s v => .of_eq rfl, fun base _ _ => ?_⟩
  have G_I := ok_isInt (P := l.prog) (w := w) (base := base) F_I T
  have G_U := ok_unlike (P := l.prog) (w := w) (base := base) F_U T
  have G_L := ok_isList (P := l.prog) (w := w) (base := base) F_L T g_I k_I b_I G_I
  have G_C := ok_check (P := l.prog) (w := w) (base := base) F_C T g_L k_L b_L G_L g_U k_U b_U G_U
  have G_T := ok_times (P := l.prog) (w := w) (base := base) F_T T
  have G_F := ok_free (P := l.prog) (w := w) (base := base) F_F T
  have G_K := ok_take (P := l.prog) (w := w) (base := base) F_K T
  have G_O := ok_ringOf (P := l.prog) (w := w) (base := base) F_O T
  have G_M := ok_merge (P := l.prog) (w := w) (base := base) F_M T g_C k_C b_C G_C g_T k_T b_T G_T g_F k_F b_F G_F g_K k_K b_K G_K g_O k_O b_O G_O
  have G_c := ok_cell (P := l.prog) (w := w) (base := base) F_c T
  have G_s := ok_source (P := l.prog) (w := w) (base := base) F_s T
  have G_d := ok_draw (P := l.prog) (w := w) (base := base) F_d T
  have G_p := ok_pick (P := l.prog) (w := w) (base := base) F_p T g_d k_d b_d G_d
  have G_m := ok_merged (P := l.prog) (w := w) (base := base) F_m T
  have G_i := ok_lInt (P := l.prog) (w := w) (base := base) F_i T
  have G_r := ok_lRing (P := l.prog) (w := w) (base := base) F_r T g_i k_i b_i G_i
  have G_e := ok_items (P := l.prog) (w := w) (base := base) F_e TL g_d k_d b_d G_d g_p k_p b_p G_p
  have G_o := ok_some (P := l.prog) (w := w) (base := base) F_o T g_d k_d b_d G_d
  have G_t := ok_turned (P := l.prog) (w := w) (base := base) F_t T g_d k_d b_d G_d g_p k_p b_p G_p
  have G_l := ok_lists (P := l.prog) (w := w) (base := base) F_l T g_d k_d b_d G_d g_e k_e b_e G_e g_o k_o b_o G_o g_t k_t b_t G_t
  have G_u := ok_round (P := l.prog) (w := w) (base := base) F_u TL
  have G_g := ok_right (P := l.prog) (w := w) (base := base) F_g TL g_M k_M b_M G_M g_m k_m b_m G_m g_r k_r b_r G_r g_u k_u b_u G_u
  have G_x := ok_wide (P := l.prog) (w := w) (base := base) F_x TL g_d k_d b_d G_d g_M k_M b_M G_M g_m k_m b_m G_m g_r k_r b_r G_r
  exact ok_law F_w TL ⟨g_c, k_c, b_c, G_c, g_s, k_s, b_s, G_s, g_x, k_x, b_x, G_x, g_g, k_g, b_g, G_g, g_l, k_l, b_l, G_l⟩
theorem walk {l : PySem.W.OpenLaw} {q : Program} {loose : List Str} {XP : (Str → Option Value) → Heap → Prop} {YP : World → Heap → Prop} {d : DefRec} {K : Params → PySem.W.Frag} (hn : l.most = some 63) (hdf : d.params.defaults = [])
    (hY : ∀ (w : World) (h : Heap), YP w h → (K w.params).In h)
    (F : ∀ (w : World) (mg : Str → Option Value) (fa : Addr) (h : Heap), (K w.params).In h → h.Ns mainGlobals mg → mg d.name = some (.ref fa) →
      ∃ fd : FuncData, (∀ (s : Shared) (u : Value), BindsTo s fd ⟨[u], []⟩ [("_law_script", u)]) ∧ ∀ base : Heap, (K w.params).In base → base.Ns mainGlobals mg → FnG l.prog w (K w.params) mg base CX0 6 fa fd ["_law_script"] (spLaw (K w.params))) :
    PySem.W.WalkO q loose XP YP l.row.toRowW d [] (fun f vs => PySem.call f vs) :=
  walkG (n := 63) (k := 6) (x := "_law_script") (sp := fun w => spLaw (K w.params)) hn (by decide) hdf ⟨rfl, by decide, by decide⟩ hY F (fun _ _ a ns hl _ hS => ⟨a, ns, rfl, hS, hl, fun _ => rfl⟩)
end Lw

open PySem PySem.W PyProof.Rows in
set_option maxRecDepth 100000 in
set_option maxHeartbeats 0 in
theorem PySem.Challenge.cw_layoutline_k01_whole_merges_and_rings_holds : PySem.Challenge.rw_layoutline_k01_whole_merges_and_rings.Holds := by
  w_on; o_law; k_head; (case hw => w_witness2)
  k_fill
  refine Lw.walk (l := PySem.Challenge.rw_layoutline_k01_whole_merges_and_rings) rfl rfl (fun w h Y => PySem.W.kIn_of Y) ?F
  case F =>
    intro w mg fa h KX G hmg
    refine' Lw.all_mk KX G hmg ?most ?z_isinstance ?z_int ?z_bool ?z_str ?z_list ?z_tuple ?z_set ?z_len ?z_all ?z_any ?z_zip ?z_enumerate ?z_range ?z_sorted ?z_repr ?a_I ?l_I ?c_I ?k_I ?a_U ?l_U ?c_U ?k_U ?a_M ?l_M ?c_M ?k_M ?a_C ?l_C ?c_C ?k_C ?a_L ?l_L ?c_L ?k_L ?a_T ?l_T ?c_T ?k_T ?a_F ?l_F ?c_F ?k_F ?a_K ?l_K ?c_K ?k_K ?a_O ?l_O ?c_O ?k_O ?a_c ?l_c ?c_c ?k_c ?a_s ?l_s ?c_s ?k_s ?a_d ?l_d ?c_d ?k_d ?a_p ?l_p ?c_p ?k_p ?a_e ?l_e ?c_e ?k_e ?a_o ?l_o ?c_o ?k_o ?a_t ?l_t ?c_t ?k_t ?a_l ?l_l ?c_l ?k_l ?a_m ?l_m ?c_m ?k_m ?a_i ?l_i ?c_i ?k_i ?a_r ?l_r ?c_r ?k_r ?a_u ?l_u ?c_u ?k_u ?a_g ?l_g ?c_g ?k_g ?a_x ?l_x ?c_x ?k_x ?a_w ?l_w ?c_w ?k_w
    (case most => k_is)
    (case z_isinstance => k_is)
    (case z_int => k_is)
    (case z_bool => k_is)
    (case z_str => k_is)
    (case z_list => k_is)
    (case z_tuple => k_is)
    (case z_set => k_is)
    (case z_len => k_is)
    (case z_all => k_is)
    (case z_any => k_is)
    (case z_zip => k_is)
    (case z_enumerate => k_is)
    (case z_range => k_is)
    (case z_sorted => k_is)
    (case z_repr => k_is)
    (case a_I => k_is)
    (case l_I => k_is)
    (case c_I => k_is)
    (case k_I => k_is)
    (case a_U => k_is)
    (case l_U => k_is)
    (case c_U => k_is)
    (case k_U => k_is)
    (case a_M => k_is)
    (case l_M => k_is)
    (case c_M => k_is)
    (case k_M => k_is)
    (case a_C => k_is)
    (case l_C => k_is)
    (case c_C => k_is)
    (case k_C => k_is)
    (case a_L => k_is)
    (case l_L => k_is)
    (case c_L => k_is)
    (case k_L => k_is)
    (case a_T => k_is)
    (case l_T => k_is)
    (case c_T => k_is)
    (case k_T => k_is)
    (case a_F => k_is)
    (case l_F => k_is)
    (case c_F => k_is)
    (case k_F => k_is)
    (case a_K => k_is)
    (case l_K => k_is)
    (case c_K => k_is)
    (case k_K => k_is)
    (case a_O => k_is)
    (case l_O => k_is)
    (case c_O => k_is)
    (case k_O => k_is)
    (case a_c => k_is)
    (case l_c => k_is)
    (case c_c => k_is)
    (case k_c => k_is)
    (case a_s => k_is)
    (case l_s => k_is)
    (case c_s => k_is)
    (case k_s => k_is)
    (case a_d => k_is)
    (case l_d => k_is)
    (case c_d => k_is)
    (case k_d => k_is)
    (case a_p => k_is)
    (case l_p => k_is)
    (case c_p => k_is)
    (case k_p => k_is)
    (case a_e => k_is)
    (case l_e => k_is)
    (case c_e => k_is)
    (case k_e => k_is)
    (case a_o => k_is)
    (case l_o => k_is)
    (case c_o => k_is)
    (case k_o => k_is)
    (case a_t => k_is)
    (case l_t => k_is)
    (case c_t => k_is)
    (case k_t => k_is)
    (case a_l => k_is)
    (case l_l => k_is)
    (case c_l => k_is)
    (case k_l => k_is)
    (case a_m => k_is)
    (case l_m => k_is)
    (case c_m => k_is)
    (case k_m => k_is)
    (case a_i => k_is)
    (case l_i => k_is)
    (case c_i => k_is)
    (case k_i => k_is)
    (case a_r => k_is)
    (case l_r => k_is)
    (case c_r => k_is)
    (case k_r => k_is)
    (case a_u => k_is)
    (case l_u => k_is)
    (case c_u => k_is)
    (case k_u => k_is)
    (case a_g => k_is)
    (case l_g => k_is)
    (case c_g => k_is)
    (case k_g => k_is)
    (case a_x => k_is)
    (case l_x => k_is)
    (case c_x => k_is)
    (case k_x => k_is)
    (case a_w => k_is)
    (case l_w => k_is)
    (case c_w => k_is)
    (case k_w => k_is)

