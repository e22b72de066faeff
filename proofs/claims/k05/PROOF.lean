import PyProof.Rows.All
import Wide.All
import OpenK.AllK
import Wide.FinOn
import PyProof.EqAt
import PyProof.EqKinds
import PyProof.TupleCall
import KE.KNest
import HandS.Base
import HandS.Call
import HandS.List
import HandS.Comp
import HandS.Text
import HandS.Iter
import HandS.AnyAll
import HandS.GenOver
import HandS.Words
import PyProof.InstEq
import PyProof.ReprRoads
import PyProof.StrOps2
import HandS.Exc
import HandS.ExcOwn
import HandS.Star
import HandS.ClsMeth
import HandS.Property
import HandS.IsInst
import HandS.OwnEq
import HandS.Wide
import Flt.Len
import PyProof.Rows.SetFrom
import HandS.Strs
import HandS.ForMost
import HandS.ForExc
import PyProof.ReprLen
import HandS.Codes
import HandS.MakeKw
import HandS.Defaults
import PyProof.Draws
import PyProof.EnumMake
import PyProof.ListStr
import PyProof.ListRange
import HandS.Sort
import HandS.ReplaceLit
import HandS.ReplaceDef
import PyProof.Rows.StrStrike
import HandS.Dict
import HandS.SetKeys
import HandS.WordsDict
import HandS.DictComp
import HandS.Walk
import HandS.Flow
import HandS.Style
import HandS.EndTab
import HandS.EndOwn
import HandS.Lambda
import OpenK.KOps
import OpenK.KMeth
import HandS.ExcIs
import KE.KIsAll
import HandS.TryOnly
import PySem.Challenge.RW_overstamps_k05_stampings_on_bands
set_option Elab.async false
set_option linter.all false
set_option maxRecDepth 100000
set_option maxHeartbeats 4000000
/-! all, any over a generator expression whose element runs like any expression (own defs called, tables grown). -/
namespace Ov
open PySem PySem.Spec PyProof.Rows L2 GxR

/-! ### the consumer -/
/-- the protocol: a truth value is handed out; Dn b: what is to hold when the consumer stops with the answer b; stop: at which value it stops -/
def YB (a : Addr) (g : Nat) (stop : Bool) (Dn : Bool → Shared → Prop) : Protocol := fun _ _ v s1 kap =>
  ∃ b, v = Value.bool b ∧ s1.heap.NoLimit ∧ s1.heap.IsGen a g ∧ AllBare s1.gens ∧
    (b = stop → ∀ G, AllBare G → Dn stop { s1 with gens := G }) ∧ (b ≠ stop → ∀ G, AllBare G → kap (.send .none) { s1 with gens := G })
def RB (stop : Bool) (Dn : Bool → Shared → Prop) : GenEnd := fun _ _ r s1 => r = .ok .next ∧ AllBare s1.gens ∧ ∀ (h' : Heap) (G : Array GenState), (∀ b o, s1.heap.get? b = some o → h'.get? b = some o) → AllBare G → Dn (!stop) { s1 with heap := h', gens := G }

theorem bare_set {s : Shared} {g : Nat} {x : GenState} (h : AllBare s.gens) (hx : x.bare = true) : AllBare (s.setGen g x).gens := fun y hy => by
  obtain ⟨i, hi, e⟩ := Array.mem_iff_getElem.mp hy
  have hi' : i < s.gens.size := by
    have q : (s.setGen g x).gens.size = s.gens.size := GenW.setGen_size s g x
    rw [q] at hi; exact hi
  by_cases z : i = g
  · subst z
    have q : (s.setGen i x).gens[i]? = some x := by
      show (s.gens.setIfInBounds i x)[i]? = some x
      simp [hi']
    have q2 : (s.setGen i x).gens[i]? = some y := by rw [Array.getElem?_eq_getElem hi, e]
    rw [q] at q2; cases q2; exact hx
  · have q : (s.setGen g x).gens[i]? = s.gens[i]? := by
      show (s.gens.setIfInBounds g x)[i]? = _
      rw [Array.getElem?_setIfInBounds_ne (Ne.symm z)]
    have q2 : s.gens[i]? = some y := by rw [← q, Array.getElem?_eq_getElem hi, e]
    exact h y (Array.mem_of_getElem? q2)
theorem set_at {s : Shared} {g : Nat} {x : GenState} (h : g < s.gens.size) : (s.setGen g x).gens[g]? = some x := by
  show (s.gens.setIfInBounds g x)[g]? = some x
  simp [h]

section
variable {P : Program} {w : World} {A : Around}
theorem all_drain {R : Result → Shared → Prop} {a : Addr} {g : Nat} {Dn : Bool → Shared → Prop} (hh : A.handled = none) (hd : A.depth < recursionLimit)
    (hR : ∀ b s', Dn b s' → R (.ok (.ret (.bool b))) s') :
    ∀ (m : Nat) (s : Shared), s.heap.IsGen a g → s.heap.NoLimit → AllBare s.gens →
      (∃ gs, s.gens[g]? = some gs ∧ gs.Goes (model P w) A.in1.in1 (RB false Dn) (YB a g false Dn) m (.send .none) (s.setGen g .running)) →
      codeAny (model P w) A (.builtin "all.loop" ⟨[.ref a], []⟩) R s := by
  intro m
  induction m with
  | zero =>
    intro s hg hl hb ⟨gs, hgs, hgo⟩
    have hgl : g < s.gens.size := (Array.getElem?_eq_some_iff.mp hgs).1
    refine codeAny_builtin F.entry_all_loop ?_
    rw [Around.under_plainId F.plain_all_loop _]
    show wpAny _ A.in1 (pyNext (.ref a) >>= _) _ _ s
    refine wpAny_bind (GenW.wpAny_gsz (n := g + 1) hgl (wpAny_pyNext_genexpQ (A := A.in1) (P := fun n s₀ s₁ => AllBare s₁.gens ∧ ∀ (h' : Heap) (G : Array GenState), (∀ b o, s₁.heap.get? b = some o → h'.get? b = some o) → AllBare G → Dn (!false) { s₁ with heap := h', gens := G }) hh hl hd hg hgs hgo (fun v s₁ gs' hbare hv => ?_) (fun s₁ hp h' hk => ?_)))
    · intro hsz
      obtain ⟨b, rfl, hl1, hg1, hb1, hs1, hk1⟩ := hv
      cases b with
      | true => exact False.elim (hk1 (by decide) _ hb1)
      | false =>
        refine wpAny_bind (wpAny_holding (wpAny_truthy_bool ?_))
        refine wpAny_bind (wpAny_letGo ?_)
        simp only [Bool.false_eq_true, if_false]
        refine wpAny_bind (wpAny_rule (wpAny_pure ?_))
        exact hR false _ (hs1 rfl _ (bare_set hb1 hbare))
    · intro hsz
      refine wpAny_bind (wpAny_rule (wpAny_pure ?_))
      exact hR true _ (hp.2 h' _ hk (bare_set hp.1 rfl))
  | succ m ih =>
    intro s hg hl hb ⟨gs, hgs, hgo⟩
    have hgl : g < s.gens.size := (Array.getElem?_eq_some_iff.mp hgs).1
    refine codeAny_builtin F.entry_all_loop ?_
    rw [Around.under_plainId F.plain_all_loop _]
    show wpAny _ A.in1 (pyNext (.ref a) >>= _) _ _ s
    refine wpAny_bind (GenW.wpAny_gsz (n := g + 1) hgl (wpAny_pyNext_genexpQ (A := A.in1) (P := fun n s₀ s₁ => AllBare s₁.gens ∧ ∀ (h' : Heap) (G : Array GenState), (∀ b o, s₁.heap.get? b = some o → h'.get? b = some o) → AllBare G → Dn (!false) { s₁ with heap := h', gens := G }) hh hl hd hg hgs hgo (fun v s₁ gs' hbare hv => ?_) (fun s₁ hp h' hk => ?_)))
    · intro hsz
      obtain ⟨b, rfl, hl1, hg1, hb1, hs1, hk1⟩ := hv
      have hsz1 : g < s₁.gens.size := by
        have q : (s₁.setGen g gs').gens.size = s₁.gens.size := GenW.setGen_size _ _ _
        have hsz' : g + 1 ≤ (s₁.setGen g gs').gens.size := hsz
        omega
      cases b with
      | true =>
        refine wpAny_bind (wpAny_holding (wpAny_truthy_bool ?_))
        refine wpAny_bind (wpAny_letGo ?_)
        simp only [if_true]
        refine wpAny_pure ⟨plainId_quiet F.plain_all_loop _, ih (s₁.setGen g gs') hg1 hl1 (bare_set hb1 hbare) ⟨gs', set_at hsz1, ?_⟩⟩
        have z := hk1 (by decide) (((s₁.setGen g gs').setGen g .running).gens) (bare_set (bare_set hb1 hbare) rfl)
        exact z
      | false =>
        refine wpAny_bind (wpAny_holding (wpAny_truthy_bool ?_))
        refine wpAny_bind (wpAny_letGo ?_)
        simp only [Bool.false_eq_true, if_false]
        refine wpAny_bind (wpAny_rule (wpAny_pure ?_))
        exact hR false _ (hs1 rfl _ (bare_set hb1 hbare))
    · intro hsz
      refine wpAny_bind (wpAny_rule (wpAny_pure ?_))
      exact hR true _ (hp.2 h' _ hk (bare_set hp.1 rfl))
end
end Ov

set_option Elab.async false
set_option linter.all false
set_option maxRecDepth 100000
set_option maxHeartbeats 4000000
namespace Ov
open PySem PySem.Spec PyProof.Rows L2 GxR
/-- the values of the captured names -/
def caps (σ : L2.St) (pick : List Nat) : L2.St := pick.map fun j => (σ[j]?).join
/-- the context of the generator's block -/
abbrev cxG (X : Cx) (s : Shared) (H : Hp) (N : List Str) (cenv : Env) (A : Around) (fp : List Addr) (pn : List (Addr × Obj)) : Cx :=
  { X with A := A, N := N, s_0 := s, H_0 := H, env := cenv, outer := X.stack, stack := cenv :: X.stack, ex := fp, fn := fun _ => false, calm := true, pn := pn, xe := fun _ _ => False }
/-- the names of the block: its variable x, the captured ones cs with their places in the def's names -/
structure GenN (X : Cx) (scope : Scope) (x : Str) (cs : List Str) (pick : List Nat) : Prop where
  gen : GenS X.env scope x
  uniq : ∀ y ∈ scope.names, scope.names.lookup y.1 = some y.2
  nd : (x :: cs).Nodup
  len : cs.length = pick.length
  at_ : ∀ (i : Nat) (y : Str), cs[i]? = some y → scope.names.lookup y = some .free ∧ (X.env.scope.names.lookup y = some .cell ∨ X.env.scope.names.lookup y = some .free) ∧ ∃ j, pick[i]? = some j ∧ X.N[j]? = some y
section
variable {X : Cx} {pins : List (Addr × Obj)} {σ : L2.St} {H : Hp} {s : Shared}
theorem clo_get {cells : List (Str × Addr)} {names : List (Str × NameKind)} (h : ∀ y ∈ names, y.2 = .free → ∃ c, cells.lookup y.1 = some c) {y : Str} {c : Addr} (e : (cloFrom cells names []).lookup y = some c) : (y, NameKind.free) ∈ names ∧ cells.lookup y = some c := by
  rcases cloFrom_mem (PySem.mem_of_lookup e) with hm | ⟨h1, rfl⟩
  · cases hm
  · obtain ⟨c, hc⟩ := h _ h1 rfl
    rw [hc]
    exact ⟨h1, rfl⟩
theorem clo_has {cells : List (Str × Addr)} {names : List (Str × NameKind)} (h : ∀ y ∈ names, y.2 = .free → ∃ c, cells.lookup y.1 = some c) {y : Str} (hy : (y, NameKind.free) ∈ names) : ∃ c, (cloFrom cells names []).lookup y = some c ∧ cells.lookup y = some c := by
  obtain ⟨c', e'⟩ := mem_lookup (cloFrom_has (cells := cells) (acc := []) hy)
  exact ⟨c', e', (clo_get h e').2⟩
/-- the block's start: the frame at s.heap's size, empty of x; the generator's own object at a -/
theorem gen_start {scope : Scope} {x : Str} {cs : List Str} {pick : List Nat} {fp : List Addr} {A : Around} {code itv : Value} {go : Obj} {gs : Array GenState} {tk : Nat} {h' : Heap} {a : Addr}
    (I : Inv X pins σ H s) (G : GenN X scope x cs pick) (hA : A.handled = none) (hfr : A.frames = some (genEnv scope (cloFrom X.env.cells scope.names []) s.heap.objs.size code builtinsNs X.env :: X.stack))
    (hfp : ∀ b ∈ fp, FpOk X pins H b ∧ b < s.heap.objs.size)
    (hn : h'.Ns s.heap.objs.size fun y => if y = ".0" then some itv else none) (hk : ∀ b o, s.heap.get? b = some o → h'.get? b = some o) (ha : s.heap.objs.size < a) (hgo : h'.get? a = some go) (hgd : ∀ v, go.data ≠ .cell v)
    (hb : AllBare gs) :
    Inv (cxG X s H (x :: cs) (genEnv scope (cloFrom X.env.cells scope.names []) s.heap.objs.size code builtinsNs X.env) A fp [(a, go)]) [] (none :: caps σ pick) H { s with heap := h', gens := gs, toks := tk } := by
  have hfree : ∀ y ∈ scope.names, y.2 = .free → ∃ c, X.env.cells.lookup y.1 = some c := G.gen.free
  have okB : (cxG X s H (x :: cs) (genEnv scope (cloFrom X.env.cells scope.names []) s.heap.objs.size code builtinsNs X.env) A fp [(a, go)]).Ok := by
    refine ⟨I.ok.mod, G.gen.kind, I.ok.glob, rfl, Nat.le_refl _, fun y z c e1 e2 => ?_, fun y hy => ?_, fun y c z _ => ?_, fun _ => hA, hfr, .inr ⟨rfl, rfl⟩, fun b hb => ⟨?_, fun y c e z => ?_⟩, I.bs, Nat.le_trans I.ok.bsz I.sz, fun b o e hb => ?_, fun b hb z => ?_, I.stack, I.stkFree⟩
    · exact I.ok.inj y z c (clo_get hfree e1).2 (clo_get hfree e2).2
    · have hy : scope.names.lookup y = some .cell ∨ scope.names.lookup y = some .free := hy
      rcases hy with hy | hy
      · exact absurd rfl (G.gen.cell _ (PySem.mem_of_lookup hy))
      · obtain ⟨c, h1, _⟩ := clo_has hfree (PySem.mem_of_lookup hy)
        exact ⟨c, h1⟩
    · exact absurd (show false = true from z) (by decide)
    · exact Nat.ne_of_lt (hfp b hb).2
    · exact (hfp b hb).1.2.2.2.2.1 y c (clo_get hfree e).2 z
    · rcases (hfp b hb).1.2.2.2.1 with z | z
      · exact I.ok.noex b o e z
      · exact absurd (Nat.lt_of_lt_of_le (Heap.lt_size e) (Nat.le_trans I.ok.bsz z)) (Nat.lt_irrefl _)
    · rcases List.mem_cons.mp (I.stkSub b z) with z | z
      · exact (hfp b hb).1.2.1 z
      · exact (hfp b hb).1.2.2.1 z
  refine ⟨okB, rfl, hb, Un.kept hk, ⟨_, hn, fun i y av e1 e2 e3 => ?_⟩, fun y c e => ?_, I.hok.fresh (Nat.le_refl _), fun y c e => I.freeC y c (clo_get hfree e).2, fun p hp => ?_, I.hok.kept hk, ?_⟩
  · cases i with
    | zero => cases e2
    | succ i =>
      have e1 : cs[i]? = some y := e1
      obtain ⟨q1, q2, j, hj, hN⟩ := G.at_ i y e1
      have e2 : (caps σ pick)[i]? = some (some av) := e2
      unfold caps at e2
      rw [List.getElem?_map, hj] at e2
      have e2 : (σ[j]?).join = some av := Option.some.inj e2
      have e2' : σ[j]? = some (some av) := by
        cases q : σ[j]? with
        | none => rw [q] at e2; cases e2
        | some o =>
          rw [q] at e2
          have : o = some av := e2
          rw [this]
      obtain ⟨m, hm, hl⟩ := I.loc
      have hvis : Vis X.env.scope y := q2.elim (fun k => .inr (.inl k)) (fun k => .inr (.inr k))
      obtain ⟨u, r, q⟩ := hl j y av hN e2' hvis
      refine ⟨u, r, .inr ⟨.inr q1, ?_⟩⟩
      obtain ⟨c, h1, h2⟩ := clo_has hfree (PySem.mem_of_lookup q1)
      refine ⟨c, h1, ?_⟩
      rcases q with ⟨k, _⟩ | ⟨_, c', e', z⟩
      · have k : X.env.scope.names.lookup y = some .local := k
        rcases q2 with k' | k' <;> rw [k'] at k <;> cases k
      · rw [h2] at e'; cases e'
        exact z.keeps hk
  · obtain ⟨w, z⟩ := I.cell y c (clo_get hfree e).2
    exact ⟨w, z.keeps hk⟩
  · have e : p = (a, go) := by simpa using hp
    subst e
    refine ⟨hgo, I.hok.fresh (Nat.le_of_lt ha), Nat.ne_of_gt ha, ?_, hgd⟩
    intro z
    rcases List.mem_cons.mp (I.stkSub a z) with z | z
    · have := I.lt
      rw [← z] at this
      exact absurd (Nat.lt_trans this ha) (Nat.lt_irrefl _)
    · exact I.nofs (Nat.le_of_lt ha) z
  · show (none :: caps σ pick).length = (x :: cs).length
    unfold caps
    rw [List.length_cons, List.length_cons, List.length_map, G.len]
end
end Ov

set_option Elab.async false
set_option linter.all false
set_option maxRecDepth 100000
set_option maxHeartbeats 4000000
namespace Ov
open PySem PySem.Spec PyProof.Rows L2 GxR
/-- the reading of a turn for all: the element's answer b; true: on; false: the answer -/
def turnAll (J : It) (te : TE) (W : Nat → Nat → Hp → Prop) (caps : L2.St) (Q : VK) : Prop := ∀ i m H, W i m H →
  (J.stop i H ∧ Q (.bl true) H) ∨ (J.go i H ∧ ∀ x H', J.yld i H x H' → te (some x :: caps) H' fun y H'' => ∃ b, y = .bl b ∧ if b = true then ∃ m', m' < m ∧ W (i + 1) m' H'' else Q (.bl false) H'')
section
variable {X : Cx} {σ : L2.St} {H : Hp} {s : Shared}
/-- the context's own: nothing is raised, the generator's object is pinned -/
structure Gen (G : Cx) (A : Around) (a : Addr) (g : Nat) (x : Str) (go : Obj) : Prop where
  over : G.A = A.deeper G.env
  calm : G.calm = true
  xe : G.xe = fun _ _ => False
  nd : G.N.Nodup
  at0 : G.N[0]? = some x
  loc : G.env.scope.names.lookup x = some .local
  co : G.env.scope.isCoroutine = false
  pn : G.pn = [(a, go)]
  gen : ∀ h : Heap, h.get? a = some go → h.IsGen a g
theorem seg_all {G : Cx} {A : Around} {a : Addr} {g : Nat} {x : Str} {go : Obj} (S : Gen G A a g x go) {elt iter : Expr} {px pos : Pos} {scope : Scope} {te : TE} {J : It} {fp : List Addr} {it : Addr} {tn : Nat → Heap → Prop} {W : Nat → Nat → Hp → Prop} {cp : L2.St} {Q : VK} {Dn : Bool → Shared → Prop}
    (T : Turn G.prog G.w G.K (.Name x px) J fp it tn) (he : PE G elt te) (turn : turnAll J te W cp Q) (hex : G.ex = fp) (hfa : ∀ b ∈ fp, a ≠ b)
    (hD : ∀ b H' s' v, Inv G [] (v :: cp) H' s' → Q (.bl b) H' → Dn b s') :
    ∀ (n i m : Nat) (s₀ s : Shared) (v : Option V) (H : Hp), m < n → Inv G [] (v :: cp) H s → tn i s.heap → (∀ b ∈ fp, H b = none) → W i m H →
      Seg (model G.prog G.w) A (RB false Dn) (YB a g false Dn) n s₀ (.compLoop (.GeneratorExp elt [⟨.Name x px, iter, [], 0⟩] scope pos) 0 (.ref it) .none G.env)
        ((model G.prog G.w).den (.compLoop (.GeneratorExp elt [⟨.Name x px, iter, [], 0⟩] scope pos) 0 (.ref it) .none G.env)) [] s := by
  have stat : ∀ {σ' : L2.St} {H' : Hp} {s' : Shared}, Inv G [] σ' H' s' → (∀ b ∈ fp, H' b = none) → ∀ b ∈ fp, FpOk G [] H' b := fun {σ' H' s'} I' hn b hb => by
    have hb' : b ∈ G.ex := by rw [hex]; exact hb
    refine ⟨hn b hb, (I'.ok.exf b hb').1, I'.ok.exfs b hb', .inl hb', fun x c e => (I'.ok.exf b hb').2 x c e, fun p hp z => ?_⟩
    have hp' : p ∈ G.pn := by simpa using hp
    rw [S.pn] at hp'
    rw [List.mem_singleton.mp hp'] at z
    exact hfa b hb z
  intro n
  induction n with
  | zero => intro i m s₀ s v H hm; exact absurd hm (Nat.not_lt_zero _)
  | succ n ih =>
    intro i m s₀ s v H hm I st hf w
    show Seg _ A _ _ _ s₀ _ ((compTurn (.GeneratorExp elt [⟨.Name x px, iter, [], 0⟩] scope pos) 0 (.ref it) .none G.env).onRaise (leaving G.env)) [] s
    rw [compTurn_gen, Sem.onRaise_eq_wrap]
    have ov : A.over (.compLoop (.GeneratorExp elt [⟨.Name x px, iter, [], 0⟩] scope pos) 0 (.ref it) .none G.env) [] = G.A := by rw [S.over]; rfl
    refine seg_bind_wrap (wpAny_standAt ?_)
    rcases turn i m H w with ⟨stop, q⟩ | ⟨go', step⟩
    · refine seg_bind_wrap ?_
      rw [ov]
      refine wpAny_mono (T.done G rfl rfl rfl S.calm i [] s (v :: cp) H (fun _ _ => False) I (stat I hf) st stop) (fun r s1 hr => ?_) fun _ _ z => z.elim
      obtain ⟨rfl, I1⟩ := hr
      refine seg_end (.ok .next) ⟨rfl, I1.bare, fun h' gs hk hb => ?_⟩
      exact hD true H _ v (I1.call' (ch := []) rfl (Un.kept hk) (I1.hok.kept hk) hb fun b z => by simp at z) q
    · refine seg_bind_wrap ?_
      rw [ov]
      refine wpAny_mono (T.item G rfl rfl rfl S.calm i [] s (v :: cp) H (fun _ _ => False) I (stat I hf) st go') (fun r s1 hr => ?_) fun _ _ z => z.elim
      obtain ⟨u, rfl, h1⟩ := hr
      refine seg_bind_wrap ?_
      rw [ov]
      refine wpAny_mono h1 (fun _ s2 h2 => ?_) fun _ _ z => z.elim
      obtain ⟨y, H2, I2, r2, y2, st2, n2⟩ := h2
      have I2' := I2.pinned (stat I2 n2) (T.obj _ _ st2)
      refine seg_bind_wrap ?_
      rw [ov]
      refine wpAny_mono ((pg_name (X := G) (i := 0) (pos := px) S.nd S.at0 (.inl S.loc) (.inr S.loc)).run _ s2 (v :: cp) H2 y u (fun σ' H' => σ' = some y :: cp ∧ H' = H2) I2' r2 ⟨rfl, rfl⟩) (fun _ s3 h3 => ?_) fun _ _ z => by rw [S.xe] at z; exact z.elim
      obtain ⟨σ3, H3, I3, rfl, rfl⟩ := h3
      refine seg_bind_wrap ?_
      simp only [List.forIn_nil]
      refine wpAny_pure ?_
      simp only [if_true]
      have hy : ∀ v, yieldOut G.env v = yieldValue v := fun v => by simp only [yieldOut, S.co, Bool.false_eq_true, if_false]
      simp only [hy]
      rw [Sem.bind_eq_wrap', Sem.bind_eq_wrap', Sem.wrap_wrap, Sem.wrap_wrap]
      refine seg_wrap ?_
      rw [ov]
      refine wpAny_mono (he.run _ s3 (some y :: cp) H3 _ I3 (step y H3 y2)) (fun z s4 h4 => ?_) fun _ _ z => by rw [S.xe] at z; exact z.elim
      obtain ⟨zv, H4, I4, r4, b, rfl, q4⟩ := h4
      have ez : z = Value.bool b := r4
      subst ez
      have pin' : ∀ c ∈ fp, ∀ o, s2.heap.get? c = some o → s4.heap.get? c = some o ∧ H4 c = none := fun c hc o e =>
        let z := I4.pin (c, o) (List.mem_append_right _ (List.mem_append_right _ (mem_pinsAt hc e)))
        ⟨z.1, z.2.1⟩
      have st4 : tn (i + 1) s4.heap := T.keep _ _ _ st2 fun c hc o e => (pin' c hc o e).1
      have f4 : ∀ c ∈ fp, H4 c = none := fun c hc => by
        obtain ⟨o, e, _⟩ := T.obj _ _ st2 c hc
        exact (pin' c hc o e).2
      have I5 : Inv G [] (some y :: cp) H4 s4 := I4.unpinned (pins := [])
      have hgo : s4.heap.get? a = some go := (I5.pin (a, go) (by rw [S.pn]; simp)).1
      refine seg_at (seg_yield rfl rfl rfl ⟨b, rfl, I5.nolimit, S.gen _ hgo, I5.bare, fun eb gs hb => ?_, fun nb gs hb => ?_⟩)
      · subst eb
        exact hD false H4 _ (some y) (I5.call' (ch := []) rfl Un.refl I5.hok hb fun b z => by simp at z) q4
      · have eb : b = true := by cases b with
          | true => rfl
          | false => exact absurd rfl nb
        subst eb
        obtain ⟨m', hm', w'⟩ := (if_pos rfl : (if true = true then _ else _) = _) ▸ q4
        refine seg_again rfl (ih (i + 1) m' _ _ (some y) H4 (by omega) (I5.call' (ch := []) rfl Un.refl I5.hok hb fun b z => by simp at z) st4 f4 w')

theorem seg_allStart {G : Cx} {A : Around} {a : Addr} {g : Nat} {x : Str} {go : Obj} (S : Gen G A a g x go) {elt iter : Expr} {px pos : Pos} {scope : Scope} {te : TE} {J : It} {fp : List Addr} {it : Addr} {tn : Nat → Heap → Prop} {W : Nat → Nat → Hp → Prop} {cp : L2.St} {Q : VK} {Dn : Bool → Shared → Prop}
    (T : Turn G.prog G.w G.K (.Name x px) J fp it tn) (he : PE G elt te) (turn : turnAll J te W cp Q) (hex : G.ex = fp) (hfa : ∀ b ∈ fp, a ≠ b)
    (hD : ∀ b H' s' v, Inv G [] (v :: cp) H' s' → Q (.bl b) H' → Dn b s') (n m : Nat) (s₀ s : Shared) (v : Option V) (H : Hp) (hm : m < n) (I : Inv G [] (v :: cp) H s) (st : tn 0 s.heap) (hf : ∀ b ∈ fp, H b = none) (w : W 0 m H) :
      Seg (model G.prog G.w) A (RB false Dn) (YB a g false Dn) n s₀ (.compStart (.GeneratorExp elt [⟨.Name x px, iter, [], 0⟩] scope pos) 0 (.ref it) .none G.env)
        ((model G.prog G.w).den (.compStart (.GeneratorExp elt [⟨.Name x px, iter, [], 0⟩] scope pos) 0 (.ref it) .none G.env)) [] s := by
  have loop := seg_all (iter := iter) (pos := pos) (scope := scope) S T he turn hex hfa hD n 0 m s₀ s v H hm I st hf w
  show Seg _ A _ _ _ s₀ _ ((compStart (.GeneratorExp elt [⟨.Name x px, iter, [], 0⟩] scope pos) 0 (.ref it) .none G.env).onRaise (leaving G.env)) [] s
  unfold compStart
  rw [Sem.onRaise_eq_wrap]
  show Seg _ A _ _ _ s₀ _ ((ask >>= _).wrap _ _ _ _) [] s
  refine seg_bind_wrap (wpAny_askSetting ?_)
  split
  · exact seg_again rfl loop
  · first
      | exact seg_bind_wrap (wpAny_rule (seg_bind_wrap (wpAny_standAt (seg_bind_wrap (T.self _ 0 s _ _ st (seg_again rfl loop))))))
      | (refine seg_bind_wrap (wpAny_rule ?_); show Seg _ A _ _ _ s₀ _ ((standAt iter.pos >>= _).wrap _ _ _ _) [] s; exact seg_bind_wrap (wpAny_standAt (seg_bind_wrap (T.self _ 0 s _ _ st (seg_again rfl loop)))))

/-- all(elt for x in iter): J walks; W by the turn and a measure -/
def tAllG (P : Addr) (wi : TI) (pick : List Nat) (te : TE) : TE := fun σ H Q => wi σ H fun J H1 => TabG H1 P ∧ ∀ H2, Tabbed P H1 H2 → ∃ W : Nat → Nat → Hp → Prop, (∃ m, W 0 m H2) ∧ turnAll J te W (caps σ pick) Q

theorem fpOk_tab {pins : List (Addr × Obj)} {H1 H2 : Hp} {P b : Addr} {ps : Array Value} (hP : H1 P = some (.tbl ps)) (hT : ∀ b, b ≠ P → H2 b = H1 b) (f : FpOk X pins H1 b) : FpOk X pins H2 b := by
  refine ⟨?_, f.2⟩
  rw [hT b (fun z => by have := f.1; rw [z, hP] at this; cases this)]
  exact f.1

theorem pe_allG {c P : Addr} {elt iter : Expr} {x : Str} {px p pos gpos : Pos} {scope : Scope} {cs : List Str} {pick : List Nat} {wi : TI} {te : TE} {k : Nat}
    (hc : X.calm = true) (hr : Room (k + 1) X.A) (hg : Gl X "all") (hm : X.mg "all" = none) (hb : bootBuiltins "all" = some (.builtin "all")) (TB : TabB X.base X.mg c P) (hcode : X.env.code = .ref c) (S : GenN X scope x cs pick)
    (hi : PI X (.Name x px) iter wi)
    (he : ∀ (s : Shared) (H : Hp) (code : Value) (C : Addr) (A : Around) (fp : List Addr) (pn : List (Addr × Obj)), Room k A → PE (cxG X s H (x :: cs) (genEnv scope (cloFrom X.env.cells scope.names []) C code builtinsNs X.env) A fp pn) elt te)
    (hs : ∀ v, genFold iter X.env v = pure v := by intro _; rfl)
    (hst : starEach [.GeneratorExp elt [⟨.Name x px, iter, [], 0⟩] scope gpos] X.env = (false, eval (.GeneratorExp elt [⟨.Name x px, iter, [], 0⟩] scope gpos) X.env) :: starEach [] X.env := by rfl) :
    PE X (.Call (.Name "all" p) [.GeneratorExp elt [⟨.Name x px, iter, [], 0⟩] scope gpos] [] pos) (tAllG P wi pick te) := by
  refine ⟨fun pins s σ H Q I h => ?_⟩
  refine wpAny_Call_Name_kw (ld_blt I hg hm hb ?_)
  refine PyProof.Rows.callWith_builtin1 ?_ hst (by rfl)
  rw [hst]
  show wpAny _ _ (spliced ((false, eval (.GeneratorExp elt [⟨.Name x px, iter, [], 0⟩] scope gpos) X.env) :: backTo pos (starEach [] X.env))) _ _ s
  refine Calls.spliced_cons ?_
  refine wpAny_GeneratorExp_make S.gen.co (closure_ok S.gen.free) S.gen.cell S.gen.dot S.gen.kind (by have := hr.dp; omega) ?_ hs
  refine thn (hi.run pins s σ H _ I h) fun xv s1 h1 => thn h1 fun itv s2 h2 => ?_
  obtain ⟨it, fp, tn, J, H2, rfl, I2, T, st2, f2, ⟨ps, hP, ht⟩, hW⟩ := h2
  refine ⟨I2.nolimit, ?_⟩
  have hPs : s2.heap.get? P = some { cls := .none, data := .fields ps } := I2.hok P _ hP
  have hPlt : P < s2.heap.objs.size := Heap.lt_size hPs
  have cd : PySem.W.CodeHd s2.heap c P := TB.code.keeps fun b u e => I2.bk b u e
  -- behind the code object
  have cont : ∀ (code : Value) (h3 : Heap) (tk : Nat) (ps' : Array Value), Heap.ExtBut P s2.heap h3 → h3.get? P = some { cls := .none, data := .fields ps' } → (∃ more, ps' = ps ++ more) → TriplesOk ps'.toList →
      wpAny (model X.prog X.w) X.A (builtinsFor X.env.globals X.env.builtins) (fun bi s₄ =>
        ∀ h', h'.Ns s₄.heap.objs.size (fun y => if y = ".0" then some (.ref it) else none) → Heap.SameBut s₄.heap.objs.size (s₄.heap.push { cls := .type "frame", data := .dict #[] }) h' →
          wpAny (model X.prog X.w) X.A (spliced (backTo pos (starEach [] X.env))) (fun us s' => wpAny (model X.prog X.w) X.A (call (.builtin "all") (.ref h'.objs.size :: us)) (EP X pins σ Q) X.xe s') X.xe { s₄ with
            gens := s₄.gens.push (.fresh (.compStart (.GeneratorExp elt [⟨.Name x px, iter, [], 0⟩] scope gpos) 0 (.ref it) .none (genEnv scope (cloFrom X.env.cells scope.names []) s₄.heap.objs.size code bi X.env))),
            toks := s₄.toks + 1 + 1 + 1,
            heap := h'.push { cls := .type "generator", data := .fields #[.int s₄.gens.size 0, .str "<genexpr>" (s₄.toks + 1), .str (X.env.qual ++ "<genexpr>") (s₄.toks + 1 + 1)] } }) X.xe { s2 with heap := h3, toks := tk } := by
    intro code h3 tk ps' hx hP3 hmore ht3
    obtain ⟨more, em⟩ := hmore
    subst em
    obtain ⟨bm, ob, e1, e2, e3, e4, e5, e6, e7, e8⟩ := TB.bm
    have keep3 : ∀ b u, b ≠ P → s2.heap.get? b = some u → h3.get? b = some u := fun b u hb e => hx b u hb e
    refine wpAny_builtinsFor (m := X.mg) (by rw [I2.ok.glob]; exact (I2.mod.glob.keeps I2.bk).extBut hx TB.gP) e1 e2 (keep3 _ _ e4 (I2.bk _ _ e5)) e6 e7 e8 ?_
    intro h' hn' hs'
    have I3 : Inv X pins σ (upd H2 P (.tbl (ps ++ more))) { s2 with heap := h3, toks := tk } := inv_tab (more := more) (h' := h3) (g' := s2.gens) (d' := s2.drawn) (t' := tk) I2 hP keep3 hP3 I2.bare
    generalize hs3 : ({ s2 with heap := h3, toks := tk } : Shared) = s3 at I3 ⊢
    have hh3 : s3.heap = h3 := by rw [← hs3]
    have hg3 : s3.gens = s2.gens := by rw [← hs3]
    have hn' : h'.Ns s3.heap.objs.size (fun y => if y = ".0" then some (.ref it) else none) := hh3.symm ▸ hn'
    have hs' : Heap.SameBut s3.heap.objs.size (s3.heap.push { cls := .type "frame", data := .dict #[] }) h' := hh3.symm ▸ hs'
    have hsz : h'.objs.size = s3.heap.objs.size + 1 := by rw [hs'.1, Heap.size_push]
    have keep' : ∀ b o, s3.heap.get? b = some o → h'.get? b = some o := fun b o e => hs'.extBut b o (Nat.ne_of_lt (Heap.lt_size e)) (Heap.get?_push_of_some _ e)
    have hT23 : Tabbed P H2 (upd H2 P (.tbl (ps ++ more))) := ⟨⟨_, upd_same, ht3⟩, fun b hb => upd_ne hb⟩
    obtain ⟨W, ⟨m0, w0⟩, turn⟩ := hW _ hT23
    generalize hH3 : upd H2 P (.tbl (ps ++ more)) = H3 at I3 w0 hT23
    have nfpP : ∀ b ∈ fp, b ≠ P := fun b hb z => by have := (f2 b hb).1; rw [z, hP] at this; cases this
    have st3 : tn 0 s3.heap := T.keep _ _ _ st2 fun b hb o e => by rw [hh3]; exact keep3 b o (nfpP b hb) e
    have f3 : ∀ b ∈ fp, FpOk X pins H3 b ∧ b < s3.heap.objs.size := fun b hb => by
      refine ⟨fpOk_tab hP hT23.2 (f2 b hb), ?_⟩
      obtain ⟨o, e, _⟩ := T.obj _ _ st3 b hb
      exact Heap.lt_size e
    generalize hgo : ({ cls := .type "generator", data := .fields #[.int s3.gens.size 0, .str "<genexpr>" (s3.toks + 1), .str (X.env.qual ++ "<genexpr>") (s3.toks + 1 + 1)] } : Obj) = go
    generalize hcenv : genEnv scope (cloFrom X.env.cells scope.names []) s3.heap.objs.size code builtinsNs X.env = cenv
    have keep5 : ∀ b o, s3.heap.get? b = some o → (h'.push go).get? b = some o := fun b o e => Heap.get?_push_of_some _ (keep' b o e)
    have hga : (h'.push go).get? h'.objs.size = some go := Heap.get?_push_size _ (by subst hgo; rfl)
    have hgd : ∀ v, go.data ≠ .cell v := fun v => by rw [← hgo]; exact fun z => by cases z
    have hgen : ∀ h : Heap, h.get? h'.objs.size = some go → h.IsGen h'.objs.size s3.gens.size := fun h e => ⟨go, _, _, e, by subst hgo; rfl, by subst hgo; rfl, by subst hgo; rfl⟩
    have bareG : AllBare (s3.gens.push (.fresh (.compStart (.GeneratorExp elt [⟨.Name x px, iter, [], 0⟩] scope gpos) 0 (.ref it) .none cenv))) := I3.bare.push rfl
    refine Calls.spliced_nil ?_
    refine call_function_tree F.kind_all F.plain_all F.entry_all (F.args_all1 _) ?_
    unfold Builtin.«all»
    refine wpAny_bind (m := oneArg "all" _) (wpAny_pure ?_)
    refine wpAny_bind (wpAny_pyIter_gen (hgen _ hga) ?_)
    refine wpAny_pure ⟨plainId_quiet F.plain_all_loop _, ?_⟩
    have hA : X.A.in1.in1.handled = none := hr.hd
    have hfr : (X.A.in1.in1.deeper cenv).frames = some (cenv :: X.stack) := Around.frames_deeper (A := X.A.in1.in1) I3.ok.frames
    have start : ∀ gs : Array GenState, AllBare gs → Inv (cxG X s3 H3 (x :: cs) cenv (X.A.in1.in1.deeper cenv) fp [(h'.objs.size, go)]) [] (none :: caps σ pick) H3 { s3 with heap := h'.push go, gens := gs, toks := s3.toks + 1 + 1 + 1 } := fun gs hb => by
      subst hcenv
      exact gen_start I3 S hA hfr f3 (hn'.push _) keep5 (by omega) hga hgd hb
    have rm : Room k (X.A.in1.in1.deeper cenv) := ⟨hr.hd, by have := hr.dp; show X.A.depth + 1 + 3 * k + 5 < _; omega, by have := hr.un; show X.A.units + 1 + 1 + 3 + 16 * k + 200 < _; omega⟩
    have hel : PE (cxG X s3 H3 (x :: cs) cenv (X.A.in1.in1.deeper cenv) fp [(h'.objs.size, go)]) elt te := by
      subst hcenv
      exact he s3 H3 code s3.heap.objs.size _ fp _ rm
    refine all_drain (P := X.prog) (w := X.w) (A := X.A) (Dn := fun b s' => EP X pins σ Q (.bool b) s') hr.hd (by have := hr.dp; omega) (fun b s' hb => hb) (m0 + 1) _ (hgen _ hga) (I3.nolimit.keeps keep5) bareG ⟨_, Array.getElem?_push_size .., rfl, ?_⟩
    have GG : Gen (cxG X s3 H3 (x :: cs) cenv (X.A.in1.in1.deeper cenv) fp [(h'.objs.size, go)]) X.A.in1.in1 h'.objs.size s3.gens.size x go := by
      refine ⟨rfl, rfl, rfl, S.nd, rfl, ?_, ?_, rfl, hgen⟩
      · subst hcenv; exact S.gen.loc
      · subst hcenv; exact S.gen.co
    refine seg_allStart (iter := iter) (pos := gpos) (scope := scope) GG T hel turn rfl (fun b hb z => ?_) (fun b H' s' v I' q => ?_) (m0 + 1) m0 _ _ none H3 (Nat.lt_succ_self _) (start _ (bare_set bareG rfl)) (T.keep _ _ _ st3 fun b hb o e => keep5 b o e) (fun b hb => (f3 b hb).1.1) w0
    · have z1 : h'.objs.size < s3.heap.objs.size := by
        rw [show h'.objs.size = b from z]
        exact (f3 b hb).2
      have z2 : (h'.objs.size : Nat) = s3.heap.objs.size + 1 := hsz
      omega
    · exact ⟨.bl b, H', I3.call' (ch := fp) I'.os I'.base I'.hok I'.bare fun b hb => ⟨(f3 b hb).1.2.2.2.1, (f3 b hb).1.2.1, (f3 b hb).1.2.2.2.2.1, (f3 b hb).1.2.2.2.2.2⟩, rfl, q⟩
  cases hf : codeAmong gpos ps.toList with
  | none =>
    refine wpAny_genexprCodeX hcode (cd.code hPs ht) (cd.tab hPs) hf fun c' h' tk hx hge hlt hco' _ htab' _ => ?_
    obtain ⟨o1, vs, f1, tf, fl, tg, inF, tx, tt, op, _, _, _, _, _, _, _, _, _, htr, _⟩ := hco'
    exact cont _ h' tk _ hx htab'.2 ⟨_, rfl⟩ htr
  | some cv =>
    refine wpAny_genexprCode_hit hcode (cd.code hPs ht) hf ?_
    exact cont cv s2.heap s2.toks ps (Heap.ExtBut.refl _ _) hPs ⟨#[], by simp⟩ ht
end
end Ov

set_option Elab.async false
set_option linter.all false
set_option maxRecDepth 100000
set_option maxHeartbeats 4000000
/-! rules that the layer lacks: powers of great ints, <= of texts, text * int, == of own instances by identity, an own __add__, an own __len__, C(*xs), repr of a list of texts -/
namespace Ov
open PySem PySem.Spec PyProof.Rows L2
/-! ### == by identity -/
section
variable {prog : Program} {w : World} {A : Around} {E : Value → Shared → Prop} {s : Shared} {K : PySem.W.Frag} {x y C : Addr} {ox oy : Obj} {od od' : Option Obj}
theorem call_objEq {Q : Value → Shared → Prop} (X : K.In s.heap) (I : PySem.W.InstAt s.heap x ox C od) (J : PySem.W.InstAt s.heap y oy C od') (hsub : PySem.W.subIn K (.ref C) (.type "object") = some true)
    (h : Q (if x = y then .bool true else .notImplemented) s) : wpAny (model prog w) A (call (.builtin "object.__eq__") [.ref x, .ref y]) Q E s := by
  refine wpAny_call (codeAny_call_builtin F.cmp_object.eq.plain F.cmpEntry_eq ?_)
  have fin : wpAny (model prog w) A.in1 (Builtin.«object.__eq__» ⟨[.ref x, .ref y], []⟩) (fun fin s' => match fin with | .done f => (wants Q E) (.ok f) s' | .again c' => c'.quiet = true ∧ codeAny (model prog w) A c' (wants Q E) s') (fun e s' => (wants Q E) (.error e) s') s := by
    by_cases hxy : x = y
    · subst hxy
      exact objEq_entry_same (by rw [if_pos rfl] at h; exact h)
    · refine objEq_entry_other hxy I.at_ J.at_ ?_ (by rw [if_neg hxy] at h; exact h)
      rw [I.cls]
      intro z; cases z
  simp only [checkBuiltinCall, F.cmpKind_eq, F.cmpSplit_eq]
  refine wpAny_bind ?_
  unfold isInstance
  refine wpAny_bind (I.type.here ?_)
  refine (PySem.W.looks_subIn X hsub).here ?_
  cases hsig : Manifest.signature? "object.__eq__" with
  | none => exact wpAny_pure fin
  | some sig =>
    have ha := F.cmpArgs_eq (.ref x) (.ref y)
    simp only [argsOk, hsig] at ha
    have h2 : Bind.checkArgs "object.__eq__" sig ⟨[.ref x, .ref y], []⟩ = pure () := ha
    show wpAny _ A.in1 (Bind.checkArgs "object.__eq__" sig ⟨[.ref x, .ref y], []⟩) _ _ _
    rw [h2]; exact wpAny_pure fin
theorem special_eq {Q : Option Value → Shared → Prop} (X : K.In s.heap) (I : PySem.W.InstAt s.heap x ox C od) (J : PySem.W.InstAt s.heap y oy C od') (hs : PySem.W.findIn K (.ref C) "__eq__" = some (some (.builtin "object.__eq__"))) (hsub : PySem.W.subIn K (.ref C) (.type "object") = some true)
    (h : Q (some (if x = y then .bool true else .notImplemented)) s) : wpAny (model prog w) A (callSpecialIfBound? (.ref x) "__eq__" [.ref y]) Q E s := by
  simp only [callSpecialIfBound?, bindSpecialIfBound?]
  refine wpAny_holding (wpAny_bind (wpAny_bind (wpAny_bind (I.type.here ((PySem.W.looks_findIn X hs).here ?_)))))
  have fin : wpAny (model prog w) A (call (.builtin "object.__eq__") ([.ref x] ++ [.ref y]) >>= fun v => pure (some v)) Q E s := wpAny_bind (call_objEq X I J hsub (wpAny_pure h))
  simp only [F.cmp_object.eq.bind]
  refine wpAny_bind (wpAny_askSetting (wpAny_ite ?_))
  split
  · exact wpAny_bind (wpAny_pure (wpAny_pure fin))
  · exact wpAny_tryCatch (wpAny_bind (wpAny_pure (wpAny_pure fin)))
theorem try_eq {Q : Option Value → Shared → Prop} (X : K.In s.heap) (I : PySem.W.InstAt s.heap x ox C od) (J : PySem.W.InstAt s.heap y oy C od') (hs : PySem.W.findIn K (.ref C) "__eq__" = some (some (.builtin "object.__eq__"))) (hsub : PySem.W.subIn K (.ref C) (.type "object") = some true)
    (h : Q (if x = y then some (.bool true) else none) s) : wpAny (model prog w) A (tryCompare (.ref x) "__eq__" (.ref y)) Q E s := by
  unfold tryCompare
  refine wpAny_bind (special_eq X I J hs hsub ?_)
  by_cases hxy : x = y
  · rw [if_pos hxy] at h ⊢
    exact wpAny_pure h
  · rw [if_neg hxy] at h ⊢
    exact wpAny_pure h
theorem eq_id {Q : Value → Shared → Prop} (hu : A.units < cLine) (X : K.In s.heap) (I : PySem.W.InstAt s.heap x ox C od) (J : PySem.W.InstAt s.heap y oy C od') (hs : PySem.W.findIn K (.ref C) "__eq__" = some (some (.builtin "object.__eq__"))) (hsub : PySem.W.subIn K (.ref C) (.type "object") = some true)
    (h : Q (.bool (decide (x = y))) s) : wpAny (model prog w) A (compareOp .Eq (.ref x) (.ref y)) Q E s := by
  show wpAny _ _ (richCompare .Eq (.ref x) (.ref y)) _ _ _
  unfold richCompare
  simp only [oneThing_ref, cmpInfo_Eq]
  refine wpAny_holding (wpAny_bind (wpAny_cRoomFor hu ?_))
  refine wpAny_bind (I.type.here (wpAny_bind (J.type.here ?_)))
  rw [if_neg (by simp)]
  refine wpAny_bind (wpAny_pure ?_)
  simp only [Bool.false_eq_true, if_false]
  refine wpAny_bind (try_eq X I J hs hsub ?_)
  by_cases hxy : x = y
  · rw [if_pos hxy]
    subst hxy
    exact wpAny_pure (by simpa using h)
  · rw [if_neg hxy]
    have hyx : ¬ y = x := fun z => hxy z.symm
    simp only [Bool.not_false, if_true]
    refine wpAny_bind (try_eq X J I hs hsub ?_)
    rw [if_neg hyx]
    refine wpAny_bind (wpAny_rule ?_)
    refine wpAny_bind (wpAny_isSame_ref_other hxy I.at_ J.at_ (by rw [I.cls]; intro z; cases z) ?_)
    exact wpAny_pure (by simpa [hxy] using h)
end

/-! ### the same over the layer; powers; texts -/
section
variable {X : Cx}
/-- the class has no == of its own -/
structure NoEq (K : PySem.W.Frag) (C : Addr) : Prop where
  eq : PySem.W.findIn K (.ref C) "__eq__" = some (some (.builtin "object.__eq__"))
  sub : PySem.W.subIn K (.ref C) (.type "object") = some true
theorem op_eqId {C : Addr} (hu : X.A.units < cLine) (n : NoEq X.K C) : OpR X (compareOp .Eq) (fun x y H Q => ∃ a b dx dy fs gs, x = .ref a ∧ y = .ref b ∧ H a = some (.ins C dx fs) ∧ H b = some (.ins C dy gs) ∧ Q (.bl (decide (a = b))) H) := by
  intro pins s σ H x y v u Q I rx ry h
  obtain ⟨a, b, dx, dy, fs, gs, rfl, rfl, ha, hb, q⟩ := h
  obtain rfl : v = Value.ref a := rx
  obtain rfl : u = Value.ref b := ry
  obtain ⟨mA, O, _⟩ := ins_get I.hok ha
  obtain ⟨od, J, _⟩ := O.look
  obtain ⟨mB, O', _⟩ := ins_get I.hok hb
  obtain ⟨od', J', _⟩ := O'.look
  exact eq_id hu I.kIn J J' n.eq n.sub ⟨.bl _, H, I, rfl, q⟩
/-- a power of a great number -/
def CPowW (i j : Int) : Prop := 0 ≤ j ∧ (Builtin.Int.intBits i : Int) * j ≤ 2 ^ 27
theorem op_powW : OpR X (binaryOp .Pow) (rI CPowW fun i j => .int (i ^ j.toNat)) := opI fun _ _ _ _ _ _ _ hc q => pow_int hc.1 hc.2 q
theorem bits_le {i : Int} {b : Nat} (h : i.natAbs < 2 ^ b) (h0 : 0 < b) : Builtin.Int.intBits i ≤ b := by
  have x := PySem.Flt.log2_lt_of h0 h
  unfold Builtin.Int.intBits
  split <;> omega
theorem op_le_str : OpR X (compareOp .LtE) (fun x y H Q => ∃ i j, x = .str i ∧ y = .str j ∧ Q (.bl (!decide (j.cps.toList < i.cps.toList))) H) := by
  intro pins s σ H x y v u Q I rx ry h
  obtain ⟨i, j, rfl, rfl, q⟩ := h
  obtain ⟨t, rfl⟩ := rx
  obtain ⟨t', rfl⟩ := ry
  exact PySem.P.le_str ⟨.bl _, H, I, rfl, q⟩
end
/-! ### C(*xs) -/
def tMakeS (X : Cx) (C : Addr) (sp : Sp) (E : XK) (tc te : TE) : TE := fun σ H Q => tc σ H fun c H0 => c = .ref C ∧ te σ H0 fun y H1 => ∃ a xs, y = V.ref a ∧ (SqT X.K H1 a xs ∨ SqL X.K H1 a xs) ∧
  ∀ x dx, H1 x = none → H1 dx = none → dx ≠ x → sp (V.ref x :: xs) (upd (upd H1 dx (.own x)) x (.ins C dx [])) (fun v H2 => v = .non ∧ Q (.ref x) H2) E
section
variable {X : Cx} {CX : CXT} {k : Nat} {f C : Addr} {sp : Sp} {E : XK} {x : Str} {e : Expr} {tc te : TE} {p pos sp_ : Pos}
/-- c(*xs), c a name whose value is the class -/
theorem pe_makeS (M : Mk X.K C f) (F : FnR X.prog X.w X.K X.mg X.base CX k f sp) (hr : Room (k + 1) X.A) (hx : Passes CX X E) (hn : PE X (.Name x p) tc) (he : PE X e te)
    (hst : starEach [.Starred e sp_] X.env = [(true, eval e X.env)] := by rfl) : PE X (.Call (.Name x p) [.Starred e sp_] [] pos) (tMakeS X C sp E tc te) := by
  refine ⟨fun pins s σ H Q I h => ?_⟩
  refine wpAny_Call_Name_kw (thn (hn.run pins s σ H _ I h) fun c s0 ⟨cv, H0, I0, rc, ec, h⟩ => ?_)
  subst ec
  obtain rfl : c = Value.ref C := rc
  refine PySem.W.callWith_S (h₀ := X.base) I0.ok.mod.kin M.kp (thn (he.run pins s0 σ H0 _ I0 h) fun v s1 ⟨y, H1, I1, ry, a, xs, ey, hxs, q⟩ => ?_) hst
  subst ey
  obtain rfl : v = Value.ref a := ry
  exact StX.star_any I1 hxs fun us s2 I2 rv => ⟨I2.kIn, StX.run_makeR M F hr hx I2 rv q⟩
end
end Ov

set_option Elab.async false
set_option linter.all false
set_option maxRecDepth 100000
set_option maxHeartbeats 4000000
/-! len(set(xs)), xs a tuple of any number of texts (below 4000) -/
namespace Ov
open PySem PySem.Spec PyProof.Rows L2
/-- the texts without those that were there before -/
def addS (z : List Str) (v : Str) : List Str := if z.any (· == v) = true then z else z ++ [v]
def once (xs : List Str) : List Str := xs.foldl addS []
theorem addS_len (z : List Str) (v : Str) : (addS z v).length = if z.any (· == v) = true then z.length else z.length + 1 := by
  unfold addS; split <;> simp
theorem addS_any (z : List Str) (v k : Str) : (addS z v).any (· == k) = (z.any (· == k) || decide (k = v)) := by
  unfold addS
  by_cases h : z.any (· == v) = true
  · rw [if_pos h]
    by_cases e : k = v
    · subst e; rw [h]; simp
    · simp [e]
  · rw [if_neg h, List.any_append]
    by_cases e : k = v
    · subst e; simp
    · have hb : (v == k) = false := by simpa [beq_iff_eq] using (fun h' : v = k => e h'.symm)
      simp [hb, e]
theorem once_take {xs : List Str} {i : Nat} (h : i < xs.length) : once (xs.take (i + 1)) = addS (once (xs.take i)) (xs.getD i Str.empty) := by
  unfold once
  rw [List.take_succ, List.foldl_append, List.getElem?_eq_getElem h]
  simp [List.getD, List.getElem?_eq_getElem h]
theorem once_le (xs : List Str) : (once xs).length ≤ xs.length := by
  have key : ∀ (l z : List Str), (l.foldl addS z).length ≤ z.length + l.length := by
    intro l
    induction l with
    | nil => intro z; simp
    | cons a l ih =>
      intro z
      rw [List.foldl_cons, List.length_cons]
      refine Nat.le_trans (ih _) ?_
      rw [addS_len]
      split <;> omega
  have := key xs []
  simpa [once] using this
/-- as many as there are, exactly if no two are alike -/
theorem once_nodup (xs : List Str) : (once xs).length = xs.length ↔ xs.Nodup := by
  have key : ∀ (l z : List Str), ((l.foldl addS z).length = z.length + l.length ↔ (l.Nodup ∧ ∀ a ∈ l, ¬ z.any (· == a) = true)) := by
    intro l
    induction l with
    | nil => intro z; simp
    | cons a l ih =>
      intro z
      rw [List.foldl_cons, List.length_cons, List.nodup_cons]
      have bound : ∀ (l z : List Str), (l.foldl addS z).length ≤ z.length + l.length := by
        intro l
        induction l with
        | nil => intro z; simp
        | cons a l ih =>
          intro z
          rw [List.foldl_cons, List.length_cons]
          refine Nat.le_trans (ih _) ?_
          rw [addS_len]
          split <;> omega
      by_cases h : z.any (· == a) = true
      · have e : addS z a = z := if_pos h
        rw [e]
        have := bound l z
        constructor
        · intro q; omega
        · rintro ⟨_, q⟩; exact absurd h (q a List.mem_cons_self)
      · have e : addS z a = z ++ [a] := if_neg h
        rw [e]
        have ih' := ih (z ++ [a])
        rw [List.length_append, List.length_singleton] at ih'
        rw [show z.length + (l.length + 1) = z.length + 1 + l.length by omega, ih']
        constructor
        · rintro ⟨h1, h2⟩
          refine ⟨⟨fun hm => ?_, h1⟩, fun b hb => ?_⟩
          · have := h2 a hm
            rw [List.any_append] at this
            simp at this
          · rcases List.mem_cons.mp hb with e | hb
            · rw [e]; exact h
            · have := h2 b hb
              rw [List.any_append] at this
              intro q
              rw [q] at this
              simp at this
        · rintro ⟨⟨h1, h2⟩, h3⟩
          refine ⟨h2, fun b hb => ?_⟩
          rw [List.any_append]
          have q := h3 b (List.mem_cons_of_mem _ hb)
          have nb : (a == b) = false := by
            rw [beq_eq_false_iff_ne]
            intro e
            exact h1 (e ▸ hb)
          simp only [Bool.not_eq_true] at q ⊢
          rw [q]
          simp [nb]
  have := key xs []
  simpa [once] using this

section
variable {prog : Program} {w : World} {A : Around} {R : Result → Shared → Prop} {I : Addr} {fp wr : List Addr} {G : Array GenState → Array GenState → Prop} {n : Nat} {P : Nat → Value → Prop} {St : Nat → Shared → Prop}
theorem set_loop (W : WalksS prog w A.in1 I fp wr G n P St) (S : Addr) (hSf : S ∉ fp) (xs : List Str) (hsz : xs.length = n) (hn : n + 1 < scanBound)
    (hval : ∀ i v, P i v → ∃ t, v = .str (xs.getD i Str.empty) t) :
    ∀ (k i : Nat) (s : Shared), n - i = k → i ≤ n → St i s →
      s.heap.SetOf (PySem.strKind prog w) S (fun k' => (once (xs.take i)).any (· == k')) (once (xs.take i)).length →
      (∀ s', Moved (S :: wr) G s s' → s'.heap.SetOf (PySem.strKind prog w) S (fun k' => (once xs).any (· == k')) (once xs).length → R (.ok (.ret .none)) s') →
      codeAny (model prog w) A (.builtin "set.update.loop" ⟨[.ref S, .ref I], []⟩) R s := by
  have hSw : S ∉ wr := fun h => hSf (W.sub _ h)
  have hsub : ∀ b ∈ wr, b ∈ S :: wr := fun b hb => List.mem_cons_of_mem _ hb
  intro k
  induction k with
  | zero =>
    intro i s hk hi hst hS hR
    have hin : i = n := by omega
    subst hin
    refine codeAny_builtin PyProof.Rows.F.entry_set_update_loop ?_
    rw [Around.under_plainId PyProof.Rows.F.plain_set_update_loop _]
    show wpAny _ A.in1 (pyNext (.ref I) >>= _) _ _ s
    refine wpAny_bind (W.done s _ _ hst fun s' hm => ?_)
    show wpAny _ A.in1 (ret Value.none) _ _ s'
    rw [← hsz, List.take_length] at hS
    exact wpAny_pure (hR s' (hm.mono hsub) (by
      obtain ⟨o, es, ep, t, ho, rest⟩ := hS
      exact ⟨o, es, ep, t, hm.heap S _ hSw ho, rest⟩))
  | succ k ih =>
    intro i s hk hi hst hS hR
    have hlt : i < n := by omega
    refine codeAny_builtin PyProof.Rows.F.entry_set_update_loop ?_
    rw [Around.under_plainId PyProof.Rows.F.plain_set_update_loop _]
    show wpAny _ A.in1 (pyNext (.ref I) >>= _) _ _ s
    refine wpAny_bind (W.item i s _ _ hlt hst fun v s' hP hst' hm => ?_)
    obtain ⟨t, rfl⟩ := hval i v hP
    have hS' : s'.heap.SetOf (PySem.strKind prog w) S (fun k' => (once (xs.take i)).any (· == k')) (once (xs.take i)).length := by
      obtain ⟨o, es, ep, tb, ho, rest⟩ := hS
      exact ⟨o, es, ep, tb, hm.heap S _ hSw ho, rest⟩
    have hle : (once (xs.take i)).length ≤ i := Nat.le_trans (once_le _) (by rw [List.length_take]; omega)
    show wpAny _ A.in1 (holding [Value.str (xs.getD i Str.empty) t] (setAdd S (.str (xs.getD i Str.empty) t)) >>= _) _ _ s'
    refine wpAny_bind (wpAny_holding ?_)
    unfold setAdd
    refine wpAny_holding ?_
    refine wpAny_bind ((PySem.strKind prog w).pyHash (k := xs.getD i Str.empty) (strKind_is _ _ _ _) ?_)
    refine wpAny_setAddHashed_of (knd := PySem.strKind prog w) (s := { s' with toks := s'.toks + 1 }) (strKind_is _ _ _ _) rfl hS' (by omega) fun h' hsb hS2 => ?_
    have hSi : h'.SetOf (PySem.strKind prog w) S (fun k' => (once (xs.take (i + 1))).any (· == k')) (once (xs.take (i + 1))).length := by
      rw [once_take (by omega)]
      exact SetOf_congr hS2 (fun k' => by rw [addS_any]) (by rw [addS_len])
    refine wpAny_pure ⟨plainId_quiet PyProof.Rows.F.plain_set_update_loop _, ih (i + 1) _ (by omega) hlt (W.frame _ s' _ _ hst' (Nat.le_succ _) fun b hb o e => ?_) hSi fun s'' hm'' hS'' => ?_⟩
    · rw [hsb.2 b (fun h : b = S => hSf (by rw [← h]; exact hb))]; exact e
    · refine hR s'' (Moved.trans W.gtrans ((hm.mono hsub).then_heap (Nat.le_succ _) fun b o hb e => ?_) hm'') hS''
      rw [hsb.2 b (fun h : b = S => hb (by rw [h]; exact List.mem_cons_self))]; exact e
end
section
variable {prog : Program} {w : World} {A : Around} {E : Value → Shared → Prop} {s : Shared}
theorem set_of_tuple {l : Addr} {items : Array Value} {xs : List Str} {Q : Value → Shared → Prop}
    (hh : A.handled = none) (hl : s.heap.IsTuple l items) (hi : PyProof.Rows.StrsAre items.toList xs) (hn1 : xs.length + 1 < scanBound)
    (h : ∀ (h' : Heap) (tk : Nat), h'.SetOf (PySem.strKind prog w) s.heap.objs.size (fun k' => (once xs).any (· == k')) (once xs).length →
      (∀ b o, b < s.heap.objs.size → s.heap.get? b = some o → h'.get? b = some o) → Q (.ref s.heap.objs.size) { s with heap := h', toks := tk }) :
    wpAny (model prog w) A (call (.type "set") [.ref l]) Q E s := by
  obtain ⟨c, tl, hmro⟩ := PySem.F.called_set.mro
  have hmade := PySem.F.called_set.made
  have hsub := PySem.F.called_set.sub
  have h1 := PySem.F.called_set.notType
  have h2 := PySem.F.called_set.canCreate
  have hct := PySem.F.typeCall_set_1 (.ref l)
  refine wpAny_call (codeAny_of_tree ?_)
  show wpAny _ _ (callAny (.type "set") _) _ _ _
  refine wpAny_pure ⟨Code.quiet_builtin _ (by decide +kernel), codeAny_builtin PySem.F.entry_type_call ?_⟩
  rw [Around.under_plain (weight_type_call_type "set" [.ref l] []) rfl]
  repeat (any_goals (first | assumption | wp_step))
  refine codeAny_mono (code_set_new_1 (.ref l) (E := E) (Q₁ := fun obj s₁ => ∃ led : Bool, obj = .ref s.heap.objs.size ∧ s₁ = { s with heap := s.heap.push { cls := .type "set", dict := none, data := .set #[] 0 (.fresh 0 0 led) } }) fun led => ⟨led, rfl, rfl⟩) fun r s₁ hr => ?_
  cases r with
  | error e => exact hr
  | ok fl =>
    cases fl with
    | ret obj =>
      obtain ⟨led, rfl, rfl⟩ := hr
      have hS : (s.heap.push { cls := .type "set", dict := none, data := .set #[] 0 (.fresh 0 0 led) }).get? s.heap.objs.size = some { cls := .type "set", dict := none, data := .set #[] 0 (.fresh 0 0 led) } := Heap.get?_push_size _ rfl
      have hT : Shared.TypeIs { s with heap := s.heap.push { cls := .type "set", dict := none, data := .set #[] 0 (.fresh 0 0 led) } } (.ref s.heap.objs.size) "set" := ⟨_, hS, rfl⟩
      have hli := PySem.F.called_set.init.lookup
      have hbi := PySem.F.called_set.init.bind (.ref s.heap.objs.size)
      repeat (any_goals (first | assumption | wp_step))
      refine codeAny_mono (codeAny_call_builtin (R := wants (fun r s₂ => r = .none ∧ ∃ h' tk, s₂ = { s with heap := h', toks := tk } ∧
          h'.SetOf (PySem.strKind prog w) s.heap.objs.size (fun k' => (once xs).any (· == k')) (once xs).length ∧
          (∀ b o, b < s.heap.objs.size → s.heap.get? b = some o → h'.get? b = some o)) E) PySem.F.called_set.init.plain PySem.F.entry_set_init (check_set_init_1 hT ?_)) fun r₂ s₂ hr₂ => ?_
      · obtain ⟨ol, hol, hcl, nl, hdl⟩ := hl
        obtain ⟨ocls, odict, odata, oslots⟩ := ol
        simp only at hcl hdl
        subst hcl; subst hdl
        have hol' : (s.heap.push { cls := .type "set", dict := none, data := .set #[] 0 (.fresh 0 0 led) }).get? l = some { cls := .type "tuple", dict := odict, data := .seq items nl, slots := oslots } := Heap.get?_push_of_some _ hol
        have hsls := PySem.F.sub_tuple_set
        have hslf := PySem.F.sub_tuple_frozenset
        have hne : (Value.type "tuple" == Value.type "dict") = false := by decide
        have hl1 : (s.heap.push { cls := .type "set", dict := none, data := .set #[] 0 (.fresh 0 0 led) }).IsTuple l items := ⟨_, hol', rfl, nl, rfl⟩
        unfold Builtin.«set.__init__» noKeywords Builtin.Frozenset.updateFrom
        generalize hPI : pyIter = PI
        wp_walk
        subst hPI
        refine wpAny_pyIter_tuple hl1 ?_
        refine wpAny_bind (wpAny_runValue ?_)
        have hlS : l < s.heap.objs.size := Heap.lt_size hol
        have hh3 : A.in1.in1.in1.handled = none := by simp [hh]
        have hneI : l ≠ (s.heap.push { cls := .type "set", dict := none, data := .set #[] 0 (.fresh 0 0 led) }).objs.size := by
          rw [Heap.size_push]; exact Nat.ne_of_lt (Nat.lt_succ_of_lt hlS)
        have hSf : s.heap.objs.size ∉ [(s.heap.push { cls := .type "set", dict := none, data := .set #[] 0 (.fresh 0 0 led) }).objs.size, l] := by
          rw [Heap.size_push]; simp only [List.mem_cons, List.mem_singleton, List.not_mem_nil, or_false, not_or]
          exact ⟨Nat.ne_of_lt (Nat.lt_succ_self _), Nat.ne_of_gt hlS⟩
        have hsz : xs.length = items.size := by rw [← StrsAre.len_eq hi, Array.length_toList]
        have hval : ∀ (i : Nat) (v : Value), items[i]? = some v → ∃ t, v = .str (xs.getD i Str.empty) t := fun i v hv => SS.strs_at hi i v (by rw [Array.getElem?_toList]; exact hv)
        refine set_loop ((Walks.tuple hh3 _ l hneI items).toS) s.heap.objs.size
          hSf xs hsz (by rw [← hsz]; exact hn1) hval (items.size - 0) 0 _ (by omega) (Nat.zero_le _)
          ⟨⟨_, Heap.get?_push_size _ rfl, rfl, rfl⟩, (hl1.push _)⟩ ?hS0 ?hR
        case hS0 =>
          have hget : ((s.heap.push { cls := .type "set", dict := none, data := .set #[] 0 (.fresh 0 0 led) }).push { cls := .type "tuple_iterator", data := .fields #[.ref l, .int 0 0] }).get? s.heap.objs.size
              = some { cls := .type "set", dict := none, data := .set #[] 0 (.fresh 0 0 led) } := Heap.get?_push_of_some _ hS
          exact PyProof.Rows.SetOf_congr ((PyProof.Rows.setObjOf_fresh (knd := PySem.strKind prog w) led).setOf hget (by unfold scanBound; omega)) (fun _ => rfl) rfl
        case hR =>
          intro s' hm hS'
          obtain ⟨h', g', d', tk', os'⟩ := s'
          have eg : g' = s.gens := hm.gens
          have ed : d' = s.drawn := hm.drawn
          have eo : os' = s.os := hm.os
          subst eg; subst ed; subst eo
          show wpAny _ _ _ _ _ _
          refine wpAny_pure ?_
          show wpAny _ _ (ret Value.none) _ _ _
          refine wpAny_pure ⟨rfl, h', tk', rfl, hS', fun b o hb e => ?_⟩
          have hb1 : b ≠ s.heap.objs.size := Nat.ne_of_lt hb
          have hb2 : b ≠ (s.heap.push { cls := .type "set", dict := none, data := .set #[] 0 (.fresh 0 0 led) }).objs.size := by
            rw [Heap.size_push]; exact Nat.ne_of_lt (Nat.lt_succ_of_lt hb)
          exact hm.heap b o (by simp only [List.mem_cons, List.mem_singleton, List.not_mem_nil, or_false, not_or]; exact ⟨hb1, hb2⟩) (Heap.get?_push_of_some _ (Heap.get?_push_of_some _ e))
      · cases r₂ with
        | error e => exact hr₂
        | ok fl₂ =>
          cases fl₂ with
          | ret r =>
            obtain ⟨rfl, h', tk, rfl, hS', hk'⟩ := hr₂
            repeat (any_goals (first | assumption | wp_step))
            exact h _ _ hS' hk'
          | _ => exact hr₂.elim
    | _ => exact hr.elim
end
/-- len(set(xs)), xs a tuple of texts -/
def tLenOnce (K : PySem.W.Frag) (ta : TE) : TE := fun σ H Q => ta σ H fun x H1 => ∃ (l : Addr) (xs : List Str), x = .ref l ∧ SqT K H1 l (xs.map V.str) ∧ xs.length ≤ 4000 ∧ Q (.int ((once xs).length : Nat)) H1
theorem pe_lenOnce {X : Cx} {a : Expr} {ta : TE} {p p2 q pos : Pos} (hc : X.calm = true) (hg : Gl X "len") (hm : X.mg "len" = none) (hg2 : Gl X "set") (hm2 : X.mg "set" = none) (ha : PE X a ta)
    (na : starEach [a] X.env = (false, eval a X.env) :: starEach [] X.env := by rfl) : PE X (.Call (.Name "len" p) [.Call (.Name "set" p2) [a] [] q] [] pos) (tLenOnce X.K ta) := by
  refine ⟨fun pins s σ H Q I h => ?_⟩
  refine Call_ (ld_blt I hg hm boot_len ?_)
  refine PyProof.Rows.callWith_builtin1 (PyProof.Rows.args_cons ?_ rfl) rfl rfl
  refine Call_ (ld_blt I hg2 hm2 boot_set ?_)
  refine PyProof.Rows.callWith_type1 (PyProof.Rows.args_cons (thn (ha.run pins s σ H _ I h) fun v s1 ⟨x, H1, I1, r1, q1⟩ => PyProof.Rows.args_nil ?_) na) na rfl
  obtain ⟨l, xs, rfl, hq, h1, q1⟩ := q1
  cases r1
  obtain ⟨its, r, pl, hz⟩ := I1.tuple hq
  refine set_of_tuple (I1.ok.hd hc) pl (by simpa using strsAre_of r) (by unfold scanBound; omega) fun h' tk hS hk => ?_
  refine PyProof.Rows.args_nil ?_
  have hle := once_le xs
  obtain ⟨o, es, ep, t, ho, hex, hd, _, _, _, hf, hn⟩ := hS
  have I2 : Inv X pins σ H1 { s1 with heap := h', toks := tk } := I1.kept fun b o e => hk b o (Heap.lt_size e) e
  exact call_len_set ho hex hd hf (by rw [hn] <;> omega) ⟨.int (once xs).length, H1, I2.tok _, ⟨_, by rw [hn]⟩, q1⟩
end Ov

set_option Elab.async false
set_option linter.all false
set_option maxRecDepth 100000
set_option maxHeartbeats 4000000
namespace Ov
open PySem PySem.Spec PyProof.Rows L2 GxR
/-! ### all, by its items -/
theorem all_str {x : Str} {te : TE} {cp : L2.St} {Q : VK} {H2 : Hp} (f : Nat → Bool) (he : ∀ c, ∀ R : VK, R (.bl (f c)) H2 → te (some (.str ⟨#[c]⟩) :: cp) H2 R) (q : Q (.bl (x.cps.toList.all f)) H2) :
    ∃ W : Nat → Nat → Hp → Prop, (∃ m, W 0 m H2) ∧ turnAll (Its x) te W cp Q := by
  refine ⟨fun i m H => H = H2 ∧ m = x.cps.size - i ∧ i ≤ x.cps.size ∧ (x.cps.toList.take i).all f = true, ⟨x.cps.size, rfl, by simp, Nat.zero_le _, rfl⟩, ?_⟩
  rintro i m H ⟨rfl, rfl, hi, ha⟩
  by_cases hlt : i < x.cps.size
  · refine .inr ⟨hlt, fun v H' hy => ?_⟩
    obtain ⟨rfl, c, hc, rfl⟩ := hy
    refine he c _ ⟨f c, rfl, ?_⟩
    have hcl : x.cps.toList[i]? = some c := by rw [Array.getElem?_toList]; exact hc
    cases hf : f c with
    | true =>
      refine iteT ⟨x.cps.size - (i + 1), by omega, rfl, rfl, hlt, ?_⟩
      rw [List.take_succ, hcl, List.all_append, ha]
      simp [hf]
    | false =>
      refine iteF ?_
      have e : x.cps.toList.all f = false := by
        rw [List.all_eq_false]
        exact ⟨c, List.mem_of_getElem? hcl, by simp [hf]⟩
      rw [← e]; exact q
  · have e : i = x.cps.size := by omega
    subst e
    refine .inl ⟨Nat.le_refl _, ?_⟩
    have e2 : x.cps.toList.take x.cps.size = x.cps.toList := by rw [List.take_of_length_le (by simp)]
    rw [e2] at ha
    rw [ha] at q
    exact q
theorem all_tup {K : PySem.W.Frag} {a : Addr} {xs : List V} {te : TE} {cp : L2.St} {Q : VK} {H2 : Hp} (f : V → Bool) (Pv : Hp → Prop) (h0 : Pv H2) (hs : ∀ H, Pv H → SqT K H a xs)
    (he : ∀ x ∈ xs, ∀ H, Pv H → ∀ R : VK, (∀ H', Pv H' → R (.bl (f x)) H') → te (some x :: cp) H R) (q : ∀ H, Pv H → Q (.bl (xs.all f)) H) :
    ∃ W : Nat → Nat → Hp → Prop, (∃ m, W 0 m H2) ∧ turnAll (Itt K a) te W cp Q := by
  refine ⟨fun i m H => Pv H ∧ m = xs.length - i ∧ i ≤ xs.length ∧ (xs.take i).all f = true, ⟨xs.length, h0, by simp, Nat.zero_le _, rfl⟩, ?_⟩
  rintro i m H ⟨hp, rfl, hi, ha⟩
  by_cases hlt : i < xs.length
  · refine .inr ⟨⟨xs, xs[i], hs H hp, List.getElem?_eq_getElem hlt⟩, fun v H' hy => ?_⟩
    obtain ⟨rfl, hy⟩ := hy
    have hv := hy xs (hs _ hp)
    refine he v (List.mem_of_getElem? hv) _ hp _ fun H'' hp'' => ⟨f v, rfl, ?_⟩
    cases hf : f v with
    | true =>
      refine iteT ⟨xs.length - (i + 1), by omega, hp'', rfl, hlt, ?_⟩
      rw [List.take_succ, hv, List.all_append, ha]
      simp [hf]
    | false =>
      refine iteF ?_
      have e : xs.all f = false := by
        rw [List.all_eq_false]
        exact ⟨v, List.mem_of_getElem? hv, by simp [hf]⟩
      rw [← e]; exact q _ hp''
  · have e : i = xs.length := by omega
    subst e
    refine .inl ⟨⟨xs, hs _ hp, Nat.le_refl _⟩, ?_⟩
    rw [List.take_length] at ha
    rw [← ha]
    exact q _ hp
/-! ### a def whose code object is known -/
structure FunC (K : PySem.W.Frag) (x qual : Str) (st : Stmt) (f : Addr) (fd : FuncData) (c : Addr) : Prop where
  ex : ∃ (oc : Value) (od : Option Addr) (kV doc pm : Value) (an : Option Addr) (ct : Value) (osl : Array (Option Value)),
    fd = PySem.W.fnOf x qual (defArgs st) (defBody st) (defScope st) .none kV doc pm an (.ref c) ct ∧ K.lookup f = some ⟨oc, od, .func fd, osl⟩ ∧ PySem.W.codeIn K (.ref c) qual = true
  kp : PySem.W.keepIn K (.ref f) = true
section
variable {P : Program} {w : World} {K : PySem.W.Frag} {mg : Str → Option Value} {base : Heap}
theorem FunC.ok {x qual : Str} {st : Stmt} {f c : Addr} {fd : FuncData} {N ps : List Str} {k : Nat} {sp : Sp} (F : FunC K x qual st f fd c) (S : FnScope N ps (defScope st)) (len : ∀ vs H Q E, sp vs H Q E → vs.length = ps.length)
    (hbody : ∀ (A : Around) (outer : List Env) (s : Shared) (H : Hp) (vs : List V) (Q : VK) (E : XK), Room k (A.deeper (envOfC qual (defScope st) s.heap.objs.size f (.ref c))) → sp vs H Q E →
      ∃ t, PSs (cxOf CX0 P w K mg base N qual (defScope st) f (.ref c) A outer s H E).nox (defBody st) t ∧ t { nx := fun _ H' => Q .non H', rt := Q } (start N vs) H) : FnOk P w K mg base CX0 (k + 1) f fd ps sp := by
  obtain ⟨oc, od, kV, doc, pm, an, ct, osl, rfl, lk, hcd⟩ := F.ex
  refine fn_of lk hcd S len fun A outer s H vs Q E hr hsp => ?_
  obtain ⟨t, h, q⟩ := hbody A outer s H vs Q E hr hsp
  exact ⟨t, h.nox, q⟩
theorem FunC.toFun {x qual : Str} {st : Stmt} {f c : Addr} {fd : FuncData} (F : FunC K x qual st f fd c) : Fun K x qual st f fd := by
  obtain ⟨oc, od, kV, doc, pm, an, ct, osl, e, lk, hcd⟩ := F.ex
  exact ⟨⟨oc, od, kV, doc, pm, an, _, ct, osl, e, lk, hcd⟩, F.kp⟩
theorem funC_mk {x qual : Str} {st : Stmt} {f c : Addr} {oc : Value} {od an : Option Addr} {osl : Array (Option Value)} {kV doc pm ct : Value} (l : K.lookup f = some ⟨oc, od, .func (PySem.W.fnOf x qual (defArgs st) (defBody st) (defScope st) .none kV doc pm an (.ref c) ct), osl⟩)
    (hc : PySem.W.codeIn K (.ref c) qual = true) (k : PySem.W.keepIn K (.ref f) = true) : FunC K x qual st f (PySem.W.fnOf x qual (defArgs st) (defBody st) (defScope st) .none kV doc pm an (.ref c) ct) c := ⟨⟨oc, od, kV, doc, pm, an, ct, osl, rfl, l, hc⟩, k⟩
end
/-! ### heaps that differ in the tables of the defs alone -/
/-- the tables at T may grow; nothing else has changed -/
def Tbs (T : List Addr) (H H' : Hp) : Prop := (∀ P ∈ T, TabG H' P) ∧ ∀ b, b ∉ T → H' b = H b
/-- .. what stood stands -/
def Kep (T : List Addr) (H H' : Hp) : Prop := (∀ P ∈ T, TabG H' P) ∧ ∀ b o, b ∉ T → H b = some o → H' b = some o
theorem Tbs.refl {T : List Addr} {H : Hp} (h : ∀ P ∈ T, TabG H P) : Tbs T H H := ⟨h, fun _ _ => rfl⟩
theorem Tbs.trans {T : List Addr} {H H1 H2 : Hp} (a : Tbs T H H1) (b : Tbs T H1 H2) : Tbs T H H2 := ⟨b.1, fun c hc => (b.2 c hc).trans (a.2 c hc)⟩
theorem Tbs.kep {T : List Addr} {H H' : Hp} (a : Tbs T H H') : Kep T H H' := ⟨a.1, fun b o hb e => (a.2 b hb).trans e⟩
theorem Kep.refl {T : List Addr} {H : Hp} (h : ∀ P ∈ T, TabG H P) : Kep T H H := ⟨h, fun _ _ _ e => e⟩
theorem Kep.trans {T : List Addr} {H H1 H2 : Hp} (a : Kep T H H1) (b : Kep T H1 H2) : Kep T H H2 := ⟨b.1, fun c o hc e => b.2 c o hc (a.2 c o hc e)⟩
theorem Tbs.of1 {T : List Addr} {H H' : Hp} {P : Addr} (h : ∀ p ∈ T, TabG H p) (hP : P ∈ T) (t : Tabbed P H H') : Tbs T H H' := by
  refine ⟨fun p hp => ?_, fun b hb => t.2 b fun z => hb (by rw [z]; exact hP)⟩
  by_cases e : p = P
  · rw [e]; exact t.1
  · obtain ⟨ps, h1, h2⟩ := h p hp
    exact ⟨ps, (t.2 p e).trans h1, h2⟩
/-- a tracked thing of another kind is no table -/
theorem not_tab {T : List Addr} {H : Hp} {b : Addr} {o : HO} (h : ∀ p ∈ T, TabG H p) (e : H b = some o) (n : ∀ ps, o ≠ .tbl ps) : b ∉ T := fun z => by
  obtain ⟨ps, h1, _⟩ := h b z
  rw [e] at h1
  exact n ps (Option.some.inj h1)
theorem free_tab {T : List Addr} {H : Hp} {b : Addr} (h : ∀ p ∈ T, TabG H p) (e : H b = none) : b ∉ T := fun z => by
  obtain ⟨ps, h1, _⟩ := h b z
  rw [e] at h1
  cases h1
theorem Kep.at {T : List Addr} {H H' : Hp} {b : Addr} {o : HO} (a : Kep T H H') (h : ∀ p ∈ T, TabG H p) (e : H b = some o) (n : ∀ ps, o ≠ .tbl ps) : H' b = some o := a.2 b o (not_tab h e n) e
/-- a new thing -/
theorem Kep.new {T : List Addr} {H : Hp} {p : Addr} {o : HO} (h : ∀ q ∈ T, TabG H q) (e : H p = none) : Kep T H (upd H p o) := by
  refine ⟨fun q hq => ?_, fun b u _ hb => ?_⟩
  · obtain ⟨ps, h1, h2⟩ := h q hq
    exact ⟨ps, (upd_ne (ne_of_none h1 e)).trans h1, h2⟩
  · exact (upd_ne (ne_of_none hb e)).trans hb
/-- a list that was not there at H may be written -/
theorem Kep.put {T : List Addr} {H H1 : Hp} {p : Addr} {o : HO} (a : Kep T H H1) (e : H p = none) (n : p ∉ T) : Kep T H (upd H1 p o) := by
  refine ⟨fun q hq => ?_, fun b u hb hu => ?_⟩
  · obtain ⟨ps, h1, h2⟩ := a.1 q hq
    exact ⟨ps, (upd_ne (fun z => n (by rw [← z]; exact hq))).trans h1, h2⟩
  · exact (upd_ne (ne_of_none hu e)).trans (a.2 b u hb hu)
theorem Kep.seqL {T : List Addr} {K : PySem.W.Frag} {H H' : Hp} {a : Addr} {xs : List V} (k : Kep T H H') (h : ∀ p ∈ T, TabG H p) (e : SqL K H a xs) : SqL K H' a xs := by
  rcases e with (e | ⟨o, e⟩) | e
  · exact .inl (.inl (k.at h e fun _ z => by cases z))
  · exact .inl (.inr ⟨o, k.at h e fun _ z => by cases z⟩)
  · exact .inr e
theorem Kep.seqT {T : List Addr} {K : PySem.W.Frag} {H H' : Hp} {a : Addr} {xs : List V} (k : Kep T H H') (h : ∀ p ∈ T, TabG H p) (e : SqT K H a xs) : SqT K H' a xs := by
  rcases e with (e | ⟨o, e⟩) | e
  · exact .inl (.inl (k.at h e fun _ z => by cases z))
  · exact .inl (.inr ⟨o, k.at h e fun _ z => by cases z⟩)
  · exact .inr e
theorem Kep.free {T : List Addr} {H H' : Hp} {b : Addr} (k : Kep T H H') (h : ∀ p ∈ T, TabG H p) (e : H' b = none) : H b = none := by
  cases q : H b with
  | none => rfl
  | some o =>
    by_cases hb : b ∈ T
    · obtain ⟨ps, h1, _⟩ := k.1 b hb
      rw [h1] at e; cases e
    · rw [k.2 b o hb q] at e; cases e
end Ov
namespace Ov
open PySem PySem.Spec PyProof.Rows L2 GxR
theorem one_lt (a b : Nat) : ([a] < [b]) ↔ a < b := by
  rw [List.cons_lt_cons_iff]
  constructor
  · rintro (h | ⟨_, h⟩)
    · exact h
    · exact absurd h (by simp)
  · exact .inl
/-! ### a generator's names, by a check -/
def genC (N : List Str) (sc scope : Scope) (x : Str) (cs : List Str) (pick : List Nat) : Bool :=
  (scope.kind == .function) && (scope.isCoroutine == false) && (scope.names.all fun y => y.2 != .cell) && (scope.names.lookup (".0" : Str) == some NameKind.local) && (scope.names.lookup x == some NameKind.local) &&
  (scope.names.all fun y => y.2 != .free || (sc.names.lookup y.1 == some NameKind.cell)) && (scope.names.all fun y => scope.names.lookup y.1 == some y.2) && decide ((x :: cs).Nodup) && (cs.length == pick.length) &&
  ((cs.zip pick).all fun p => (scope.names.lookup p.1 == some NameKind.free) && (sc.names.lookup p.1 == some NameKind.cell) && (N[p.2]? == some p.1))
theorem genN_by {X : Cx} {N : List Str} {sc scope : Scope} {x : Str} {cs : List Str} {pick : List Nat} (hN : X.N = N) (hs : X.env.scope = sc) (hc : ∀ y, sc.names.lookup y = some .cell → ∃ c, X.env.cells.lookup y = some c) (h : genC N sc scope x cs pick = true) : GenN X scope x cs pick := by
  unfold genC at h
  simp only [Bool.and_eq_true, beq_iff_eq, decide_eq_true_eq] at h
  obtain ⟨⟨⟨⟨⟨⟨⟨⟨⟨h1, h2⟩, h3⟩, h4⟩, h5⟩, h6⟩, h7⟩, h8⟩, h9⟩, h10⟩ := h
  refine ⟨⟨h1, h2, fun y hy e => ?_, h4, h5, fun y hy e => ?_⟩, fun y hy => ?_, h8, h9, fun i y hi => ?_⟩
  · have := List.all_eq_true.mp h3 y hy
    rw [e] at this
    exact absurd this (by decide)
  · have := List.all_eq_true.mp h6 y hy
    rw [e] at this
    simp only [bne_self_eq_false, Bool.false_or, beq_iff_eq] at this
    exact hc y.1 this
  · exact beq_iff_eq.mp (List.all_eq_true.mp h7 y hy)
  · obtain ⟨j, hj⟩ : ∃ j, pick[i]? = some j := by
      have : i < pick.length := by rw [← h9]; exact (List.getElem?_eq_some_iff.mp hi).1
      exact ⟨_, List.getElem?_eq_getElem this⟩
    have hz : (cs.zip pick)[i]? = some (y, j) := by
      rw [List.getElem?_zip_eq_some]
      exact ⟨hi, hj⟩
    have := List.all_eq_true.mp h10 (y, j) (List.mem_of_getElem? hz)
    simp only [Bool.and_eq_true, beq_iff_eq] at this
    obtain ⟨⟨q1, q2⟩, q3⟩ := this
    exact ⟨q1, .inl (by rw [hs]; exact q2), j, hj, by rw [hN]; exact q3⟩
end Ov

set_option Elab.async false
set_option linter.all false
set_option maxRecDepth 100000
set_option maxHeartbeats 4000000
/-! lists of texts as data -/
namespace Ov
open PySem PySem.Spec PyProof.Rows L2 GxR
def lowB (z : Str) : Bool := z.cps.toList.all fun c => decide (97 ≤ c) && decide (c ≤ 122)
/-- a list of strings as data -/
def dStrs (ws : List Str) : PyData := .list (ws.map PyData.str)
theorem lay_strs : ∀ (ws : List Str), (∀ z ∈ ws, PyData.strOk z = true) → PyData.canLayAll0 (ws.map PyData.str) = true
  | [], _ => by rw [List.map_nil]; rfl
  | z :: r, h => by
    rw [List.map_cons]
    show (PyData.strOk z && PyData.canLayAll0 (r.map PyData.str)) = true
    rw [h z List.mem_cons_self, lay_strs r fun y hy => h y (List.mem_cons_of_mem _ hy)]; rfl
theorem depth_strs : ∀ (ws : List Str), PyData.depthAll (ws.map PyData.str) ≤ 1
  | [] => by rw [List.map_nil]; decide
  | z :: r => by
    rw [List.map_cons]
    have h := depth_strs r
    show max (PyData.depth (.str z)) (PyData.depthAll (r.map PyData.str)) ≤ 1
    have : PyData.depth (.str z) ≤ 1 := by simp [PyData.depth]
    omega
theorem shaped_strs {ws : List Str} (h : ∀ z ∈ ws, PyData.strOk z = true) : SeqAt.shaped (dStrs ws) = true := by
  unfold SeqAt.shaped
  have e : PyData.canLay0 (dStrs ws) = true := lay_strs ws h
  rw [e, Bool.true_and]
  refine decide_eq_true ?_
  have := depth_strs ws
  show PyData.depthAll (ws.map PyData.str) + 1 ≤ 64
  omega
theorem dp_strs {K : PySem.W.Frag} {H : Hp} : ∀ (ws : List Str), DpAll K H (ws.map V.str) (ws.map PyData.str)
  | [] => .nil
  | z :: r => .cons (.str z) (dp_strs r)
theorem low_ok {z : Str} (h : lowB z = true) : PyData.strOk z = true := by
  unfold lowB at h
  unfold PyData.strOk
  rw [Array.all_eq_true]
  intro i hi
  have h2 := List.all_eq_true.mp h z.cps[i] (by simp)
  simp only [Bool.and_eq_true, decide_eq_true_eq] at h2 ⊢
  omega
theorem eqv_nil (ws : List Str) : PyData.eqv (dStrs ws) (.list []) = ws.isEmpty := by
  cases ws with
  | nil => rfl
  | cons z r => rfl
theorem show_strs : ∀ ws : List Str, PyData.showableAll (ws.map PyData.str) = true
  | [] => rfl
  | z :: r => by
    rw [List.map_cons]
    show (true && PyData.showableAll (r.map PyData.str)) = true
    rw [show_strs r]; rfl
theorem nodict_strs : ∀ ws : List Str, PyData.hasDictAll (ws.map PyData.str) = false
  | [] => rfl
  | z :: r => by
    rw [List.map_cons]
    show (false || PyData.hasDictAll (r.map PyData.str)) = false
    rw [nodict_strs r]; rfl
theorem weight_strs : ∀ ws : List Str, (∀ z ∈ ws, z.length ≤ 100) → PyData.weightAll (ws.map PyData.str) ≤ 101 * ws.length
  | [], _ => by rw [List.map_nil]; exact Nat.le_refl _
  | z :: r, h => by
    rw [List.map_cons]
    have h1 := weight_strs r fun y hy => h y (List.mem_cons_of_mem _ hy)
    have h2 : z.cps.size ≤ 100 := h z List.mem_cons_self
    show z.cps.size + 1 + PyData.weightAll (r.map PyData.str) ≤ 101 * (r.length + 1)
    omega
theorem low_lt {z : Str} (h : lowB z = true) : (z.cps.toList.all fun c => decide (c < 16 ^ 8)) = true := by
  unfold lowB at h
  refine List.all_eq_true.mpr fun c hc => decide_eq_true ?_
  have := List.all_eq_true.mp h c hc
  simp only [Bool.and_eq_true, decide_eq_true_eq] at this
  exact Nat.lt_of_le_of_lt this.2 (by decide)
theorem short_strs : ∀ ws : List Str, (∀ z ∈ ws, lowB z = true) → PyData.leavesShortAll 8 (ws.map PyData.str) = true
  | [], _ => rfl
  | z :: r, h => by
    rw [List.map_cons]
    show ((z.cps.toList.all fun c => decide (c < 16 ^ 8)) && PyData.leavesShortAll 8 (r.map PyData.str)) = true
    rw [low_lt (h z List.mem_cons_self), short_strs r fun y hy => h y (List.mem_cons_of_mem _ hy)]; rfl
theorem eqv_strs : ∀ ws : List Str, PyData.eqv (dStrs ws) (dStrs ws) = true
  | [] => rfl
  | z :: r => by
    have h := eqv_strs r
    show ((z == z) && PyData.eqv (dStrs r) (dStrs r)) = true
    rw [h]; simp
end Ov

set_option Elab.async false
set_option linter.all false
set_option maxRecDepth 100000
set_option maxHeartbeats 4000000
namespace Ov
open PySem PySem.Spec PyProof.Rows L2 GxR
theorem iteT' {b : Bool} {A B : Prop} (e : b = true) (h : A) : if b = true then A else B := by rw [if_pos e]; exact h
theorem iteF' {b : Bool} {A B : Prop} (e : b = false) (h : B) : if b = true then A else B := by rw [if_neg (by rw [e]; decide)]; exact h
def top (i : Nat) : Stmt := PySem.Challenge.pw_overstamps_k05_stampings_on_bands.main.body.getD i (.Pass ⟨0, 0, 0, 0⟩)
abbrev sLow : Stmt := top 41
abbrev sText : Stmt := top 42
abbrev sAre : Stmt := top 44
abbrev sInit : Stmt := inClass (top 46) 1
abbrev sOf : Stmt := inClass (top 46) 2
abbrev sTape : Stmt := top 53
abbrev sNext : Stmt := top 54
abbrev sInks : Stmt := top 55
/-! ### what the top has left -/
structure Txt (K : PySem.W.Frag) (mg : Str → Option Value) (C fLow fText fAre fTape fNext fInks : Addr) : Prop where
  all : mg "all" = none
  len : mg "len" = none
  isi : mg "isinstance" = none
  str : mg "str" = none
  lst : mg "list" = none
  set : mg "set" = none
  abs : mg "abs" = none
  max : mg "max" = none
  min : mg "min" = none
  rng : mg "range" = none
  gTape : mg "_law_tape" = some (.ref fTape)
  kTape : PySem.W.keepIn K (.ref fTape) = true
  gNext : mg "_law_next" = some (.ref fNext)
  kNext : PySem.W.keepIn K (.ref fNext) = true
  gInks : mg "_law_inks" = some (.ref fInks)
  kInks : PySem.W.keepIn K (.ref fInks) = true
  gLow : mg "is_lowercase" = some (.ref fLow)
  kLow : PySem.W.keepIn K (.ref fLow) = true
  gText : mg "is_text" = some (.ref fText)
  kText : PySem.W.keepIn K (.ref fText) = true
  gAre : mg "are_stamps" = some (.ref fAre)
  kAre : PySem.W.keepIn K (.ref fAre) = true
  gC : mg "Stamps" = some (.ref C)
  widest : ∃ t, mg "WIDEST" = some (.int 8 t)
  letters : ∃ t, mg "MOST_LETTERS" = some (.int 36 t)
  rd : ClX.CRead K C (.type "type")
  most : ∃ t, ClX.CVal K C (.type "type") "MOST" (.int 6) (.int 6 t)
/-- where the tables stand -/
structure Tab (base : Heap) (mg : Str → Option Value) (T : List Addr) (cLow PLow cAre PAre : Addr) : Prop where
  low : TabB base mg cLow PLow
  are : TabB base mg cAre PAre
  lowT : PLow ∈ T
  areT : PAre ∈ T
section
variable {P : Program} {w : World} {K : PySem.W.Frag} {mg : Str → Option Value} {base : Heap} {T : List Addr} {C fLow fText fAre fTape fNext fInks cLow PLow cAre PAre : Addr}
/-! ### is_lowercase -/
def spLow (T : List Addr) : Sp := fun vs H Q _ => ∃ z : Str, vs = [.str z] ∧ (∀ p ∈ T, TabG H p) ∧ ∀ H2, Tbs T H H2 → Q (.bl (lowB z)) H2
theorem scLow : FnScope ["text"] ["text"] (defScope sLow) := ⟨rfl, rfl, rfl, by decide +kernel, rfl, by decide +kernel, by decide +kernel⟩
theorem sign_le (c : Nat) : (!decide (([c] : List Nat) < ("a" : Str).cps.toList)) = decide (97 ≤ c) := by
  have e : ("a" : Str).cps.toList = [97] := by rfl
  rw [e]
  have h := one_lt c 97
  by_cases q : 97 ≤ c
  · have : ¬ ([c] < [97]) := fun z => by have := h.mp z; omega
    simp [q, this]
  · have : [c] < [97] := h.mpr (by omega)
    simp [q, this]
theorem sign_ge (c : Nat) : (!decide (("z" : Str).cps.toList < ([c] : List Nat))) = decide (c ≤ 122) := by
  have e : ("z" : Str).cps.toList = [122] := by rfl
  rw [e]
  have h := one_lt 122 c
  by_cases q : c ≤ 122
  · have : ¬ ([122] < [c]) := fun z => by have := h.mp z; omega
    simp [q, this]
  · have : [122] < [c] := h.mpr (by omega)
    simp [q, this]
theorem ok_low {f : Addr} {fd : FuncData} (F : FunC K "is_lowercase" "is_lowercase" sLow f fd cLow) (X : Txt K mg C fLow fText fAre fTape fNext fInks) (B : Tab base mg T cLow PLow cAre PAre) : FnOk P w K mg base CX0 2 f fd ["text"] (spLow T) := by
  refine F.ok scLow (fun vs H Q E h => ?_) (fun A outer s H vs Q E hr h => ?_)
  · obtain ⟨z, rfl, _⟩ := h
    rfl
  · obtain ⟨z, rfl, hT, k⟩ := h
    refine ⟨_, pss_one (ps_ret (pe_allG (k := 0) (cs := []) (pick := []) rfl hr (by rfl) X.all (by decide +kernel) B.low rfl (genN_by (sc := defScope sLow) (N := ["text"]) rfl rfl (fun y h => cell_has h) (by decide +kernel))
      (pi_str (pv 0)) (fun s H code C A fp pn hr => pe_chain op_le_str op_le_str pe_str (pv 0) pe_str))), ?_⟩
    refine ⟨_, rfl, z, rfl, hT _ B.lowT, fun H2 h2 => ?_⟩
    refine all_str (fun c => decide (97 ≤ c) && decide (c ≤ 122)) (fun c R hR => ?_) (k _ (Tbs.of1 hT B.lowT h2))
    refine ⟨_, rfl, _, _, rfl, rfl, _, rfl, ?_⟩
    have e1 := sign_le c
    have e2 := sign_ge c
    by_cases h1 : 97 ≤ c
    · refine iteT' (by rw [e1]; simpa using h1) ?_
      refine ⟨_, _, rfl, rfl, ?_⟩
      rw [e2]
      simpa [h1] using hR
    · refine iteF' (by rw [e1]; simpa using h1) ?_
      simpa [h1] using hR
/-! ### is_text -/
def textB (z : Str) (m : Int) : Bool := decide (1 ≤ (z.length : Int)) && decide ((z.length : Int) ≤ m) && lowB z
def spText (K : PySem.W.Frag) (T : List Addr) : Sp := fun vs H Q _ => ∃ (x : V) (m : Int), vs = [x, .int m] ∧ (∀ p ∈ T, TabG H p) ∧
  ((∃ z : Str, x = .str z ∧ z.length ≤ sizeLine ∧ ∀ H2, Tbs T H H2 → Q (.bl (textB z m)) H2) ∨ (∃ t, TyX K H x t ∧ PySem.W.kitOne K t (.type "str") = some false ∧ Q (.bl false) H))
theorem scText : FnScope ["thing", "most"] ["thing", "most"] (defScope sText) := ⟨rfl, rfl, rfl, by decide +kernel, rfl, by decide +kernel, by decide +kernel⟩
theorem ok_text {f : Addr} {fd fdL : FuncData} (F : L2.Fun K "is_text" "is_text" sText f fd) (FL : FunC K "is_lowercase" "is_lowercase" sLow fLow fdL cLow) (X : Txt K mg C fLow fText fAre fTape fNext fInks) (B : Tab base mg T cLow PLow cAre PAre) : FnOk P w K mg base CX0 3 f fd ["thing", "most"] (spText K T) := by
  refine F.ok scText (fun vs H Q E h => ?_) (fun cdv A outer s H vs Q E hr h => ?_)
  · obtain ⟨x, m, rfl, _⟩ := h
    rfl
  · obtain ⟨x, m, rfl, hT, k⟩ := h
    refine ⟨_, pss_one (ps_ret (pe_and (pe_callB call_isi (by rfl) X.isi boot_isinstance (pa_cons (pv 0) (pa_cons (pe_bltn (v := .ty "str") (by rfl) X.str PySem.Pv.boot_str rfl) pa_nil)))
      (pe_and (pe_chain op_le op_le pe_int (pe_callB call_len_str (by rfl) X.len boot_len (pa_cons (pv 0) pa_nil)) (pv 1))
        (pe_one (pe_call (ok_low FL X B) hr (by rfl) X.gLow X.kLow (FL.toFun.binds fun _ _ _ _ _ _ us hl => match us, hl with | [_], _ => rfl) .nil L2.pass0 (pa_cons (pv 0) pa_nil)))))), ?_⟩
    rcases k with ⟨z, rfl, hz, k⟩ | ⟨t, ht, hk, k⟩
    · refine ⟨_, rfl, _, _, _, _, _, rfl, .ty _, .base (.str _), kit_ty (r := true) (by decide +kernel), true, rfl, ?_⟩
      refine iteT ?_
      refine ⟨_, rfl, z, rfl, hz, _, _, rfl, rfl, _, rfl, ?_⟩
      by_cases h1 : 1 ≤ (z.length : Int)
      · refine iteT' (by simpa using h1) ?_
        refine ⟨_, rfl, _, _, rfl, rfl, _, rfl, ?_⟩
        by_cases h2 : (z.length : Int) ≤ m
        · refine iteT' (by simpa using h2) ?_
          refine ⟨_, rfl, z, rfl, hT, fun H2 q => ?_⟩
          have := k H2 q
          unfold textB at this
          simpa [h1, h2] using this
        · refine iteF' (by simpa using h2) ?_
          have := k H (.refl hT)
          unfold textB at this
          simpa [h1, h2] using this
      · refine iteF' (by simpa using h1) ?_
        refine ⟨_, rfl, ?_⟩
        refine iteF ?_
        have := k H (.refl hT)
        unfold textB at this
        simpa [h1] using this
    · refine ⟨_, rfl, _, _, _, _, _, rfl, .ty _, ht, hk, false, rfl, ?_⟩
      exact iteF k
/-! ### are_stamps -/
def isTextV : V → Bool
  | .str z => textB z 8
  | _ => false
def strV : V → Str
  | .str z => z
  | _ => Str.empty
/-- the words, once each of them is a text -/
def tailB (ws : List Str) : Bool := ws.all (fun z => decide (z.length = (ws.headD Str.empty).length)) && (decide ((once ws).length = ws.length) && decide ((ws.headD Str.empty).length * ws.length ≤ 36))
def stampsV (xs : List V) : Bool := decide (1 ≤ xs.length) && (decide (xs.length ≤ 6) && (xs.all isTextV && tailB (xs.map strV)))
theorem isTextV_str {x : V} (h : isTextV x = true) : x = .str (strV x) ∧ (strV x).length ≤ 8 := by
  cases x with
  | str z =>
    refine ⟨rfl, ?_⟩
    unfold isTextV textB at h
    simp only [Bool.and_eq_true, decide_eq_true_eq] at h
    show z.length ≤ 8
    omega
  | _ => cases h
theorem all_str_eq {xs : List V} (h : xs.all isTextV = true) : xs = (xs.map strV).map V.str ∧ ∀ z ∈ xs.map strV, z.length ≤ 8 := by
  rw [List.all_eq_true] at h
  refine ⟨?_, fun z hz => ?_⟩
  · rw [List.map_map]
    conv => lhs; rw [← List.map_id xs]
    exact List.map_congr_left fun x hx => (isTextV_str (h x hx)).1
  · obtain ⟨x, hx, rfl⟩ := List.mem_map.mp hz
    exact (isTextV_str (h x hx)).2
def spAre (K : PySem.W.Frag) (T : List Addr) : Sp := fun vs H Q _ => ∃ (a : Addr) (xs : List V), vs = [.ref a] ∧ (∀ p ∈ T, TabG H p) ∧ SqT K H a xs ∧ xs.length ≤ 4000 ∧
  (∀ x ∈ xs, (∃ z : Str, x = .str z ∧ z.length ≤ sizeLine) ∨ (isTextV x = false ∧ ∃ t, PySem.W.kitOne K t (.type "str") = some false ∧ ∀ H2, Tbs T H H2 → TyX K H2 x t)) ∧ ∀ H2, Tbs T H H2 → Q (.bl (stampsV xs)) H2
theorem scAre : FnScope ["words", "width"] ["words"] (defScope sAre) := ⟨rfl, rfl, rfl, by decide +kernel, rfl, by decide +kernel, by decide +kernel⟩
theorem ok_are {f : Addr} {fd fdT fdL : FuncData} (F : FunC K "are_stamps" "are_stamps" sAre f fd cAre) (FT : L2.Fun K "is_text" "is_text" sText fText fdT) (FL : FunC K "is_lowercase" "is_lowercase" sLow fLow fdL cLow) (X : Txt K mg C fLow fText fAre fTape fNext fInks) (B : Tab base mg T cLow PLow cAre PAre) : FnOk P w K mg base CX0 5 f fd ["words"] (spAre K T) := by
  refine F.ok scAre (fun vs H Q E h => ?_) (fun A outer s H vs Q E hr h => ?_)
  · obtain ⟨a, xs, rfl, _⟩ := h
    rfl
  · obtain ⟨a, xs, rfl, hT, hs, hn, hx, k⟩ := h
    obtain ⟨t8, g8⟩ := X.widest
    obtain ⟨t36, g36⟩ := X.letters
    refine ⟨_, pss_cons (ps_if (pt_not (pt_chain op_le op_le pe_int (pe_callB call_len_seq (by rfl) X.len boot_len (pa_cons (pv 0) pa_nil)) (ClX.pe_cval (pe_glob (v := .ref C) (by rfl) X.gC rfl)))) (pss_one (ps_ret pe_bl)) pss_nil)
      (pss_cons (ps_if (pt_not (pt_val (pe_allG (k := 3) (cs := []) (pick := []) rfl hr (by rfl) X.all (by decide +kernel) B.are rfl (genN_by (sc := defScope sAre) (N := ["words", "width"]) rfl rfl (fun y h => cell_has h) (by decide +kernel))
        (pi_tup (pv 0)) (fun s H code C A fp pn hr => pe_call (ok_text FT FL X B) hr (by rfl) X.gText X.kText (FT.binds fun _ _ _ _ _ _ us hl => match us, hl with | [_, _], _ => rfl) .nil L2.pass0 (pa_cons (pv 0) (pa_cons (pe_glob (v := .int 8) (by rfl) g8 ⟨_, rfl⟩) pa_nil)))))) (pss_one (ps_ret pe_bl)) pss_nil)
      (pss_cons (ps_set (i := 1) scAre.nd rfl (.inr rfl) (pe_callB call_len_str (by rfl) X.len boot_len (pa_cons (pe_ix ix_seq (pv 0) pe_int fun _ _ => rfl) pa_nil)))
      (pss_cons (ps_if (pt_not (pt_val (pe_allG (k := 3) (cs := ["width"]) (pick := [1]) rfl hr (by rfl) X.all (by decide +kernel) B.are rfl (genN_by (sc := defScope sAre) (N := ["words", "width"]) rfl rfl (fun y h => cell_has h) (by decide +kernel))
        (pi_tup (pv 0)) (fun s H code C A fp pn hr => pe_cmpR op_eq (pe_callB call_len_str (by rfl) X.len boot_len (pa_cons (pv 0) pa_nil)) (pv 1) (by rfl))))) (pss_one (ps_ret pe_bl)) pss_nil)
      (pss_one (ps_ret (pe_and (pe_cmpR op_eq (pe_lenOnce rfl (by rfl) X.len (by rfl) X.set (pv 0)) (pe_callB call_len_seq (by rfl) X.len boot_len (pa_cons (pv 0) pa_nil)) (by rfl))
        (pe_one (pe_cmpR op_le (pe_op op_mul (pv 1) (pe_callB call_len_seq (by rfl) X.len boot_len (pa_cons (pv 0) pa_nil))) (pe_glob (v := .int 36) (by rfl) g36 ⟨_, rfl⟩) (by rfl))))))))), ?_⟩
    obtain ⟨tm, hm⟩ := X.most
    refine ⟨_, rfl, a, xs, rfl, .inr hs, _, _, rfl, rfl, _, rfl, ?_⟩
    by_cases h1 : 1 ≤ xs.length
    case neg =>
      refine iteF' (by simp; omega) ⟨_, rfl, iteT ?_⟩
      have := k H (.refl hT)
      unfold stampsV at this
      rw [decide_eq_false h1, Bool.false_and] at this
      exact this
    refine iteT' (by simp; omega) ⟨C, _, _, _, rfl, X.rd, hm, _, _, rfl, rfl, _, rfl, ?_⟩
    by_cases h2 : xs.length ≤ 6
    case neg =>
      refine iteT' (by simp; omega) ?_
      have := k H (.refl hT)
      unfold stampsV at this
      rw [decide_eq_false h2, Bool.false_and, Bool.and_false] at this
      exact this
    refine iteF' (by simp; omega) ?_
    refine ⟨_, rfl, a, rfl, ⟨xs, hs⟩, hT _ B.areT, fun H2 h2' => ?_⟩
    refine all_tup isTextV (Tbs T H) (Tbs.of1 hT B.areT h2') (fun H1 q => q.kep.seqT hT hs) (fun x hxm H1 q R hR => ?_) (fun H1 q => ?_)
    · refine ⟨x, rfl, x, 8, rfl, q.1, ?_⟩
      rcases hx x hxm with ⟨z, rfl, hz⟩ | ⟨hf, t, hk, ht⟩
      · exact .inl ⟨z, rfl, hz, fun H3 q3 => hR H3 (q.trans q3)⟩
      · refine .inr ⟨t, ht H1 q, hk, ?_⟩
        rw [hf] at hR
        exact hR H1 q
    refine ⟨_, rfl, ?_⟩
    cases hall : xs.all isTextV with
    | false =>
      refine iteT ?_
      have := k H1 q
      unfold stampsV at this
      rw [hall, Bool.false_and, Bool.and_false, Bool.and_false] at this
      exact this
    | true =>
    refine iteF ?_
    obtain ⟨hws, hle⟩ := all_str_eq hall
    generalize hw : xs.map strV = ws at hws hle
    have hl : ws.length = xs.length := by rw [← hw, List.length_map]
    have hb : stampsV xs = tailB ws := by
      unfold stampsV
      rw [decide_eq_true h1, decide_eq_true h2, hall, hw]; rfl
    rw [hb] at k
    subst hws
    clear hall hb hx
    obtain ⟨z0, zs, rfl⟩ : ∃ z0 zs, ws = z0 :: zs := by
      cases ws with
      | nil => simp at h1
      | cons z0 zs => exact ⟨z0, zs, rfl⟩
    have hz0 : z0.length ≤ 8 := hle z0 List.mem_cons_self
    have hs1 : SqT K H1 a ((z0 :: zs).map V.str) := q.kep.seqT hT hs
    have h8 : (8 : Nat) ≤ sizeLine := by decide
    have hsz : ∀ z ∈ z0 :: zs, z.length ≤ sizeLine := fun z hz => Nat.le_trans (hle z hz) h8
    refine ⟨_, rfl, .inr (.inl ⟨a, _, 0, .str z0, rfl, rfl, hs1, by simp [atI, ixN], z0, rfl, hsz z0 List.mem_cons_self, ?_⟩)⟩
    refine ⟨_, rfl, a, rfl, ⟨_, hs1⟩, q.1 _ B.areT, fun H3 h3 => ?_⟩
    refine all_tup (fun x => decide ((strV x).length = z0.length)) (Tbs T H) (q.trans (Tbs.of1 q.1 B.areT h3)) (fun H1 q => q.kep.seqT hT hs) (fun x hxm H1 q R hR => ?_) (fun H4 q4 => ?_)
    · obtain ⟨z, hz, rfl⟩ := List.mem_map.mp hxm
      refine ⟨_, rfl, z, rfl, hsz z hz, _, rfl, rfl, ?_⟩
      have := hR H1 q
      have e : decide (V.int (z.length : Nat) = V.int (z0.length : Nat)) = decide ((strV (V.str z)).length = z0.length) := by
        show _ = decide (z.length = z0.length)
        rw [Bool.eq_iff_iff]
        simp
        omega
      rw [← e] at this
      exact this
    refine ⟨_, rfl, ?_⟩
    have e1 : ((z0 :: zs).map V.str).all (fun x => decide ((strV x).length = z0.length)) = (z0 :: zs).all (fun z => decide (z.length = z0.length)) := by
      rw [List.all_map]; rfl
    have hs4 : SqT K H4 a ((z0 :: zs).map V.str) := q4.kep.seqT hT hs
    have k4 : Q (.bl ((z0 :: zs).all (fun z => decide (z.length = z0.length)) && (decide ((once (z0 :: zs)).length = (z0 :: zs).length) && decide (z0.length * (z0 :: zs).length ≤ 36)))) H4 := k H4 q4
    rw [e1]
    cases hal : (z0 :: zs).all (fun z => decide (z.length = z0.length)) with
    | false =>
      refine iteT ?_
      rw [hal, Bool.false_and] at k4
      exact k4
    | true =>
      rw [hal, Bool.true_and] at k4
      refine iteF ?_
      have hln : ((z0 :: zs).map V.str).length = (z0 :: zs).length := List.length_map ..
      refine ⟨_, rfl, a, z0 :: zs, rfl, hs4, by rw [← hln]; exact hn, _, rfl, a, _, rfl, .inr hs4, rfl, _, rfl, ?_⟩
      have e2 : decide (V.int ((once (z0 :: zs)).length : Nat) = V.int (((z0 :: zs).map V.str).length : Nat)) = decide ((once (z0 :: zs)).length = (z0 :: zs).length) := by
        rw [hln, Bool.eq_iff_iff]
        simp
        omega
      rw [e2]
      by_cases h5 : (once (z0 :: zs)).length = (z0 :: zs).length
      case neg =>
        refine iteF' (decide_eq_false h5) ?_
        rw [decide_eq_false h5, Bool.false_and] at k4
        exact k4
      refine iteT' (decide_eq_true h5) ?_
      rw [decide_eq_true h5, Bool.true_and] at k4
      refine ⟨_, rfl, _, rfl, a, _, rfl, .inr hs4, _, _, rfl, rfl, .inl ⟨by omega, by omega⟩, _, _, rfl, rfl, ?_⟩
      have e3 : decide ((z0.length : Int) * (((z0 :: zs).map V.str).length : Nat) ≤ 36) = decide (z0.length * (z0 :: zs).length ≤ 36) := by
        rw [hln, Bool.eq_iff_iff]
        simp only [decide_eq_true_eq]
        constructor <;> intro h
        · exact_mod_cast h
        · exact_mod_cast h
      rw [← e3] at k4
      exact k4
end
/-! ### Stamps -/
structure ErrC (K : PySem.W.Frag) (mg : Str → Option Value) (x : Str) (D : Addr) : Prop where
  e : PySem.W.excIn K D [.type "ValueError", .type "Exception", .type "BaseException", .type "object"] "ValueError.__new__" = true
  g : mg x = some (.ref D)
  k : PySem.W.keepIn K (.ref D) = true
  b : PySem.W.subIn K (.ref D) (.type "BaseException") = some true
  t : PySem.W.typeIn K (.ref D) = some (.type "type")
/-- what stood stands, but for the tables and the object at a -/
def KepX (T : List Addr) (a : Addr) (H H' : Hp) : Prop := (∀ P ∈ T, TabG H' P) ∧ ∀ b o, b ∉ T → b ≠ a → H b = some o → H' b = some o
/-- an object of the program: a text, or something else -/
def Wd (K : PySem.W.Frag) (T : List Addr) (H : Hp) (x : V) : Prop := (∃ z : Str, x = .str z ∧ z.length ≤ sizeLine) ∨ (isTextV x = false ∧ ∃ t, PySem.W.kitOne K t (.type "str") = some false ∧ ∀ H2, Kep T H H2 → TyX K H2 x t)
/-- stamps stand at a: their list at l -/
def Stp (H : Hp) (C a l dx : Addr) (xs : List V) : Prop := H a = some (.ins C dx [("_words", .ref l)]) ∧ H l = some (.lst xs)
def spInit (K : PySem.W.Frag) (T : List Addr) (C D : Addr) : Sp := fun vs H Q E => ∃ (a dx : Addr) (xs : List V), vs = V.ref a :: xs ∧ H a = some (.ins C dx []) ∧ (∀ p ∈ T, TabG H p) ∧ xs.length ≤ 4000 ∧ (∀ x ∈ xs, Wd K T H x) ∧
  (stampsV xs = true → ∀ H3 l, H l = none → l ∉ T → l ≠ a → Stp H3 C a l dx xs → KepX T a H H3 → Q .non H3) ∧ (stampsV xs = false → ∀ H3, Kep T H H3 → E (.ref D) none H3)
theorem scInit : FnScope ["self", "words"] ((["self"] : List Str) ++ (["words"] : List Str)) (defScope sInit) := ⟨rfl, rfl, rfl, by decide +kernel, rfl, by decide +kernel, by decide +kernel⟩
structure Own (K : PySem.W.Frag) (C : Addr) : Prop where
  cls : Cls K C
  noW : NoAttr K C "_words"
section
variable {P : Program} {w : World} {K : PySem.W.Frag} {mg : Str → Option Value} {base : Heap} {T : List Addr} {C D fLow fText fAre fTape fNext fInks fInit cLow PLow cAre PAre : Addr}
theorem Kep.ty {H H1 H2 : Hp} (h : Kep T H H1) (h2 : Tbs T H1 H2) : Kep T H H2 := h.trans h2.kep
theorem ok_init {fd fdA fdT fdL : FuncData} (F : L2.Fun K "__init__" "Stamps.__init__" sInit fInit fd) (FA : FunC K "are_stamps" "are_stamps" sAre fAre fdA cAre) (FT : L2.Fun K "is_text" "is_text" sText fText fdT) (FL : FunC K "is_lowercase" "is_lowercase" sLow fLow fdL cLow) (X : Txt K mg C fLow fText fAre fTape fNext fInks) (B : Tab base mg T cLow PLow cAre PAre) (O : Own K C) (Er : ErrC K mg "InvalidStamps" D) :
    FnR P w K mg base (L2.CX P w) 6 fInit (spInit K T C D) := by
  obtain ⟨oc, od, kV, doc, pm, an, cdv, ct, osl, rfl, lk, hcd⟩ := F.ex
  have R := StX.fn_star (CX := L2.CX P w) (P := P) (w := w) (mg := mg) (base := base) (ps := ["self"]) (pv := "words") (N := ["self", "words"]) (k := 5)
    (sp := fun vs H Q E => ∃ (a p dx : Addr) (xs : List V), vs = [.ref a, .ref p] ∧ H p = some (.tup xs) ∧ H a = some (.ins C dx []) ∧ p ∉ T ∧ (∀ p ∈ T, TabG H p) ∧ xs.length ≤ 4000 ∧ (∀ x ∈ xs, Wd K T H x) ∧
      (stampsV xs = true → ∀ H3 l, H l = none → l ∉ T → l ≠ a → Stp H3 C a l dx xs → KepX T a H H3 → Q .non H3) ∧ (stampsV xs = false → ∀ H3, Kep T H H3 → E (.ref D) none H3))
    lk hcd scInit StX.cxUp (StX.bind_star1 (B := fun us => bindArgs _ ⟨us, []⟩) (fun _ => rfl) (fun _ _ _ => rfl)) (fun A outer s H vs Q E hr h => ?_)
  · intro A outer s H us vs Q E hr e0 r h
    refine R A outer s H us vs Q E hr e0 r ?_
    obtain ⟨a, dx, xs, rfl, ha, hT, hn, hx, k1, k2⟩ := h
    have hz : xs.length ≤ sizeLine := Nat.le_trans hn (by decide)
    refine ⟨[.ref a], xs, rfl, rfl, hz, fun p hp => ?_⟩
    have hpT : p ∉ T := free_tab hT hp
    have kn : Kep T H (upd H p (.tup xs)) := Kep.new hT hp
    have hpa : a ≠ p := ne_of_none ha hp
    refine ⟨a, p, dx, xs, rfl, upd_same, (upd_ne hpa).trans ha, hpT, kn.1, hn, fun x hx' => ?_, fun hv H3 l hl hlT hla st kx => ?_, fun hv H3 k => k2 hv H3 (kn.trans k)⟩
    · rcases hx x hx' with z | ⟨z1, t, z2, z3⟩
      · exact .inl z
      · exact .inr ⟨z1, t, z2, fun H2 q => z3 H2 (kn.trans q)⟩
    · have hl' : H l = none := kn.free hT hl
      exact k1 hv H3 l hl' hlT hla st ⟨kx.1, fun b o hb hba e => kx.2 b o hb hba (kn.2 b o hb e)⟩
  · obtain ⟨a, p, dx, xs, rfl, hp, ha, hpT, hT, hn, hx, k1, k2⟩ := h
    refine ⟨_, pss_cons (ps_if (pt_not (pt_val (pe_call (ok_are FA FT FL X B) hr (by rfl) X.gAre X.kAre (FA.toFun.binds fun _ _ _ _ _ _ us hl => match us, hl with | [_], _ => rfl) .nil L2.pass0 (pa_cons (pv 1) pa_nil))))
      (pss_one (ps_raise rfl (takes_of rfl rfl rfl rfl) (pmk_own PySem.F.excBase_ValueError Er.e Er.g Er.k (raises_own Er.b Er.t) (by rfl)))) pss_nil)
      (pss_one (ps_fld (pv 0) (pe_callTy call_list_of (by rfl) X.lst (by decide +kernel) (pa_cons (pv 1) pa_nil)) (by rfl))), ?_⟩
    refine ⟨_, rfl, p, xs, rfl, hT, .inl (.inl hp), hn, fun x hx' => ?_, fun H2 h2 => ⟨_, rfl, ?_⟩⟩
    · rcases hx x hx' with z | ⟨z1, t, z2, z3⟩
      · exact .inl z
      · exact .inr ⟨z1, t, z2, fun H2 q => z3 H2 q.kep⟩
    have hp2 : H2 p = some (.tup xs) := h2.kep.at hT hp fun _ z => by cases z
    have ha2 : H2 a = some (.ins C dx []) := h2.kep.at hT ha fun _ z => by cases z
    cases hv : stampsV xs with
    | false => exact iteT (k2 hv H2 h2.kep)
    | true =>
      refine iteF ?_
      refine ⟨_, rfl, p, xs, rfl, .inr (.inl (.inl hp2)), fun l hl => ⟨_, rfl, a, C, dx, [], rfl, ?_, O.cls, O.noW, by decide, ?_⟩⟩
      · exact (upd_ne (ne_of_none ha2 hl)).trans ha2
      · have hla : l ≠ a := fun z => by rw [z, ha2] at hl; cases hl
        have hlT : l ∉ T := free_tab h2.1 hl
        have haT : a ∉ T := not_tab hT ha fun _ z => by cases z
        refine k1 hv _ l (h2.kep.free hT hl) hlT hla ⟨upd_same, (upd_ne hla).trans upd_same⟩ ⟨fun q hq => ?_, fun b o hb hba e => ?_⟩
        · obtain ⟨ps, h1, h2'⟩ := h2.1 q hq
          exact ⟨ps, (upd_ne (show q ≠ a from fun z => haT (z ▸ hq))).trans ((upd_ne (show q ≠ l from fun z => hlT (z ▸ hq))).trans h1), h2'⟩
        · have e2 := h2.kep.2 b o hb e
          exact (upd_ne hba).trans ((upd_ne (ne_of_none e2 hl)).trans e2)
theorem KepX.kep {H H1 H3 : Hp} {a : Addr} (k : Kep T H H1) (ha : H a = none) (x : KepX T a H1 H3) : Kep T H H3 := ⟨x.1, fun b o hb e => x.2 b o hb (ne_of_none e ha) (k.2 b o hb e)⟩
theorem Wd.kep {H H1 : Hp} {x : V} (k : Kep T H H1) (h : Wd K T H x) : Wd K T H1 x := by
  rcases h with z | ⟨z1, t, z2, z3⟩
  · exact .inl z
  · exact .inr ⟨z1, t, z2, fun H2 q => z3 H2 (k.trans q)⟩
/-- a new object with its dict -/
theorem Kep.made {H : Hp} {x dx C : Addr} (hT : ∀ p ∈ T, TabG H p) (hx : H x = none) (hdx : H dx = none) (hne : dx ≠ x) : Kep T H (upd (upd H dx (.own x)) x (.ins C dx [])) :=
  (Kep.new hT hdx).trans (Kep.new (Kep.new hT hdx).1 ((upd_ne hne.symm).trans hx))
/-- C(*xs) for stamps: what it asks -/
def Makes (K : PySem.W.Frag) (T : List Addr) (C D : Addr) (H : Hp) (xs : List V) (Q : VK) (E : XK) : Prop := (∀ p ∈ T, TabG H p) ∧ xs.length ≤ 4000 ∧ (∀ x ∈ xs, Wd K T H x) ∧
  (stampsV xs = true → ∀ H3 a l dx, H a = none → H l = none → H dx = none → a ∉ T → l ∉ T → Stp H3 C a l dx xs → Kep T H H3 → Q (.ref a) H3) ∧ (stampsV xs = false → ∀ H3, Kep T H H3 → E (.ref D) none H3)
theorem Makes.init {H : Hp} {xs : List V} {Q : VK} {E : XK} (m : Makes K T C D H xs Q E) {x dx : Addr} (hx : H x = none) (hdx : H dx = none) (hne : dx ≠ x) :
    spInit K T C D (V.ref x :: xs) (upd (upd H dx (.own x)) x (.ins C dx [])) (fun v H2 => v = .non ∧ Q (.ref x) H2) E := by
  obtain ⟨hT, hn, hw, k1, k2⟩ := m
  have kn : Kep T H (upd (upd H dx (.own x)) x (.ins C dx [])) := Kep.made hT hx hdx hne
  exact ⟨x, dx, xs, rfl, upd_same, kn.1, hn, fun y hy => (hw y hy).kep kn, fun hv H3 l hl hlT hla st kx => ⟨rfl, k1 hv H3 x l dx hx (kn.free hT hl) hdx (free_tab hT hx) hlT st (KepX.kep kn hx kx)⟩, fun hv H3 k => k2 hv H3 (kn.trans k)⟩
def spOf (K : PySem.W.Frag) (T : List Addr) (C D : Addr) : Sp := fun vs H Q E => ∃ y, vs = [V.ref C, y] ∧
  ((∃ p xs, y = V.ref p ∧ H p = some (.lst xs) ∧ Makes K T C D H xs Q E) ∨ (∃ t, TyX K H y t ∧ PySem.W.kitOne K t (.type "list") = some false ∧ E (.ref D) none H))
theorem scOf : FnScope ["cls", "words"] ["cls", "words"] (defScope sOf) := ⟨rfl, rfl, rfl, by decide +kernel, rfl, by decide +kernel, by decide +kernel⟩
theorem ok_of {f : Addr} {fd : FuncData} (F : L2.Fun K "of" "Stamps.of" sOf f fd) (FI : FnR P w K mg base (L2.CX P w) 6 fInit (spInit K T C D)) (M : Mk K C fInit) (X : Txt K mg C fLow fText fAre fTape fNext fInks) (Er : ErrC K mg "InvalidStamps" D) :
    FnOk P w K mg base (L2.CX P w) 8 f fd ["cls", "words"] (spOf K T C D) := by
  refine F.okX scOf (fun vs H Q E h => ?_) (fun cdv A outer s H vs Q E hr h => ?_)
  · obtain ⟨y, rfl, _⟩ := h
    rfl
  · obtain ⟨y, rfl, h⟩ := h
    refine ⟨_, pss_cons (ps_if (pt_not (pt_val (pe_callB call_isi (by rfl) X.isi boot_isinstance (pa_cons (pv 1) (pa_cons (pe_bltn (v := .ty "list") (by rfl) X.lst (by decide +kernel) rfl) pa_nil)))))
      (pss_one (ps_raise rfl (takes_of rfl rfl rfl rfl) (pmk_own PySem.F.excBase_ValueError Er.e Er.g Er.k (raises_own Er.b Er.t) (by rfl)))) pss_nil)
      (pss_one (ps_ret (pe_makeS M FI hr (passes_call (E := E) (takes_of rfl rfl rfl rfl) (fun _ _ _ _ h => h)) (pv 0) (pv 1)))), ?_⟩
    rcases h with ⟨p, xs, rfl, hp, m⟩ | ⟨t, ht, hk, he⟩
    · refine ⟨_, rfl, _, _, _, _, _, rfl, .ty _, .base (.lst hp), kit_ty (r := true) (by decide +kernel), true, rfl, iteF ?_⟩
      refine ⟨_, rfl, rfl, _, rfl, p, xs, rfl, .inr (.inl (.inl hp)), fun x dx hx hdx hne => m.init hx hdx hne⟩
    · refine ⟨_, rfl, _, _, _, _, _, rfl, .ty _, ht, hk, false, rfl, iteT ?_⟩
      exact he
end
/-! ### the law's tape -/
/-- a tape at t that was asked n times at most -/
def Tp (H : Hp) (t : Addr) (n : Nat) : Prop := ∃ a b c : Int, H t = some (.lst [.int a, .int b, .int c]) ∧ 0 ≤ a ∧ 0 ≤ b ∧ b < 10 ^ 40 ∧ 0 ≤ c ∧ c ≤ n
/-- all but the thing at t is as it was -/
def But (t : Addr) (H H' : Hp) : Prop := ∀ b, b ≠ t → H' b = H b
theorem But.put {H : Hp} {t : Addr} {o : HO} : But t H (upd H t o) := fun _ hb => upd_ne hb
theorem But.trans {H H1 H2 : Hp} {t : Addr} (a : But t H H1) (b : But t H1 H2) : But t H H2 := fun c hc => (b c hc).trans (a c hc)
def spTape (K : PySem.W.Frag) : Sp := fun vs H Q _ => ∃ (p : Addr) (ns : List Int) (k : Int), vs = [.ref p, .int k] ∧ SqL K H p (ns.map V.int) ∧ 0 ≤ k ∧ k ≤ 63 ∧ ∀ t H', H t = none → Tp H' t 0 → But t H H' → Q (.ref t) H'
def spNext : Sp := fun vs H Q _ => ∃ (t : Addr) (many : Int) (n : Nat), vs = [.ref t, .int many] ∧ Tp H t n ∧ n < 2 ^ 40 ∧ 0 < many ∧ many < 1000000 ∧ ∀ d H', 0 ≤ d → d < many → Tp H' t (n + 1) → But t H H' → Q (.int d) H'
section
variable {P : Program} {w : World} {K : PySem.W.Frag} {mg : Str → Option Value} {base : Heap} {T : List Addr} {C D fLow fText fAre fTape fNext fInks fInit cLow PLow cAre PAre : Addr}
theorem scTape : FnScope ["script", "k", "cell"] ["script", "k"] (defScope sTape) := ⟨rfl, rfl, rfl, by decide +kernel, rfl, by decide +kernel, by decide +kernel⟩
theorem ok_tape {f : Addr} {fd : FuncData} (F : L2.Fun K "_law_tape" "_law_tape" sTape f fd) (X : Txt K mg C fLow fText fAre fTape fNext fInks) : FnOk P w K mg base CX0 1 f fd ["script", "k"] (spTape K) := by
  refine F.ok scTape (fun vs H Q E h => ?_) (fun cdv A outer s H vs Q E hr h => ?_)
  · obtain ⟨p, ns, k, rfl, _⟩ := h
    rfl
  · obtain ⟨p, ns, k, rfl, hs, h0, h63, q⟩ := h
    refine ⟨_, C8.pss_cut (ps_set (i := 2) scTape.nd rfl (.inl rfl) (pe_ifExp (pt_cmpR op_lt (pv 1) (pe_callB call_len_seq (by rfl) X.len boot_len (pa_cons (pv 0) pa_nil)) (by rfl))
        (pe_callB call_abs (by rfl) X.abs (by decide +kernel) (pa_cons (pe_ix ix_seq (pv 0) (pv 1) fun _ _ => rfl) pa_nil)) pe_int))
      (pss_one (ps_ret (pe_lst (pa_cons (pe_callB (call_max2 rfl) (by rfl) X.max (by decide +kernel) (pa_cons pe_int (pa_cons (pe_op op_sub (pv 2) (pe_op op_pow pe_int pe_int)) pa_nil)))
        (pa_cons (pe_op op_add (pe_op op_mul (pe_op op_mod (pv 2) (pe_op op_add (pe_op op_pow pe_int pe_int) pe_int)) pe_int) (pv 1)) (pa_cons pe_int pa_nil)))))), ?_⟩
    refine ⟨fun σ' H' => H' = H ∧ ∃ cell : Int, 0 ≤ cell ∧ σ' = [some (.ref p), some (.int k), some (.int cell)], ?_, ?_⟩
    · refine ⟨_, rfl, _, rfl, p, _, rfl, .inl hs, _, _, rfl, rfl, _, rfl, ?_⟩
      rw [List.length_map]
      refine ite2 (fun hk => ?_) (fun hk => ?_)
      · have hk : k < (ns.length : Int) := by simpa using hk
        have hi : k.toNat < ns.length := by omega
        refine ⟨_, rfl, _, rfl, .inl ⟨p, _, k, .int ns[k.toNat], rfl, rfl, hs, ?_, _, rfl, rfl, _, ?_, rfl⟩⟩
        · have e : k = (k.toNat : Int) := by omega
          have z : atI (ns.map V.int) (k.toNat : Int) = some (.int ns[k.toNat]) := atI_nat (by rw [List.getElem?_map, List.getElem?_eq_getElem hi]; rfl)
          rw [← e] at z
          exact z
        · split <;> omega
      · exact ⟨rfl, 0, by decide, rfl⟩
    · rintro σ' H' ⟨rfl, cell, hc, rfl⟩
      refine ⟨_, rfl, _, _, rfl, rfl, ⟨by decide, by decide, by decide⟩, _, _, rfl, rfl, _, _, rfl, ?_⟩
      refine ⟨_, rfl, _, _, rfl, rfl, ⟨by decide, by decide, by decide⟩, _, _, rfl, rfl, _, _, rfl, rfl, (by decide : (0 : Int) < 10 ^ Int.toNat 37 + 43), _, _, rfl, rfl, .inr ⟨by decide, by decide⟩, _, rfl, _, _, rfl, rfl, ?_⟩
      refine ⟨(by decide : 3 ≤ sizeLine), fun t ht => q t _ ht ⟨_, _, _, upd_same, ?_, ?_, ?_, by decide, by decide⟩ But.put⟩
      · split <;> omega
      · show 0 ≤ cell % (10 ^ Int.toNat 37 + 43) * 83 + k
        have := Int.emod_nonneg cell (b := 10 ^ Int.toNat 37 + 43) (by decide)
        omega
      · show cell % (10 ^ Int.toNat 37 + 43) * 83 + k < 10 ^ 40
        have h1 := Int.emod_lt_of_pos cell (b := 10 ^ Int.toNat 37 + 43) (by decide)
        have e1 : (10 : Int) ^ Int.toNat 37 + 43 = 10000000000000000000000000000000000043 := by decide
        have e2 : (10 : Int) ^ 40 = 10000000000000000000000000000000000000000 := by decide
        rw [e1] at h1 ⊢
        rw [e2]
        omega
end
end Ov

set_option Elab.async false
set_option linter.all false
set_option maxRecDepth 100000
set_option maxHeartbeats 4000000
namespace Ov
open PySem PySem.Spec PyProof.Rows L2 GxR
section
variable {P : Program} {w : World} {K : PySem.W.Frag} {mg : Str → Option Value} {base : Heap} {T : List Addr} {C D fLow fText fAre fTape fNext fInks fInit cLow PLow cAre PAre : Addr}
theorem scNext : FnScope ["tape", "many", "digit", "mixed"] ["tape", "many"] (defScope sNext) := ⟨rfl, rfl, rfl, by decide +kernel, rfl, by decide +kernel, by decide +kernel⟩
theorem pow3_bits {x : Int} (h0 : 0 ≤ x) (h : x < 2 ^ 140) : CPowW x 3 := by
  refine ⟨by decide, ?_⟩
  have e : (2 : Int) ^ 140 = 1393796574908163946345982392040522594123776 := by decide
  have e2 : (2 : Nat) ^ 140 = 1393796574908163946345982392040522594123776 := by decide
  have hb : Builtin.Int.intBits x ≤ 140 := bits_le (by rw [e2]; omega) (by decide)
  have e3 : (2 : Int) ^ 27 = 134217728 := by decide
  rw [e3]
  omega
theorem ok_next {f : Addr} {fd : FuncData} (F : L2.Fun K "_law_next" "_law_next" sNext f fd) (X : Txt K mg C fLow fText fAre fTape fNext fInks) : FnOk P w K mg base CX0 1 f fd ["tape", "many"] spNext := by
  refine F.ok scNext (fun vs H Q E h => ?_) (fun cdv A outer s H vs Q E hr h => ?_)
  · obtain ⟨t, m, n, rfl, _⟩ := h
    rfl
  · obtain ⟨t, m, n, rfl, ⟨a, b, c, ht, ha, hb, hb2, hc, hcn⟩, hn, hm, hm2, q⟩ := h
    refine ⟨_, pss_cons (ps_if (pt_cmpR op_gt (pe_ix ix_seq (pv 0) pe_int fun _ _ => rfl) pe_int (by rfl))
        (pss_cons (ps_set (i := 2) scNext.nd rfl (.inl rfl) (pe_op op_mod (pe_ix ix_seq (pv 0) pe_int fun _ _ => rfl) (pv 1)))
          (pss_cons (ps_asg (pe_op op_fdiv (pe_ix ix_seq (pv 0) pe_int fun _ _ => rfl) (pv 1)) (pg_sub (pv 0) pe_int set_list)) (pss_one (ps_ret (pv 2))))) pss_nil)
      (pss_cons (ps_asg (pe_op op_add (pe_ix ix_seq (pv 0) pe_int fun _ _ => rfl) pe_int) (pg_sub (pv 0) pe_int set_list))
      (pss_cons (ps_set (i := 3) scNext.nd rfl (.inl rfl) (pe_op op_mod (pe_op op_powW (pe_op op_add (pe_ix ix_seq (pv 0) pe_int fun _ _ => rfl) (pe_op op_mul pe_int (pe_ix ix_seq (pv 0) pe_int fun _ _ => rfl))) pe_int) (pe_op op_add (pe_op op_pow pe_int pe_int) pe_int)))
      (pss_cons (ps_set (i := 3) scNext.nd rfl (.inl rfl) (pe_op op_mod (pe_op op_powW (pe_op op_add (pv 3) (pe_op op_mul pe_int (pe_ix ix_seq (pv 0) pe_int fun _ _ => rfl))) pe_int) (pe_op op_add (pe_op op_pow pe_int pe_int) pe_int)))
      (pss_one (ps_ret (pe_op op_mod (pe_op op_fdiv (pv 3) pe_int) (pv 1))))))), ?_⟩
    have at0 : ∀ {x y z : V}, atI [x, y, z] 0 = some x := fun {x y z} => by simp [atI, ixN]
    have at1 : ∀ {x y z : V}, atI [x, y, z] 1 = some y := fun {x y z} => by simp [atI, ixN]
    have at2 : ∀ {x y z : V}, atI [x, y, z] 2 = some z := fun {x y z} => by simp [atI, ixN]
    refine ⟨_, rfl, .inl ⟨t, _, 0, .int a, rfl, rfl, .inl (.inl ht), at0, _, _, rfl, rfl, _, rfl, ?_⟩⟩
    refine ite2 (fun hk => ?_) (fun hk => ?_)
    · refine ⟨_, rfl, .inl ⟨t, _, 0, .int a, rfl, rfl, .inl (.inl ht), at0, _, rfl, _, _, rfl, rfl, hm, ?_⟩⟩
      refine ⟨_, rfl, .inl ⟨t, _, 0, .int a, rfl, rfl, .inl (.inl ht), at0, _, rfl, _, _, rfl, rfl, ⟨hm, by omega⟩, ?_⟩⟩
      refine ⟨_, rfl, t, _, 0, 0, rfl, rfl, ht, by simp [ixN], _, rfl, ?_⟩
      exact q _ _ (Int.emod_nonneg _ (by omega)) (Int.emod_lt_of_pos _ hm) ⟨_, _, _, upd_same, Int.ediv_nonneg ha (by omega), hb, hb2, hc, by omega⟩ But.put
    · refine ⟨_, rfl, .inl ⟨t, _, 2, .int c, rfl, rfl, .inl (.inl ht), at2, _, _, rfl, rfl, ?_⟩⟩
      refine ⟨_, rfl, t, _, 2, 2, rfl, rfl, ht, by simp [ixN], ?_⟩
      have h2 : upd H t (.lst [.int a, .int b, .int (c + 1)]) t = some (.lst [.int a, .int b, .int (c + 1)]) := upd_same
      have e40 : (10 : Int) ^ 40 = 10000000000000000000000000000000000000000 := by decide
      have e140 : (2 : Int) ^ 140 = 1393796574908163946345982392040522594123776 := by decide
      have en : (2 : Nat) ^ 40 = 1099511627776 := by decide
      rw [en] at hn
      rw [e40] at hb2
      refine ⟨_, rfl, .inl ⟨t, _, 1, .int b, rfl, rfl, .inl (.inl h2), at1, _, rfl, .inl ⟨t, _, 2, .int (c + 1), rfl, rfl, .inl (.inl h2), at2, _, _, rfl, rfl, .inl ⟨by decide, by decide⟩, _, _, rfl, rfl, ?_⟩⟩⟩
      refine ⟨_, _, rfl, rfl, pow3_bits (by omega) (by rw [e140]; omega), _, _, rfl, rfl, ⟨by decide, by decide, by decide⟩, _, _, rfl, rfl, _, _, rfl, rfl, (by decide : (0 : Int) < 10 ^ Int.toNat 40 + 121), ?_⟩
      generalize hm1 : ((b + 32416187567 * (c + 1)) ^ Int.toNat 3) % (10 ^ Int.toNat 40 + 121) = m1
      have m1a : 0 ≤ m1 := by rw [← hm1]; exact Int.emod_nonneg _ (by decide)
      have m1b : m1 < 10000000000000000000000000000000000000121 := by
        rw [← hm1]
        exact Int.emod_lt_of_pos _ (by decide)
      refine ⟨_, rfl, _, rfl, .inl ⟨t, _, 2, .int (c + 1), rfl, rfl, .inl (.inl h2), at2, _, _, rfl, rfl, .inl ⟨by decide, by decide⟩, _, _, rfl, rfl, ?_⟩⟩
      refine ⟨_, _, rfl, rfl, pow3_bits (by omega) (by rw [e140]; omega), _, _, rfl, rfl, ⟨by decide, by decide, by decide⟩, _, _, rfl, rfl, _, _, rfl, rfl, (by decide : (0 : Int) < 10 ^ Int.toNat 39 + 3), ?_⟩
      generalize ((m1 + 27644437 * (c + 1)) ^ Int.toNat 3) % (10 ^ Int.toNat 39 + 3) = m2
      refine ⟨_, rfl, _, _, rfl, rfl, ⟨by decide, by decide⟩, _, rfl, _, _, rfl, rfl, hm, ?_⟩
      exact q _ _ (Int.emod_nonneg _ (by omega)) (Int.emod_lt_of_pos _ hm) ⟨_, _, _, upd_same, ha, hb, by rw [e40]; exact hb2, by omega, by omega⟩ But.put
end
end Ov

set_option Elab.async false
set_option linter.all false
set_option maxRecDepth 100000
set_option maxHeartbeats 4000000
namespace Ov
open PySem PySem.Spec PyProof.Rows L2 GxR
/-- what stood stands, but for the thing at t -/
def Bt (t : Addr) (H H' : Hp) : Prop := ∀ b o, b ≠ t → H b = some o → H' b = some o
theorem Bt.refl {t : Addr} {H : Hp} : Bt t H H := fun _ _ _ h => h
theorem Bt.trans {t : Addr} {H H1 H2 : Hp} (a : Bt t H H1) (b : Bt t H1 H2) : Bt t H H2 := fun c o hc e => b c o hc (a c o hc e)
theorem But.bt {t : Addr} {H H1 : Hp} (a : But t H H1) : Bt t H H1 := fun c o hc e => (a c hc).trans e
theorem Bt.new {t : Addr} {H : Hp} {p : Addr} {o : HO} (e : H p = none) : Bt t H (upd H p o) := fun b u _ hb => (upd_ne (ne_of_none hb e)).trans hb
theorem Bt.put {t : Addr} {H H1 : Hp} {p : Addr} {o : HO} (a : Bt t H H1) (e : H p = none) : Bt t H (upd H1 p o) := fun b u hb hu => (upd_ne (ne_of_none hu e)).trans (a b u hb hu)
theorem Tp.at {t : Addr} {H H' : Hp} {n : Nat} (h : Tp H t n) (e : H' t = H t) : Tp H' t n := by
  obtain ⟨a, b, c, h1, h2⟩ := h
  exact ⟨a, b, c, e.trans h1, h2⟩
theorem Tp.new {t : Addr} {H : Hp} {n : Nat} {p : Addr} {o : HO} (h : Tp H t n) (e : H p = none) : Tp (upd H p o) t n := h.at (by
  obtain ⟨a, b, c, h1, h2⟩ := h
  exact upd_ne (ne_of_none h1 e))
theorem Tp.ne {t : Addr} {H : Hp} {n : Nat} {p : Addr} (h : Tp H t n) (e : H p = none) : t ≠ p := by
  obtain ⟨a, b, c, h1, h2⟩ := h
  exact ne_of_none h1 e
theorem Tp.mono {t : Addr} {H : Hp} {n m : Nat} (h : Tp H t n) (e : n ≤ m) : Tp H t m := by
  obtain ⟨a, b, c, h1, h2, h3, h4, h5, h6⟩ := h
  exact ⟨a, b, c, h1, h2, h3, h4, h5, by omega⟩
theorem Bt.free {t : Addr} {H H1 : Hp} (a : Bt t H H1) {p : Addr} (hp : p ≠ t) (e : H1 p = none) : H p = none := by
  cases q : H p with
  | none => rfl
  | some o => rw [a p o hp q] at e; cases e
def lowL (l : List Nat) : Bool := l.all fun c => decide (97 ≤ c) && decide (c ≤ 122)
theorem join_nil : ∀ ls : List (List Nat), TL.joinL [] ls = ls.flatten
  | [] => rfl
  | [p] => by simp [TL.joinL]
  | p :: q :: r => by
    have := join_nil (q :: r)
    simp only [TL.joinL, List.nil_append, this, List.flatten_cons]
theorem join_cps (e : Str) (he : e.cps.toList = []) (ys : List Str) : (Txt.join e ys).cps.toList = (ys.map fun z => z.cps.toList).flatten := by
  show (Builtin.Str.glued e ys).cps.toList = _
  rw [StrLaws.glued_eq_join]
  have := TL.tl_join e ys
  unfold TL.tl at this
  rw [this, he, join_nil]
/-- one lowercase letter -/
def One (z : Str) : Prop := ∃ c, z.cps.toList = [c] ∧ 97 ≤ c ∧ c ≤ 122
theorem join_ones (e : Str) (he : e.cps.toList = []) : ∀ ys : List Str, (∀ z ∈ ys, One z) → (Txt.join e ys).length = ys.length ∧ lowB (Txt.join e ys) = true := by
  intro ys h
  have key : ((ys.map fun z => z.cps.toList).flatten).length = ys.length ∧ ((ys.map fun z => z.cps.toList).flatten).all (fun c => decide (97 ≤ c) && decide (c ≤ 122)) = true := by
    induction ys with
    | nil => exact ⟨rfl, rfl⟩
    | cons z r ih =>
      obtain ⟨i1, i2⟩ := ih fun y hy => h y (List.mem_cons_of_mem _ hy)
      obtain ⟨c, hc, h1, h2⟩ := h z List.mem_cons_self
      simp only [List.map_cons, List.flatten_cons, hc, List.length_append, List.all_append, i1, i2]
      refine ⟨by simp; omega, by simp [h1, h2]⟩
  rw [← join_cps e he] at key
  refine ⟨?_, key.2⟩
  rw [← key.1]
  simp [Str.length]
def spInks (K : PySem.W.Frag) : Sp := fun vs H Q _ => ∃ (t : Addr) (most : Int) (n : Nat), vs = [.ref t, .int most] ∧ Tp H t n ∧ n + 60 < 2 ^ 40 ∧ 0 < most ∧ most ≤ 8 ∧
  ∀ (l : Addr) (ws : List Str) H', H l = none → H' l = some (.lst (ws.map V.str)) → stampsV (ws.map V.str) = true → Tp H' t (n + 60) → Bt t H H' → Q (.ref l) H'
section
variable {P : Program} {w : World} {K : PySem.W.Frag} {mg : Str → Option Value} {base : Heap} {T : List Addr} {C D fLow fText fAre fTape fNext fInks fInit cLow PLow cAre PAre : Addr}
theorem pool_at (d : Int) (h0 : 0 ≤ d) (h4 : d < 4) : ∃ z : Str, atI [V.str "ab", V.str "abc", V.str "aab", V.str "abcdefghijklmnopqrstuvwxyz"] d = some (.str z) ∧ 1 ≤ z.length ∧ z.length ≤ 26 ∧ lowB z = true := by
  have : d = 0 ∨ d = 1 ∨ d = 2 ∨ d = 3 := by omega
  rcases this with rfl | rfl | rfl | rfl
  · exact ⟨"ab", by simp [atI, ixN], by decide +kernel, by decide +kernel, by decide +kernel⟩
  · exact ⟨"abc", by simp [atI, ixN], by decide +kernel, by decide +kernel, by decide +kernel⟩
  · exact ⟨"aab", by simp [atI, ixN], by decide +kernel, by decide +kernel, by decide +kernel⟩
  · exact ⟨"abcdefghijklmnopqrstuvwxyz", by simp [atI, ixN], by decide +kernel, by decide +kernel, by decide +kernel⟩
theorem pool_ch {z : Str} (hl : lowB z = true) {d : Int} (h0 : 0 ≤ d) (hd : d < z.length) : ∃ c, atI z.cps.toList d = some c ∧ One ⟨#[c]⟩ := by
  have hk : d.toNat < z.cps.toList.length := by
    have : z.cps.toList.length = z.length := by simp [Str.length]
    omega
  have e : d = (d.toNat : Int) := by omega
  have z1 : atI z.cps.toList (d.toNat : Int) = some z.cps.toList[d.toNat] := atI_nat (List.getElem?_eq_getElem hk)
  rw [← e] at z1
  have := List.all_eq_true.mp hl _ (List.getElem_mem hk)
  simp only [Bool.and_eq_true, decide_eq_true_eq] at this
  exact ⟨_, z1, _, rfl, this.1, this.2⟩
/-- the words made so far -/
structure Ws (W : Nat) (i : Nat) (ws : List Str) : Prop where
  len : ws.length ≤ i
  some : 0 < i → 0 < ws.length
  nd : ws.Nodup
  all : ∀ z ∈ ws, z.length = W ∧ lowB z = true
theorem Ws.ok {W i : Nat} {ws : List Str} (h : Ws W i ws) (h1 : 1 ≤ W) (h8 : W ≤ 8) (hi : 0 < i) (hi6 : i ≤ 6) (h36 : W * i ≤ 36) : stampsV (ws.map V.str) = true := by
  have hl := h.some hi
  have hli := h.len
  have e : (ws.map V.str).map strV = ws := by rw [List.map_map]; exact List.map_id ws
  have hd : (ws.headD Str.empty).length = W := by
    cases ws with
    | nil => simp at hl
    | cons z r => exact (h.all z List.mem_cons_self).1
  unfold stampsV
  rw [e, List.length_map, decide_eq_true (by omega : 1 ≤ ws.length), decide_eq_true (by omega : ws.length ≤ 6), Bool.true_and, Bool.true_and, Bool.and_eq_true]
  refine ⟨?_, ?_⟩
  · rw [List.all_eq_true]
    intro x hx
    obtain ⟨z, hz, rfl⟩ := List.mem_map.mp hx
    obtain ⟨q1, q2⟩ := h.all z hz
    show textB z 8 = true
    unfold textB
    rw [q2, q1]
    simp
    omega
  · unfold tailB
    rw [hd, Bool.and_eq_true, Bool.and_eq_true]
    refine ⟨?_, decide_eq_true ((once_nodup ws).mpr h.nd), decide_eq_true ?_⟩
    · rw [List.all_eq_true]
      intro z hz
      exact decide_eq_true (h.all z hz).1
    · exact Nat.le_trans (Nat.mul_le_mul_left W hli) h36
theorem inV_str (z : Str) (ws : List Str) : inV (.str z) (ws.map V.str) = true ↔ z ∈ ws := by
  unfold inV
  rw [List.any_map, List.any_eq_true]
  constructor
  · rintro ⟨y, hy, e⟩
    have : y = z := by simpa [eqV] using e
    exact this ▸ hy
  · intro h
    exact ⟨z, h, by simp [eqV]⟩
abbrev NInks : List Str := ["tape", "most", "width", "pool", "found", "turn", "ink", "spot"]
theorem scInks : FnScope NInks ["tape", "most"] (defScope sInks) := ⟨rfl, rfl, rfl, by decide +kernel, rfl, by decide +kernel, by decide +kernel⟩
theorem pe_next {X : Cx} {f : Addr} {fd : FuncData} (F : FnOk X.prog X.w X.K X.mg X.base CX0 1 f fd ["tape", "many"] spNext) (hb : Binds X.K fd ["tape", "many"] []) (hr : Room 1 X.A) (hg : Gl X "_law_next") (hm : X.mg "_law_next" = some (.ref f)) (hk : PySem.W.keepIn X.K (.ref f) = true)
    {e1 e2 : Expr} {p pos : Pos} {ta : TA} (ha : PA X [e1, e2] ta) (he : starEach [e1, e2] X.env = (false, eval e1 X.env) :: starEach [e2] X.env := by rfl) (hpl : (backTo pos (starEach [e2] X.env)).any (·.1) = false := by rfl) : PE X (.Call (.Name "_law_next" p) [e1, e2] [] pos) (tCall spNext [] E0 ta) :=
  pe_call F hr hg hm hk hb .nil L2.pass0 ha (by decide) he hpl
theorem ok_inks {f : Addr} {fd fdN : FuncData} (F : L2.Fun K "_law_inks" "_law_inks" sInks f fd) (FN : L2.Fun K "_law_next" "_law_next" sNext fNext fdN) (X : Txt K mg C fLow fText fAre fTape fNext fInks) : FnOk P w K mg base CX0 2 f fd ["tape", "most"] (spInks K) := by
  have N1 : FnOk P w K mg base CX0 1 fNext fdN ["tape", "many"] spNext := ok_next FN X
  have bN : Binds K fdN ["tape", "many"] [] := FN.binds fun _ _ _ _ _ _ us hl => match us, hl with | [_, _], _ => rfl
  refine F.ok scInks (fun vs H Q E h => ?_) (fun cdv A outer s H vs Q E hr h => ?_)
  · obtain ⟨t, m, n, rfl, _⟩ := h
    rfl
  · obtain ⟨t, m, n, rfl, ht, hn, hm, hm8, q⟩ := h
    refine ⟨_, pss_cons (ps_set (i := 2) scInks.nd rfl (.inl rfl) (pe_op op_add pe_int (pe_next N1 bN hr (by rfl) X.gNext X.kNext (pa_cons (pv 0) (pa_cons (pv 1) pa_nil)))))
      (pss_cons (ps_set (i := 3) scInks.nd rfl (.inr rfl) (pe_ix ix_seq (pe_lst (pa_cons pe_str (pa_cons pe_str (pa_cons pe_str (pa_cons pe_str pa_nil))))) (pe_next N1 bN hr (by rfl) X.gNext X.kNext (pa_cons (pv 0) (pa_cons pe_int pa_nil))) fun _ _ => rfl))
      (pss_cons (ps_set (i := 4) scInks.nd rfl (.inl rfl) (pe_lst pa_nil))
      (pss_cons (ps_for PassesOwn.never rfl (pi_range1 (by rfl) X.rng (pa_cons (pe_op op_add pe_int (pe_next N1 bN hr (by rfl) X.gNext X.kNext (pa_cons (pv 0) (pa_cons (pe_callB (call_min2 rfl) (by rfl) X.min boot_min (pa_cons pe_int (pa_cons (pe_op op_fdiv pe_int (pv 2)) pa_nil))) pa_nil)))) pa_nil))
          (pg_name (i := 5) scInks.nd rfl (Or.inl rfl))
        (pss_cons (ps_set (i := 6) scInks.nd rfl (.inl rfl) (pe_join pe_str (pe_lc (own := [("spot", 7)]) (g := gName 7) (tt := tYes) (by rfl) scInks.nd (pi_range1 (by rfl) X.rng (pa_cons (pv 2) pa_nil)) (blkOk_by (own := [("spot", 7)]) (N := NInks) (sc := defScope sInks) (by decide +kernel))
            (fun _ _ _ _ _ => pg_name (i := 7) scInks.nd rfl (Or.inl rfl)) (fun _ _ _ _ _ => pts_nil)
            (fun s H C cl fp => pe_ix (show IxR _ (rIx K) from ix_seq) (pv 3) (pe_next N1 bN hr (by rfl) X.gNext X.kNext (pa_cons (pv 0) (pa_cons (pe_callB call_len_str (by rfl) X.len boot_len (pa_cons (pv 3) pa_nil)) pa_nil))) fun _ _ => rfl))))
          (pss_one (ps_if (pt_cmpR op_notIn_seq (pv 6) (pv 4) (by rfl)) (pss_one (ps_expr (pe_bm PySem.F.plainAttrs_list PySem.F.slot_list_append PySem.F.type_list_append mt_append (pv 4) (pa_cons (pv 6) pa_nil)))) pss_nil))))
      (pss_one (ps_ret (pv 4)))))), ?_⟩
    refine ⟨_, rfl, _, rfl, t, m, n, rfl, ht, by omega, hm, by omega, fun d1 H1 d10 d1m t1 b1 => ⟨_, _, rfl, rfl, ?_⟩⟩
    obtain ⟨W, hW⟩ : ∃ W : Nat, 1 + d1 = (W : Int) := ⟨(1 + d1).toNat, by omega⟩
    have W1 : 1 ≤ W := by omega
    have W8 : W ≤ 8 := by omega
    refine ⟨(by decide : 4 ≤ sizeLine), fun pl hpl => ?_⟩
    refine ⟨_, rfl, t, 4, n + 1, rfl, t1.new hpl, by omega, by decide, by decide, fun d2 H2 d20 d24 t2 b2 => ?_⟩
    obtain ⟨z, hz, z1, z26, zl⟩ := pool_at d2 d20 d24
    refine .inl ⟨pl, _, d2, .str z, rfl, rfl, .inl (.inl ((b2 pl (t1.ne hpl).symm).trans upd_same)), hz, ?_⟩
    refine ⟨(by decide : 0 ≤ sizeLine), fun fl hfl => ?_⟩
    have e36 : (36 : Int) / (1 + d1) = ((36 / W : Nat) : Int) := by rw [hW]; first | exact (Int.natCast_ediv 36 W).symm | exact (Int.ofNat_ediv 36 W).symm | rfl
    have w4 : 4 ≤ 36 / W := by
      have : W * 4 ≤ 36 := by omega
      exact (Nat.le_div_iff_mul_le (by omega)).mpr (by omega)
    have w36 : W * (36 / W) ≤ 36 := Nat.mul_div_le 36 W
    have M1 : (0 : Int) < (if (36 : Int) / (1 + d1) < 6 then (36 : Int) / (1 + d1) else 6) := by rw [e36]; split <;> omega
    have M6 : (if (36 : Int) / (1 + d1) < 6 then (36 : Int) / (1 + d1) else 6) ≤ 6 := by rw [e36]; split <;> omega
    have M36 : (if (36 : Int) / (1 + d1) < 6 then (36 : Int) / (1 + d1) else 6) ≤ ((36 / W : Nat) : Int) := by rw [e36]; split <;> omega
    refine ⟨_, rfl, _, rfl, _, _, rfl, rfl, ⟨by omega, by omega⟩, _, _, rfl, t, _, n + 2, rfl, t2.new hfl, by omega, M1, by omega, fun d3 H3 d30 d3m t3 b3 => ?_⟩
    generalize (if (36 : Int) / (1 + d1) < 6 then (36 : Int) / (1 + d1) else 6) = M at M1 M6 M36 d3m
    obtain ⟨R, hR⟩ : ∃ R : Nat, 1 + d3 = (R : Int) := ⟨(1 + d3).toNat, by omega⟩
    have R1 : 0 < R := by omega
    have R6 : R ≤ 6 := by omega
    have R36 : W * R ≤ 36 := Nat.le_trans (Nat.mul_le_mul_left W (by omega : R ≤ 36 / W)) w36
    refine ⟨_, _, rfl, rfl, _, rfl, by omega, by omega, ?_⟩
    have bt3 : Bt t H H3 := b1.bt.trans ((Bt.new hpl).trans (b2.bt.trans ((Bt.new hfl).trans b3.bt)))
    have flt : fl ≠ t := (t2.ne hfl).symm
    have hfl0 : H fl = none := (b1.bt.trans ((Bt.new hpl).trans b2.bt)).free flt hfl
    have zsz : z.length ≤ sizeLine := Nat.le_trans z26 (by decide)
    refine for_range (lo := 0) (n := (1 + d3).toNat) (fun i σ H' => ∃ v5 v6 ws, σ = [some (.ref t), some (.int m), some (.int (1 + d1)), some (.str z), some (.ref fl), v5, v6, none] ∧ H' fl = some (.lst (ws.map V.str)) ∧ Ws W i ws ∧ Tp H' t (n + 3 + i * W) ∧ Bt t H H')
      ⟨none, none, [], rfl, (b3 fl flt).trans upd_same, ⟨Nat.le_refl _, fun z => absurd z (Nat.lt_irrefl _), List.nodup_nil, fun z hz => by simp at hz⟩, t3.mono (by omega), bt3⟩ (fun i σ H4 hi hp => ?_) (fun σ H' hp => ?_)
    · obtain ⟨v5, v6, ws, rfl, hf4, hws, t4, bt4⟩ := hp
      have hiR : i < R := by omega
      have hiW : i * W ≤ 36 := Nat.le_trans (Nat.mul_le_mul_right W (by omega : i ≤ R)) (by rw [Nat.mul_comm]; exact R36)
      refine ⟨⟨_, rfl⟩, _, rfl, 1 + d1, rfl, by omega, by omega, fun D hD => ?_⟩
      have Dt : D ≠ t := (t4.ne hD).symm
      refine lc_range (lo := 0) (n := (1 + d1).toNat) (fun j H5 => ∃ ys : List Str, H5 D = some (.lst (ys.map V.str)) ∧ ys.length = j ∧ (∀ y ∈ ys, One y) ∧ Tp H5 t (n + 3 + i * W + j) ∧ Bt t H4 H5)
        ⟨[], upd_same, rfl, fun y hy => by simp at hy, t4.new hD, Bt.new hD⟩ (fun j H5 hj hp => ?_) (fun H5 hp => ?_)
      · obtain ⟨ys, hD5, hyl, hy1, t5, bt5⟩ := hp
        refine ⟨rfl, ?_⟩
        unfold tYes
        refine iteT' (b := true) rfl ?_
        refine ⟨_, rfl, _, rfl, _, rfl, z, rfl, zsz, t, z.length, n + 3 + i * W + j, rfl, t5, by omega, by omega, by omega, fun d H6 hd0 hdz t6 b6 => ?_⟩
        obtain ⟨c, hc, hone⟩ := pool_ch zl hd0 hdz
        have e6 : H6 D = some (.lst (ys.map V.str)) := (b6 D Dt).trans hD5
        refine .inr (.inr ⟨z, d, c, rfl, rfl, zsz, hc, ys.map V.str, e6, by rw [List.length_map, hyl]; exact Nat.lt_of_lt_of_le (by omega : j < 9) (by decide), ys ++ [⟨#[c]⟩], ?_, by simp [hyl], fun y hy => ?_, ?_, ?_⟩)
        · rw [List.map_append]; exact upd_same
        · rcases List.mem_append.mp hy with h | h
          · exact hy1 y h
          · rw [List.mem_singleton.mp h]; exact hone
        · exact t6.at (upd_ne Dt.symm)
        · exact (bt5.trans b6.bt).put hD
      · obtain ⟨ys, hD5, hyl, hy1, t5, bt5⟩ := hp
        obtain ⟨j1, j2⟩ := join_ones "" rfl ys hy1
        have ysum : ∀ ys : List Str, (∀ y ∈ ys, One y) → (ys.map (·.length)).sum = ys.length := fun ys h => by
          induction ys with
          | nil => rfl
          | cons y r ih =>
            obtain ⟨c, hc, _⟩ := h y List.mem_cons_self
            have e1 : y.length = 1 := by
              have : y.cps.toList.length = 1 := by rw [hc]; rfl
              simpa [Str.length] using this
            rw [List.map_cons, List.sum_cons, ih fun z hz => h z (List.mem_cons_of_mem _ hz), List.length_cons, e1]
            omega
        refine ⟨"", D, ys, rfl, rfl, .inl (.inl (.inl hD5)), ?_, ?_⟩
        · rw [ysum ys hy1]
          show ys.length + ys.length * 0 ≤ 16777216
          omega
        generalize hk : Txt.join ("" : Str) ys = ink at j1 j2
        have ilen : ink.length = W := by omega
        have hf5 : H5 fl = some (.lst (ws.map V.str)) := bt5 fl _ flt hf4
        refine ⟨_, rfl, _, rfl, fl, _, rfl, .inl (.inl (.inl hf5)), rfl, ?_, _, rfl, ?_⟩
        · rw [List.all_map]; exact List.all_eq_true.mpr fun _ _ => rfl
        · by_cases hin : ink ∈ ws
          · refine iteF' (by rw [(inV_str ink ws).mpr hin]; rfl) ?_
            refine ⟨_, _, ws, rfl, hf5, ⟨Nat.le_succ_of_le hws.len, fun _ => List.length_pos_of_mem hin, hws.nd, hws.all⟩, t5.mono ?_, bt4.trans bt5⟩
            rw [Nat.succ_mul]; omega
          · have hnin : inV (.str ink) (ws.map V.str) = false := by
              cases h : inV (.str ink) (ws.map V.str) with
              | false => rfl
              | true => exact absurd ((inV_str ink ws).mp h) hin
            refine iteT' (by rw [hnin]; rfl) ?_
            have wl := hws.len
            refine ⟨_, rfl, .inl ⟨rfl, _, .inl (.inl hf5)⟩, _, rfl, fl, _, _, rfl, rfl, hf5, by rw [List.length_map]; exact Nat.lt_of_lt_of_le (by omega : ws.length < 9) (by decide), ?_⟩
            refine ⟨_, _, ws ++ [ink], rfl, by rw [List.map_append]; exact upd_same, ⟨by rw [List.length_append, List.length_singleton]; omega, fun _ => by rw [List.length_append, List.length_singleton]; omega, ?_, fun y hy => ?_⟩, (t5.at (upd_ne flt.symm)).mono ?_, (bt4.trans bt5).put hfl0⟩
            · rw [List.nodup_append]
              exact ⟨hws.nd, by simp, fun a ha b hb e => hin (by rw [List.mem_singleton.mp hb] at e; exact e ▸ ha)⟩
            · rcases List.mem_append.mp hy with h | h
              · exact hws.all y h
              · rw [List.mem_singleton.mp h]; exact ⟨ilen, j2⟩
            · rw [Nat.succ_mul]; omega
    · obtain ⟨v5, v6, ws, rfl, hf4, hws, t4, bt4⟩ := hp
      refine ⟨_, rfl, ?_⟩
      refine q fl ws H' hfl0 hf4 (hws.ok W1 W8 (by omega) (by omega) ?_) (t4.mono ?_) bt4
      · have : (1 + d3).toNat = R := by omega
        rw [this]; exact R36
      · have : (1 + d3).toNat = R := by omega
        rw [this, Nat.mul_comm]; omega
end
end Ov

set_option Elab.async false
set_option linter.all false
set_option maxRecDepth 100000
set_option maxHeartbeats 4000000
/-! == and != of instances of own classes without == of their own, of two classes -/
namespace Ov
open PySem PySem.Spec PyProof.Rows L2
section
variable {prog : Program} {w : World} {A : Around} {E : Value → Shared → Prop} {s : Shared} {K : PySem.W.Frag} {x y C D : Addr} {ox oy : Obj} {od od' : Option Obj}
/-- no == and no != of their own -/
structure NoEq2 (K : PySem.W.Frag) (C : Addr) : Prop where
  eq : PySem.W.findIn K (.ref C) "__eq__" = some (some (.builtin "object.__eq__"))
  ne : PySem.W.findIn K (.ref C) "__ne__" = some (some (.builtin "object.__ne__"))
  sub : PySem.W.subIn K (.ref C) (.type "object") = some true
theorem chk2 {id n : String} (hk : builtinKind id = some .slot) (hsp : splitId id = some ("object", n)) (ha : argsOk id ⟨[.ref x, .ref y], []⟩) {Q : Unit → Shared → Prop} (X : K.In s.heap) (I : PySem.W.InstAt s.heap x ox C od) (hsub : PySem.W.subIn K (.ref C) (.type "object") = some true) (fin : Q () s) :
    wpAny (model prog w) A (checkBuiltinCall id ⟨[.ref x, .ref y], []⟩) Q E s := by
  simp only [checkBuiltinCall, hk, hsp]
  refine wpAny_bind ?_
  unfold isInstance
  refine wpAny_bind (I.type.here ?_)
  refine (PySem.W.looks_subIn X hsub).here ?_
  cases hsig : Manifest.signature? id with
  | none => exact wpAny_pure fin
  | some sig =>
    simp only [argsOk, hsig] at ha
    have h2 : Bind.checkArgs id sig ⟨[.ref x, .ref y], []⟩ = pure () := ha
    show wpAny _ A (Bind.checkArgs id sig ⟨[.ref x, .ref y], []⟩) _ _ _
    rw [h2]; exact wpAny_pure fin
theorem call_objEq2 {Q : Value → Shared → Prop} (X : K.In s.heap) (I : PySem.W.InstAt s.heap x ox C od) (J : PySem.W.InstAt s.heap y oy D od') (n : NoEq2 K C)
    (h : Q (if x = y then .bool true else .notImplemented) s) : wpAny (model prog w) A (call (.builtin "object.__eq__") [.ref x, .ref y]) Q E s := by
  refine wpAny_call (codeAny_call_builtin F.cmp_object.eq.plain F.cmpEntry_eq (chk2 F.cmpKind_eq F.cmpSplit_eq (F.cmpArgs_eq _ _) X I n.sub ?_))
  by_cases hxy : x = y
  · subst hxy
    exact objEq_entry_same (by rw [if_pos rfl] at h; exact h)
  · refine objEq_entry_other hxy I.at_ J.at_ ?_ (by rw [if_neg hxy] at h; exact h)
    rw [I.cls]
    intro z; cases z
theorem special2 {f : String} {name : Str} (hs : PySem.W.findIn K (.ref C) name = some (some (.builtin f))) (hbind : ∀ self : Value, bindSpecial (.builtin f) self = pure (.builtin f, [self])) {Q : Option Value → Shared → Prop} (X : K.In s.heap) (I : PySem.W.InstAt s.heap x ox C od)
    (h : wpAny (model prog w) A (call (.builtin f) [.ref x, .ref y]) (fun v s' => Q (some v) s') E s) : wpAny (model prog w) A (callSpecialIfBound? (.ref x) name [.ref y]) Q E s := by
  simp only [callSpecialIfBound?, bindSpecialIfBound?]
  refine wpAny_holding (wpAny_bind (wpAny_bind (wpAny_bind (I.type.here ((PySem.W.looks_findIn X hs).here ?_)))))
  have fin : wpAny (model prog w) A (call (.builtin f) ([.ref x] ++ [.ref y]) >>= fun v => pure (some v)) Q E s := wpAny_bind (wpAny_mono h (fun v s' hq => wpAny_pure hq) fun _ _ e => e)
  simp only [hbind]
  refine wpAny_bind (wpAny_askSetting (wpAny_ite ?_))
  split
  · exact wpAny_bind (wpAny_pure (wpAny_pure fin))
  · exact wpAny_tryCatch (wpAny_bind (wpAny_pure (wpAny_pure fin)))
theorem try_eq2 {Q : Option Value → Shared → Prop} (X : K.In s.heap) (I : PySem.W.InstAt s.heap x ox C od) (J : PySem.W.InstAt s.heap y oy D od') (n : NoEq2 K C)
    (h : Q (if x = y then some (.bool true) else none) s) : wpAny (model prog w) A (tryCompare (.ref x) "__eq__" (.ref y)) Q E s := by
  unfold tryCompare
  refine wpAny_bind (special2 n.eq F.cmp_object.eq.bind X I (call_objEq2 X I J n ?_))
  by_cases hxy : x = y
  · rw [if_pos hxy] at h ⊢
    exact wpAny_pure h
  · rw [if_neg hxy] at h ⊢
    exact wpAny_pure h
theorem special_t {Q : Option Value → Shared → Prop} (hxy : x = y) (X : K.In s.heap) (I : PySem.W.InstAt s.heap x ox C od) (J : PySem.W.InstAt s.heap y oy D od') (n : NoEq2 K C) (h : Q (some (.bool true)) s) : wpAny (model prog w) A (callSpecialIfBound? (.ref x) "__eq__" [.ref y]) Q E s :=
  special2 n.eq F.cmp_object.eq.bind X I (call_objEq2 X I J n (by rw [if_pos hxy]; exact h))
theorem special_f {Q : Option Value → Shared → Prop} (hxy : x ≠ y) (X : K.In s.heap) (I : PySem.W.InstAt s.heap x ox C od) (J : PySem.W.InstAt s.heap y oy D od') (n : NoEq2 K C) (h : Q (some .notImplemented) s) : wpAny (model prog w) A (callSpecialIfBound? (.ref x) "__eq__" [.ref y]) Q E s :=
  special2 n.eq F.cmp_object.eq.bind X I (call_objEq2 X I J n (by rw [if_neg hxy]; exact h))
theorem objNe_entry2 {Q : Fin → Shared → Prop} (hu : A.units < cLine) (X : K.In s.heap) (I : PySem.W.InstAt s.heap x ox C od) (J : PySem.W.InstAt s.heap y oy D od') (n : NoEq2 K C)
    (h : Q (.done (.ret (if x = y then .bool false else .notImplemented))) s) : wpAny (model prog w) A (Builtin.«object.__ne__» ⟨[.ref x, .ref y], []⟩) Q E s := by
  unfold Builtin.«object.__ne__»
  by_cases hxy : x = y
  · rw [if_pos hxy] at h
    repeat (first | with_reducible refine wpAny_cRoomFor hu ?_ | with_reducible refine special_t hxy X I J n ?_ | wp_step)
    exact h
  · rw [if_neg hxy] at h
    repeat (first | with_reducible refine wpAny_cRoomFor hu ?_ | with_reducible refine special_f hxy X I J n ?_ | wp_step)
    exact h
theorem try_ne2 {Q : Option Value → Shared → Prop} (hu : A.units + 1 < cLine) (X : K.In s.heap) (I : PySem.W.InstAt s.heap x ox C od) (J : PySem.W.InstAt s.heap y oy D od') (n : NoEq2 K C)
    (h : Q (if x = y then some (.bool false) else none) s) : wpAny (model prog w) A (tryCompare (.ref x) "__ne__" (.ref y)) Q E s := by
  unfold tryCompare
  refine wpAny_bind (special2 n.ne F.cmp_object.ne.bind X I (wpAny_call (codeAny_call_builtin F.cmp_object.ne.plain F.cmpEntry_ne (chk2 F.cmpKind_ne F.cmpSplit_ne (F.cmpArgs_ne _ _) X I n.sub (objNe_entry2 (A := A.in1) hu X I J n ?_)))))
  by_cases hxy : x = y
  · rw [if_pos hxy] at h ⊢
    exact wpAny_pure h
  · rw [if_neg hxy] at h ⊢
    exact wpAny_pure h
theorem eq_id2 {Q : Value → Shared → Prop} {b : Bool} (hu : A.units < cLine) (X : K.In s.heap) (I : PySem.W.InstAt s.heap x ox C od) (J : PySem.W.InstAt s.heap y oy D od') (n : NoEq2 K C) (m : NoEq2 K D) (hsub : C ≠ D → PySem.W.subIn K (.ref D) (.ref C) = some b)
    (h : Q (.bool (decide (x = y))) s) : wpAny (model prog w) A (compareOp .Eq (.ref x) (.ref y)) Q E s := by
  show wpAny _ _ (richCompare .Eq (.ref x) (.ref y)) _ _ _
  unfold richCompare
  simp only [oneThing_ref, cmpInfo_Eq]
  refine wpAny_holding (wpAny_bind (wpAny_cRoomFor hu ?_))
  refine wpAny_bind (I.type.here (wpAny_bind (J.type.here ?_)))
  by_cases hCD : C = D
  · subst hCD
    rw [if_neg (by simp)]
    refine wpAny_bind (wpAny_pure ?_)
    simp only [Bool.false_eq_true, if_false]
    refine wpAny_bind (try_eq2 X I J n ?_)
    by_cases hxy : x = y
    · rw [if_pos hxy]
      subst hxy
      exact wpAny_pure (by simpa using h)
    · rw [if_neg hxy]
      have hyx : ¬ y = x := fun z => hxy z.symm
      simp only [Bool.not_false, if_true]
      refine wpAny_bind (try_eq2 X J I n ?_)
      rw [if_neg hyx]
      refine wpAny_bind (wpAny_rule ?_)
      refine wpAny_bind (wpAny_isSame_ref_other hxy I.at_ J.at_ (by rw [I.cls]; intro z; cases z) ?_)
      exact wpAny_pure (by simpa [hxy] using h)
  · have hxy : ¬ x = y := fun z => by
      subst z
      have e1 := I.at_.symm.trans J.at_
      cases e1
      have e2 := I.cls.symm.trans J.cls
      cases e2
      exact hCD rfl
    have hyx : ¬ y = x := fun z => hxy z.symm
    rw [if_pos (by simp [hCD])]
    refine wpAny_bind ((PySem.W.looks_subIn X (hsub hCD)).here ?_)
    cases b with
    | true =>
      simp only [if_true]
      refine wpAny_bind (try_eq2 X J I m ?_)
      rw [if_neg hyx]
      refine wpAny_bind (try_eq2 X I J n ?_)
      rw [if_neg hxy]
      simp only [Bool.not_true, Bool.false_eq_true, if_false]
      refine wpAny_bind (wpAny_rule ?_)
      refine wpAny_bind (wpAny_isSame_ref_other hxy I.at_ J.at_ (by rw [I.cls]; intro z; cases z) ?_)
      exact wpAny_pure (by simpa [hxy] using h)
    | false =>
      simp only [Bool.false_eq_true, if_false]
      refine wpAny_bind (try_eq2 X I J n ?_)
      rw [if_neg hxy]
      simp only [Bool.not_false, if_true]
      refine wpAny_bind (try_eq2 X J I m ?_)
      rw [if_neg hyx]
      refine wpAny_bind (wpAny_rule ?_)
      refine wpAny_bind (wpAny_isSame_ref_other hxy I.at_ J.at_ (by rw [I.cls]; intro z; cases z) ?_)
      exact wpAny_pure (by simpa [hxy] using h)
theorem ne_id2 {Q : Value → Shared → Prop} {b : Bool} (hu : A.units + 1 < cLine) (X : K.In s.heap) (I : PySem.W.InstAt s.heap x ox C od) (J : PySem.W.InstAt s.heap y oy D od') (n : NoEq2 K C) (m : NoEq2 K D) (hsub : C ≠ D → PySem.W.subIn K (.ref D) (.ref C) = some b)
    (h : Q (.bool (!decide (x = y))) s) : wpAny (model prog w) A (compareOp .NotEq (.ref x) (.ref y)) Q E s := by
  show wpAny _ _ (richCompare .NotEq (.ref x) (.ref y)) _ _ _
  unfold richCompare
  simp only [oneThing_ref, cmpInfo_NotEq]
  refine wpAny_holding (wpAny_bind (wpAny_cRoomFor (Nat.lt_of_succ_lt hu) ?_))
  refine wpAny_bind (I.type.here (wpAny_bind (J.type.here ?_)))
  by_cases hCD : C = D
  · subst hCD
    rw [if_neg (by simp)]
    refine wpAny_bind (wpAny_pure ?_)
    simp only [Bool.false_eq_true, if_false]
    refine wpAny_bind (try_ne2 hu X I J n ?_)
    by_cases hxy : x = y
    · rw [if_pos hxy]
      subst hxy
      exact wpAny_pure (by simpa using h)
    · rw [if_neg hxy]
      have hyx : ¬ y = x := fun z => hxy z.symm
      simp only [Bool.not_false, if_true]
      refine wpAny_bind (try_ne2 hu X J I n ?_)
      rw [if_neg hyx]
      refine wpAny_bind (wpAny_rule ?_)
      refine wpAny_bind (wpAny_isSame_ref_other hxy I.at_ J.at_ (by rw [I.cls]; intro z; cases z) ?_)
      exact wpAny_pure (by simpa [hxy] using h)
  · have hxy : ¬ x = y := fun z => by
      subst z
      have e1 := I.at_.symm.trans J.at_
      cases e1
      have e2 := I.cls.symm.trans J.cls
      cases e2
      exact hCD rfl
    have hyx : ¬ y = x := fun z => hxy z.symm
    rw [if_pos (by simp [hCD])]
    refine wpAny_bind ((PySem.W.looks_subIn X (hsub hCD)).here ?_)
    cases b with
    | true =>
      simp only [if_true]
      refine wpAny_bind (try_ne2 hu X J I m ?_)
      rw [if_neg hyx]
      refine wpAny_bind (try_ne2 hu X I J n ?_)
      rw [if_neg hxy]
      simp only [Bool.not_true, Bool.false_eq_true, if_false]
      refine wpAny_bind (wpAny_rule ?_)
      refine wpAny_bind (wpAny_isSame_ref_other hxy I.at_ J.at_ (by rw [I.cls]; intro z; cases z) ?_)
      exact wpAny_pure (by simpa [hxy] using h)
    | false =>
      simp only [Bool.false_eq_true, if_false]
      refine wpAny_bind (try_ne2 hu X I J n ?_)
      rw [if_neg hxy]
      simp only [Bool.not_false, if_true]
      refine wpAny_bind (try_ne2 hu X J I m ?_)
      rw [if_neg hyx]
      refine wpAny_bind (wpAny_rule ?_)
      refine wpAny_bind (wpAny_isSame_ref_other hxy I.at_ J.at_ (by rw [I.cls]; intro z; cases z) ?_)
      exact wpAny_pure (by simpa [hxy] using h)

end
/-! ### over the layer -/
section
variable {X : Cx}
/-- == of instances of two such classes -/
def rEqId (C D : Addr) (f : Bool → Bool) : R2 := fun x y H Q => ∃ a b dx dy fs gs, x = .ref a ∧ y = .ref b ∧ H a = some (.ins C dx fs) ∧ H b = some (.ins D dy gs) ∧ Q (.bl (f (decide (a = b)))) H
structure Pair2 (K : PySem.W.Frag) (C D : Addr) : Prop where
  l : NoEq2 K C
  r : NoEq2 K D
  sub : C ≠ D → ∃ b, PySem.W.subIn K (.ref D) (.ref C) = some b
/-- .. of classes that a test tells -/
def rEqS (K : PySem.W.Frag) (f : Bool → Bool) : R2 := fun x y H Q => ∃ C D, Pair2 K C D ∧ rEqId C D f x y H Q
theorem op_eqS (hu : X.A.units < cLine) : OpR X (compareOp .Eq) (rEqS X.K id) := by
  intro pins s σ H x y v u Q I rx ry h
  obtain ⟨C, D, p, a, b, dx, dy, fs, gs, rfl, rfl, ha, hb, q⟩ := h
  obtain rfl : v = Value.ref a := rx
  obtain rfl : u = Value.ref b := ry
  obtain ⟨mA, O, _⟩ := ins_get I.hok ha
  obtain ⟨od, J, _⟩ := O.look
  obtain ⟨mB, O', _⟩ := ins_get I.hok hb
  obtain ⟨od', J', _⟩ := O'.look
  by_cases hCD : C = D
  · exact eq_id2 (b := true) hu I.kIn J J' p.l p.r (fun z => absurd hCD z) ⟨.bl _, H, I, rfl, q⟩
  · obtain ⟨b, hb⟩ := p.sub hCD
    exact eq_id2 hu I.kIn J J' p.l p.r (fun _ => hb) ⟨.bl _, H, I, rfl, q⟩
theorem op_neS (hu : X.A.units + 1 < cLine) : OpR X (compareOp .NotEq) (rEqS X.K (!·)) := by
  intro pins s σ H x y v u Q I rx ry h
  obtain ⟨C, D, p, a, b, dx, dy, fs, gs, rfl, rfl, ha, hb, q⟩ := h
  obtain rfl : v = Value.ref a := rx
  obtain rfl : u = Value.ref b := ry
  obtain ⟨mA, O, _⟩ := ins_get I.hok ha
  obtain ⟨od, J, _⟩ := O.look
  obtain ⟨mB, O', _⟩ := ins_get I.hok hb
  obtain ⟨od', J', _⟩ := O'.look
  by_cases hCD : C = D
  · exact ne_id2 (b := true) hu I.kIn J J' p.l p.r (fun z => absurd hCD z) ⟨.bl _, H, I, rfl, q⟩
  · obtain ⟨b, hb⟩ := p.sub hCD
    exact ne_id2 hu I.kIn J J' p.l p.r (fun _ => hb) ⟨.bl _, H, I, rfl, q⟩
end
end Ov

set_option Elab.async false
set_option linter.all false
set_option maxRecDepth 100000
set_option maxHeartbeats 4000000
/-! calls with keywords alone: C(k = v), C.m(k = v) with a classmethod m -/
namespace Ov
open PySem PySem.Spec PyProof.Rows L2 GxR ClX
section
variable {X : Cx} {CX : CXT} {k n : Nat} {f C : Addr} {fd : FuncData} {ps ks : List Str} {sp : Sp} {E : XK} {x : Str} {p pos : Pos} {e : Expr} {es : List Expr} {kws : List Keyword} {t tk : TA} {g : List Value → List Value → List Value} {gV : List V → List V → List V}
def tMake0K (C : Addr) (m : Nat) (sp : Sp) (gV : List V → List V → List V) (E : XK) (tk : TA) : TE := fun σ H Q => tk σ H fun zs H2 => zs.length = m ∧
  ∀ x dx, H2 x = none → H2 dx = none → dx ≠ x → sp (gV [V.ref x] zs) (upd (upd H2 dx (.own x)) x (.ins C dx [])) (fun v H3 => v = .non ∧ Q (.ref x) H3) E
theorem pe_make0K (M : Mk X.K C f) (F : FnOk X.prog X.w X.K X.mg X.base CX k f fd ps sp) (hr : Room (k + 1) X.A) (hg : Gl X x) (hm : X.mg x = some (.ref C)) (hb : KBn X.K fd ps 1 ks g gV) (hx : Passes CX X E)
    (hkw : PK X kws tk) (hall : (backToKw pos (keywordEach kws X.env)).all (·.1.isSome) = true := by rfl) (hks : (backToKw pos (keywordEach kws X.env)).filterMap (·.1) = ks := by rfl)
    (hdb : (x == ("__debug__" : Str)) = false := by decide)
    (hpl : ((backTo pos (starEach [] X.env)).any (·.1) || (backToKw pos (keywordEach kws X.env)).any (·.1.isNone)) = false := by rfl) :
    PE X (.Call (.Name x p) [] kws pos) (tMake0K C ks.length sp gV E tk) := by
  refine ⟨fun pins s σ H Q I h => ?_⟩
  refine wpAny_Call_Name_kw (ld_glob I hg hm ?_ hdb)
  refine PySem.W.callWith_KW0 (h₀ := X.base) I.ok.mod.kin M.kp hall ?_ hpl
  refine thn (hkw.run pos pins s σ H _ I h) fun ws s2 ⟨zs, H2, I2, rz, l2, q2⟩ => ⟨I2.kIn, ?_⟩
  rw [hks]
  exact run_makeN M F hr hb hx I2 .nil rz rfl l2 q2
def tCMethK (C : Addr) (m : Nat) (sp : Sp) (gV : List V → List V → List V) (E : XK) (ta : TE) (tk : TA) : TE := fun σ H Q => ta σ H fun x H1 => x = .ref C ∧ tk σ H1 fun zs H2 => zs.length = m ∧ sp (gV [V.ref C] zs) H2 Q E
theorem run_cmK {pins : List (Addr × Obj)} {σ : L2.St} {H : Hp} {s : Shared} {q c : Addr} {Q : VK} {ws : List Value} {zs : List V} (F : FnOk X.prog X.w X.K X.mg X.base CX k c fd ps sp) (hr : Room k X.A) (hb : KBn X.K fd ps 1 ks g gV) (hx : Passes CX X E) (I : Inv X ((q, PySem.W.methodObj (.ref c) (.ref C)) :: pins) σ H s)
    (r : Vals zs ws) (l2 : zs.length = ks.length) (h : sp (gV [V.ref C] zs) H Q E) : wpAny (model X.prog X.w) X.A (call (.ref q) [] (ks.zip ws)) (EP X pins σ Q) X.xe s := by
  have z : wpAny (model X.prog X.w) X.A (call (.ref q) [] (ks.zip ws)) (EP X ((q, PySem.W.methodObj (.ref c) (.ref C)) :: pins) σ Q) X.xe s := by
    refine wpAny_call (PySem.W.method_call (pin_at I) (codeAny_mono (F.run X.A X.stack s H ⟨.ref C :: [], ks.zip ws⟩ (g [.ref C] ws) (gV [V.ref C] zs) Q E hr I.env0 (hb.to s [.ref C] ws I.kIn rfl (r.length.symm.trans l2)) (hb.rel (.cons rfl .nil) r) h) fun r s' hq => ?_))
    cases r with
    | error e => exact hx _ σ H s e s' I hq
    | ok fl =>
      cases fl with
      | ret u => exact I.after hq
      | next => exact False.elim hq
      | brk => exact False.elim hq
      | cont => exact False.elim hq
  exact thn z fun _ _ y => unpinE y
theorem pe_cmethK {mc : Value} {m : Str} {q c : Addr} {o : Expr} {apos : Pos} {ta : TE} {pl : Sem Bool} (he : PE X o ta) (r : CRead X.K C mc) (cm : CMet X.K C mc m q c) (F : FnOk X.prog X.w X.K X.mg X.base CX k c fd ps sp) (hr : Room k X.A) (hb : KBn X.K fd ps 1 ks g gV) (hx : Passes CX X E)
    (hkw : PK X kws tk) (hall : (backToKw pos (keywordEach kws X.env)).all (·.1.isSome) = true := by rfl) (hks : (backToKw pos (keywordEach kws X.env)).filterMap (·.1) = ks := by rfl)
    (hpl : ((backTo pos (starEach [] X.env)).any (·.1) || (backToKw pos (keywordEach kws X.env)).any (·.1.isNone)) = false := by rfl)
    (ht : eval (.Call (.Attribute o m apos) [] kws pos) X.env = (do
      let ov ← eval o X.env
      standAt apos.atName
      let (f, first) ← holding [ov] (getMethod ov m pl)
      callWith pos f first (backTo pos (starEach [] X.env)) (backToKw pos (keywordEach kws X.env))) := by rfl) :
    PE X (.Call (.Attribute o m apos) [] kws pos) (tCMethK C ks.length sp gV E ta tk) := by
  refine ⟨fun pins s σ H Q I h => ?_⟩
  refine PySem.W.methodCall_KW (pl := pl) (thn (he.run pins s σ H _ I h) fun u s1 ⟨x, H1, I1, rx, ex, q⟩ => ?_) ht
  subst ex
  obtain rfl : u = Value.ref C := rx
  refine getmethcm_ok I1 r cm fun s2 I2 => ?_
  refine PySem.W.callWith_of hpl (P := PySem.W.MethP X.K s1.heap.objs.size c (.ref C)) (PySem.W.keeps_M cm.fi) ?_
  refine evalArgs_kw2_nil hall ?_
  refine thn (hkw.run pos _ s2 σ H1 _ I2 q) fun ws s3 ⟨zs, H2, I3, rz, l2, q2⟩ => ⟨⟨pin_at I3, I3.kIn⟩, ?_⟩
  rw [hks]
  exact run_cmK F hr hb hx I3 rz l2 q2
end
/-! ### .. in the body of a try: what is wished of an error may speak of the slots -/
section
variable {X : Cx} {CX : CXT} {k n : Nat} {f C : Addr} {fd : FuncData} {ps ks : List Str} {sp : Sp} {E : L2.St → XK} {x : Str} {p pos : Pos} {e : Expr} {es : List Expr} {kws : List Keyword} {t tk : TA} {g : List Value → List Value → List Value} {gV : List V → List V → List V}
def tCMethS (C : Addr) (sp : Sp) (E : L2.St → XK) (ta : TE) (t : TA) : TE := fun σ H Q => ta σ H fun x H1 => x = .ref C ∧ t σ H1 fun vs H2 => sp (.ref C :: vs) H2 Q (E σ)
theorem pe_cmethS {mc : Value} {m : Str} {q c : Addr} {o : Expr} {apos : Pos} {ta : TE} {pl : Sem Bool} (he : PE X o ta) (r : CRead X.K C mc) (cm : CMet X.K C mc m q c) (F : FnR X.prog X.w X.K X.mg X.base CX k c sp) (hr : Room k X.A) (hx : ∀ σ, PassesAt CX X σ (E σ)) (ha : PA X (e :: es) t)
    (hst : starEach (e :: es) X.env = (false, eval e X.env) :: starEach es X.env := by rfl) (hpl : (backTo pos (starEach es X.env)).any (·.1) = false := by rfl)
    (ht : eval (.Call (.Attribute o m apos) (e :: es) [] pos) X.env = (do
      let ov ← eval o X.env
      standAt apos.atName
      let (f, first) ← holding [ov] (getMethod ov m pl)
      callWith pos f first (backTo pos (starEach (e :: es) X.env)) (backToKw pos (keywordEach [] X.env))) := by rfl) :
    PE X (.Call (.Attribute o m apos) (e :: es) [] pos) (tCMethS C sp E ta t) := by
  refine ⟨fun pins s σ H Q I h => ?_⟩
  refine PySem.W.methodCall_KW (pl := pl) (thn (he.run pins s σ H _ I h) fun u s1 ⟨x, H1, I1, rx, ex, q0⟩ => ?_) ht
  subst ex
  obtain rfl : u = Value.ref C := rx
  refine getmethcm_ok I1 r cm fun s2 I2 => ?_
  refine callwith_cm I2 (base_none I1 (Nat.le_refl _)) cm.fi (thn (ha.run pos _ s2 σ H1 _ I2 q0) fun us s3 ⟨vs, H2, I3, rv, q2⟩ => ⟨⟨pin_at I3, I3.kIn⟩, ?_⟩) hst hpl
  have z : wpAny (model X.prog X.w) X.A (call (.ref s1.heap.objs.size) ([] ++ us)) (EP X ((s1.heap.objs.size, PySem.W.methodObj (.ref c) (.ref C)) :: pins) σ Q) X.xe s3 := by
    refine wpAny_call (PySem.W.method_call (pin_at I3) (codeAny_mono (F X.A X.stack s3 H2 (.ref C :: us) (V.ref C :: vs) Q (E σ) hr I3.env0 (.cons rfl rv) q2) fun r s' hq => ?_))
    cases r with
    | error e => exact hx σ _ H2 s3 e s' I3 hq
    | ok fl =>
      cases fl with
      | ret u => exact I3.after hq
      | next => exact False.elim hq
      | brk => exact False.elim hq
      | cont => exact False.elim hq
  exact thn z fun _ _ y => unpinE y
def tCMethKS (C : Addr) (m : Nat) (sp : Sp) (gV : List V → List V → List V) (E : L2.St → XK) (ta : TE) (tk : TA) : TE := fun σ H Q => ta σ H fun x H1 => x = .ref C ∧ tk σ H1 fun zs H2 => zs.length = m ∧ sp (gV [V.ref C] zs) H2 Q (E σ)
theorem pe_cmethKS {mc : Value} {m : Str} {q c : Addr} {o : Expr} {apos : Pos} {ta : TE} {pl : Sem Bool} (he : PE X o ta) (r : CRead X.K C mc) (cm : CMet X.K C mc m q c) (F : FnOk X.prog X.w X.K X.mg X.base CX k c fd ps sp) (hr : Room k X.A) (hb : KBn X.K fd ps 1 ks g gV) (hx : ∀ σ, PassesAt CX X σ (E σ))
    (hkw : PK X kws tk) (hall : (backToKw pos (keywordEach kws X.env)).all (·.1.isSome) = true := by rfl) (hks : (backToKw pos (keywordEach kws X.env)).filterMap (·.1) = ks := by rfl)
    (hpl : ((backTo pos (starEach [] X.env)).any (·.1) || (backToKw pos (keywordEach kws X.env)).any (·.1.isNone)) = false := by rfl)
    (ht : eval (.Call (.Attribute o m apos) [] kws pos) X.env = (do
      let ov ← eval o X.env
      standAt apos.atName
      let (f, first) ← holding [ov] (getMethod ov m pl)
      callWith pos f first (backTo pos (starEach [] X.env)) (backToKw pos (keywordEach kws X.env))) := by rfl) :
    PE X (.Call (.Attribute o m apos) [] kws pos) (tCMethKS C ks.length sp gV E ta tk) := by
  refine ⟨fun pins s σ H Q I h => ?_⟩
  refine PySem.W.methodCall_KW (pl := pl) (thn (he.run pins s σ H _ I h) fun u s1 ⟨x, H1, I1, rx, ex, q0⟩ => ?_) ht
  subst ex
  obtain rfl : u = Value.ref C := rx
  refine getmethcm_ok I1 r cm fun s2 I2 => ?_
  refine PySem.W.callWith_of hpl (P := PySem.W.MethP X.K s1.heap.objs.size c (.ref C)) (PySem.W.keeps_M cm.fi) ?_
  refine evalArgs_kw2_nil hall ?_
  refine thn (hkw.run pos _ s2 σ H1 _ I2 q0) fun ws s3 ⟨zs, H2, I3, rz, l2, q2⟩ => ⟨⟨pin_at I3, I3.kIn⟩, ?_⟩
  rw [hks]
  have z : wpAny (model X.prog X.w) X.A (call (.ref s1.heap.objs.size) [] (ks.zip ws)) (EP X ((s1.heap.objs.size, PySem.W.methodObj (.ref c) (.ref C)) :: pins) σ Q) X.xe s3 := by
    refine wpAny_call (PySem.W.method_call (pin_at I3) (codeAny_mono (F.run X.A X.stack s3 H2 ⟨.ref C :: [], ks.zip ws⟩ (g [.ref C] ws) (gV [V.ref C] zs) Q (E σ) hr I3.env0 (hb.to s3 [.ref C] ws I3.kIn rfl (rz.length.symm.trans l2)) (hb.rel (.cons rfl .nil) rz) q2) fun r s' hq => ?_))
    cases r with
    | error e => exact hx σ _ H2 s3 e s' I3 hq
    | ok fl =>
      cases fl with
      | ret u => exact I3.after hq
      | next => exact False.elim hq
      | brk => exact False.elim hq
      | cont => exact False.elim hq
  exact thn z fun _ _ y => unpinE y
end
theorem valsGet : ∀ {vs : List V} {us : List Value} (_ : Vals vs us) (i : Nat), RelV (vs.getD i .non) (us.getD i .none)
  | _, _, .nil, i => by simp; rfl
  | _, _, .cons r t, 0 => by simpa using r
  | _, _, .cons r t, i + 1 => by simpa using valsGet t i
end Ov

set_option Elab.async false
set_option linter.all false
set_option maxRecDepth 100000
set_option maxHeartbeats 4000000
/-! a walk over enumerate; a property of an object whose class the reading tells; lists of bools -/
namespace Ov
open PySem PySem.Spec PyProof.Rows L2 GxR
theorem for_enumL {K : PySem.W.Frag} {a : Addr} {xs : List V} {g : TG} {tb : TS} {D : Ends} {σ : L2.St} {H : Hp} (Pv : Nat → L2.St → Hp → Prop) (h0 : Pv 0 σ H) (hl : ∀ i σ H, i ≤ xs.length → Pv i σ H → SqL K H a xs)
    (hs : ∀ i x σ H T, xs[i]? = some x → Pv i σ H → H T = none → g (.ref T) σ (upd H T (.tup [.int (i : Nat), x])) fun σ2 H2 => tb { D with nx := Pv (i + 1), ct := Pv (i + 1), bk := D.nx } σ2 H2) (hd : ∀ σ H, Pv xs.length σ H → D.nx σ H) :
    ∃ W : Nat → Nat → L2.St → Hp → Prop, (∃ m, W 0 m σ H) ∧ ∀ i m σ H, W i m σ H →
      ((Ite K a).stop i H ∧ D.nx σ H) ∨ ((Ite K a).go i H ∧ ∃ N : L2.St → Hp → Prop, (∀ σ' H', N σ' H' → ∃ m', m' < m ∧ W (i + 1) m' σ' H') ∧ ∀ x H', (Ite K a).yld i H x H' → g x σ H' fun σ2 H2 => tb { D with nx := N, ct := N, bk := D.nx } σ2 H2) := by
  refine ⟨fun i m σ H => m = xs.length - i ∧ i ≤ xs.length ∧ Pv i σ H, ⟨xs.length, by simp, Nat.zero_le _, h0⟩, ?_⟩
  rintro i m σ H ⟨rfl, hi, p⟩
  have q := hl i σ H hi p
  by_cases hlt : i < xs.length
  · refine .inr ⟨⟨xs, xs[i], q, by simp [hlt]⟩, Pv (i + 1), fun σ' H' p' => ⟨xs.length - (i + 1), by omega, rfl, hlt, p'⟩, fun x H' y => ?_⟩
    obtain ⟨T, x', e, hT, e2, y⟩ := y
    subst e e2
    exact hs i x' σ H T (y xs q) p hT
  · have e : i = xs.length := by omega
    subst e
    exact .inl ⟨⟨xs, q, Nat.le_refl _⟩, hd σ H p⟩
def tPropX (K : PySem.W.Frag) (f : Str) (p g : Addr) (sp : Sp) (dvs : List V) (E : XK) (ta : TE) : TE := fun σ H Q => ta σ H fun x H1 => ∃ a C dx fs, x = .ref a ∧ Cls K C ∧ PropOf K C f p g ∧ H1 a = some (.ins C dx fs) ∧ sp (.ref a :: dvs) H1 Q E
theorem pe_propX {X : Cx} {CX : CXT} {k : Nat} {p g : Addr} {f : Str} {fd : FuncData} {ps : List Str} {sp : Sp} {dvs : List V} {ds : List Value} {E : XK} {e : Expr} {pos : Pos} {ta : TE} (he : PE X e ta) (F : FnOk X.prog X.w X.K X.mg X.base CX k g fd ps sp) (hr : Room (k + 1) X.A) (hb : Binds X.K fd ps ds) (hd : Vals dvs ds) (hx : Passes CX X.nox E)
    (hab : attributeBase e f X.env (eval e X.env) = eval e X.env := by rfl) : PE X (.Attribute e f pos) (tPropX X.K f p g sp dvs E ta) := by
  refine ⟨fun pins s σ H Q I h => ?_⟩
  refine attr_of hab (thn (he.run pins s σ H _ I h) fun u s1 ⟨x, H1, I1, rx, a, C, dx, fs, ex, c, hp, ea, q⟩ => ?_)
  subst ex
  obtain rfl : u = Value.ref a := rx
  exact getprop_ok I1 ea c hp F hr hb hd hx q
/-- a list of bools as data -/
theorem dp_bools {K : PySem.W.Frag} {H : Hp} : ∀ bs : List Bool, DpAll K H (bs.map V.bl) (bs.map PyData.bool)
  | [] => .nil
  | b :: r => .cons (.bl b) (dp_bools r)
theorem eqv_4 (a b c d : Bool) : PyData.eqv (.list ([a, b, c, d].map PyData.bool)) (.list ([a, b, c, d].map PyData.bool)) = true := by
  cases a <;> cases b <;> cases c <;> cases d <;> decide
theorem shaped_4 (a b c d : Bool) : SeqAt.shaped (.list ([a, b, c, d].map PyData.bool)) = true := by
  cases a <;> cases b <;> cases c <;> cases d <;> decide
theorem same_new {H : Hp} {p : Addr} {o : HO} (e : H p = none) : L2.Same H (upd H p o) := fun b u hb => (upd_ne (ne_of_none hb e)).trans hb
end Ov

set_option Elab.async false
set_option linter.all false
set_option maxRecDepth 100000
set_option maxHeartbeats 4000000
/-! enumerate over a text, list of a text, list of a range, text * int -/
namespace Ov
open PySem PySem.Spec PyProof.Rows L2 GxR
/-- a text of small signs, each one with its place in a new pair -/
def Ites (x : Str) : It :=
  ⟨fun i _ => i < x.cps.size, fun i H v H' => ∃ T c, v = .ref T ∧ H T = none ∧ H' = upd H T (.tup [.int (i : Nat), .str ⟨#[c]⟩]) ∧ x.cps[i]? = some c, fun i _ => i = x.cps.size⟩
theorem turn_enumS {P : Program} {w : World} {K : PySem.W.Frag} {es : List Expr} {j : Nat} {tp : Pos} (x : Str) (t : Tok) (e it : Addr) :
    Turn P w K (.Tuple es j tp) (Ites x) [e, it] e (fun i h => (∃ old, IsEnum h e it ((i : Nat) : Int) old) ∧ h.IsStrIter it "str_ascii_iterator" x t i ∧ e ≠ it) where
  mem := by simp
  obj := fun i h st b hb => by
    obtain ⟨⟨old, he⟩, ⟨o, ho, hc, hd⟩, _⟩ := st
    rcases (by simpa using hb : b = e ∨ b = it) with z | z
    · subst z; exact ⟨_, he, fun v q => nomatch q⟩
    · subst z; exact ⟨o, ho, fun v q => by rw [hd] at q; cases q⟩
  keep := fun i h h' st k => by
    obtain ⟨⟨old, he⟩, ⟨o, ho, hc, hd⟩, hne⟩ := st
    exact ⟨⟨old, k e (by simp) _ he⟩, ⟨o, k it (by simp) _ ho, hc, hd⟩, hne⟩
  item := by
    intro X hP hw hK hcalm i pins s σ H E I hf st hg
    subst hP; subst hw; subst hK
    obtain ⟨⟨old, he⟩, hit, hne⟩ := st
    have lt_e : e < s.heap.objs.size := Heap.lt_size he
    have lt_i : it < s.heap.objs.size := by
      obtain ⟨_, q, _⟩ := hit
      exact Heap.lt_size q
    have hand : X.A.in1.handled = none := I.ok.hd hcalm
    refine wpAny_pyNext_enum_itemD (Draws.strAscii hand it x t) he hit hg hne (by simpa using hne) fun y h' tk py out st' pair size kept => ?_
    obtain ⟨c, u, hcx, rfl⟩ := py
    refine ⟨_, rfl, wpAny_letOwnedTupleGo_enum (s := { s with heap := h', toks := tk + 1 }) out fun h2 he2 sb => ?_⟩
    have pair2 := (sb.2 _ (Nat.ne_of_gt lt_e)).trans pair
    have fresh : ObjOk X.prog X.w (upd H s.heap.objs.size (.tup [.int (i : Nat), .str ⟨#[c]⟩])) h2 s.heap.objs.size (.tup [.int (i : Nat), .str ⟨#[c]⟩]) :=
      ⟨(by decide : 2 ≤ sizeLine), [.int i _, .str ⟨#[c]⟩ u], .cons ⟨_, rfl⟩ (.cons ⟨_, rfl⟩ .nil), ⟨_, pair2, rfl, _, rfl⟩⟩
    have J : Inv X pins σ (upd H s.heap.objs.size (.tup [.int (i : Nat), .str ⟨#[c]⟩])) { s with heap := h2, toks := tk + 1 } :=
      I.turnedNew (ch := [e, it]) (fun b ob hb q => (sb.2 b fun z => hb (by simp [z])).trans (kept b ob (fun z => hb (by simp [z])) (fun z => hb (by simp [z])) q)) hf (Nat.le_refl _) fresh
    obtain ⟨o2, ho2, hc2, hd2⟩ := st'
    refine ⟨.ref s.heap.objs.size, _, J, rfl, ⟨_, c, rfl, I.hok.fresh (Nat.le_refl _), rfl, hcx⟩, ⟨⟨.str ⟨#[c]⟩ u, ?_⟩, ⟨o2, (sb.2 it (Ne.symm hne)).trans ho2, hc2, hd2⟩, hne⟩, fun b hb => ?_⟩
    · rw [show ((i + 1 : Nat) : Int) = (i : Int) + 1 by omega]; exact he2
    · have lt_b : b < s.heap.objs.size := by
        rcases (by simpa using hb : b = e ∨ b = it) with z | z
        · subst z; exact lt_e
        · subst z; exact lt_i
      exact (upd_ne (Nat.ne_of_lt lt_b)).trans (hf b hb).1
  done := by
    intro X hP hw hK hcalm i pins s σ H E I hf st hg
    subst hP; subst hw; subst hK
    obtain ⟨⟨old, he⟩, hit, hne⟩ := st
    obtain ⟨z0, z1, z2, z3, z4, z5⟩ := hf it (by simp)
    have hand : X.A.in1.handled = none := I.ok.hd hcalm
    have hit' : s.heap.IsStrIter it "str_ascii_iterator" x t x.cps.size := by
      have hg' : i = x.cps.size := hg
      rw [← hg']; exact hit
    exact wpAny_pyNext_enum_endD (Draws.strAscii hand it x t) he hit' fun h' eb => ⟨rfl, I.turned (t' := s.toks) (fun b o hb q => eb b o hb q) z0 z1 z3 z4 z5⟩
  self := fun A i s Q E st h => by
    obtain ⟨⟨_, he⟩, _⟩ := st
    exact wpAny_pyIter_enum he h
def iEnumS (ta : TA) : TI := fun σ H R => ta σ H fun vs H1 => ∃ x : Str, vs = [.str x] ∧ x.cps.all (· < 128) = true ∧ R (Ites x) H1
theorem pi_enumS {X : Cx} {e : Expr} {ta : TA} {p pos tp : Pos} {es : List Expr} {j : Nat} (hg : Gl X "enumerate") (hm : X.mg "enumerate" = none) (ha : PA X [e] ta) (hs : starEach [e] X.env = [(false, eval e X.env)] := by rfl) :
    PI X (.Tuple es j tp) (.Call (.Name "enumerate" p) [e] [] pos) (iEnumS ta) := by
  refine ⟨fun pins s σ H R I h => ?_⟩
  refine Call_ (ld_blt I hg hm boot_enumerate (PyProof.Rows.callWith_type1 (thn (ha.run pos pins s σ H _ I h) fun us s1 ⟨vs, H1, I1, r1, q1⟩ => ?_) hs rfl))
  obtain ⟨x, rfl, asc, q⟩ := q1
  obtain ⟨u, rfl, t, rfl⟩ := vals1 r1
  refine call_enumerate_str fun h' he hit size kept => wpAny_pyIter_enum he ?_
  have hit' : h'.IsStrIter s1.heap.objs.size "str_ascii_iterator" x t 0 := by simpa [strIterType, asc] using hit
  have J : Inv X pins σ H1 { s1 with heap := h' } := I1.kept (t' := s1.toks) kept
  refine ⟨s1.heap.objs.size + 1, [s1.heap.objs.size + 1, s1.heap.objs.size], _, _, H1, rfl, J, turn_enumS x t (s1.heap.objs.size + 1) s1.heap.objs.size, ⟨⟨.none, he⟩, hit', Nat.succ_ne_self _⟩, fun b hb => ?_, q⟩
  have le_b : s1.heap.objs.size ≤ b := by
    rcases (by simpa using hb : b = s1.heap.objs.size + 1 ∨ b = s1.heap.objs.size) with z | z
    · subst z; exact Nat.le_succ _
    · subst z; exact Nat.le_refl _
  exact I1.fpOk le_b (I1.hok.fresh le_b)
theorem for_enumS {x : Str} {g : TG} {tb : TS} {D : Ends} {σ : L2.St} {H : Hp} (Pv : Nat → L2.St → Hp → Prop) (h0 : Pv 0 σ H)
    (hs : ∀ i c σ H T, x.cps[i]? = some c → Pv i σ H → H T = none → g (.ref T) σ (upd H T (.tup [.int (i : Nat), .str ⟨#[c]⟩])) fun σ2 H2 => tb { D with nx := Pv (i + 1), ct := Pv (i + 1), bk := D.nx } σ2 H2) (hd : ∀ σ H, Pv x.cps.size σ H → D.nx σ H) :
    ∃ W : Nat → Nat → L2.St → Hp → Prop, (∃ m, W 0 m σ H) ∧ ∀ i m σ H, W i m σ H →
      ((Ites x).stop i H ∧ D.nx σ H) ∨ ((Ites x).go i H ∧ ∃ N : L2.St → Hp → Prop, (∀ σ' H', N σ' H' → ∃ m', m' < m ∧ W (i + 1) m' σ' H') ∧ ∀ x' H', (Ites x).yld i H x' H' → g x' σ H' fun σ2 H2 => tb { D with nx := N, ct := N, bk := D.nx } σ2 H2) := by
  refine ⟨fun i m σ H => m = x.cps.size - i ∧ i ≤ x.cps.size ∧ Pv i σ H, ⟨x.cps.size, by simp, Nat.zero_le _, h0⟩, ?_⟩
  rintro i m σ H ⟨rfl, hi, p⟩
  by_cases hlt : i < x.cps.size
  · refine .inr ⟨hlt, Pv (i + 1), fun σ' H' p' => ⟨x.cps.size - (i + 1), by omega, rfl, hlt, p'⟩, fun y H' yy => ?_⟩
    obtain ⟨T, c, rfl, hT, rfl, hc⟩ := yy
    exact hs i c σ H T hc p hT
  · have e : i = x.cps.size := by omega
    subst e
    exact .inl ⟨rfl, hd σ H p⟩
theorem vals_ext : ∀ {xs : List V} {us : List Value}, xs.length = us.length → (∀ (i : Nat) (x : V) (u : Value), xs[i]? = some x → us[i]? = some u → RelV x u) → Vals xs us
  | [], [], _, _ => .nil
  | x :: xs, u :: us, h, k => .cons (k 0 x u rfl rfl) (vals_ext (by simpa using h) fun i y w h1 h2 => k (i + 1) y w (by simpa using h1) (by simpa using h2))
/-- list(text) -/
theorem call_listS {X : Cx} (hc : X.calm = true) : CallR X (.type "list") (fun xs H Q => ∃ z : Str, xs = [.str z] ∧ z.length ≤ sizeLine ∧ ∀ l, H l = none → Q (.ref l) (upd H l (.lst (z.cps.toList.map fun c => V.str ⟨#[c]⟩)))) := by
  intro pins s σ H xs us Q I r h
  obtain ⟨z, rfl, hz, q⟩ := h
  obtain ⟨u, rfl, t, rfl⟩ := vals1 r
  refine call_list_str (I.ok.hd hc) z t (hn := hz) fun h' tk acc' c' hk hS' hacc => ?_
  have lz : z.cps.toList.length = z.length := by simp [Str.length]
  have rel : Vals (z.cps.toList.map fun c => V.str ⟨#[c]⟩) acc'.toList := by
    refine vals_ext (by rw [List.length_map, lz, Array.length_toList, hacc.1]; rfl) fun i y w h1 h2 => ?_
    obtain ⟨c, u, e1, rfl⟩ := hacc.2 i w (by simpa using h2)
    rw [List.getElem?_map, Array.getElem?_toList, e1] at h1
    cases h1
    exact ⟨_, rfl⟩
  refine ⟨.ref s.heap.objs.size, _, I.laid (t' := tk) hk (Nat.le_refl _) ?_, rfl, q _ (I.hok.fresh (Nat.le_refl _))⟩
  exact ⟨by rw [List.length_map, lz]; exact hz, acc'.toList, c', rel, by simpa using hS'⟩
/-- text * int -/
theorem op_mulS {X : Cx} : OpR X (binaryOp .Mult) (fun x y H Q => ∃ (z : Str) (n : Int), x = .str z ∧ y = .int n ∧ 0 ≤ n ∧ n ≤ 1000 ∧ z.length ≤ 1000 ∧ Q (.str ⟨(List.replicate n.toNat z.cps.toList).flatten.toArray⟩) H) := by
  intro pins s σ H x y v u Q I rx ry h
  obtain ⟨z, n, rfl, rfl, h0, h1', hz, q⟩ := h
  obtain ⟨t, rfl⟩ := rx
  obtain ⟨t', rfl⟩ := ry
  have hn : ¬ n < -(2 ^ 63 : Int) := by omega
  refine PySem.P.mul_str (by simp; omega) (fun h1 h2 => ?_) (fun h1 h2 => ?_) ?_
  · refine Int.not_lt.mpr (Int.le_ediv_of_mul_le (by omega) ?_)
    have : (z.length : Int) * n ≤ 1000 * 1000 := Int.mul_le_mul (by omega) h1' h0 (by decide)
    omega
  · unfold Builtin.Str.tooLong
    have : z.length * n.toNat ≤ 1000 * 1000 := Nat.mul_le_mul hz (by omega)
    exact decide_eq_false (by rw [sizeLine_eq]; omega)
  · have e1 : n < 1 → (⟨(List.replicate n.toNat z.cps.toList).flatten.toArray⟩ : Str) = Str.empty := fun h => by
      have : n.toNat = 0 := by omega
      rw [this]; rfl
    have e2 : (n == 1 || z.length == 0) = true → (⟨(List.replicate n.toNat z.cps.toList).flatten.toArray⟩ : Str) = z := fun h => by
      rw [Bool.or_eq_true, beq_iff_eq, beq_iff_eq] at h
      rcases h with rfl | h
      · simp
      · have e : z.cps = #[] := Array.eq_empty_of_size_eq_zero h
        rw [show z = ⟨#[]⟩ from by cases z; simp_all]
        simp
    have e3 : ∀ (k : Nat) (acc : Array Nat), (List.replicate k z.cps).foldl (· ++ ·) acc = acc ++ (List.replicate k z.cps.toList).flatten.toArray := fun k => by
      induction k with
      | zero => intro acc; simp
      | succ k ih =>
        intro acc
        rw [List.replicate_succ, List.foldl_cons, ih, List.replicate_succ, List.flatten_cons]
        apply Array.ext'
        simp
    split
    · rename_i hlt
      rw [e1 hlt] at q
      exact ⟨by decide, .str _, H, I.tok _, ⟨_, rfl⟩, q⟩
    · split
      · rename_i hb
        rw [e2 hb] at q
        exact ⟨.str z, H, I, ⟨_, rfl⟩, q⟩
      · rw [e3 n.toNat #[]]
        have hl : ∀ k : Nat, ((List.replicate k z.cps.toList).flatten).length = z.length * k := fun k => by
          simp [Str.length, Nat.mul_comm]
        refine ⟨?_, .str _, H, I.tok _, ⟨_, rfl⟩, by simpa using q⟩
        have : z.length * n.toNat ≤ 1000 * 1000 := Nat.mul_le_mul hz (by omega)
        show (#[] ++ (List.replicate n.toNat z.cps.toList).flatten.toArray : Array Nat).size ≤ sizeLine
        have e5 : (#[] ++ (List.replicate n.toNat z.cps.toList).flatten.toArray : Array Nat).size = z.length * n.toNat := by
          rw [← hl n.toNat, Array.size_append, List.size_toArray, List.size_toArray]
          simp
        rw [e5, sizeLine_eq]
        omega
/-- list(a range object) -/
def rListR : List V → Hp → VK → Prop := fun xs H Q => ∃ (r : Addr) (lo hi : Int), xs = [.ref r] ∧ H r = some (.rng lo hi) ∧ -(2 ^ 40) ≤ lo ∧ lo ≤ 2 ^ 40 ∧ -(2 ^ 40) ≤ hi ∧ hi ≤ 2 ^ 40 ∧ hi - lo ≤ 100000 ∧
  ∀ l, H l = none → Q (.ref l) (upd H l (.lst ((List.range (hi - lo).toNat).map fun i => V.int (lo + (i : Nat)))))
theorem call_listR {X : Cx} (hc : X.calm = true) : CallR X (.type "list") rListR := by
  intro pins s σ H xs us Q I r h
  obtain ⟨a, lo, hi, rfl, ha, l1, l2, l3, l4, l5, q⟩ := h
  obtain ⟨u0, rfl, ru⟩ := vals1 r
  obtain rfl : u0 = Value.ref a := ru
  obtain ⟨t, u, v, hr⟩ := (show ObjOk X.prog X.w H s.heap a (.rng lo hi) from I.hok a _ ha)
  have sz : Builtin.Range.rangeSize lo hi 1 = ((hi - lo).toNat : Int) := by
    rw [rangeSize_one]
    split <;> omega
  have sm : Builtin.Range.small lo hi 1 = true := by
    unfold Builtin.Range.small Builtin.Range.rangeFitsLong
    simp only [sz]
    simp
    omega
  refine call_list_range (I.ok.hd hc) hr sm sz (by omega) fun h' tk acc' c' hk hS' hacc => ?_
  have rel : Vals ((List.range (hi - lo).toNat).map fun i => V.int (lo + (i : Nat))) acc'.toList := by
    refine vals_ext (by rw [List.length_map, List.length_range, Array.length_toList, hacc.1]) fun i y w h1 h2 => ?_
    obtain ⟨tt, rfl⟩ := hacc.2 i w (by simpa using h2)
    obtain ⟨hj, e⟩ := List.getElem?_eq_some_iff.mp h1
    simp at e
    subst e
    exact ⟨tt, by simp⟩
  refine ⟨.ref s.heap.objs.size, _, I.laid (t' := tk) hk (Nat.le_refl _) ?_, rfl, q _ (I.hok.fresh (Nat.le_refl _))⟩
  exact ⟨by rw [List.length_map, List.length_range, sizeLine_eq]; omega, acc'.toList, c', rel, by simpa using hS'⟩
end Ov

set_option Elab.async false
set_option linter.all false
set_option maxRecDepth 100000
set_option maxHeartbeats 4000000
/-! calls of an instance: in a try's body, by keywords -/
namespace Ov
open PySem PySem.Spec PyProof.Rows L2 GxR
theorem callI_of {M : Model} {A : Around} {Ex : Value → Shared → Prop} {s : Shared} {x : Addr} {ps : Pos} {Q : Value → Shared → Prop} {as : List (Bool × Sem Value)} {ks : List (Option Str × Sem Value)} (no : (as.any (·.1) || ks.any (·.1.isNone)) = false)
    (h : wpAny M A (evalArgs (.ref x) true as ks) (fun z t => (∃ C o od, PySem.W.InstAt t.heap x o C od ∧ o.data = .plain) ∧ wpAny M A (call (.ref x) ([] ++ z.pos) z.kw) Q Ex t) Ex s) : wpAny M A (callWith ps (.ref x) [] as ks) Q Ex s := by
  unfold callWith
  refine wpAny_bind (wpAny_holding (wpAny_mono h (fun z t ht => ?_) fun _ _ y => y))
  obtain ⟨⟨C, o, od, J, plain⟩, hc⟩ := ht
  refine wpAny_bind (wpAny_standAt ?_)
  simp only [no]
  refine wpAny_bind ((PySem.W.kco_keeper (M := M) J plain).here ?_)
  exact wpAny_bind (wpAny_mono (wpAny_operateT hc) (fun r u hu => wpAny_bind (wpAny_holding (wpAny_point (wpAny_pure hu)))) fun _ _ y => y)
section
variable {X : Cx} {CX : CXT} {k : Nat} {C g : Addr} {fd : FuncData} {ps ks : List Str} {sp : Sp} {E : L2.St → XK} {fe e : Expr} {es : List Expr} {kws : List Keyword} {tf : TE} {t tk : TA} {pos : Pos} {gL : List Value → List Value → List Value} {gV : List V → List V → List V}
/-- f(e, ..), f an instance of C with __call__ -/
def tCallI (C : Addr) (sp : Sp) (E : L2.St → XK) (tf : TE) (t : TA) : TE := fun σ H Q => tf σ H fun y H1 => ∃ a, y = V.ref a ∧ t σ H1 fun vs H2 => (∃ dx fs, H2 a = some (.ins C dx fs)) ∧ sp (V.ref a :: vs) H2 Q (E σ)
theorem inst_at {pins : List (Addr × Obj)} {σ : L2.St} {H : Hp} {s : Shared} {a dx : Addr} {fs : List (Str × V)} (I : Inv X pins σ H s) (h : H a = some (.ins C dx fs)) : ∃ o od, PySem.W.InstAt s.heap a o C od ∧ o.data = .plain := by
  obtain ⟨m, O, _⟩ := ins_get I.hok h
  obtain ⟨od, J, _⟩ := O.look
  exact ⟨_, _, J, rfl⟩
theorem pe_callI (hf : PE X fe tf) (c : StX.CallO X.K C g) (F : FnR X.prog X.w X.K X.mg X.base CX k g sp) (hr : Room k X.A) (hx : ∀ σ, PassesAt CX X σ (E σ)) (ha : PA X (e :: es) t)
    (ht : eval (.Call fe (e :: es) [] pos) X.env = (do callWith pos (← eval fe X.env) [] (backTo pos (starEach (e :: es) X.env)) (backToKw pos (keywordEach [] X.env))) := by rfl)
    (he : starEach (e :: es) X.env = (false, eval e X.env) :: starEach es X.env := by rfl) (hpl : (backTo pos (starEach es X.env)).any (·.1) = false := by rfl) : PE X (.Call fe (e :: es) [] pos) (tCallI C sp E tf t) := by
  refine ⟨fun pins s σ H Q I h => ?_⟩
  refine Call_ (thn (hf.run pins s σ H _ I h) fun u s1 ⟨y, H1, I1, ry, a, ey, q⟩ => ?_) ht
  subst ey
  obtain rfl : u = Value.ref a := ry
  refine StX.callO_with (thn (ha.run pos pins s1 σ H1 _ I1 q) fun us s2 ⟨vs, H2, I2, r, ⟨dx, fs, hi⟩, q2⟩ => ?_) he hpl
  obtain ⟨o, od, J, plain⟩ := inst_at I2 hi
  refine ⟨⟨C, o, od, J, plain⟩, wpAny_call (PySem.W.kco_code I2.kIn J plain c.at_ c.fn c.fi (codeAny_mono (F X.A X.stack s2 H2 (.ref a :: us) (V.ref a :: vs) Q (E σ) hr I2.env0 (.cons rfl r) q2) fun r s' hq => ?_))⟩
  cases r with
  | error e => exact hx σ _ H2 s2 e s' I2 hq
  | ok fl =>
    cases fl with
    | ret u => exact I2.after hq
    | next => exact False.elim hq
    | brk => exact False.elim hq
    | cont => exact False.elim hq
def tCallIK (C : Addr) (m : Nat) (sp : Sp) (gV : List V → List V → List V) (E : L2.St → XK) (tf : TE) (tk : TA) : TE := fun σ H Q => tf σ H fun y H1 => ∃ a, y = V.ref a ∧ tk σ H1 fun zs H2 => (∃ dx fs, H2 a = some (.ins C dx fs)) ∧ zs.length = m ∧ sp (gV [V.ref a] zs) H2 Q (E σ)
theorem pe_callIK (hf : PE X fe tf) (c : StX.CallO X.K C g) (F : FnOk X.prog X.w X.K X.mg X.base CX k g fd ps sp) (hr : Room k X.A) (hb : KBn X.K fd ps 1 ks gL gV) (hx : ∀ σ, PassesAt CX X σ (E σ)) (hkw : PK X kws tk)
    (hall : (backToKw pos (keywordEach kws X.env)).all (·.1.isSome) = true := by rfl) (hks : (backToKw pos (keywordEach kws X.env)).filterMap (·.1) = ks := by rfl)
    (hpl : ((backTo pos (starEach [] X.env)).any (·.1) || (backToKw pos (keywordEach kws X.env)).any (·.1.isNone)) = false := by rfl)
    (ht : eval (.Call fe [] kws pos) X.env = (do callWith pos (← eval fe X.env) [] (backTo pos (starEach [] X.env)) (backToKw pos (keywordEach kws X.env))) := by rfl) : PE X (.Call fe [] kws pos) (tCallIK C ks.length sp gV E tf tk) := by
  refine ⟨fun pins s σ H Q I h => ?_⟩
  show wpAny _ _ (eval (.Call fe [] kws pos) X.env) _ _ _
  rw [ht]
  refine wpAny_bind (thn (hf.run pins s σ H _ I h) fun u s1 ⟨y, H1, I1, ry, a, ey, q⟩ => ?_)
  subst ey
  obtain rfl : u = Value.ref a := ry
  refine callI_of hpl (evalArgs_kw2_nil hall ?_)
  refine thn (hkw.run pos pins s1 σ H1 _ I1 q) fun ws s2 ⟨zs, H2, I2, rz, ⟨dx, fs, hi⟩, l2, q2⟩ => ?_
  rw [hks]
  obtain ⟨o, od, J, plain⟩ := inst_at I2 hi
  refine ⟨⟨C, o, od, J, plain⟩, wpAny_call (PySem.W.kco_code I2.kIn J plain c.at_ c.fn c.fi (codeAny_mono (F.run X.A X.stack s2 H2 ⟨[.ref a], ks.zip ws⟩ (gL [.ref a] ws) (gV [V.ref a] zs) Q (E σ) hr I2.env0 (hb.to s2 [.ref a] ws I2.kIn rfl (rz.length.symm.trans l2)) (hb.rel (.cons rfl .nil) rz) q2) fun r s' hq => ?_))⟩
  cases r with
  | error e => exact hx σ _ H2 s2 e s' I2 hq
  | ok fl =>
    cases fl with
    | ret u => exact I2.after hq
    | next => exact False.elim hq
    | brk => exact False.elim hq
    | cont => exact False.elim hq
end
end Ov

set_option Elab.async false
set_option linter.all false
set_option maxRecDepth 100000
set_option maxHeartbeats 4000000
/-! x.replace('.', '') in a def's last test -/
namespace Ov
open PySem PySem.Spec PyProof.Rows L2 GxR CwR
section
variable {X : Cx} {a b e : Expr} {rest : List Expr} {ta tb te : TE} {pos p : Pos}
theorem pet_one {op : BoolOp} (h : PET X e te) : PET X (.BoolOp op [e] pos) te := fun pins s σ H Q h0 I q => BoolOp_one (h pins s σ H Q h0 I q)
theorem pet_and (ha : PE X a ta) (hb : PET X (.BoolOp .And (b :: rest) pos) tb) : PET X (.BoolOp .And (a :: b :: rest) pos) (tAndV ta tb) := by
  intro pins s σ H Q h0 I h
  refine BoolOp_and (wpAny_mono (PySem.wpAny_toks (ha.run pins s σ H _ I h)) (fun v s1 z => ?_) fun _ _ z => z.2)
  obtain ⟨hk, x, H1, I1, r1, c, rfl, q1⟩ := z
  cases r1
  refine wpAny_truthy_bool ?_
  cases c with
  | false => exact ⟨.bl false, H1, I1, rfl, q1⟩
  | true => exact hb pins s1 σ H1 Q (Nat.le_trans h0 hk) I1 q1
theorem pet_call1 {CX : CXT} {k : Nat} {f : Addr} {fd : FuncData} {ps : List Str} {sp : Sp} {E : XK} {x : Str} (F : FnOk X.prog X.w X.K X.mg X.base CX k f fd ps sp) (hr : Room k X.A) (hg : Gl X x) (hm : X.mg x = some (.ref f)) (hk : PySem.W.keepIn X.K (.ref f) = true) (hb : Binds X.K fd ps []) (hx : Passes CX X E) (he : PET X e te)
    (hdb : (x == ("__debug__" : Str)) = false := by decide) (hst : starEach [e] X.env = [(false, eval e X.env)] := by rfl) : PET X (.Call (.Name x p) [e] [] pos) (tCall sp [] E (tCons te tNil)) := by
  intro pins s σ H Q h0 I h
  refine wpAny_Call_Name_kw (ld_glob I hg hm ?_ hdb)
  have hst' : starEach [e] X.env = (false, eval e X.env) :: starEach [] X.env := hst
  refine PySem.W.callWith_K (h₀ := X.base) I.ok.mod.kin hk ?_ hst' (by rfl)
  refine PyProof.Rows.args_cons (thn (he pins s σ H _ h0 I h) fun v s1 ⟨y, H1, I1, r1, q1⟩ => PyProof.Rows.args_nil ?_) hst'
  exact ⟨I1.kIn, run_fn F hr hb .nil hx I1 (.cons r1 .nil) q1⟩
end
end Ov

set_option Elab.async false
set_option linter.all false
set_option maxRecDepth 100000
set_option maxHeartbeats 4000000
namespace Ov
open PySem PySem.Spec PyProof.Rows L2 GxR
abbrev sStrip : Stmt := top 43
abbrev sOver : Stmt := top 45
abbrev sWords : Stmt := inClass (top 46) 3
abbrev sWidth : Stmt := inClass (top 46) 4
abbrev sCall : Stmt := inClass (top 46) 7
def dotsB (z : Str) : Bool := z.cps.toList.all fun c => c == 46 || (decide (97 ≤ c) && decide (c ≤ 122))
def stripB (z : Str) (m : Int) : Bool := decide (1 ≤ (z.length : Int)) && decide ((z.length : Int) ≤ m) && dotsB z
theorem low_dots (z : Str) : lowB (Txt.replace z "." "") = dotsB z := by
  have e := replace_strikes z 46
  have e2 : (("." : Str), ("" : Str)) = (⟨#[46]⟩, ⟨#[]⟩) := by decide +kernel
  rw [(Prod.mk.inj e2).1, (Prod.mk.inj e2).2]
  unfold lowB dotsB
  rw [e, List.all_filter]
  congr 1
  funext c
  by_cases h : c = 46
  · subst h; rfl
  · have h1 : (c != 46) = true := by simp [h]
    have h2 : (c == 46) = false := by simp [h]
    rw [h1, h2]; simp
/-- the names that these defs read at the top -/
structure Txt2 (K : PySem.W.Frag) (mg : Str → Option Value) (fStrip fOver : Addr) : Prop where
  gStrip : mg "is_strip" = some (.ref fStrip)
  kStrip : PySem.W.keepIn K (.ref fStrip) = true
  gOver : mg "over" = some (.ref fOver)
  kOver : PySem.W.keepIn K (.ref fOver) = true
  cells : ∃ t, mg "MOST_CELLS" = some (.int 120 t)
section
variable {P : Program} {w : World} {K : PySem.W.Frag} {mg : Str → Option Value} {base : Heap} {T : List Addr} {C D fLow fText fAre fTape fNext fInks fInit cLow PLow cAre PAre fStrip fOver pWi fWi DSp DSg : Addr}
def spStrip (K : PySem.W.Frag) (T : List Addr) : Sp := fun vs H Q _ => ∃ (x : V) (m : Int), vs = [x, .int m] ∧ (∀ p ∈ T, TabG H p) ∧
  ((∃ z : Str, x = .str z ∧ z.length ≤ 4000 ∧ ∀ H2, Tbs T H H2 → Q (.bl (stripB z m)) H2) ∨ (∃ t, TyX K H x t ∧ PySem.W.kitOne K t (.type "str") = some false ∧ Q (.bl false) H))
theorem scStrip : FnScope ["thing", "most"] ["thing", "most"] (defScope sStrip) := ⟨rfl, rfl, rfl, by decide +kernel, rfl, by decide +kernel, by decide +kernel⟩
theorem ok_strip {f : Addr} {fd fdL : FuncData} (F : L2.Fun K "is_strip" "is_strip" sStrip f fd) (FL : FunC K "is_lowercase" "is_lowercase" sLow fLow fdL cLow) (X : Txt K mg C fLow fText fAre fTape fNext fInks) (B : Tab base mg T cLow PLow cAre PAre) : FnOk P w K mg base CX0 3 f fd ["thing", "most"] (spStrip K T) := by
  obtain ⟨oc, od, kV, doc, pm, an, cdv, ct, osl, rfl, lk, hcd⟩ := F.ex
  refine fn_ofT lk hcd scStrip (by decide +kernel) (by decide) (fun vs H Q E h => ?_) (fun A outer s H vs Q E hr h => ?_)
  · obtain ⟨x, m, rfl, _⟩ := h
    rfl
  · obtain ⟨x, m, rfl, hT, k⟩ := h
    refine ⟨_, CwR.psst_one (CwR.pst_ret (pet_and (pe_callB call_isi (by rfl) X.isi boot_isinstance (pa_cons (pv 0) (pa_cons (pe_bltn (v := .ty "str") (by rfl) X.str PySem.Pv.boot_str rfl) pa_nil)))
      (pet_and (pe_chain op_le op_le pe_int (pe_callB call_len_str (by rfl) X.len boot_len (pa_cons (pv 0) pa_nil)) (pv 1))
        (pet_one (pet_call1 (ok_low FL X B) hr (by rfl) X.gLow X.kLow (FL.toFun.binds fun _ _ _ _ _ _ us hl => match us, hl with | [_], _ => rfl) L2.pass0 (CwR.pet_replC (y := ".") (z := "") (pv 0))))))), ?_⟩
    rcases k with ⟨z, rfl, hz, k⟩ | ⟨t, ht, hk, k⟩
    · have hzs : z.length ≤ sizeLine := Nat.le_trans hz (by decide)
      refine ⟨_, rfl, _, _, _, _, _, rfl, .ty _, .base (.str _), kit_ty (r := true) (by decide +kernel), true, rfl, ?_⟩
      refine iteT ?_
      refine ⟨_, rfl, z, rfl, hzs, _, _, rfl, rfl, _, rfl, ?_⟩
      by_cases h1 : 1 ≤ (z.length : Int)
      · refine iteT' (by simpa using h1) ?_
        refine ⟨_, rfl, _, _, rfl, rfl, _, rfl, ?_⟩
        by_cases h2 : (z.length : Int) ≤ m
        · refine iteT' (by simpa using h2) ?_
          refine ⟨_, rfl, z, rfl, ?_, Txt.replace z "." "", rfl, hT, fun H2 q => ?_⟩
          · have : (("" : Str)).length = 0 := rfl
            rw [this]
            omega
          · have := k H2 q
            unfold stripB at this
            rw [low_dots]
            simpa [h1, h2] using this
        · refine iteF' (by simpa using h2) ?_
          have := k H (.refl hT)
          unfold stripB at this
          simpa [h1, h2] using this
      · refine iteF' (by simpa using h1) ?_
        refine ⟨_, rfl, ?_⟩
        refine iteF ?_
        have := k H (.refl hT)
        unfold stripB at this
        simpa [h1] using this
    · refine ⟨_, rfl, _, _, _, _, _, rfl, .ty _, ht, hk, false, rfl, ?_⟩
      exact iteF k
/-- the strip after a stamping at p -/
def overS (z w : Str) (p : Nat) : Str := ⟨(z.cps.toList.take p ++ w.cps.toList ++ z.cps.toList.drop (p + w.length)).toArray⟩
theorem tl_len (z : Str) : z.cps.toList.length = z.length := by simp [Str.length]
theorem over_cut (z w : Str) (p : Nat) (h : p + w.length ≤ z.length) : (cutS z none (some (p : Int)) ++ w) ++ cutS z (some ((p : Int) + w.length)) none = overS z w p := by
  have e1 : cutS z none (some (p : Int)) = ⟨(z.cps.toList.take p).toArray⟩ := by
    unfold cutS
    rw [HT.sIx_none, HT.sIx_nat, Nat.min_eq_left (by omega : p ≤ z.length), List.drop_zero, Nat.sub_zero]
  have e2 : cutS z (some ((p : Int) + w.length)) none = ⟨(z.cps.toList.drop (p + w.length)).toArray⟩ := by
    unfold cutS
    have : ((p : Int) + w.length) = ((p + w.length : Nat) : Int) := by omega
    rw [this, HT.sIx_none, HT.sIx_nat, Nat.min_eq_left h, List.take_of_length_le (by rw [List.length_drop, tl_len]; omega)]
  rw [e1, e2]
  show (⟨((z.cps.toList.take p).toArray ++ w.cps) ++ (z.cps.toList.drop (p + w.length)).toArray⟩ : Str) = overS z w p
  unfold overS
  congr 1
  apply Array.ext'
  simp
theorem overS_len (z w : Str) (p : Nat) (h : p + w.length ≤ z.length) : (overS z w p).length = z.length := by
  show ((z.cps.toList.take p ++ w.cps.toList ++ z.cps.toList.drop (p + w.length)).toArray).size = z.length
  rw [List.size_toArray, List.length_append, List.length_append, List.length_take, List.length_drop, tl_len, tl_len]
  omega
def spOver : Sp := fun vs H Q _ => ∃ (z u : Str) (p : Nat), vs = [.str z, .str u, .int (p : Nat)] ∧ p + u.length ≤ z.length ∧ z.length ≤ 4000 ∧ Q (.str (overS z u p)) H
theorem scOver : FnScope ["strip", "letters", "place"] ["strip", "letters", "place"] (defScope sOver) := ⟨rfl, rfl, rfl, by decide +kernel, rfl, by decide +kernel, by decide +kernel⟩
theorem ok_over {f : Addr} {fd : FuncData} (F : L2.Fun K "over" "over" sOver f fd) (X : Txt K mg C fLow fText fAre fTape fNext fInks) : FnOk P w K mg base CX0 1 f fd ["strip", "letters", "place"] spOver := by
  refine F.ok scOver (fun vs H Q E h => ?_) (fun cdv A outer s H vs Q E hr h => ?_)
  · obtain ⟨z, u, p, rfl, _⟩ := h
    rfl
  · obtain ⟨z, u, p, rfl, hp, hz, q⟩ := h
    have hzs : z.length ≤ sizeLine := Nat.le_trans hz (by decide)
    have hus : u.length ≤ sizeLine := Nat.le_trans (by omega : u.length ≤ z.length) hzs
    refine ⟨_, pss_one (ps_ret (pe_op op_add_str (pe_op op_add_str (pe_slice sl_str (pv 0) po_none (po_some (pv 2))) (pv 1)) (pe_slice sl_str (pv 0) (po_some (pe_op op_add (pv 2) (pe_callB call_len_str (by rfl) X.len boot_len (pa_cons (pv 1) pa_nil)))) po_none))), ?_⟩
    refine ⟨_, rfl, _, rfl, _, rfl, z, rfl, hzs, _, rfl, _, _, rfl, rfl, ?_, _, rfl, _, rfl, _, rfl, u, rfl, hus, _, _, rfl, rfl, _, rfl, z, rfl, hzs, _, _, rfl, rfl, ?_, ?_⟩
    · have := cutS_length z none (some (p : Int))
      rw [sizeLine_eq]; omega
    · have h1 := cutS_length z none (some (p : Int))
      have h2 := cutS_length z (some ((p : Int) + u.length)) none
      have h3 : (cutS z none (some (p : Int)) ++ u).length = (cutS z none (some (p : Int))).length + u.length := by
        show ((cutS z none (some (p : Int))).cps ++ u.cps).size = _
        rw [Array.size_append]; rfl
      rw [sizeLine_eq, h3]
      omega
    · have := over_cut z u p hp
      rw [this]
      exact q
end
end Ov

set_option Elab.async false
set_option linter.all false
set_option maxRecDepth 100000
set_option maxHeartbeats 4000000
namespace Ov
open PySem PySem.Spec PyProof.Rows L2 GxR
/-- words of stamps, their width -/
structure Good (ws : List Str) (W : Nat) : Prop where
  n1 : 1 ≤ ws.length
  n6 : ws.length ≤ 6
  w1 : 1 ≤ W
  w8 : W ≤ 8
  all : ∀ z ∈ ws, z.length = W ∧ lowB z = true
theorem good_of {ws : List Str} (h : stampsV (ws.map V.str) = true) : ∃ W, Good ws W := by
  have e : (ws.map V.str).map strV = ws := by rw [List.map_map]; exact List.map_id ws
  unfold stampsV at h
  rw [e] at h
  simp only [Bool.and_eq_true, decide_eq_true_eq, List.length_map] at h
  obtain ⟨h1, h2, h3, h4⟩ := h
  unfold tailB at h4
  simp only [Bool.and_eq_true] at h4
  have ta : ∀ z ∈ ws, textB z 8 = true := fun z hz => List.all_eq_true.mp h3 (.str z) (List.mem_map.mpr ⟨z, hz, rfl⟩)
  have la := List.all_eq_true.mp h4.1
  have hd : ∃ z, z ∈ ws ∧ ws.headD Str.empty = z := by
    cases ws with
    | nil => simp at h1
    | cons z r => exact ⟨z, List.mem_cons_self, rfl⟩
  obtain ⟨z0, hz0, e0⟩ := hd
  have t0 := ta z0 hz0
  unfold textB at t0
  simp only [Bool.and_eq_true, decide_eq_true_eq] at t0
  refine ⟨z0.length, h1, h2, by omega, by omega, fun z hz => ?_⟩
  have e1 := of_decide_eq_true (la z hz)
  rw [e0] at e1
  have t1 := ta z hz
  unfold textB at t1
  simp only [Bool.and_eq_true, decide_eq_true_eq] at t1
  exact ⟨e1, t1.2⟩
theorem Good.at {ws : List Str} {W : Nat} (g : Good ws W) {i : Nat} (hi : i < ws.length) : ws[i].length = W := (g.all _ (List.getElem_mem hi)).1
section
variable {P : Program} {w : World} {K : PySem.W.Frag} {mg : Str → Option Value} {base : Heap} {T : List Addr} {C D fLow fText fAre fTape fNext fInks fInit cLow PLow cAre PAre fStrip fOver pWi fWi pWo fWo fCl DSp DSg : Addr}
def spWidth (C : Addr) : Sp := fun vs H Q _ => ∃ (a l dx : Addr) (ws : List Str) (W : Nat), vs = [.ref a] ∧ Stp H C a l dx (ws.map V.str) ∧ Good ws W ∧ Q (.int (W : Nat)) H
theorem scSelf1 : FnScope ["self"] ["self"] (defScope sWidth) := ⟨rfl, rfl, rfl, by decide +kernel, rfl, by decide +kernel, by decide +kernel⟩
theorem scSelf2 : FnScope ["self"] ["self"] (defScope sWords) := ⟨rfl, rfl, rfl, by decide +kernel, rfl, by decide +kernel, by decide +kernel⟩
theorem at_0 {ws : List Str} (h : 1 ≤ ws.length) : atI (ws.map V.str) 0 = some (.str ws[0]) := by
  have h0 : (ws.map V.str)[0]? = some (.str ws[0]) := by rw [List.getElem?_map, List.getElem?_eq_getElem (by omega)]; rfl
  exact atI_nat (j := 0) h0
theorem at_i {ws : List Str} {i : Int} (h0 : 0 ≤ i) (h : i < ws.length) : atI (ws.map V.str) i = some (.str (ws.getD i.toNat Str.empty)) := by
  have hi : i.toNat < ws.length := by omega
  have h1 : (ws.map V.str)[i.toNat]? = some (.str (ws.getD i.toNat Str.empty)) := by
    rw [List.getElem?_map, List.getElem?_eq_getElem hi]
    simp [List.getD, hi]
  have e : i = (i.toNat : Int) := by omega
  have := atI_nat (j := i.toNat) h1
  rw [← e] at this
  exact this
theorem Good.get {ws : List Str} {W : Nat} (g : Good ws W) {i : Nat} (hi : i < ws.length) : (ws.getD i Str.empty).length = W ∧ lowB (ws.getD i Str.empty) = true := by
  have e : ws.getD i Str.empty = ws[i] := by simp [List.getD, hi]
  rw [e]
  exact g.all _ (List.getElem_mem hi)
theorem ok_width {f : Addr} {fd : FuncData} (F : L2.Fun K "width" "Stamps.width" sWidth f fd) (X : Txt K mg C fLow fText fAre fTape fNext fInks) (O : Own K C) : FnOk P w K mg base CX0 1 f fd ["self"] (spWidth C) := by
  refine F.ok scSelf1 (fun vs H Q E h => ?_) (fun cdv A outer s H vs Q E hr h => ?_)
  · obtain ⟨a, l, dx, ws, W, rfl, _⟩ := h
    rfl
  · obtain ⟨a, l, dx, ws, W, rfl, st, g, q⟩ := h
    refine ⟨_, pss_one (ps_ret (pe_callB call_len_str (by rfl) X.len boot_len (pa_cons (pe_ix ix_seq (pe_fld (pv 0) (by rfl)) pe_int fun _ _ => rfl) pa_nil))), ?_⟩
    have hl : 0 < ws.length := g.n1
    refine ⟨_, rfl, a, C, dx, _, _, rfl, st.1, O.cls, O.noW, rfl, .inl ⟨l, _, 0, .str ws[0], rfl, rfl, .inl (.inl st.2), at_0 g.n1, ws[0], rfl, ?_, ?_⟩⟩
    · rw [g.at hl]; exact Nat.le_trans g.w8 (by decide)
    · rw [g.at hl]; exact q
def spWords (C : Addr) : Sp := fun vs H Q _ => ∃ (a l dx : Addr) (xs : List V), vs = [.ref a] ∧ Stp H C a l dx xs ∧ ∀ p, H p = none → Q (.ref p) (upd H p (.lst xs))
theorem ok_words {f : Addr} {fd : FuncData} (F : L2.Fun K "words" "Stamps.words" sWords f fd) (X : Txt K mg C fLow fText fAre fTape fNext fInks) (O : Own K C) : FnOk P w K mg base CX0 1 f fd ["self"] (spWords C) := by
  refine F.ok scSelf2 (fun vs H Q E h => ?_) (fun cdv A outer s H vs Q E hr h => ?_)
  · obtain ⟨a, l, dx, xs, rfl, _⟩ := h
    rfl
  · obtain ⟨a, l, dx, xs, rfl, st, q⟩ := h
    refine ⟨_, pss_one (ps_ret (pe_callTy call_list_of (by rfl) X.lst (by decide +kernel) (pa_cons (pe_fld (pv 0) (by rfl)) pa_nil))), ?_⟩
    exact ⟨_, rfl, a, C, dx, _, _, rfl, st.1, O.cls, O.noW, rfl, l, xs, rfl, .inl (.inl (.inl st.2)), q⟩
/-- what a call of stamps gives: a strip, or the class of the error -/
inductive Called where
  | row (z : Str)
  | noStrip
  | noStamping
def calledS (ws : List Str) (W : Nat) (z : Str) (i at_ : Int) : Called :=
  if stripB z 120 = false then .noStrip else if 0 ≤ i ∧ i < ws.length ∧ 0 ≤ at_ ∧ at_ + W ≤ z.length then .row (overS z (ws.getD i.toNat Str.empty) at_.toNat) else .noStamping
def ans (c : Called) (DSp DSg : Addr) (H : Hp) (Q : VK) (E : XK) : Prop := match c with
  | .row z => Q (.str z) H
  | .noStrip => E (.ref DSp) none H
  | .noStamping => E (.ref DSg) none H
def spCall (K : PySem.W.Frag) (T : List Addr) (C DSp DSg : Addr) : Sp := fun vs H Q E => ∃ (a l dx : Addr) (ws : List Str) (W : Nat) (x : V) (i at_ : Int), vs = [.ref a, x, .int i, .int at_] ∧ Stp H C a l dx (ws.map V.str) ∧ Good ws W ∧ (∀ p ∈ T, TabG H p) ∧
  ((∃ z : Str, x = .str z ∧ z.length ≤ 4000 ∧ ∀ H2, Tbs T H H2 → ans (calledS ws W z i at_) DSp DSg H2 Q E) ∨ (∃ t, TyX K H x t ∧ PySem.W.kitOne K t (.type "str") = some false ∧ E (.ref DSp) none H))
theorem scCall : FnScope ["self", "strip", "word", "place"] ["self", "strip", "word", "place"] (defScope sCall) := ⟨rfl, rfl, rfl, by decide +kernel, rfl, by decide +kernel, by decide +kernel⟩
theorem ok_call {f : Addr} {fd fdS fdL fdO fdW : FuncData} (F : L2.Fun K "__call__" "Stamps.__call__" sCall f fd) (FS : L2.Fun K "is_strip" "is_strip" sStrip fStrip fdS) (FL : FunC K "is_lowercase" "is_lowercase" sLow fLow fdL cLow) (FO : L2.Fun K "over" "over" sOver fOver fdO) (FW : L2.Fun K "width" "Stamps.width" sWidth fWi fdW)
    (X : Txt K mg C fLow fText fAre fTape fNext fInks) (X2 : Txt2 K mg fStrip fOver) (B : Tab base mg T cLow PLow cAre PAre) (O : Own K C) (hp : PropOf K C "width" pWi fWi) (E1 : ErrC K mg "InvalidStrip" DSp) (E2 : ErrC K mg "InvalidStamping" DSg) :
    FnOk P w K mg base (L2.CX P w) 4 f fd ["self", "strip", "word", "place"] (spCall K T C DSp DSg) := by
  have SS : FnOk P w K mg base CX0 3 fStrip fdS ["thing", "most"] (spStrip K T) := ok_strip FS FL X B
  have bS : Binds K fdS ["thing", "most"] [] := FS.binds fun _ _ _ _ _ _ us hl => match us, hl with | [_, _], _ => rfl
  have OO : FnOk P w K mg base CX0 1 fOver fdO ["strip", "letters", "place"] spOver := ok_over FO X
  have bO : Binds K fdO ["strip", "letters", "place"] [] := FO.binds fun _ _ _ _ _ _ us hl => match us, hl with | [_, _, _], _ => rfl
  have WW : FnOk P w K mg base CX0 1 fWi fdW ["self"] (spWidth C) := ok_width FW X O
  have bW : Binds K fdW ["self"] [] := FW.binds fun _ _ _ _ _ _ us hl => match us, hl with | [_], _ => rfl
  obtain ⟨t120, g120⟩ := X2.cells
  refine F.okX scCall (fun vs H Q E h => ?_) (fun cdv A outer s H vs Q E hr h => ?_)
  · obtain ⟨a, l, dx, ws, W, x, i, at_, rfl, _⟩ := h
    rfl
  · obtain ⟨a, l, dx, ws, W, x, i, at_, rfl, st, g, hT, k⟩ := h
    refine ⟨_, pss_cons (ps_if (pt_not (pt_val (pe_call SS hr (by rfl) X2.gStrip X2.kStrip bS .nil L2.pass0 (pa_cons (pv 1) (pa_cons (pe_glob (v := .int 120) (by rfl) g120 ⟨_, rfl⟩) pa_nil))))) (pss_one (ps_raise rfl (takes_of rfl rfl rfl rfl) (pmk_own PySem.F.excBase_ValueError E1.e E1.g E1.k (raises_own E1.b E1.t) (by rfl)))) pss_nil)
      (pss_cons (ps_if (pt_not (pt_chain op_le op_lt pe_int (pv 2) (pe_callB call_len_seq (by rfl) X.len boot_len (pa_cons (pe_fld (pv 0) (by rfl)) pa_nil)))) (pss_one (ps_raise rfl (takes_of rfl rfl rfl rfl) (pmk_own PySem.F.excBase_ValueError E2.e E2.g E2.k (raises_own E2.b E2.t) (by rfl)))) pss_nil)
      (pss_cons (ps_if (pt_not (pt_chain op_le op_le pe_int (pv 3) (pe_op op_sub (pe_callB call_len_str (by rfl) X.len boot_len (pa_cons (pv 1) pa_nil)) (pe_propX (p := pWi) (pv 0) WW (hr.mono (by decide)) bW .nil L2.pass0)))) (pss_one (ps_raise rfl (takes_of rfl rfl rfl rfl) (pmk_own PySem.F.excBase_ValueError E2.e E2.g E2.k (raises_own E2.b E2.t) (by rfl)))) pss_nil)
      (pss_one (ps_ret (pe_call OO (hr.mono (by decide)) (by rfl) X2.gOver X2.kOver bO .nil L2.pass0 (pa_cons (pv 1) (pa_cons (pe_ix ix_seq (pe_fld (pv 0) (by rfl)) (pv 2) fun _ _ => rfl) (pa_cons (pv 3) pa_nil)))))))), ?_⟩
    rcases k with ⟨z, rfl, hz, k⟩ | ⟨t, ht, hk, k⟩
    · refine ⟨_, rfl, _, _, rfl, hT, .inl ⟨z, rfl, hz, fun H2 h2 => ⟨_, rfl, ?_⟩⟩⟩
      have kk := k H2 h2
      have st2 : Stp H2 C a l dx (ws.map V.str) := ⟨h2.kep.at hT st.1 fun _ z => (by cases z), h2.kep.at hT st.2 fun _ z => (by cases z)⟩
      unfold calledS at kk
      cases hs : stripB z 120 with
      | false =>
        rw [hs, if_pos rfl] at kk
        exact iteT kk
      | true =>
        rw [hs, if_neg (by decide)] at kk
        refine iteF ?_
        have hzs : z.length ≤ sizeLine := Nat.le_trans hz (by decide)
        have lws : (ws.map V.str).length = ws.length := List.length_map ..
        have no : ∀ {X : Prop}, ¬ (0 ≤ i ∧ i < ws.length ∧ 0 ≤ at_ ∧ at_ + W ≤ z.length) → (E (.ref DSg) none H2 → X) → X := fun h f => by
          rw [if_neg h] at kk
          exact f kk
        refine ⟨_, rfl, _, _, rfl, rfl, _, rfl, ?_⟩
        by_cases c1 : 0 ≤ i
        case neg =>
          refine iteF' (by simpa using c1) ⟨_, rfl, iteT ?_⟩
          exact no (fun h => c1 h.1) id
        refine iteT' (by simpa using c1) ⟨_, rfl, a, C, dx, _, _, rfl, st2.1, O.cls, O.noW, rfl, l, _, rfl, .inl (.inl (.inl st2.2)), _, _, rfl, rfl, _, rfl, ?_⟩
        by_cases c2 : i < ws.length
        case neg =>
          refine iteT' (by rw [lws]; simpa using c2) ?_
          exact no (fun h => c2 h.2.1) id
        refine iteF' (by rw [lws]; simpa using c2) ?_
        refine ⟨_, rfl, _, _, rfl, rfl, _, rfl, ?_⟩
        by_cases c3 : 0 ≤ at_
        case neg =>
          refine iteF' (by simpa using c3) ⟨_, rfl, iteT ?_⟩
          exact no (fun h => c3 h.2.2.1) id
        refine iteT' (by simpa using c3) ⟨_, rfl, z, rfl, hzs, _, rfl, a, C, dx, _, rfl, O.cls, hp, st2.1, ⟨a, l, dx, ws, W, rfl, st2, g, ?_⟩⟩
        refine ⟨_, _, rfl, rfl, _, _, rfl, rfl, _, rfl, ?_⟩
        by_cases c4 : at_ + W ≤ z.length
        case neg =>
          refine iteT' (by simp; omega) ?_
          exact no (fun h => c4 h.2.2.2) id
        refine iteF' (by simp; omega) ?_
        rw [if_pos ⟨c1, c2, c3, c4⟩] at kk
        obtain ⟨gl, _⟩ := g.get (i := i.toNat) (by omega)
        have ea : at_ = (at_.toNat : Int) := by omega
        refine ⟨_, rfl, _, rfl, a, C, dx, _, _, rfl, st2.1, O.cls, O.noW, rfl, _, rfl, .inl ⟨l, _, i, _, rfl, rfl, .inl (.inl st2.2), at_i c1 c2, _, rfl, ?_⟩⟩
        refine ⟨z, _, at_.toNat, by rw [← ea]; rfl, ?_, hz, kk⟩
        rw [gl]; omega
    · refine ⟨_, rfl, _, _, rfl, hT, .inr ⟨t, ht, hk, _, rfl, iteT k⟩⟩
end
end Ov

set_option Elab.async false
set_option linter.all false
set_option maxRecDepth 100000
set_option maxHeartbeats 4000000
/-! the pieces of words: what the program's dicts of them hold -/
namespace Ov
open PySem PySem.Spec PyProof.Rows L2 GxR
abbrev Sp4 := List (Str × List (Nat × Nat))
def addP (M : Sp4) (p : Str) (x : Nat × Nat) : Sp4 := if (M.any fun e => decide (e.1 = p)) = true then M.map (fun e => if e.1 = p then (e.1, e.2 ++ [x]) else e) else M ++ [(p, [x])]
def sub (z : Str) (o e : Nat) : Str := cutS z (some (o : Int)) (some (e : Int))
def foldK (z : Str) (w o : Nat) (M : Sp4) (k : Nat) : Sp4 := (List.range k).foldl (fun M k => addP M (sub z o (o + 1 + k)) (w, o)) M
def foldO (z : Str) (w : Nat) (M : Sp4) (j : Nat) : Sp4 := (List.range j).foldl (fun M o => foldK z w o M (z.length - o)) M
def foldW (ws : List Str) (i : Nat) : Sp4 := (List.range i).foldl (fun M w => foldO (ws.getD w Str.empty) w M (ws.getD w Str.empty).length) []
/-- the pieces of the words, each with its places, in the order in which they are met -/
def spotsF (ws : List Str) : Sp4 := foldW ws ws.length
theorem foldK_succ {z : Str} {w o k : Nat} {M : Sp4} : foldK z w o M (k + 1) = addP (foldK z w o M k) (sub z o (o + 1 + k)) (w, o) := by
  unfold foldK; rw [List.range_succ, List.foldl_append]; rfl
theorem foldO_succ {z : Str} {w j : Nat} {M : Sp4} : foldO z w M (j + 1) = foldK z w j (foldO z w M j) (z.length - j) := by
  unfold foldO; rw [List.range_succ, List.foldl_append]; rfl
theorem foldW_succ {ws : List Str} {i : Nat} : foldW ws (i + 1) = foldO (ws.getD i Str.empty) i (foldW ws i) (ws.getD i Str.empty).length := by
  unfold foldW; rw [List.range_succ, List.foldl_append]; rfl
/-- at most n pieces, at most n places each -/
def Bd (n : Nat) (M : Sp4) : Prop := M.length ≤ n ∧ ∀ e ∈ M, e.2.length ≤ n
theorem Bd.add {n : Nat} {M : Sp4} {p : Str} {x : Nat × Nat} (h : Bd n M) : Bd (n + 1) (addP M p x) := by
  obtain ⟨h1, h2⟩ := h
  unfold addP
  split
  · refine ⟨by rw [List.length_map]; omega, fun e he => ?_⟩
    obtain ⟨e', he', rfl⟩ := List.mem_map.mp he
    have := h2 e' he'
    split
    · rw [List.length_append, List.length_singleton]; omega
    · omega
  · refine ⟨by rw [List.length_append, List.length_singleton]; omega, fun e he => ?_⟩
    rcases List.mem_append.mp he with h | h
    · have := h2 e h; omega
    · rw [List.mem_singleton.mp h]
      show 1 ≤ n + 1
      omega
theorem Bd.mono {n m : Nat} {M : Sp4} (h : Bd n M) (e : n ≤ m) : Bd m M := ⟨by have := h.1; omega, fun x hx => by have := h.2 x hx; omega⟩
theorem Bd.K {n : Nat} {z : Str} {w o : Nat} {M : Sp4} (h : Bd n M) : ∀ k, Bd (n + k) (foldK z w o M k)
  | 0 => h
  | k + 1 => by rw [foldK_succ]; exact (Bd.K h k).add
theorem Bd.O {n : Nat} {z : Str} {w : Nat} {M : Sp4} (h : Bd n M) (hz : z.length ≤ 8) : ∀ j, Bd (n + 8 * j) (foldO z w M j)
  | 0 => h
  | j + 1 => by rw [foldO_succ]; exact (Bd.K (Bd.O h hz j) _).mono (by omega)
theorem Bd.W {ws : List Str} (hz : ∀ z ∈ ws, z.length ≤ 8) : ∀ i, Bd (64 * i) (foldW ws i)
  | 0 => ⟨Nat.le_refl 0, fun e he => by cases he⟩
  | i + 1 => by
    rw [foldW_succ]
    have h8 : (ws.getD i Str.empty).length ≤ 8 := by
      by_cases c : i < ws.length
      · have e : ws.getD i Str.empty = ws[i] := by simp [List.getD, c]
        rw [e]; exact hz _ (List.getElem_mem c)
      · have e : ws.getD i Str.empty = Str.empty := by simp [List.getD, c]
        rw [e]; decide
    exact (Bd.O (Bd.W hz i) h8 _).mono (by omega)
/-! ### the heap -/
/-- a pair (word, offset), a tuple that is new -/
def Tu (H0 H : Hp) (v : V) (x : Nat × Nat) : Prop := ∃ q, v = .ref q ∧ H0 q = none ∧ H q = some (.tup [.int (x.1 : Nat), .int (x.2 : Nat)])
def SpE (H0 H : Hp) (kv : Key × V) (e : Str × List (Nat × Nat)) : Prop := kv.1 = .inr e.1 ∧ ∃ l vs, kv.2 = .ref l ∧ H0 l = none ∧ H l = some (.lst vs) ∧ Paired (Tu H0 H) vs e.2
/-- the dict of the pieces' places -/
structure SpI (H0 H : Hp) (d : Addr) (kvs : List (Key × V)) (M : Sp4) : Prop where
  at_ : H d = some (.dK kvs)
  new : H0 d = none
  pr : Paired (SpE H0 H) kvs M
  vd : (kvs.map (·.2)).Nodup
  nd : (M.map (·.1)).Nodup
/-- what was made since H0 stays -/
def NK (H0 H H2 : Hp) : Prop := ∀ b o, H0 b = none → (∀ ps, o ≠ HO.tbl ps) → H b = some o → H2 b = some o
theorem NK.refl {H0 H : Hp} : NK H0 H H := fun _ _ _ _ e => e
theorem NK.trans {H0 H1 H2 H3 : Hp} (a : NK H0 H1 H2) (b : NK H0 H2 H3) : NK H0 H1 H3 := fun c o h n e => b c o h n (a c o h n e)
theorem Tu.keep {H0 H H2 : Hp} {v : V} {x : Nat × Nat} (k : NK H0 H H2) (h : Tu H0 H v x) : Tu H0 H2 v x := by
  obtain ⟨q, e, n, a⟩ := h
  exact ⟨q, e, n, k q _ n (fun _ z => by cases z) a⟩
theorem pairedMono {α β : Type} {F G : α → β → Prop} (h : ∀ a b, F a b → G a b) : ∀ {l : List α} {m : List β}, Paired F l m → Paired G l m
  | _, _, .nil => .nil
  | _, _, .cons a t => .cons (h _ _ a) (pairedMono h t)
theorem SpE.keep {H0 H H2 : Hp} {kv : Key × V} {e : Str × List (Nat × Nat)} (k : NK H0 H H2) (h : SpE H0 H kv e) : SpE H0 H2 kv e := by
  obtain ⟨e1, l, vs, e2, n, a, p⟩ := h
  exact ⟨e1, l, vs, e2, n, k l _ n (fun _ z => by cases z) a, pairedMono (fun _ _ => Tu.keep k) p⟩
theorem SpI.keep {H0 H H2 : Hp} {d : Addr} {kvs : List (Key × V)} {M : Sp4} (k : NK H0 H H2) (h : SpI H0 H d kvs M) : SpI H0 H2 d kvs M :=
  ⟨k d _ h.new (fun _ z => by cases z) h.at_, h.new, pairedMono (fun _ _ => SpE.keep k) h.pr, h.vd, h.nd⟩
theorem pairedAppend {α β : Type} {F : α → β → Prop} : ∀ {l l2 : List α} {m m2 : List β}, Paired F l m → Paired F l2 m2 → Paired F (l ++ l2) (m ++ m2)
  | _, _, _, _, .nil, h => h
  | _, _, _, _, .cons a t, h => .cons a (pairedAppend t h)
theorem pairedLen {α β : Type} {F : α → β → Prop} : ∀ {l : List α} {m : List β}, Paired F l m → l.length = m.length
  | _, _, .nil => rfl
  | _, _, .cons _ t => congrArg (· + 1) (pairedLen t)
/-- no piece p: no key -/
theorem SpI.none_iff {H0 H : Hp} {p : Str} : ∀ {kvs : List (Key × V)} {M : Sp4}, Paired (SpE H0 H) kvs M → (valV kvs (.inr p) = none ↔ (M.any fun e => decide (e.1 = p)) = false)
  | _, _, .nil => by simp [valV]
  | _, _, .cons (a := kv) (b := e) h t => by
    have ih := none_iff (p := p) t
    obtain ⟨e1, _⟩ := h
    by_cases c : e.1 = p
    · rw [valV_pos (by rw [e1, c])]
      simp [c]
    · rw [valV_neg (by rw [e1]; intro z; exact c (Sum.inr.inj z)), ih]
      simp [c]
/-- a piece that is there: its list -/
theorem SpI.some_of {H0 H : Hp} {p : Str} {v : V} : ∀ {kvs : List (Key × V)} {M : Sp4}, Paired (SpE H0 H) kvs M → valV kvs (.inr p) = some v → ∃ l vs e, e ∈ M ∧ e.1 = p ∧ v = .ref l ∧ H0 l = none ∧ H l = some (.lst vs) ∧ Paired (Tu H0 H) vs e.2
  | _, _, .nil, h => by simp [valV] at h
  | _, _, .cons (a := kv) (b := e) h t, hv => by
    have h' := h
    obtain ⟨e1, l, vs, e2, n, a, pr⟩ := h'
    by_cases c : e.1 = p
    · rw [valV_pos (by rw [e1, c])] at hv
      have : kv.2 = v := Option.some.inj hv
      exact ⟨l, vs, e, List.mem_cons_self, c, by rw [← this, e2], n, a, pr⟩
    · rw [valV_neg (by rw [e1]; intro z; exact c (Sum.inr.inj z))] at hv
      obtain ⟨l, vs, e', m, q⟩ := some_of t hv
      exact ⟨l, vs, e', List.mem_cons_of_mem _ m, q⟩
theorem tu_but {H0 H H2 : Hp} {l : Addr} {vs : List V} (hl : H l = some (.lst vs)) (oth : ∀ b o, b ≠ l → H b = some o → H2 b = some o) {v : V} {x : Nat × Nat} (h : Tu H0 H v x) : Tu H0 H2 v x := by
  obtain ⟨q, e, n, a⟩ := h
  refine ⟨q, e, n, oth q _ (fun z => ?_) a⟩
  rw [z, hl] at a
  cases a
theorem spE_but {H0 H H2 : Hp} {l : Addr} {vs : List V} (hl : H l = some (.lst vs)) (oth : ∀ b o, b ≠ l → H b = some o → H2 b = some o) {kv : Key × V} {e : Str × List (Nat × Nat)} (n : kv.2 ≠ .ref l) (h : SpE H0 H kv e) : SpE H0 H2 kv e := by
  obtain ⟨e1, l', vs', e2, n', a, p⟩ := h
  exact ⟨e1, l', vs', e2, n', oth l' _ (fun z => n (by rw [e2, z])) a, pairedMono (fun _ _ => tu_but hl oth) p⟩
theorem valV_mem {kvs : List (Key × V)} {k : Key} {v : V} (h : valV kvs k = some v) : v ∈ kvs.map (·.2) := by
  unfold valV at h
  cases q : kvs.find? fun kv => decide (kv.1 = k) with
  | none => rw [q] at h; cases h
  | some kv =>
    rw [q] at h
    have : kv.2 = v := Option.some.inj h
    exact List.mem_map.mpr ⟨kv, List.mem_of_find?_eq_some q, this⟩
theorem step_old_pr {H0 H H2 : Hp} {p : Str} {x : Nat × Nat} {l : Addr} {vs : List V} {v2 : V} (hl : H l = some (.lst vs)) (oth : ∀ b o, b ≠ l → H b = some o → H2 b = some o) (hl2 : H2 l = some (.lst (vs ++ [v2]))) (hx : Tu H0 H2 v2 x) :
    ∀ {kvs : List (Key × V)} {M : Sp4}, Paired (SpE H0 H) kvs M → (kvs.map (·.2)).Nodup → (M.map (·.1)).Nodup → valV kvs (.inr p) = some (.ref l) → Paired (SpE H0 H2) kvs (M.map fun e => if e.1 = p then (e.1, e.2 ++ [x]) else e)
  | _, _, .nil, _, _, h => by simp [valV] at h
  | _, _, .cons (a := kv) (b := e) (l₁ := ks) (l₂ := Ms) h t, vd, nd, hv => by
    rw [List.map_cons, List.nodup_cons] at vd nd
    by_cases c : e.1 = p
    · rw [valV_pos (by rw [h.1, c])] at hv
      have ev : kv.2 = .ref l := Option.some.inj hv
      have rest : Paired (SpE H0 H2) ks (Ms.map fun e => if e.1 = p then (e.1, e.2 ++ [x]) else e) := by
        have e1 : (Ms.map fun e => if e.1 = p then (e.1, e.2 ++ [x]) else e) = Ms := by
          conv => rhs; rw [← List.map_id Ms]
          refine List.map_congr_left fun e' he' => if_neg fun z => nd.1 ?_
          rw [c, ← z]
          exact List.mem_map.mpr ⟨e', he', rfl⟩
        rw [e1]
        have go : ∀ {ks : List (Key × V)} {Ms : Sp4}, (∀ kv' ∈ ks, kv'.2 ≠ .ref l) → Paired (SpE H0 H) ks Ms → Paired (SpE H0 H2) ks Ms := fun {ks Ms} hn pr => by
          induction pr with
          | nil => exact .nil
          | cons a _ ih => exact .cons (spE_but hl oth (hn _ List.mem_cons_self) a) (ih fun y hy => hn y (List.mem_cons_of_mem _ hy))
        exact go (fun kv' hk z => vd.1 (by rw [ev, ← z]; exact List.mem_map.mpr ⟨kv', hk, rfl⟩)) t
      rw [List.map_cons, if_pos c]
      obtain ⟨e1, l', vs', e2, n', a, pr⟩ := h
      have el : l' = l := V.ref.inj (e2.symm.trans ev)
      subst el
      rw [hl] at a
      cases a
      exact .cons ⟨e1, l', vs ++ [v2], e2, n', hl2, (pairedMono (fun _ _ => tu_but hl oth) pr).snoc hx⟩ rest
    · have ih := hv
      rw [valV_neg (by rw [h.1]; intro z; exact c (Sum.inr.inj z))] at ih
      rw [List.map_cons, if_neg c]
      have nk : kv.2 ≠ .ref l := fun z => vd.1 (by rw [z]; exact valV_mem ih)
      exact .cons (spE_but hl oth nk h) (step_old_pr hl oth hl2 hx t vd.2 nd.2 ih)
theorem addP_old {M : Sp4} {p : Str} {x : Nat × Nat} (h : (M.any fun e => decide (e.1 = p)) = true) : addP M p x = M.map fun e => if e.1 = p then (e.1, e.2 ++ [x]) else e := if_pos h
theorem addP_new {M : Sp4} {p : Str} {x : Nat × Nat} (h : (M.any fun e => decide (e.1 = p)) = false) : addP M p x = M ++ [(p, [x])] := if_neg (by rw [h]; decide)
theorem addP_nd {M : Sp4} {p : Str} {x : Nat × Nat} (h : (M.map (·.1)).Nodup) : ((addP M p x).map (·.1)).Nodup := by
  cases c : M.any fun e => decide (e.1 = p) with
  | true =>
    rw [addP_old c, List.map_map]
    have e1 : ((fun e : Str × List (Nat × Nat) => e.1) ∘ fun e => if e.1 = p then (e.1, e.2 ++ [x]) else e) = fun e => e.1 := by
      funext e
      show (if e.1 = p then (e.1, e.2 ++ [x]) else e).1 = e.1
      split <;> rfl
    rw [e1]; exact h
  | false =>
    rw [addP_new c, List.map_append, List.nodup_append]
    refine ⟨h, by simp, fun a ha b hb => ?_⟩
    have hb : b = p := by simpa using hb
    subst hb
    obtain ⟨e, he, rfl⟩ := List.mem_map.mp ha
    intro z
    have := List.any_eq_false.mp c e he
    simp at this
    exact this z
/-- a place more of a piece that is there -/
theorem SpI.old {H0 H H2 : Hp} {d l q : Addr} {kvs : List (Key × V)} {M : Sp4} {p : Str} {x : Nat × Nat} {vs : List V} (I : SpI H0 H d kvs M) (hv : valV kvs (.inr p) = some (.ref l)) (hl : H l = some (.lst vs)) (q0 : H0 q = none) (hq : H2 q = some (.tup [.int (x.1 : Nat), .int (x.2 : Nat)]))
    (hl2 : H2 l = some (.lst (vs ++ [.ref q]))) (oth : ∀ b o, b ≠ l → H b = some o → H2 b = some o) : SpI H0 H2 d kvs (addP M p x) := by
  have c : (M.any fun e => decide (e.1 = p)) = true := by
    cases q : M.any fun e => decide (e.1 = p) with
    | true => rfl
    | false => rw [(SpI.none_iff I.pr).mpr q] at hv; cases hv
  refine ⟨oth d _ (fun z => ?_) I.at_, I.new, ?_, I.vd, addP_nd I.nd⟩
  · have := I.at_
    rw [z, hl] at this
    cases this
  · rw [addP_old c]
    exact step_old_pr hl oth hl2 ⟨q, rfl, q0, hq⟩ I.pr I.vd I.nd hv
/-- a piece more -/
theorem SpI.add {H0 H H2 : Hp} {d l q : Addr} {kvs : List (Key × V)} {M : Sp4} {p : Str} {x : Nat × Nat} (I : SpI H0 H d kvs M) (hv : valV kvs (.inr p) = none) (hl : H l = none) (l0 : H0 l = none) (q0 : H0 q = none) (hq : H2 q = some (.tup [.int (x.1 : Nat), .int (x.2 : Nat)]))
    (hl2 : H2 l = some (.lst [.ref q])) (hd : H2 d = some (.dK (kvs ++ [(.inr p, .ref l)]))) (oth : ∀ b o, b ≠ d → H b = some o → H2 b = some o) : SpI H0 H2 d (kvs ++ [(.inr p, .ref l)]) (addP M p x) := by
  have c := (SpI.none_iff I.pr).mp hv
  have keep : ∀ {ks : List (Key × V)} {Ms : Sp4}, Paired (SpE H0 H) ks Ms → Paired (SpE H0 H2) ks Ms := fun {ks Ms} pr => pairedMono (fun kv e h => by
    obtain ⟨e1, l', vs', e2, n', a, pr⟩ := h
    refine ⟨e1, l', vs', e2, n', oth l' _ (fun z => ?_) a, pairedMono (fun v x h => ?_) pr⟩
    · rw [z, I.at_] at a; cases a
    · obtain ⟨q', e, n, a'⟩ := h
      refine ⟨q', e, n, oth q' _ (fun z => ?_) a'⟩
      rw [z, I.at_] at a'; cases a') pr
  refine ⟨hd, I.new, ?_, ?_, addP_nd I.nd⟩
  · rw [addP_new c]
    exact (keep I.pr).snoc ⟨rfl, l, [.ref q], rfl, l0, hl2, .cons ⟨q, rfl, q0, hq⟩ .nil⟩
  · rw [List.map_append, List.nodup_append]
    refine ⟨I.vd, by simp, fun a ha b hb => ?_⟩
    have hb : b = .ref l := by simpa using hb
    subst hb
    intro z
    subst z
    obtain ⟨kv, hk, e⟩ := List.mem_map.mp ha
    have go : ∀ {ks : List (Key × V)} {Ms : Sp4}, Paired (SpE H0 H) ks Ms → kv ∈ ks → False := fun {ks Ms} pr hk => by
      induction pr with
      | nil => cases hk
      | cons a _ ih =>
        rcases List.mem_cons.mp hk with rfl | hk
        · obtain ⟨_, l', vs', e2, _, a', _⟩ := a
          have : l' = l := V.ref.inj (e2.symm.trans e)
          rw [this, hl] at a'
          cases a'
        · exact ih hk
    exact go I.pr hk
theorem pairedGet {α β : Type} {F : α → β → Prop} : ∀ {l : List α} {m : List β} {i : Nat} {a : α}, Paired F l m → l[i]? = some a → ∃ b, m[i]? = some b ∧ F a b
  | _, _, _, _, .nil, h => by cases h
  | _, _, 0, _, .cons h t, e => by cases e; exact ⟨_, rfl, h⟩
  | _, _, i + 1, _, .cons h t, e => by
    obtain ⟨b, h1, h2⟩ := pairedGet (i := i) t (by simpa using e)
    exact ⟨b, by simpa using h1, h2⟩
/-! ### the kinds of a piece's parts: 0 begins only, 1 neither, 2 ends only, 3 whole -/
def kindOf (n W o : Nat) : Nat := if n = W then 3 else if o = 0 then 0 else if o + n = W then 2 else 1
def kindC (n W c : Nat) (ps : List (Nat × Nat)) : Nat := ps.countP fun x => decide (kindOf n W x.2 = c)
def kindT (n W : Nat) (ps : List (Nat × Nat)) : List V := [.int (n : Nat), .int (kindC n W 0 ps : Nat), .int (kindC n W 1 ps : Nat), .int (kindC n W 2 ps : Nat), .int (kindC n W 3 ps : Nat)]
def KiE (H0 H : Hp) (W : Nat) (kv : Key × V) (e : Str × List (Nat × Nat)) : Prop := kv.1 = .inr e.1 ∧ ∃ q, kv.2 = .ref q ∧ H0 q = none ∧ H q = some (.tup (kindT e.1.length W e.2))
/-- the dict of the pieces' kinds -/
structure KiI (H0 H : Hp) (d : Addr) (kk : List (Key × V)) (M : Sp4) (W : Nat) : Prop where
  at_ : H d = some (.dK kk)
  new : H0 d = none
  pr : Paired (KiE H0 H W) kk M
theorem KiE.keep {H0 H H2 : Hp} {W : Nat} {kv : Key × V} {e : Str × List (Nat × Nat)} (k : NK H0 H H2) (h : KiE H0 H W kv e) : KiE H0 H2 W kv e := by
  obtain ⟨e1, q, e2, n, a⟩ := h
  exact ⟨e1, q, e2, n, k q _ n (fun _ z => by cases z) a⟩
theorem KiI.keep {H0 H H2 : Hp} {d : Addr} {kk : List (Key × V)} {M : Sp4} {W : Nat} (k : NK H0 H H2) (h : KiI H0 H d kk M W) : KiI H0 H2 d kk M W :=
  ⟨k d _ h.new (fun _ z => by cases z) h.at_, h.new, pairedMono (fun _ _ => KiE.keep k) h.pr⟩
/-- a dict comprehension over what is walked -/
theorem dc_it {J : It} {n : Nat} {G : Hp → Prop} {Y : Nat → Hp → V → Hp → Prop} (w : Walk J n G Y) {g : TG} {tt : TT} {tk tv : TE} {vs : List Nat} {σ : L2.St} {H1 : Hp} {D : Addr} {Qd : Hp → Prop} (Pv : Nat → Hp → Prop) (h0 : Pv 0 (upd H1 D (.dK []))) (hG : ∀ i H, i ≤ n → Pv i H → G H)
    (hs : ∀ i x H H', i < n → Pv i H → Y i H x H' → g x (wipe σ vs) H' fun σ2 H2 => wipe σ2 vs = wipe σ vs ∧ tt σ2 H2 fun b H3 =>
      if b = true then tk σ2 H3 fun y H4 => tv σ2 H4 fun z H5 => ∃ kvs k, y = kV k ∧ H5 D = some (.dK kvs) ∧ kvs.length < sizeLine ∧ Pv (i + 1) (upd H5 D (.dK (putK kvs k z))) else Pv (i + 1) H3) (hd : ∀ H, Pv n H → Qd H) :
    ∃ W : Nat → Nat → Hp → Prop, (∃ m, W 0 m (upd H1 D (.dK []))) ∧ ∀ i m H, W i m H →
      (J.stop i H ∧ Qd H) ∨ (J.go i H ∧ ∃ Nx : Hp → Prop, (∀ H', Nx H' → ∃ m', m' < m ∧ W (i + 1) m' H') ∧ ∀ x H', J.yld i H x H' → g x (wipe σ vs) H' fun σ2 H2 => wipe σ2 vs = wipe σ vs ∧ tt σ2 H2 fun b H3 =>
        if b = true then tk σ2 H3 fun y H4 => tv σ2 H4 fun z H5 => ∃ kvs k, y = kV k ∧ H5 D = some (.dK kvs) ∧ kvs.length < sizeLine ∧ Nx (upd H5 D (.dK (putK kvs k z))) else Nx H3) := by
  refine ⟨fun i m H => m = n - i ∧ i ≤ n ∧ Pv i H, ⟨n, by simp, Nat.zero_le _, h0⟩, ?_⟩
  rintro i m H ⟨rfl, hi, p⟩
  have q := hG i H hi p
  by_cases c : i < n
  · exact .inr ⟨w.goes i H c q, Pv (i + 1), fun H' p' => ⟨n - (i + 1), by omega, rfl, c, p'⟩, fun x H' y => hs i x H H' c p (w.yields i H x H' c q y)⟩
  · have e : i = n := by omega
    subst e
    exact .inl ⟨w.stops H q, hd H p⟩
theorem SpI.base {H0 H1 H : Hp} {d : Addr} {kvs : List (Key × V)} {M : Sp4} (h : ∀ b, H1 b = none → H0 b = none) (I : SpI H1 H d kvs M) : SpI H0 H d kvs M :=
  ⟨I.at_, h _ I.new, pairedMono (fun _ _ e => by
    obtain ⟨e1, l, vs, e2, n, a, p⟩ := e
    exact ⟨e1, l, vs, e2, h _ n, a, pairedMono (fun _ _ t => by
      obtain ⟨q, t1, t2, t3⟩ := t
      exact ⟨q, t1, h _ t2, t3⟩) p⟩) I.pr, I.vd, I.nd⟩
theorem KiI.base {H0 H1 H : Hp} {d : Addr} {kk : List (Key × V)} {M : Sp4} {W : Nat} (h : ∀ b, H1 b = none → H0 b = none) (I : KiI H1 H d kk M W) : KiI H0 H d kk M W :=
  ⟨I.at_, h _ I.new, pairedMono (fun _ _ e => by
    obtain ⟨e1, q, e2, n, a⟩ := e
    exact ⟨e1, q, e2, h _ n, a⟩) I.pr⟩
theorem ki_none {H0 H : Hp} {W : Nat} {p : Str} : ∀ {kk : List (Key × V)} {Ms : Sp4}, Paired (KiE H0 H W) kk Ms → (∀ e ∈ Ms, e.1 ≠ p) → valV kk (.inr p) = none
  | _, _, .nil, _ => rfl
  | _, _, .cons h t, n => by
    rw [valV_neg (by rw [h.1]; intro z; exact n _ List.mem_cons_self (Sum.inr.inj z))]
    exact ki_none t fun e he => n e (List.mem_cons_of_mem _ he)
/-- pieces of at most n letters -/
def Ks (n : Nat) (M : Sp4) : Prop := ∀ e ∈ M, e.1.length ≤ n
theorem Ks.add {n : Nat} {M : Sp4} {p : Str} {x : Nat × Nat} (h : Ks n M) (hp : p.length ≤ n) : Ks n (addP M p x) := by
  intro e he
  unfold addP at he
  split at he
  · obtain ⟨e', he', rfl⟩ := List.mem_map.mp he
    have := h e' he'
    split <;> exact this
  · rcases List.mem_append.mp he with q | q
    · exact h e q
    · rw [List.mem_singleton.mp q]; exact hp
theorem sub_len (z : Str) (o e : Nat) : (sub z o e).length ≤ z.length := by
  unfold sub cutS
  show (List.take _ (List.drop _ z.cps.toList)).toArray.size ≤ z.cps.size
  rw [List.size_toArray, List.length_take, List.length_drop]
  have : z.cps.toList.length = z.cps.size := rfl
  omega
theorem Ks.K {n : Nat} {z : Str} {w o : Nat} {M : Sp4} (h : Ks n M) (hz : z.length ≤ n) : ∀ k, Ks n (foldK z w o M k)
  | 0 => h
  | k + 1 => by rw [foldK_succ]; exact (Ks.K h hz k).add (Nat.le_trans (sub_len _ _ _) hz)
theorem Ks.O {n : Nat} {z : Str} {w : Nat} {M : Sp4} (h : Ks n M) (hz : z.length ≤ n) : ∀ j, Ks n (foldO z w M j)
  | 0 => h
  | j + 1 => by rw [foldO_succ]; exact Ks.K (Ks.O h hz j) hz _
theorem Ks.W {ws : List Str} {n : Nat} (hz : ∀ z ∈ ws, z.length ≤ n) : ∀ i, Ks n (foldW ws i)
  | 0 => fun e he => by cases he
  | i + 1 => by
    rw [foldW_succ]
    refine Ks.O (Ks.W hz i) ?_ _
    by_cases c : i < ws.length
    · have e : ws.getD i Str.empty = ws[i] := by simp [List.getD, c]
      rw [e]; exact hz _ (List.getElem_mem c)
    · have e : ws.getD i Str.empty = Str.empty := by simp [List.getD, c]
      rw [e]; exact Nat.zero_le n
theorem valV_nd {k : Key} {v : V} : ∀ {kvs : List (Key × V)}, (kvs.map (·.1)).Nodup → (k, v) ∈ kvs → valV kvs k = some v
  | [], _, h => by cases h
  | kv :: r, nd, h => by
    rw [List.map_cons, List.nodup_cons] at nd
    rcases List.mem_cons.mp h with e | e
    · rw [← e, valV_pos rfl]
    · have : kv.1 ≠ k := fun z => nd.1 (by rw [z]; exact List.mem_map.mpr ⟨_, e, rfl⟩)
      rw [valV_neg this]
      exact valV_nd nd.2 e
end Ov

set_option Elab.async false
set_option linter.all false
set_option maxRecDepth 100000
set_option maxHeartbeats 4000000
/-! rules whose reading names the written part, with that part told (for blocks: comprehensions, a try's body) -/
namespace Ov
open PySem PySem.Spec PyProof.Rows L2 GxR
section
variable {X : Cx} {K : PySem.W.Frag}
theorem ix_K (h : X.K = K) : IxR X (rIx K) := by subst h; exact ix_seq
def rLenS (K : PySem.W.Frag) : List V → Hp → VK → Prop := fun xs H Q => ∃ p ys, xs = [.ref p] ∧ (SqL K H p ys ∨ SqT K H p ys) ∧ Q (.int ys.length) H
theorem len_K (h : X.K = K) : CallR X (.builtin "len") (rLenS K) := by subst h; exact call_len_seq
theorem isi_K (h : X.K = K) : CallR X (.builtin "isinstance") (rIsi K) := by subst h; exact call_isi
theorem in_K (h : X.K = K) : OpR X (compareOp .In) (rIn K false) := by subst h; exact op_in_seq
theorem notIn_K (h : X.K = K) : OpR X (compareOp .NotIn) (rIn K true) := by subst h; exact op_notIn_seq
theorem sl_K (h : X.K = K) : SlR X (rSlL K) := by subst h; exact sl_list
theorem eqD_K (h : X.K = K) (hu : X.A.units + 64 < cLine) : OpR X (compareOp .Eq) (rEqD K) := by subst h; exact op_eqD hu
theorem neD_K (h : X.K = K) (hu : X.A.units + 64 < cLine) : OpR X (compareOp .NotEq) (rNeD K) := by subst h; exact op_neD hu
end
end Ov

set_option Elab.async false
set_option linter.all false
set_option maxRecDepth 100000
set_option maxHeartbeats 4000000
namespace Ov
open PySem PySem.Spec PyProof.Rows L2 GxR
abbrev sSpots : Stmt := top 23
abbrev sKinds : Stmt := top 24
abbrev sPInit : Stmt := inClass (top 25) 0
section
variable {X : Cx} {e : Expr} {te : TE} {pos : Pos}
theorem pe_fldKp {X : Cx} {K : PySem.W.Frag} (hK : X.K = K) {e : Expr} {f : Str} {ta : TE} {pos : Pos} (he : PE X e ta) (hb : attributeBase e f X.env (eval e X.env) = eval e X.env) : PE X (.Attribute e f pos) (tFld K ta f) := by subst hK; exact pe_fld he hb
theorem ps_asg4 {t1 t2 t3 t4 : Expr} {g1 g2 g3 g4 : TG} (he : PE X e te) (h1 : PG X t1 g1) (h2 : PG X t2 g2) (h3 : PG X t3 g3) (h4 : PG X t4 g4)
    (ha : (assignEach [t1, t2, t3, t4] X.env).map (·.2) = [assign t1 X.env, assign t2 X.env, assign t3 X.env, assign t4 X.env] := by rfl) (hw : swappedStores [t1, t2, t3, t4] e X.env = pure none := by rfl) :
    PS X (.Assign [t1, t2, t3, t4] e pos) (fun D σ H => te σ H fun x K1 => g1 x σ K1 fun σ1 K2 => g2 x σ1 K2 fun σ2 K3 => g3 x σ2 K3 fun σ3 K4 => g4 x σ3 K4 D.nx) := by
  refine ⟨fun pins s σ H D I h => ?_⟩
  have go : wpAny (model X.prog X.w) X.A (eval e X.env) (fun v s₁ => wpAny (model X.prog X.w) X.A (assign t1 X.env v) (fun _ s₂ => wpAny (model X.prog X.w) X.A (assign t2 X.env v) (fun _ s₃ => wpAny (model X.prog X.w) X.A (assign t3 X.env v) (fun _ s₄ => wpAny (model X.prog X.w) X.A (assign t4 X.env v) (fun _ => SP X pins D .next) X.xe s₄) X.xe s₃) X.xe s₂) X.xe s₁) X.xe s := by
    refine thn (he.run pins s σ H _ I h) fun v s1 ⟨x, K1, J1, r1, q1⟩ => ?_
    refine thn (h1.run pins s1 σ K1 x v _ J1 r1 q1) fun _ s2 ⟨σ2, K2, J2, q2⟩ => ?_
    refine thn (h2.run pins s2 σ2 K2 x v _ J2 r1 q2) fun _ s3 ⟨σ3, K3, J3, q3⟩ => ?_
    refine thn (h3.run pins s3 σ3 K3 x v _ J3 r1 q3) fun _ s4 ⟨σ4, K4, J4, q4⟩ => ?_
    exact thn (h4.run pins s4 σ4 K4 x v _ J4 r1 q4) fun _ s5 q => q
  refine wpAny_Assign_stores (wpAny_mono go (fun v s₁ h₁ => ?_) fun _ _ x => x) rfl hw
  rw [ha]
  exact wpAny_bind (wpAny_holding (wpAny_mono h₁ (fun _ s₂ h₂ => wpAny_bind (wpAny_holding (wpAny_mono h₂ (fun _ s₃ h₃ => wpAny_bind (wpAny_holding h₃)) fun _ _ x => x))) fun _ _ x => x))
end
section
variable {P : Program} {w : World} {K : PySem.W.Frag} {mg : Str → Option Value} {base : Heap} {T : List Addr} {C D fLow fText fAre fTape fNext fInks fInit cLow PLow cAre PAre : Addr}
/-! ### spots_of -/
def spSpots : Sp := fun vs H Q _ => ∃ (l : Addr) (ws : List Str), vs = [.ref l] ∧ H l = some (.lst (ws.map V.str)) ∧ ws.length ≤ 6 ∧ (∀ z ∈ ws, z.length ≤ 8) ∧ ∀ d kvs H3, SpI H H3 d kvs (spotsF ws) → L2.Same H H3 → Q (.ref d) H3
theorem scSpots : FnScope ["words", "spots", "word", "stamp", "offset", "stop"] ["words"] (defScope sSpots) := ⟨rfl, rfl, rfl, by decide +kernel, rfl, by decide +kernel, by decide +kernel⟩
theorem ok_spots {f : Addr} {fd : FuncData} (F : L2.Fun K "spots_of" "spots_of" sSpots f fd) (X : Txt K mg C fLow fText fAre fTape fNext fInks) (enu : mg "enumerate" = none) : FnOk P w K mg base CX0 1 f fd ["words"] spSpots := by
  refine F.ok scSpots (fun vs H Q E h => ?_) (fun cdv A outer s H vs Q E hr h => ?_)
  · obtain ⟨l, ws, rfl, _⟩ := h
    rfl
  · obtain ⟨l, ws, rfl, hl, hn, h8, k⟩ := h
    refine ⟨_, (pss_cons (ps_set (i := 1) scSpots.nd rfl (.inl rfl) pe_dnewK)
      (pss_cons (ps_for PassesOwn.never rfl (pi_enum (by rfl) enu (pa_cons (pv 0) pa_nil)) (pg_tup rfl (pgs_cons (pg_name (i := 2) scSpots.nd rfl (Or.inl rfl)) (pgs_cons (pg_name (i := 3) scSpots.nd rfl (Or.inl rfl)) pgs_nil))) (pss_one (ps_for PassesOwn.never rfl (pi_range1 (by rfl) X.rng (pa_cons (pe_callB call_len_str (by rfl) X.len boot_len (pa_cons (pv 3) pa_nil)) pa_nil)) (pg_name (i := 4) scSpots.nd rfl (Or.inl rfl)) (pss_one (ps_for PassesOwn.never rfl (pi_range2 (by rfl) X.rng (pa_cons (pe_op op_add (pv 4) pe_int) (pa_cons (pe_op op_add (pe_callB call_len_str (by rfl) X.len boot_len (pa_cons (pv 3) pa_nil)) pe_int) pa_nil))) (pg_name (i := 5) scSpots.nd rfl (Or.inl rfl)) (pss_one (ps_expr (pe_bm PySem.F.plainAttrs_list PySem.F.slot_list_append PySem.F.type_list_append mt_append (pe_dsetd (pv 1) (pe_slice sl_str (pv 3) (po_some (pv 4)) (po_some (pv 5))) (pe_lst pa_nil) ⟨rfl, rfl, rfl, rfl⟩) (pa_cons (pe_tup (pa_cons (pv 2) (pa_cons (pv 4) pa_nil))) pa_nil)))))))))
      (pss_one (ps_ret (pv 1))))), ?_⟩
    intro d hd
    have nkS : ∀ {G G2 : Hp}, L2.Same G G2 → NK H G G2 := fun h b o _ _ e => h b o e
    have s0 : L2.Same H (upd H d (.dK [])) := same_new hd
    have I0 : SpI H (upd H d (.dK [])) d [] [] := ⟨upd_same, hd, .nil, List.nodup_nil, List.nodup_nil⟩
    generalize upd H d (.dK []) = H1 at s0 I0 ⊢
    refine ⟨_, rfl, l, _, rfl, .inl (.inl (s0 l _ hl)), for_it (walk_enum (xs := ws.map V.str)) (fun i σ Hx => (∃ v2 v3 v4 v5, σ = [some (.ref l), some (.ref d), v2, v3, v4, v5]) ∧ L2.Same H Hx ∧ ∃ kvs, SpI H Hx d kvs (foldW ws i)) ⟨⟨_, _, _, _, rfl⟩, s0, _, I0⟩ (fun i σ Hx _ p => .inl (.inl (p.2.1 l _ hl))) (fun i x σ Hx Hy hi p y => ?_) (fun σ Hx p => ?_)⟩
    · obtain ⟨⟨v2, v3, v4, v5, rfl⟩, sx, kvs, I⟩ := p
      obtain ⟨tp, x', y', rfl, htp, rfl, e1, e2⟩ := y
      cases e1
      have e2 : (ws.map V.str)[i]? = some y' := e2
      rw [List.getElem?_map] at e2
      obtain ⟨z, hz, rfl⟩ := Option.map_eq_some_iff.mp e2
      have z8 := h8 z (List.mem_of_getElem? hz)
      have zl : z.length ≤ sizeLine := Nat.le_trans z8 (by decide)
      have iw : i < ws.length := (List.getElem?_eq_some_iff.mp hz).1
      have gd : ws.getD i Str.empty = z := by simp [List.getD, hz]
      have tn : L2.Same Hx (upd Hx tp (.tup [.int (i : Nat), .str z])) := same_new htp
      have st := sx.trans tn
      have It := I.keep (nkS tn)
      refine ⟨tp, _, rfl, .inl (.inl upd_same), rfl, _, _, rfl, _, _, rfl, rfl, ?_⟩
      generalize upd Hx tp (.tup [.int (i : Nat), .str z]) = Ht at st It ⊢
      refine ⟨_, rfl, z, rfl, zl, _, rfl, by omega, by omega, for_range (lo := 0) (n := ((z.length : Nat) : Int).toNat) (fun o σ Hx => (∃ v4 v5, σ = [some (.ref l), some (.ref d), some (.int (i : Nat)), some (.str z), v4, v5]) ∧ L2.Same H Hx ∧ ∃ kvs, SpI H Hx d kvs (foldO z i (foldW ws i) o))
        ⟨⟨_, _, rfl⟩, st, _, It⟩ (fun o σ Ho ho p => ?_) (fun σ Ho p => ?_)⟩
      · obtain ⟨⟨v4, v5, rfl⟩, so, kvs, I⟩ := p
        have ho' : o < z.length := by omega
        have en : (((z.length : Nat) : Int) + 1 - (0 + (o : Int) + 1)).toNat = z.length - o := by omega
        refine ⟨_, rfl, _, _, rfl, rfl, _, rfl, z, rfl, zl, _, _, rfl, rfl, _, _, rfl, ⟨by omega, by omega, by omega, by omega⟩, for_range (lo := 0 + (o : Int) + 1) (n := (((z.length : Nat) : Int) + 1 - (0 + (o : Int) + 1)).toNat) (fun k σ Hx => (∃ v5, σ = [some (.ref l), some (.ref d), some (.int (i : Nat)), some (.str z), some (.int (0 + (o : Nat))), v5]) ∧ L2.Same H Hx ∧ ∃ kvs, SpI H Hx d kvs (foldK z i o (foldO z i (foldW ws i) o) k))
          ⟨⟨_, rfl⟩, so, _, I⟩ (fun j σ Hj hj p => ?_) (fun σ Hj p => ?_)⟩
        · obtain ⟨⟨v5, rfl⟩, sj, kvs, I⟩ := p
          rw [en] at hj
          have bd : Bd 600 (foldK z i o (foldO z i (foldW ws i) o) j) := (Bd.K (Bd.O (Bd.W h8 i) z8 o) j).mono (by omega)
          have kl : kvs.length ≤ 600 := by rw [pairedLen I.pr]; exact bd.1
          have o0 : (0 : Int) + (o : Int) = (o : Int) := by omega
          have ek : cutS z (some (0 + (o : Int))) (some (0 + (o : Int) + 1 + (j : Nat))) = sub z o (o + 1 + j) := by
            unfold sub
            rw [o0, show (o : Int) + 1 + (j : Int) = ((o + 1 + j : Nat) : Int) by omega]
          refine ⟨_, rfl, d, rfl, .inl ⟨kvs, .inl I.at_⟩, _, rfl, _, rfl, _, rfl, _, rfl, _, rfl, z, rfl, zl, (by decide : 0 ≤ sizeLine), fun nl hnl => ?_⟩
          have sl : L2.Same Hj (upd Hj nl (.lst [])) := same_new hnl
          have Il := I.keep (nkS sl)
          have hn1 : upd Hj nl (.lst []) nl = some (.lst []) := upd_same
          have nl0 : H nl = none := sj.free hnl
          refine ⟨kvs, .inr (sub z o (o + 1 + j)), Il.at_, by rw [ek]; rfl, Nat.lt_of_le_of_lt kl (by decide), fun v hv => ?_, fun hv => ?_⟩
          · obtain ⟨l', vs, e, me, _, rfl, l0, hl', pr⟩ := SpI.some_of Il.pr hv
            refine ⟨.inl ⟨rfl, _, .inl (.inl hl')⟩, _, rfl, _, rfl, (by decide : 2 ≤ sizeLine), fun q hq => ?_⟩
            rw [o0]
            have sq : L2.Same (upd Hj nl (.lst [])) (upd (upd Hj nl (.lst [])) q (.tup [.int (i : Nat), .int (o : Nat)])) := same_new hq
            have Iq := Il.keep (nkS sq)
            have hlq := sq l' _ hl'
            have hqq : upd (upd Hj nl (.lst [])) q (.tup [.int (i : Nat), .int (o : Nat)]) q = some (.tup [.int (i : Nat), .int (o : Nat)]) := upd_same
            have q0 : H q = none := (sj.trans sl).free hq
            have S3 := (sj.trans sl).trans sq
            generalize upd (upd Hj nl (.lst [])) q (.tup [.int (i : Nat), .int (o : Nat)]) = H3 at sq Iq hlq hqq S3 ⊢
            have vl : vs.length ≤ 600 := by rw [pairedLen pr]; exact bd.2 e me
            refine ⟨l', vs, _, rfl, rfl, hlq, Nat.lt_of_le_of_lt vl (by decide), ⟨_, rfl⟩, fun b ob e => ?_, kvs, ?_⟩
            · have nb : b ≠ l' := fun z => by rw [z, l0] at e; cases e
              exact (upd_ne nb).trans (S3 b ob e)
            · rw [foldK_succ]
              have nq : q ≠ l' := fun z => by rw [z, hlq] at hqq; cases hqq
              exact Iq.old hv hlq q0 ((upd_ne nq).trans hqq) upd_same fun b ob nb e => (upd_ne nb).trans e
          · have nld : nl ≠ d := (ne_of_none I.at_ hnl).symm
            rw [putK_new _ hv]
            generalize upd Hj nl (.lst []) = G1 at sl Il hn1 ⊢
            have hn2 : upd G1 d (.dK (kvs ++ [(.inr (sub z o (o + 1 + j)), .ref nl)])) nl = some (.lst []) := (upd_ne nld).trans hn1
            refine ⟨.inl ⟨rfl, _, .inl (.inl hn2)⟩, _, rfl, _, rfl, (by decide : 2 ≤ sizeLine), fun q hq => ?_⟩
            rw [o0]
            have hd2 : upd G1 d (.dK (kvs ++ [(.inr (sub z o (o + 1 + j)), .ref nl)])) d = some (.dK (kvs ++ [(.inr (sub z o (o + 1 + j)), .ref nl)])) := upd_same
            have nqd : q ≠ d := (ne_of_none hd2 hq).symm
            have nqn : q ≠ nl := (ne_of_none hn2 hq).symm
            have hq1 : Hj q = none := by
              have : G1 q = none := (upd_ne nqd).symm.trans hq
              exact sl.free this
            have q0 : H q = none := sj.free hq1
            refine ⟨nl, [], _, rfl, rfl, (upd_ne nqn.symm).trans hn2, by decide, ⟨_, rfl⟩, fun b ob e => ?_, kvs ++ [(.inr (sub z o (o + 1 + j)), .ref nl)], ?_⟩
            · have n1 : b ≠ nl := fun z => by rw [z, nl0] at e; cases e
              have n2 : b ≠ q := fun z => by rw [z, q0] at e; cases e
              have n3 : b ≠ d := fun z => by rw [z, I.new] at e; cases e
              exact (upd_ne n1).trans ((upd_ne n2).trans ((upd_ne n3).trans (sl b ob (sj b ob e))))
            · rw [foldK_succ]
              refine SpI.add (q := q) I hv hnl nl0 q0 ?_ upd_same ?_ fun b ob nb e => ?_
              · exact (upd_ne nqn).trans upd_same
              · exact (upd_ne nld.symm).trans ((upd_ne nqd.symm).trans hd2)
              · have n1 : b ≠ nl := ne_of_none e hnl
                have n2 : b ≠ q := ne_of_none e hq1
                exact (upd_ne n1).trans ((upd_ne n2).trans ((upd_ne nb).trans (sl b ob e)))
        · obtain ⟨⟨v5, rfl⟩, sj, kvs, I⟩ := p
          rw [en] at I
          refine ⟨⟨_, _, rfl⟩, sj, kvs, ?_⟩
          rw [foldO_succ]
          exact I
      · obtain ⟨⟨v4, v5, rfl⟩, so, kvs, I⟩ := p
        refine ⟨⟨_, _, _, _, rfl⟩, so, kvs, ?_⟩
        rw [foldW_succ, gd]
        exact I
    · obtain ⟨⟨v2, v3, v4, v5, rfl⟩, sx, kvs, I⟩ := p
      rw [List.length_map] at I
      exact ⟨_, rfl, k d kvs Hx I sx⟩
/-! ### kinds_of -/
def spKinds : Sp := fun vs H Q _ => ∃ (l : Addr) (xs : List V) (ps : List (Nat × Nat)) (n W : Nat) (H0 : Hp), vs = [.ref l, .int (n : Nat), .int (W : Nat)] ∧ H l = some (.lst xs) ∧ Paired (Tu H0 H) xs ps ∧
  ∀ q H3, H q = none → H3 q = some (.tup (kindT n W ps)) → L2.Same H H3 → Q (.ref q) H3
theorem scKinds : FnScope ["spots", "length", "width", "firsts", "inners", "lasts", "wholes", "_", "offset"] ["spots", "length", "width"] (defScope sKinds) := ⟨rfl, rfl, rfl, by decide +kernel, rfl, by decide +kernel, by decide +kernel⟩
theorem ok_kinds {f : Addr} {fd : FuncData} (F : L2.Fun K "kinds_of" "kinds_of" sKinds f fd) : FnOk P w K mg base CX0 1 f fd ["spots", "length", "width"] spKinds := by
  refine F.ok scKinds (fun vs H Q E h => ?_) (fun cdv A outer s H vs Q E hr h => ?_)
  · obtain ⟨l, xs, ps, n, W, H0, rfl, _⟩ := h
    rfl
  · obtain ⟨l, xs, ps, n, W, H0, rfl, hl, pr, k⟩ := h
    refine ⟨_, (pss_cons (ps_asg4 pe_int (pg_name (i := 3) scKinds.nd rfl (Or.inl rfl)) (pg_name (i := 4) scKinds.nd rfl (Or.inl rfl)) (pg_name (i := 5) scKinds.nd rfl (Or.inl rfl)) (pg_name (i := 6) scKinds.nd rfl (Or.inl rfl)))
      (pss_cons (ps_for PassesOwn.never rfl (pi_list (pv 0)) (pg_tup rfl (pgs_cons (pg_name (i := 7) scKinds.nd rfl (Or.inl rfl)) (pgs_cons (pg_name (i := 8) scKinds.nd rfl (Or.inl rfl)) pgs_nil))) (pss_one (ps_if (pt_cmpR op_eq (pv 1) (pv 2) (by rfl)) (pss_one (ps_aug (i := 6) scKinds.nd rfl (.inl rfl) pe_int ip_add)) (pss_one (ps_if (pt_cmpR op_eq (pv 8) pe_int (by rfl)) (pss_one (ps_aug (i := 3) scKinds.nd rfl (.inl rfl) pe_int ip_add)) (pss_one (ps_if (pt_cmpR op_eq (pe_op op_add (pv 8) (pv 1)) (pv 2) (by rfl)) (pss_one (ps_aug (i := 5) scKinds.nd rfl (.inl rfl) pe_int ip_add)) (pss_one (ps_aug (i := 4) scKinds.nd rfl (.inl rfl) pe_int ip_add)))))))))
      (pss_one (ps_ret (pe_tup (pa_cons (pv 1) (pa_cons (pv 3) (pa_cons (pv 4) (pa_cons (pv 5) (pa_cons (pv 6) pa_nil)))))))))), ?_⟩
    have len := pairedLen pr
    refine ⟨_, rfl, l, rfl, ⟨_, .inl (.inl hl)⟩, for_list (xs := xs) (fun i σ Hx => Hx = H ∧ ∃ v7 v8, σ = [some (.ref l), some (.int (n : Nat)), some (.int (W : Nat)), some (.int (kindC n W 0 (ps.take i) : Nat)), some (.int (kindC n W 1 (ps.take i) : Nat)), some (.int (kindC n W 2 (ps.take i) : Nat)), some (.int (kindC n W 3 (ps.take i) : Nat)), v7, v8])
      ⟨rfl, _, _, rfl⟩ (fun i σ Hx _ p => by rw [p.1]; exact .inl (.inl hl)) (fun i x σ Hx hx p => ?_) (fun σ Hx p => ?_)⟩
    · obtain ⟨rfl, v7, v8, rfl⟩ := p
      obtain ⟨y, hy, q, rfl, _, hq⟩ := pairedGet pr hx
      have st : ∀ c, kindC n W c (ps.take (i + 1)) = kindC n W c (ps.take i) + (if kindOf n W y.2 = c then 1 else 0) := fun c => by
        unfold kindC
        rw [List.take_add_one, hy, List.countP_append]
        congr 1
        show [y].countP _ = _
        by_cases e : kindOf n W y.2 = c <;> simp [e]
      refine ⟨q, _, rfl, .inl (.inl hq), rfl, _, _, rfl, _, _, rfl, rfl, ?_⟩
      refine ⟨_, rfl, _, rfl, rfl, _, rfl, ?_⟩
      by_cases c3 : n = W
      · have e := st
        simp only [show kindOf n W y.2 = 3 by unfold kindOf; rw [if_pos c3]] at e
        refine iteT' (decide_eq_true (by rw [c3])) ⟨_, rfl, _, _, rfl, rfl, rfl, some (.int (y.1 : Nat)), some (.int (y.2 : Nat)), ?_⟩
        rw [e 0, e 1, e 2, e 3]
        rfl
      refine iteF' (decide_eq_false fun z => c3 (by have := V.int.inj z; omega)) ⟨_, rfl, rfl, _, rfl, ?_⟩
      by_cases c0 : y.2 = 0
      · have e := st
        simp only [show kindOf n W y.2 = 0 by unfold kindOf; rw [if_neg c3, if_pos c0]] at e
        refine iteT' (decide_eq_true (by rw [c0]; rfl)) ⟨_, rfl, _, _, rfl, rfl, rfl, some (.int (y.1 : Nat)), some (.int (y.2 : Nat)), ?_⟩
        rw [e 0, e 1, e 2, e 3]
        rfl
      refine iteF' (decide_eq_false fun z => c0 (by have := V.int.inj z; omega)) ⟨_, rfl, _, rfl, _, _, rfl, rfl, _, rfl, rfl, _, rfl, ?_⟩
      by_cases c2 : y.2 + n = W
      · have e := st
        simp only [show kindOf n W y.2 = 2 by unfold kindOf; rw [if_neg c3, if_neg c0, if_pos c2]] at e
        refine iteT' (decide_eq_true (by rw [← c2]; rfl)) ⟨_, rfl, _, _, rfl, rfl, rfl, some (.int (y.1 : Nat)), some (.int (y.2 : Nat)), ?_⟩
        rw [e 0, e 1, e 2, e 3]
        rfl
      · have e := st
        simp only [show kindOf n W y.2 = 1 by unfold kindOf; rw [if_neg c3, if_neg c0, if_neg c2]] at e
        refine iteF' (decide_eq_false fun z => c2 (by have := V.int.inj z; omega)) ⟨_, rfl, _, _, rfl, rfl, rfl, some (.int (y.1 : Nat)), some (.int (y.2 : Nat)), ?_⟩
        rw [e 0, e 1, e 2, e 3]
        rfl
    · obtain ⟨rfl, v7, v8, rfl⟩ := p
      rw [len, List.take_length]
      refine ⟨_, rfl, _, rfl, _, rfl, _, rfl, _, rfl, (by decide : 5 ≤ sizeLine), fun q hq => ?_⟩
      exact k q _ hq upd_same (same_new hq)
/-! ### Pieces -/
structure TopP (K : PySem.W.Frag) (mg : Str → Option Value) (fSp fKi : Addr) : Prop where
  gS : mg "spots_of" = some (.ref fSp)
  kS : PySem.W.keepIn K (.ref fSp) = true
  gK : mg "kinds_of" = some (.ref fKi)
  kK : PySem.W.keepIn K (.ref fKi) = true
  enu : mg "enumerate" = none
/-- what the class Pieces says of its fields -/
structure OwnP (K : PySem.W.Frag) (CP : Addr) : Prop where
  cls : Cls K CP
  n1 : NoAttr K CP "span"
  n2 : NoAttr K CP "spots"
  n3 : NoAttr K CP "kinds"
def spPInit (K : PySem.W.Frag) (CP : Addr) : Sp := fun vs H Q _ => ∃ (a l dx : Addr) (ws : List Str) (W : Nat), vs = [.ref a, .ref l] ∧ H a = some (.ins CP dx []) ∧ H l = some (.lst (ws.map V.str)) ∧ Good ws W ∧
  ∀ d dk kvs kk H3, H3 a = some (.ins CP dx [("span", .int (W : Nat)), ("spots", .ref d), ("kinds", .ref dk)]) → SpI H H3 d kvs (spotsF ws) → KiI H H3 dk kk (spotsF ws) W → (∀ b o, b ≠ a → H b = some o → H3 b = some o) → Q .non H3
abbrev NPInit : List Str := ["self", "words", "piece"]
theorem scPInit : FnScope NPInit ["self", "words"] (defScope sPInit) := ⟨rfl, rfl, rfl, by decide +kernel, rfl, by decide +kernel, by decide +kernel⟩
theorem ok_pinit {CP fSp fKi : Addr} {f : Addr} {fd fdS fdK : FuncData} (F : L2.Fun K "__init__" "Pieces.__init__" sPInit f fd) (FS : L2.Fun K "spots_of" "spots_of" sSpots fSp fdS) (FK : L2.Fun K "kinds_of" "kinds_of" sKinds fKi fdK) (X : Txt K mg C fLow fText fAre fTape fNext fInks) (XP : TopP K mg fSp fKi) (O : OwnP K CP) :
    FnOk P w K mg base CX0 2 f fd ["self", "words"] (spPInit K CP) := by
  have SS : FnOk P w K mg base CX0 1 fSp fdS ["words"] spSpots := ok_spots FS X XP.enu
  have bS : Binds K fdS ["words"] [] := FS.binds fun _ _ _ _ _ _ us hl => match us, hl with | [_], _ => rfl
  have KI : FnOk P w K mg base CX0 1 fKi fdK ["spots", "length", "width"] spKinds := ok_kinds FK
  have bK : Binds K fdK ["spots", "length", "width"] [] := FK.binds fun _ _ _ _ _ _ us hl => match us, hl with | [_, _, _], _ => rfl
  refine F.ok scPInit (fun vs H Q E h => ?_) (fun cdv A outer s H vs Q E hr h => ?_)
  · obtain ⟨a, l, dx, ws, W, rfl, _⟩ := h
    rfl
  · obtain ⟨a, l, dx, ws, W, rfl, ha, hl, g, k⟩ := h
    refine ⟨_, (pss_cons (ps_fld (pv 0) (pe_callB call_len_str (by rfl) X.len boot_len (pa_cons (pe_ix ix_seq (pv 1) pe_int fun _ _ => rfl) pa_nil)) (by rfl))
      (pss_cons (ps_fld (pv 0) (pe_call SS hr (by rfl) XP.gS XP.kS bS .nil L2.pass0 (pa_cons (pv 1) pa_nil)) (by rfl))
      (pss_one (ps_fld (pv 0) (pe_lock (pe_dc (own := [("piece", 2)]) (g := gName 2) (tt := tYes) (by rfl) scPInit.nd (pi_keys (pe_fld (pv 0) (by rfl))) (blkOk_by (own := [("piece", 2)]) (N := NPInit) (sc := defScope sPInit) (by decide +kernel)) (fun _ _ _ _ _ => pg_name (i := 2) scPInit.nd rfl (Or.inl rfl)) (fun _ _ _ _ _ => pts_nil) (fun _ _ _ _ _ => pv 2) (fun _ _ _ _ _ => pe_call KI hr (by rfl) XP.gK XP.kK bK .nil L2.pass0 (pa_cons (pe_dget (hu_of hr) (pe_fldKp (K := K) rfl (pv 0) (by rfl)) (pv 2) (fun _ _ => rfl)) (pa_cons (pe_callB call_len_str (by rfl) X.len boot_len (pa_cons (pv 2) pa_nil)) (pa_cons (pe_fldKp (K := K) rfl (pv 0) (by rfl)) pa_nil)))))) (by rfl))))), ?_⟩
    have n1 := g.n1
    have w8 := g.w8
    have wl : ws[0].length ≤ sizeLine := by rw [g.at n1]; exact Nat.le_trans w8 (by decide)
    have len8 : ∀ z ∈ ws, z.length ≤ 8 := fun z hz => by rw [(g.all z hz).1]; exact w8
    have la : l ≠ a := fun z => by rw [z, ha] at hl; cases hl
    refine ⟨_, rfl, .inl ⟨l, _, 0, .str ws[0], rfl, rfl, .inl (.inl hl), at_0 n1, ws[0], rfl, wl, _, rfl, a, CP, dx, [], rfl, ha, O.cls, O.n1, by decide, ?_⟩⟩
    rw [g.at n1]
    have hl1 : upd H a (.ins CP dx [("span", .int (W : Nat))]) l = some (.lst (ws.map V.str)) := (upd_ne la).trans hl
    refine ⟨_, rfl, l, ws, rfl, hl1, g.n6, len8, fun d kvs H2 I0 s2 => ?_⟩
    have b1 : ∀ b, upd H a (.ins CP dx [("span", .int (W : Nat))]) b = none → H b = none := fun b e => by
      by_cases c : b = a
      · rw [c, upd_same] at e; cases e
      · exact (upd_ne c).symm.trans e
    have I2 := I0.base b1
    have ha2 : H2 a = some (.ins CP dx [("span", .int (W : Nat))]) := s2 a _ upd_same
    have da : d ≠ a := fun z => by have := I2.new; rw [z, ha] at this; cases this
    have keep2 : ∀ b o, b ≠ a → H b = some o → H2 b = some o := fun b o nb e => s2 b o ((upd_ne nb).trans e)
    refine ⟨_, rfl, a, CP, dx, _, rfl, ha2, O.cls, O.n2, (show 1 < 1000 by decide), ?_⟩
    have nk3 : NK H H2 (upd H2 a (.ins CP dx [("span", .int (W : Nat)), ("spots", .ref d)])) := fun b o nb _ e => (upd_ne (fun z => by rw [z, ha] at nb; cases nb)).trans e
    have I3 := I2.keep nk3
    have ha3 : upd H2 a (.ins CP dx [("span", .int (W : Nat)), ("spots", .ref d)]) a = some (.ins CP dx [("span", .int (W : Nat)), ("spots", .ref d)]) := upd_same
    have keep3 : ∀ b o, b ≠ a → H b = some o → upd H2 a (.ins CP dx [("span", .int (W : Nat)), ("spots", .ref d)]) b = some o := fun b o nb e => (upd_ne nb).trans (keep2 b o nb e)
    have pf : putF ("spots" : Str) (V.ref d) [(("span" : Str), V.int (W : Nat))] = [(("span" : Str), V.int (W : Nat)), (("spots" : Str), V.ref d)] := rfl
    rw [pf]
    generalize upd H2 a (.ins CP dx [("span", .int (W : Nat)), ("spots", .ref d)]) = H3 at I3 ha3 keep3 ⊢
    refine ⟨d, .dK kvs, I3.at_, trivial, fun od => ?_⟩
    have haL : upd H3 d (.frz od (.dK kvs)) a = some (.ins CP dx [("span", .int (W : Nat)), ("spots", .ref d)]) := (upd_ne da.symm).trans ha3
    have hdL : upd H3 d (.frz od (.dK kvs)) d = some (.frz od (.dK kvs)) := upd_same
    refine ⟨_, rfl, a, CP, dx, _, _, rfl, haL, O.cls, O.n2, rfl, d, od, rfl, .inl ⟨kvs, hdL, fun D hD => ?_⟩⟩
    have nd := I3.nd
    have lenM := pairedLen I3.pr
    have bdM : Bd 600 (spotsF ws) := (Bd.W len8 ws.length).mono (by have := g.n6; omega)
    have ksM : Ks 8 (spotsF ws) := Ks.W len8 ws.length
    have D3 : H3 D = none := by
      by_cases c : D = d
      · rw [c, hdL] at hD; cases hD
      · exact (upd_ne c).symm.trans hD
    have D0 : H D = none := by
      cases q : H D with
      | none => rfl
      | some o =>
        have na : D ≠ a := fun z => by rw [z, ha3] at D3; cases D3
        rw [keep3 D o na q] at D3; cases D3
    have free3 : ∀ b, H3 b = none → H b = none := fun b e => by
      cases q : H b with
      | none => rfl
      | some o =>
        have na : b ≠ a := fun z => by rw [z, ha3] at e; cases e
        rw [keep3 b o na q] at e; cases e
    have freeL : ∀ b, upd H3 d (.frz od (.dK kvs)) b = none → H b = none := fun b e => by
      refine free3 b ?_
      by_cases c : b = d
      · rw [c, hdL] at e; cases e
      · exact (upd_ne c).symm.trans e
    -- what stands of the dict's lists while it is locked
    have prL : Paired (fun (kv : Key × V) (e : Str × List (Nat × Nat)) => kv.1 = .inr e.1 ∧ ∃ l' vs', kv.2 = .ref l' ∧ upd H3 d (.frz od (.dK kvs)) l' = some (.lst vs') ∧ Paired (Tu H (upd H3 d (.frz od (.dK kvs)))) vs' e.2) kvs (spotsF ws) := pairedMono (fun kv e h => by
      obtain ⟨e1, l', vs', e2, _, a', pr⟩ := h
      refine ⟨e1, l', vs', e2, (upd_ne (fun z => by rw [z, I3.at_] at a'; cases a')).trans a', pairedMono (fun v x t => ?_) pr⟩
      obtain ⟨q, t1, t2, t3⟩ := t
      exact ⟨q, t1, t2, (upd_ne (fun z => by rw [z, I3.at_] at t3; cases t3)).trans t3⟩) I3.pr
    have keepL : ∀ b o, b ≠ d → H3 b = some o → upd H3 d (.frz od (.dK kvs)) b = some o := fun b o nb e => (upd_ne nb).trans e
    generalize upd H3 d (.frz od (.dK kvs)) = HL at haL hdL hD freeL prL keepL ⊢
    have Dd : D ≠ d := fun z => by rw [z, hdL] at hD; cases hD
    have Da : D ≠ a := fun z => by rw [z, haL] at hD; cases hD
    refine dc_it (walk_keys (kvs := kvs)) (fun i Hx => ∃ kk, Hx D = some (.dK kk) ∧ Paired (KiE H Hx W) kk ((spotsF ws).take i) ∧ L2.Same HL Hx) ⟨[], upd_same, .nil, same_new hD⟩ (fun i Hx _ p => by
      obtain ⟨kk, _, _, sx⟩ := p
      exact sx d _ hdL) (fun i x Hx Hy hi p y => ?_) (fun Hx p => ?_)
    · obtain ⟨kk, hk, pk, sx⟩ := p
      obtain ⟨rfl, key, v, hkv, rfl⟩ := y
      obtain ⟨e, he, e1, l', vs', e2, hl', pr⟩ := pairedGet prL hkv
      have e1 : key = .inr e.1 := e1
      have e2 : v = .ref l' := e2
      subst e1 e2
      have me : e ∈ spotsF ws := List.mem_of_getElem? he
      have el : e.1.length ≤ sizeLine := Nat.le_trans (ksM e me) (by decide)
      have haX := sx a _ haL
      have hv : valV kvs (.inr e.1) = some (.ref l') := by
        have kn : (kvs.map (·.1)).Nodup := by
          have ek : kvs.map (·.1) = (spotsF ws).map fun e => Sum.inr e.1 := by
            have go : ∀ {ks : List (Key × V)} {Ms : Sp4}, Paired (SpE H H3) ks Ms → ks.map (·.1) = Ms.map fun e => Sum.inr e.1 := fun {ks Ms} pr => by
              induction pr with
              | nil => rfl
              | cons h _ ih => rw [List.map_cons, List.map_cons, ih, h.1]
            exact go I3.pr
          rw [ek]
          have e3 : ((spotsF ws).map fun e => (Sum.inr e.1 : Key)) = ((spotsF ws).map (·.1)).map Sum.inr := by rw [List.map_map]; rfl
          rw [e3]
          exact List.Pairwise.map _ (fun a b h z => h (Sum.inr.inj z)) nd
        exact valV_nd kn (List.mem_of_getElem? hkv)
      refine ⟨rfl, ?_⟩
      unfold tYes
      refine iteT' (b := true) rfl ?_
      refine ⟨_, rfl, _, rfl, a, CP, dx, _, _, rfl, haX, O.cls, O.n2, rfl, _, rfl, d, .ref l', rfl, .inl ⟨kvs, .inr e.1, .inr ⟨od, sx d _ hdL⟩, rfl, hv.symm⟩, _, rfl, e.1, rfl, el, _, rfl, a, CP, dx, _, _, rfl, haX, O.cls, O.n1, rfl, ?_⟩
      refine ⟨l', vs', e.2, e.1.length, W, H, rfl, sx l' _ hl', pairedMono (fun v x t => by
        obtain ⟨q, t1, t2, t3⟩ := t
        exact ⟨q, t1, t2, sx q _ t3⟩) pr, fun q H5 hq0 hq s5 => ?_⟩
      have q0 : H q = none := freeL q (sx.free hq0)
      have hk5 := s5 D _ hk
      have kl : kk.length ≤ 600 := by
        rw [pairedLen pk, List.length_take]
        have := bdM.1
        omega
      have no : valV kk (.inr e.1) = none := ki_none pk fun e' he' z => by
        obtain ⟨j, hj, ej⟩ := List.mem_iff_getElem.mp he'
        rw [List.length_take] at hj
        have ej' : (spotsF ws)[j]'(by omega) = e' := by rw [← ej, List.getElem_take]
        have ei : (spotsF ws)[i]? = some e := he
        have hi' : i < (spotsF ws).length := (List.getElem?_eq_some_iff.mp ei).1
        have ei' : (spotsF ws)[i] = e := (List.getElem?_eq_some_iff.mp ei).2
        have ne : j ≠ i := by omega
        have mj : ((spotsF ws).map (·.1))[j]? = some e.1 := by
          rw [List.getElem?_map, List.getElem?_eq_getElem (by omega : j < (spotsF ws).length), ej']
          exact congrArg some z
        have mi : ((spotsF ws).map (·.1))[i]? = some e.1 := by rw [List.getElem?_map, ei]; rfl
        exact ne ((List.getElem?_inj (by rw [List.length_map]; omega) nd).mp (mj.trans mi.symm))
      refine ⟨kk, .inr e.1, rfl, hk5, Nat.lt_of_le_of_lt kl (by decide), kk ++ [(.inr e.1, .ref q)], by rw [putK_new _ no]; exact upd_same, ?_, fun b o eb => (upd_ne (ne_of_none eb hD)).trans (s5 b o (sx b o eb))⟩
      rw [List.take_add_one, he]
      have qD : q ≠ D := fun z => by rw [z, hk] at hq0; cases hq0
      refine (pairedMono (fun kv e h => ?_) pk).snoc ⟨rfl, q, rfl, q0, (upd_ne qD).trans hq⟩
      obtain ⟨e1, q', e2, n', a'⟩ := h
      have q'D : q' ≠ D := fun z => by rw [z, hk] at a'; cases a'
      exact ⟨e1, q', e2, n', (upd_ne q'D).trans (s5 q' _ a')⟩
    · obtain ⟨kk, hk, pk, sx⟩ := p
      rw [lenM, List.take_length] at pk
      refine ⟨sx d _ hdL, _, rfl, a, CP, dx, _, rfl, (upd_ne da.symm).trans (sx a _ haL), O.cls, O.n3, (show 2 < 1000 by decide), ?_⟩
      have nk : NK H H3 (upd (upd Hx d (.dK kvs)) a (.ins CP dx [("span", .int (W : Nat)), ("spots", .ref d), ("kinds", .ref D)])) := fun b o nb _ e => by
        have na : b ≠ a := fun z => by rw [z, ha] at nb; cases nb
        by_cases c : b = d
        · subst c
          rw [I3.at_] at e
          cases e
          exact (upd_ne na).trans upd_same
        · exact (upd_ne na).trans ((upd_ne c).trans (sx b o (keepL b o c e)))
      refine k d D kvs kk _ upd_same (I3.keep nk) ⟨(upd_ne Da).trans ((upd_ne Dd).trans hk), D0, pairedMono (fun kv e h => ?_) pk⟩ fun b o nb e => ?_
      · obtain ⟨e1, q', e2, n', a'⟩ := h
        have q1 : q' ≠ d := fun z => by rw [z, sx d _ hdL] at a'; cases a'
        have q2 : q' ≠ a := fun z => by rw [z, ha] at n'; cases n'
        exact ⟨e1, q', e2, n', (upd_ne q2).trans ((upd_ne q1).trans a')⟩
      · have nd' : b ≠ d := fun z => by rw [z, I3.new] at e; cases e
        exact (upd_ne nb).trans ((upd_ne nd').trans (sx b o (keepL b o nd' (keep3 b o nb e))))
end
end Ov

set_option Elab.async false
set_option linter.all false
set_option maxRecDepth 100000
set_option maxHeartbeats 4000000
namespace Ov
open PySem PySem.Spec PyProof.Rows L2 GxR
section
variable {P : Program} {w : World} {K : PySem.W.Frag} {mg : Str → Option Value} {base : Heap} {T : List Addr} {C D fLow fText fAre fTape fNext fInks fInit cLow PLow cAre PAre fStrip fOver pWi fWi pWo fWo fCl DSp DSg DS DNum DTx fInked fRow fCalled fRight pO gO : Addr}
theorem KepX.trans {a : Addr} {H H1 H2 : Hp} (x : KepX T a H H1) (y : KepX T a H1 H2) : KepX T a H H2 := ⟨y.1, fun b o hb hn e => y.2 b o hb hn (x.2 b o hb hn e)⟩
theorem Kep.kx {a : Addr} {H H1 : Hp} (x : Kep T H H1) : KepX T a H H1 := ⟨x.1, fun b o hb _ e => x.2 b o hb e⟩
theorem Bt.kx {a : Addr} {H H1 : Hp} (x : Bt a H H1) (hT : ∀ p ∈ T, TabG H p) (na : a ∉ T) : KepX T a H H1 := ⟨fun p hp => by
  obtain ⟨ps, h1, h2⟩ := hT p hp
  exact ⟨ps, x p _ (fun z => na (z ▸ hp)) h1, h2⟩, fun b o _ hn e => x b o hn e⟩
theorem KepX.new {a : Addr} {H H1 : Hp} {p : Addr} {o : HO} (x : KepX T a H H1) (e : H1 p = none) : KepX T a H (upd H1 p o) := ⟨(Kep.new x.1 e).1, fun b u hb hn q => (Kep.new x.1 e).2 b u hb (x.2 b u hb hn q)⟩
theorem KepX.free {a : Addr} {H H1 : Hp} {p : Addr} (x : KepX T a H H1) (hT : ∀ p ∈ T, TabG H p) (hp : p ≠ a) (e : H1 p = none) : H p = none := by
  cases q : H p with
  | none => rfl
  | some o =>
    by_cases hb : p ∈ T
    · obtain ⟨ps, h1, _⟩ := x.1 p hb
      rw [h1] at e; cases e
    · rw [x.2 p o hb hp q] at e; cases e
theorem KepX.put {a : Addr} {H H1 : Hp} {p : Addr} {o : HO} (x : KepX T a H H1) (e : H p = none) (n : p ∉ T) : KepX T a H (upd H1 p o) := by
  refine ⟨fun q hq => ?_, fun b u hb hn hu => ?_⟩
  · obtain ⟨ps, h1, h2⟩ := x.1 q hq
    exact ⟨ps, (upd_ne fun z => n (by rw [← z]; exact hq)).trans h1, h2⟩
  · exact (upd_ne (ne_of_none hu e)).trans (x.2 b u hb hn hu)
theorem KepX.at {a b : Addr} {H H1 : Hp} {o : HO} (x : KepX T a H H1) (hT : ∀ p ∈ T, TabG H p) (hb : b ≠ a) (e : H b = some o) (n : ∀ ps, o ≠ .tbl ps) : H1 b = some o := x.2 b o (not_tab hT e n) hb e
theorem KepX.refl {a : Addr} {H : Hp} (h : ∀ p ∈ T, TabG H p) : KepX T a H H := ⟨h, fun _ _ _ _ e => e⟩
theorem Bt.kxt {a : Addr} {H H1 H2 : Hp} (k : KepX T a H H1) (na : a ∉ T) (x : Bt a H1 H2) : KepX T a H H2 := k.trans (x.kx k.1 na)
theorem Tp.kx {H H' : Hp} {t : Addr} {n : Nat} (h : Tp H t n) (hT : ∀ p ∈ T, TabG H p) (k : Kep T H H') : Tp H' t n := by
  have nt : t ∉ T := by
    obtain ⟨a, b, c, h1, _⟩ := h
    exact not_tab hT h1 fun _ z => by cases z
  obtain ⟨a, b, c, h1, h2⟩ := h
  exact ⟨a, b, c, k.2 t _ nt h1, h2⟩
theorem Tp.nT {H : Hp} {t : Addr} {n : Nat} (h : Tp H t n) (hT : ∀ p ∈ T, TabG H p) : t ∉ T := by
  obtain ⟨a, b, c, h1, _⟩ := h
  exact not_tab hT h1 fun _ z => by cases z
theorem Kep.btX {t : Addr} {H H1 H2 : Hp} (hT : ∀ p ∈ T, TabG H p) (k : Kep T H H1) (ht : H t = none) (b : Bt t H1 H2) : Kep T H H2 := by
  refine ⟨fun p hp => ?_, fun a o ha e => b a o (ne_of_none e ht) (k.2 a o ha e)⟩
  obtain ⟨ps, h1, h2⟩ := k.1 p hp
  obtain ⟨ps', h1', _⟩ := hT p hp
  exact ⟨ps, b p _ (ne_of_none h1' ht) h1, h2⟩
end
end Ov

set_option Elab.async false
set_option linter.all false
set_option maxRecDepth 100000
set_option maxHeartbeats 4000000
namespace Ov
open PySem PySem.Spec PyProof.Rows L2 GxR
abbrev sBInit : Stmt := inClass (top 48) 3
abbrev sNamed : Stmt := inClass (top 48) 4
abbrev sStamps : Stmt := inClass (top 48) 5
/-! ### the bands -/
def lab (z : Str) : Option Nat := if z = "line" then some 0 else if z = "window" then some 1 else if z = "ring" then some 2 else none
def labN : Nat → Str
  | 0 => "line"
  | 1 => "window"
  | 2 => "ring"
  | _ => ""
def clsN : Nat → Str
  | 0 => "Line"
  | 1 => "Window"
  | 2 => "Ring"
  | _ => "Band"
def cellsN (i : Nat) : Nat := if i = 2 then 60 else 120
/-- where the bands' classes and defs stand -/
structure BA where
  c : Nat → Addr
  ff : Nat → Addr
  fs : Nat → Addr
  fB : Addr
  pN : Addr
  gN : Addr
  pS : Addr
  gS : Addr
  fKn : Addr
  fCk : Addr
  CP : Addr
  fP : Addr
  fSp : Addr
  fKi : Addr
  fCs : Addr
structure Kls (K : PySem.W.Frag) (mg : Str → Option Value) (B : BA) (i : Nat) (C : Addr) : Prop where
  g : mg (clsN i) = some (.ref C)
  mak : Mk K C B.fB
  cls : Cls K C
  eq : NoEq2 K C
  noS : NoAttr K C "_stamps"
  noP : NoAttr K C "pieces"
  rd : ClX.CRead K C (.type "type")
  name : ∃ t, ClX.CVal K C (.type "type") "NAME" (.str (labN i)) (.str (labN i) t)
  con : ∃ t, Con K C "NAME" (.str (labN i)) (.str (labN i) t)
  cells : ∃ t, Con K C "CELLS" (.int (cellsN i : Nat)) (.int (cellsN i : Nat) t)
  nmd : ClX.CMet K C (.type "type") "named" B.pN B.gN
  prop : PropOf K C "stamps" B.pS B.gS
  ha : PySem.W.findIn K (.ref C) "__class__" = some (some (.builtin "object.__class__"))
  hm : PySem.W.mroIn K C (.type "object") = some true
  kn : Meth K C "_knows" B.fKn
  ck : Meth K C "_check_stamping" B.fCk
  cs : Meth K C "check_strip" B.fCs
/-- the four classes, and Pieces -/
structure Bds (K : PySem.W.Frag) (mg : Str → Option Value) (B : BA) : Prop where
  k : ∀ i, i < 4 → Kls K mg B i (B.c i)
  kit : ∀ i j, i < 4 → j < 4 → PySem.W.kitOne K (.ref (B.c i)) (.ref (B.c j)) = some (decide (i = j ∨ j = 3))
  sub : ∀ i j, i < 4 → j < 4 → PySem.W.subIn K (.ref (B.c i)) (.ref (B.c j)) = some (decide (i = j ∨ j = 3))
  hn : PySem.W.specialIn K (.builtin "object.__class__") "__get__" = some (some (.builtin "getset_descriptor.__get__"))
  htk : PySem.W.takesIn K (.builtin "object.__class__") = some true
  fits : ∀ i, i < 3 → Meth K (B.c i) "fits" (B.ff i)
  stm : ∀ i, i < 3 → Meth K (B.c i) "stamped" (B.fs i)
  gP : mg "Pieces" = some (.ref B.CP)
  mP : Mk K B.CP B.fP
  oP : OwnP K B.CP
  tP : TopP K mg B.fSp B.fKi
/-- pieces of words at pc, made since H0 -/
def Pcs (H0 H : Hp) (CP pc : Addr) (ws : List Str) (W : Nat) : Prop := ∃ dx d dk kvs kk, H pc = some (.ins CP dx [("span", .int (W : Nat)), ("spots", .ref d), ("kinds", .ref dk)]) ∧ H0 pc = none ∧ SpI H0 H d kvs (spotsF ws) ∧ KiI H0 H dk kk (spotsF ws) W
theorem Pcs.keep {H0 H H2 : Hp} {CP pc : Addr} {ws : List Str} {W : Nat} (k : NK H0 H H2) (h : Pcs H0 H CP pc ws W) : Pcs H0 H2 CP pc ws W := by
  obtain ⟨dx, d, dk, kvs, kk, e, n, s, i⟩ := h
  exact ⟨dx, d, dk, kvs, kk, k pc _ n (fun _ z => by cases z) e, n, s.keep k, i.keep k⟩
theorem Pcs.base {H0 H1 H : Hp} {CP pc : Addr} {ws : List Str} {W : Nat} (h : ∀ b, H1 b = none → H0 b = none) (p : Pcs H1 H CP pc ws W) : Pcs H0 H CP pc ws W := by
  obtain ⟨dx, d, dk, kvs, kk, e, n, s, i⟩ := p
  exact ⟨dx, d, dk, kvs, kk, e, h _ n, s.base h, i.base h⟩
/-- a band of the i-th class over the stamps at m stands at a -/
def BdAt (B : BA) (H0 H : Hp) (a : Addr) (i : Nat) (m : Addr) (ws : List Str) (W : Nat) : Prop := ∃ dx pc, H a = some (.ins (B.c i) dx [("_stamps", .ref m), ("pieces", .ref pc)]) ∧ H0 a = none ∧ Pcs H0 H B.CP pc ws W
theorem BdAt.keep {B : BA} {H0 H H2 : Hp} {a m : Addr} {i : Nat} {ws : List Str} {W : Nat} (k : NK H0 H H2) (h : BdAt B H0 H a i m ws W) : BdAt B H0 H2 a i m ws W := by
  obtain ⟨dx, pc, e, n, p⟩ := h
  exact ⟨dx, pc, k a _ n (fun _ z => by cases z) e, n, p.keep k⟩
section
variable {P : Program} {w : World} {K : PySem.W.Frag} {mg : Str → Option Value} {base : Heap} {T : List Addr} {C D fLow fText fAre fTape fNext fInks fInit cLow PLow cAre PAre pWo fWo : Addr} {B : BA}
def spBInit (K : PySem.W.Frag) (C : Addr) (B : BA) : Sp := fun vs H Q _ => ∃ (a CB dx m l dm : Addr) (ws : List Str) (W : Nat), vs = [.ref a, .ref m] ∧ H a = some (.ins CB dx []) ∧ Cls K CB ∧ NoAttr K CB "_stamps" ∧ NoAttr K CB "pieces" ∧ Stp H C m l dm (ws.map V.str) ∧ Good ws W ∧
  ∀ pc H3, H3 a = some (.ins CB dx [("_stamps", .ref m), ("pieces", .ref pc)]) → Pcs H H3 B.CP pc ws W → (∀ b o, b ≠ a → H b = some o → H3 b = some o) → Q .non H3
theorem scBInit : FnScope ["self", "stamps"] ["self", "stamps"] (defScope sBInit) := ⟨rfl, rfl, rfl, by decide +kernel, rfl, by decide +kernel, by decide +kernel⟩
theorem ok_binit {f : Addr} {fd fdW fdP fdS fdK : FuncData} (F : L2.Fun K "__init__" "Band.__init__" sBInit f fd) (FW : L2.Fun K "words" "Stamps.words" sWords fWo fdW) (FP : L2.Fun K "__init__" "Pieces.__init__" sPInit B.fP fdP) (FS : L2.Fun K "spots_of" "spots_of" sSpots B.fSp fdS) (FK : L2.Fun K "kinds_of" "kinds_of" sKinds B.fKi fdK)
    (X : Txt K mg C fLow fText fAre fTape fNext fInks) (O : Own K C) (hp : PropOf K C "words" pWo fWo) (BB : Bds K mg B) : FnOk P w K mg base CX0 4 f fd ["self", "stamps"] (spBInit K C B) := by
  have PI : FnOk P w K mg base CX0 2 B.fP fdP ["self", "words"] (spPInit K B.CP) := ok_pinit FP FS FK X BB.tP BB.oP
  have bP : Binds K fdP ["self", "words"] [] := FP.binds fun _ _ _ _ _ _ us hl => match us, hl with | [_, _], _ => rfl
  have WW : FnOk P w K mg base CX0 1 fWo fdW ["self"] (spWords C) := ok_words FW X O
  have bW : Binds K fdW ["self"] [] := FW.binds fun _ _ _ _ _ _ us hl => match us, hl with | [_], _ => rfl
  refine F.ok scBInit (fun vs H Q E h => ?_) (fun cdv A outer s H vs Q E hr h => ?_)
  · obtain ⟨a, CB, dx, m, l, dm, ws, W, rfl, _⟩ := h
    rfl
  · obtain ⟨a, CB, dx, m, l, dm, ws, W, rfl, ha, hc, n1, n2, st, g, k⟩ := h
    refine ⟨_, pss_cons (ps_fld (pv 0) (pv 1) (by rfl)) (pss_one (ps_fld (pv 0) (pe_make BB.mP PI hr (by rfl) BB.gP bP .nil L2.pass0 (pa_cons (pe_propX (p := pWo) (pv 1) WW (hr.mono (by decide)) bW .nil L2.pass0) pa_nil)) (by rfl))), ?_⟩
    refine ⟨_, rfl, _, rfl, a, CB, dx, [], rfl, ha, hc, n1, by decide, ?_⟩
    have ma : m ≠ a := fun z => by
      have := st.1
      rw [z, ha] at this
      cases this
    have la : l ≠ a := fun z => by
      have := st.2
      rw [z, ha] at this
      cases this
    have h1a : upd H a (.ins CB dx [("_stamps", .ref m)]) a = some (.ins CB dx [("_stamps", .ref m)]) := upd_same
    have s1 : ∀ b o, b ≠ a → H b = some o → upd H a (.ins CB dx [("_stamps", .ref m)]) b = some o := fun b o nb e => (upd_ne nb).trans e
    have f1 : ∀ b, upd H a (.ins CB dx [("_stamps", .ref m)]) b = none → H b = none := fun b e => by
      by_cases c : b = a
      · rw [c, upd_same] at e; cases e
      · exact (upd_ne c).symm.trans e
    have pf : putF ("_stamps" : Str) (V.ref m) [] = [(("_stamps" : Str), V.ref m)] := rfl
    rw [pf]
    generalize upd H a (.ins CB dx [("_stamps", .ref m)]) = H1 at h1a s1 f1 ⊢
    refine ⟨_, rfl, m, C, dm, _, rfl, O.cls, hp, s1 m _ ma st.1, m, l, dm, _, rfl, ⟨s1 m _ ma st.1, s1 l _ la st.2⟩, fun wl hwl => ?_⟩
    have s2 : L2.Same H1 (upd H1 wl (.lst (ws.map V.str))) := same_new hwl
    have hw2 : upd H1 wl (.lst (ws.map V.str)) wl = some (.lst (ws.map V.str)) := upd_same
    have f2 : ∀ b, upd H1 wl (.lst (ws.map V.str)) b = none → H1 b = none := fun b e => s2.free e
    generalize upd H1 wl (.lst (ws.map V.str)) = H2 at s2 hw2 f2 ⊢
    intro x dp hx hdp hne
    have sx : L2.Same H2 (upd (upd H2 dp (.own x)) x (.ins B.CP dp [])) := fun b o e => (upd_ne (ne_of_none e hx)).trans ((upd_ne (ne_of_none e hdp)).trans e)
    refine ⟨x, wl, dp, ws, W, rfl, upd_same, sx wl _ hw2, g, fun d dk kvs kk H3 e3 sp ki kp => ⟨rfl, ?_⟩⟩
    have b0 : ∀ b, upd (upd H2 dp (.own x)) x (.ins B.CP dp []) b = none → H b = none := fun b e => f1 b (f2 b (sx.free e))
    have xa : x ≠ a := fun z => by
      have := s2 a _ h1a
      rw [← z, hx] at this
      cases this
    have s3 : ∀ b o, H2 b = some o → H3 b = some o := fun b o e => kp b o (ne_of_none e hx) (sx b o e)
    have ha3 : H3 a = some (.ins CB dx [("_stamps", .ref m)]) := s3 a _ (s2 a _ h1a)
    refine ⟨_, rfl, a, CB, dx, _, rfl, ha3, hc, n2, (show 1 < 1000 by decide), ?_⟩
    have nk : NK H H3 (upd H3 a (.ins CB dx [("_stamps", .ref m), ("pieces", .ref x)])) := fun b o nb _ e => (upd_ne (fun z => by rw [z, ha] at nb; cases nb)).trans e
    refine k x _ upd_same (Pcs.keep nk ⟨dp, d, dk, kvs, kk, e3, f1 x (f2 x hx), sp.base b0, ki.base b0⟩) fun b o nb e => (upd_ne nb).trans (s3 b o (s2 b o (s1 b o nb e)))
def spGet (K : PySem.W.Frag) : Sp := fun vs H Q _ => ∃ (a CB dx : Addr) (fs : List (Str × V)) (v : V), vs = [.ref a] ∧ H a = some (.ins CB dx fs) ∧ fs.lookup ("_stamps" : Str) = some v ∧ Cls K CB ∧ NoAttr K CB "_stamps" ∧ Q v H
theorem scGet : FnScope ["self"] ["self"] (defScope sStamps) := ⟨rfl, rfl, rfl, by decide +kernel, rfl, by decide +kernel, by decide +kernel⟩
theorem ok_get {f : Addr} {fd : FuncData} (F : L2.Fun K "stamps" "Band.stamps" sStamps f fd) : FnOk P w K mg base CX0 1 f fd ["self"] (spGet K) := by
  refine F.ok scGet (fun vs H Q E h => ?_) (fun cdv A outer s H vs Q E hr h => ?_)
  · obtain ⟨a, C, dx, fs, v, rfl, _⟩ := h
    rfl
  · obtain ⟨a, C, dx, fs, v, rfl, ha, hl, hc, hn, q⟩ := h
    exact ⟨_, pss_one (ps_ret (pe_fld (pv 0) (by rfl))), ⟨_, rfl, a, C, dx, _, _, rfl, ha, hc, hn, hl, q⟩⟩
/-- what making a band of the i-th class gives -/
def Mades (B : BA) (H : Hp) (i : Nat) (m : Addr) (ws : List Str) (W : Nat) (Q : VK) : Prop := ∀ a H3, BdAt B H H3 a i m ws W → L2.Same H H3 → Q (.ref a) H3
theorem Mades.make {H : Hp} {i : Nat} {m l dm : Addr} {ws : List Str} {W : Nat} {Q : VK} (BB : Bds K mg B) (hi : i < 4) (st : Stp H C m l dm (ws.map V.str)) (g : Good ws W) (mm : Mades B H i m ws W Q) {x dx : Addr} (hx : H x = none) (hdx : H dx = none) (hne : dx ≠ x) :
    spBInit K C B [V.ref x, .ref m] (upd (upd H dx (.own x)) x (.ins (B.c i) dx [])) (fun v H2 => v = .non ∧ Q (.ref x) H2) E0 := by
  have sx : L2.Same H (upd (upd H dx (.own x)) x (.ins (B.c i) dx [])) := fun b o e => (upd_ne (ne_of_none e hx)).trans ((upd_ne (ne_of_none e hdx)).trans e)
  refine ⟨x, B.c i, dx, m, l, dm, ws, W, rfl, upd_same, (BB.k i hi).cls, (BB.k i hi).noS, (BB.k i hi).noP, ⟨sx m _ st.1, sx l _ st.2⟩, g, fun pc H3 e3 p kp => ⟨rfl, ?_⟩⟩
  exact mm x H3 ⟨dx, pc, e3, hx, p.base fun b e => sx.free e⟩ fun b o e => kp b o (ne_of_none e hx) (sx b o e)
def spNamed (C : Addr) (B : BA) (DN : Addr) : Sp := fun vs H Q E => ∃ (x : V) (z : Str) (m l dm : Addr) (ws : List Str) (W : Nat), vs = [x, .str z, .ref m] ∧ Stp H C m l dm (ws.map V.str) ∧ Good ws W ∧ (∀ i, lab z = some i → Mades B H i m ws W Q) ∧ (lab z = none → E (.ref DN) none H)
theorem scNamed : FnScope ["cls", "name", "stamps"] ["cls", "name", "stamps"] (defScope sNamed) := ⟨rfl, rfl, rfl, by decide +kernel, rfl, by decide +kernel, by decide +kernel⟩
theorem ok_named {f DN : Addr} {fd fdB : FuncData} (F : L2.Fun K "named" "Band.named" sNamed f fd) (FB : L2.Fun K "__init__" "Band.__init__" sBInit B.fB fdB) (FI : FnOk P w K mg base CX0 4 B.fB fdB ["self", "stamps"] (spBInit K C B)) (BB : Bds K mg B) (Er : ErrC K mg "InvalidName" DN) :
    FnOk P w K mg base (L2.CX P w) 6 f fd ["cls", "name", "stamps"] (spNamed C B DN) := by
  have bI : Binds K fdB ["self", "stamps"] [] := FB.binds fun _ _ _ _ _ _ us hl => match us, hl with | [_, _], _ => rfl
  have k0 := BB.k 0 (by decide)
  have k1 := BB.k 1 (by decide)
  have k2 := BB.k 2 (by decide)
  refine F.okX scNamed (fun vs H Q E h => ?_) (fun cdv A outer s H vs Q E hr h => ?_)
  · obtain ⟨x, z, m, l, dm, ws, W, rfl, _⟩ := h
    rfl
  · obtain ⟨x, z, m, l, dm, ws, W, rfl, st, g, h1, h2⟩ := h
    obtain ⟨t0, n0⟩ := k0.name
    obtain ⟨t1, n1⟩ := k1.name
    obtain ⟨t2, n2⟩ := k2.name
    refine ⟨_, pss_cons (ps_if (pt_cmpR op_eq (pv 1) (ClX.pe_cval (pe_glob (v := .ref (B.c 0)) (by rfl) k0.g rfl)) (by rfl)) (pss_one (ps_ret (pe_make k0.mak FI hr (by rfl) k0.g bI .nil L2.pass0 (pa_cons (pv 2) pa_nil)))) pss_nil)
      (pss_cons (ps_if (pt_cmpR op_eq (pv 1) (ClX.pe_cval (pe_glob (v := .ref (B.c 1)) (by rfl) k1.g rfl)) (by rfl)) (pss_one (ps_ret (pe_make k1.mak FI hr (by rfl) k1.g bI .nil L2.pass0 (pa_cons (pv 2) pa_nil)))) pss_nil)
      (pss_cons (ps_if (pt_cmpR op_eq (pv 1) (ClX.pe_cval (pe_glob (v := .ref (B.c 2)) (by rfl) k2.g rfl)) (by rfl)) (pss_one (ps_ret (pe_make k2.mak FI hr (by rfl) k2.g bI .nil L2.pass0 (pa_cons (pv 2) pa_nil)))) pss_nil)
      (pss_one (ps_raise rfl (takes_of rfl rfl rfl rfl) (pmk_own PySem.F.excBase_ValueError Er.e Er.g Er.k (raises_own Er.b Er.t) (by rfl)))))), ?_⟩
    have dec : ∀ y : Str, decide (V.str z = V.str y) = decide (z = y) := fun y => by rw [Bool.eq_iff_iff]; simp
    refine ⟨_, rfl, B.c 0, _, _, _, rfl, k0.rd, n0, rfl, _, rfl, ?_⟩
    rw [dec]
    by_cases z0 : z = "line"
    · refine iteT' (by rw [decide_eq_true_eq]; exact z0) ⟨_, rfl, fun x dx hx hdx hne => ?_⟩
      exact (h1 0 (by unfold lab; rw [if_pos z0])).make BB (by decide) st g hx hdx hne
    refine iteF' (by rw [decide_eq_false_iff_not]; exact z0) ⟨_, rfl, B.c 1, _, _, _, rfl, k1.rd, n1, rfl, _, rfl, ?_⟩
    rw [dec]
    by_cases z1 : z = "window"
    · refine iteT' (by rw [decide_eq_true_eq]; exact z1) ⟨_, rfl, fun x dx hx hdx hne => ?_⟩
      exact (h1 1 (by unfold lab; rw [if_neg z0, if_pos z1])).make BB (by decide) st g hx hdx hne
    refine iteF' (by rw [decide_eq_false_iff_not]; exact z1) ⟨_, rfl, B.c 2, _, _, _, rfl, k2.rd, n2, rfl, _, rfl, ?_⟩
    rw [dec]
    by_cases z2 : z = "ring"
    · refine iteT' (by rw [decide_eq_true_eq]; exact z2) ⟨_, rfl, fun x dx hx hdx hne => ?_⟩
      exact (h1 2 (by unfold lab; rw [if_neg z0, if_neg z1, if_pos z2])).make BB (by decide) st g hx hdx hne
    refine iteF' (by rw [decide_eq_false_iff_not]; exact z2) ?_
    exact h2 (by unfold lab; rw [if_neg z0, if_neg z1, if_neg z2])
end
end Ov

set_option Elab.async false
set_option linter.all false
set_option maxRecDepth 100000
set_option maxHeartbeats 4000000
/-! the end of a law with the tables of defs at the top -/
namespace Ov
open PySem PySem.Spec PyProof.Rows L2 GxR
def TabsT (q : Program) (K : PySem.W.Frag) (h : Heap) : Prop := ∀ (x : Str) (c P : Addr), ((recsOf q).find? (fun e => e.name == x)).isSome = true → PySem.W.tabIn K x = some (c, P) → PySem.W.CodeHd h c P ∧ h.get? P = some { cls := .none, data := .fields #[] }
theorem walk_T {l : PySem.W.OpenLaw} {n k : Nat} {q : Program} {loose : List Str} {XP : (Str → Option Value) → Heap → Prop} {YP : World → Heap → Prop} {d : DefRec} {K : Params → PySem.W.Frag} {x : Str}
    (hn : l.most = some n) (hn2 : n ≤ sizeLine) (hdf : d.params.defaults = []) (hr : Room k callerA) (hY : ∀ (w : World) (h : Heap), YP w h → (K w.params).In h)
    (F : ∀ (w : World) (mg : Str → Option Value) (fa : Addr) (h : Heap), YP w h → (K w.params).In h → h.Ns mainGlobals mg → mg d.name = some (.ref fa) → TabsT q (K w.params) h → LamX.LawAtS l w (K w.params) CX0 k n x mg fa h) :
    PySem.W.WalkO q loose XP YP l.row.toRowW d [] (fun f vs => PySem.call f vs) := by
  refine Att.attach_callB hn hdf fun w s₀ s₁ mg mb fa o pm cd doc a vs ns G Y ho hd hcd hmg hobj hints hlen hbits hg => ?_
  have KX := hY w _ Y
  have tabs : TabsT q (K w.params) s₁.heap := fun x c P h1 h2 => by
    obtain ⟨d', hd'⟩ := Option.isSome_iff_exists.mp h1
    exact PySem.W.tab_of G.T KX hd' h2
  obtain ⟨fd, cs, sp, hT, nT, C, hb, hsp, hF⟩ := F w mg fa _ Y KX G.T.g hmg tabs
  exact LamX.law_callTs KX G.T.g G.T.b G.T.builtins G.T.nolimit hg hT nT C G.T.bmain hobj hints (Nat.le_trans hlen hn2) hr hF hb (fun H hH hS => hsp H a ns hlen hbits hH hS) fun H e s' z => z
end Ov

set_option Elab.async false
set_option linter.all false
set_option maxRecDepth 100000
set_option maxHeartbeats 4000000
/-! defs that run where no printing is under way: what repr wants to know -/
namespace Ov
open PySem PySem.Spec PyProof.Rows L2 GxR
/-- a def's promise at the places where no repr is under way -/
structure FnG (P : Program) (w : World) (K : PySem.W.Frag) (mg : Str → Option Value) (base : Heap) (CX : CXT) (k : Nat) (f : Addr) (fd : FuncData) (ps : List Str) (sp : Sp) : Prop where
  len : ∀ vs H Q E, sp vs H Q E → vs.length = ps.length
  run : ∀ (A : Around) (fr : List Env) (s : Shared) (H : Hp) (args : Args) (us : List Value) (vs : List V) (Q : VK) (E : XK), A.guards = some [] → Room k A → Env0 P w K mg base A fr s H → BindsTo s fd args (ps.zip us) → Vals vs us → sp vs H Q E →
    codeAny (model P w) A (.call (.ref f) args) (CR CX fr P w H s Q E) s
theorem FnOk.toG {P : Program} {w : World} {K : PySem.W.Frag} {mg : Str → Option Value} {base : Heap} {CX : CXT} {k : Nat} {f : Addr} {fd : FuncData} {ps : List Str} {sp : Sp} (F : FnOk P w K mg base CX k f fd ps sp) : FnG P w K mg base CX k f fd ps sp :=
  ⟨F.len, fun A fr s H args us vs Q E _ => F.run A fr s H args us vs Q E⟩
section
variable {P : Program} {w : World} {K : PySem.W.Frag} {mg : Str → Option Value} {base : Heap}
/-- as Fun.ok; the body knows the guards -/
theorem fun_okG {x qual : Str} {st : Stmt} {f : Addr} {fd : FuncData} {N ps : List Str} {k : Nat} {sp : Sp} (F : L2.Fun K x qual st f fd) (S : FnScope N ps (defScope st)) (len : ∀ vs H Q E, sp vs H Q E → vs.length = ps.length)
    (body : ∀ (cdv : Value) (A : Around) (fr : List Env) (s : Shared) (H : Hp) (vs : List V) (Q : VK) (E : XK), (A.deeper (envOfC qual (defScope st) s.heap.objs.size f cdv)).guards = some [] → Room k (A.deeper (envOfC qual (defScope st) s.heap.objs.size f cdv)) → sp vs H Q E →
      ∃ t, PSs (cxOf CX0 P w K mg base N qual (defScope st) f cdv A fr s H E).nox (defBody st) t ∧ t { nx := fun _ H' => Q .non H', rt := Q } (start N vs) H) : FnG P w K mg base CX0 (k + 1) f fd ps sp := by
  obtain ⟨oc, od, kV, doc, pm, an, cdv, ct, osl, rfl, lk, hcd⟩ := F.ex
  refine ⟨len, fun A fr s H args us vs Q E hg hr e0 hb rv hs => ?_⟩
  refine LamX.run_ofS lk hcd S hr e0 hb rv (len _ _ _ _ hs) fun hr' => ?_
  obtain ⟨t, h, q⟩ := body cdv A fr s H vs Q E (by simpa [Around.deeper] using hg) hr' hs
  exact ⟨t, h.nox, q⟩
end
section
variable {X : Cx} {CX : CXT} {k : Nat} {f : Addr} {fd : FuncData} {ps : List Str} {sp : Sp} {E : XK} {x : Str} {p pos : Pos} {e : Expr} {es : List Expr} {t : TA}
/-- f(..) where the guards are known -/
theorem pe_callG (F : FnG X.prog X.w X.K X.mg X.base CX k f fd ps sp) (hg0 : X.A.guards = some []) (hr : Room k X.A) (hg : Gl X x) (hm : X.mg x = some (.ref f)) (hk : PySem.W.keepIn X.K (.ref f) = true) (hb : Binds X.K fd ps []) (hx : Passes CX X E) (ha : PA X (e :: es) t)
    (hdb : (x == ("__debug__" : Str)) = false := by decide) (he : starEach (e :: es) X.env = (false, eval e X.env) :: starEach es X.env := by rfl) (hpl : (backTo pos (starEach es X.env)).any (·.1) = false := by rfl) :
    PE X (.Call (.Name x p) (e :: es) [] pos) (tCall sp [] E t) := by
  refine ⟨fun pins s σ H Q I h => ?_⟩
  refine wpAny_Call_Name_kw (ld_glob I hg hm ?_ hdb)
  refine PySem.W.callWith_K (h₀ := X.base) I.ok.mod.kin hk (thn (ha.run pos pins s σ H _ I h) fun us s1 ⟨vs, H1, I1, r, q⟩ => ⟨I1.kIn, ?_⟩) he hpl
  have q : sp vs H1 Q E := by
    have z : sp (vs ++ []) H1 Q E := q
    rwa [List.append_nil] at z
  have hl : us.length = ps.length := by rw [← r.length]; exact F.len _ _ _ _ q
  have b := hb s1 us I1.kIn (by rw [List.append_nil]; exact hl)
  rw [List.append_nil] at b
  refine wpAny_call (codeAny_mono (F.run X.A X.stack s1 H1 ⟨us, []⟩ us vs Q E hg0 hr I1.env0 b r q) fun rr s' hq => ?_)
  cases rr with
  | error er => exact hx pins σ H1 s1 er s' I1 hq
  | ok fl =>
    cases fl with
    | ret u => exact I1.after hq
    | next => exact False.elim hq
    | brk => exact False.elim hq
    | cont => exact False.elim hq
end
/-! ### the end -/
/-- the script at a (as o has it) and the empty tables are tracked, nothing else -/
def trackH (cs : List (Addr × Addr)) (a : Addr) (o : Option HO) : Hp := fun b => if b = a then o else if b ∈ cs.map (·.2) then some (.tbl #[]) else none
theorem law_callG {P : Program} {w : World} {K : PySem.W.Frag} {mg mb : Str → Option Value} {fa a : Addr} {cs : List (Addr × Addr)} {s₁ : Shared} {vs : List Value} {ns : List Int}
    (KX : K.In s₁.heap) (gl : s₁.heap.Ns mainGlobals mg) (bl : s₁.heap.Ns builtinsNs mb) (bb : ∀ x : Str, x ≠ "__name__" → mb x = bootBuiltins x) (lim : s₁.heap.NoLimit) (nog : s₁.gens = #[])
    (tabs : ∀ p ∈ cs, s₁.heap.get? p.2 = some { cls := .none, data := .fields #[] }) (nT : ∀ p ∈ cs, K.lookup p.2 = none) (Cd : ∀ p ∈ cs, PySem.W.CodeHd s₁.heap p.1 p.2)
    (bmod : ∃ (bm : Addr) (ob : Obj), mg "__builtins__" = some (.ref bm) ∧ bm ≠ builtinsNs ∧ s₁.heap.get? bm = some ob ∧ ob.cls = .type "module" ∧ ob.dict = some builtinsNs ∧ ob.data = .plain)
    (ha : s₁.heap.get? a = some { cls := .type "list", data := .seq vs.toArray }) (hi : IntsAre vs ns) (hl : ns.length ≤ sizeLine)
    (F : ∀ (base : Heap) (H : Hp), K.In base → base.Ns mainGlobals mg → (∀ p ∈ cs, LamX.TabB base mg p.1 p.2) → Env0 P w K mg base callerA [] s₁ H → (∀ p ∈ cs, H p.2 = some (.tbl #[])) → SqL K H a (ns.map V.int) →
      codeAny (model P w) callerA (.call (.ref fa) ⟨[.ref a], []⟩) (CR CX0 [] P w H s₁ (fun v _ => v = .bl true) fun _ _ _ => False) s₁) :
    codeAny (model P w) callerA (.call (.ref fa) ⟨[.ref a], []⟩) (fun r s' => r = .ok (.ret (.bool true)) ∧ OldK s₁.heap s'.heap ∧ s'.os = s₁.os ∧ AllBare s'.gens) s₁ := by
  have rel := vals_ints hi
  have nl : ns.length = vs.length := hi.length.symm
  have memT : ∀ p ∈ cs, p.2 ∈ cs.map (·.2) := fun p hp => List.mem_map.mpr ⟨p, hp, rfl⟩
  have tabT : ∀ b ∈ cs.map (·.2), s₁.heap.get? b = some { cls := .none, data := .fields #[] } := fun b hb => by
    obtain ⟨p, hp, rfl⟩ := List.mem_map.mp hb
    exact tabs p hp
  have aT : a ∉ cs.map (·.2) := fun z => by
    have q := (tabT a z).symm.trans ha
    cases q
  -- the way, once the script's place is chosen
  have go : ∀ o : Option HO, SqL K (trackH cs a o) a (ns.map V.int) → (∀ u, o = some u → ObjOk P w (trackH cs a o) s₁.heap a u ∧ K.lookup a = none ∧ ∃ ob xs, u = .frz ob (.lst xs)) →
      codeAny (model P w) callerA (.call (.ref fa) ⟨[.ref a], []⟩) (fun r s' => r = .ok (.ret (.bool true)) ∧ OldK s₁.heap s'.heap ∧ s'.os = s₁.os ∧ AllBare s'.gens) s₁ := by
    intro o seq hob
    generalize hH : trackH cs a o = H at seq hob
    have Ha : H a = o := by rw [← hH]; exact if_pos rfl
    have HT : ∀ b ∈ cs.map (·.2), H b = some (.tbl #[]) := fun b hb => by
      have ne : b ≠ a := fun z => aT (z ▸ hb)
      rw [← hH]
      exact (if_neg ne).trans (if_pos hb)
    have HN : ∀ b, b ≠ a → b ∉ cs.map (·.2) → H b = none := fun b h1 h2 => by
      rw [← hH]
      exact (if_neg h1).trans (if_neg h2)
    -- what is neither the script nor a table is not tracked
    have un1 : ∀ {b : Addr} {u : Obj}, s₁.heap.get? b = some u → (∀ k n, u.data ≠ .seq k n) → u.data ≠ .fields #[] → H b = none := fun {b u} e n1 n2 => by
      refine HN b (fun z => ?_) fun z => ?_
      · subst z
        rw [ha] at e
        exact n1 _ _ (by rw [← Option.some.inj e])
      · rw [tabT b z] at e
        exact n2 (by rw [← Option.some.inj e])
    have hok : HOk P w H s₁.heap := fun b u e => by
      by_cases h1 : b = a
      · subst h1
        rw [Ha] at e
        exact (hob u e).1
      · by_cases h2 : b ∈ cs.map (·.2)
        · rw [HT b h2] at e
          cases e
          exact tabT b h2
        · rw [HN b h1 h2] at e
          cases e
    have ns1 : ∀ {b : Addr} {m : Str → Option Value}, s₁.heap.Ns b m → (hidT s₁.heap H).Ns b m := fun {b m} ⟨u, es, ep, e, d, r⟩ =>
      ⟨u, es, ep, hidT_get e (un1 e (fun k n z => by rw [d] at z; cases z) fun z => by rw [d] at z; cases z), d, r⟩
    have kb : K.In (hidT s₁.heap H) := fun b u e => by
      refine hidT_get (KX b u e) ?_
      by_cases h1 : b = a
      · subst h1
        rw [Ha]
        cases ho : o with
        | none => rfl
        | some u' =>
          have z := (hob u' ho).2.1
          rw [e] at z
          cases z
      · refine HN b h1 fun z => ?_
        obtain ⟨p, hp, rfl⟩ := List.mem_map.mp z
        rw [nT p hp] at e
        cases e
    have md : L2.Mod K mg (hidT s₁.heap H) := ⟨kb, ns1 gl, ⟨mb, ns1 bl, bb⟩, by
      obtain ⟨mc, q1, q2⟩ := lim
      exact ⟨mc, ns1 q1, q2⟩⟩
    have TB : ∀ p ∈ cs, LamX.TabB (hidT s₁.heap H) mg p.1 p.2 := fun p hp => by
      have tp := tabs p hp
      refine ⟨?_, ?_, fun z => ?_⟩
      · obtain ⟨u, us, fl, tf, fg, tg, inF, tx, tt, c1, c2, c3, c4, c5, c6, c7, c8, c9, cne⟩ := Cd p hp
        exact ⟨u, us, fl, tf, fg, tg, inF, tx, tt, hidT_get c1 (un1 c1 (fun k n z => by rw [c3] at z; cases z) fun z => by rw [c3] at z; cases z; simp at c4), c2, c3, c4, c5, c6, c7, c8, c9, cne⟩
      · obtain ⟨bm, ob, m1, m2, m3, m4, m5, m6⟩ := bmod
        refine ⟨bm, ob, m1, m2, fun q => ?_, fun q => ?_, hidT_get m3 (un1 m3 (fun k n z => by rw [m6] at z; cases z) fun z => by rw [m6] at z; cases z), m4, m5, m6⟩
        · obtain ⟨u, es, ep, e, hd, _⟩ := gl
          rw [q, e] at m3
          cases m3
          rw [hd] at m6
          cases m6
        · rw [q, tp] at m3
          cases m3
          cases m6
      · obtain ⟨u, es, ep, e, hd, _⟩ := gl
        rw [z, tp] at e
        cases e
        cases hd
    have env : Env0 P w K mg (hidT s₁.heap H) callerA [] s₁ H := ⟨rfl, md, fun b u e => of_hidT e, Nat.le_of_eq (hidT_size _ _), trivial, fun b hb => (by cases hb), hok, .of_eq nog⟩
    refine codeAny_mono (F _ H kb (ns1 gl) TB env (fun p hp => HT _ (memT p hp)) seq) fun r s' h => ?_
    cases r with
    | error e => exact False.elim h
    | ok f =>
      cases f with
      | next => exact False.elim h
      | brk => exact False.elim h
      | cont => exact False.elim h
      | ret u =>
        obtain ⟨v, H', os, bare, un, hok', rv, q⟩ := h
        have qv : v = .bl true := q
        subst qv
        obtain rfl : u = Value.bool true := rv
        have stays : ∀ b u, b ∉ cs.map (·.2) → s₁.heap.get? b = some u → s'.heap.get? b = some u := fun b u nb e => by
          by_cases h1 : b = a
          · subst h1
            cases ho : o with
            | none =>
              have hn : H b = none := Ha.trans ho
              exact un.keep b u e hn (by intro z; cases z) (by simp)
            | some u' =>
              obtain ⟨ok1, _, ob, xs, rfl⟩ := hob u' ho
              have z1 : H b = some (.frz ob (.lst xs)) := Ha.trans ho
              have z2 := un.frzs b ob _ z1
              have e1 := (hok b _ z1).1
              have e2 := (hok' b _ z2).1
              rw [e] at e1
              cases e1
              exact e2
          · exact un.keep b u e (HN b h1 nb) (by intro z; cases z) (by simp)
        have grow : ∀ p ∈ cs, ∃ more : Array Value, s'.heap.get? p.2 = some { cls := .none, data := .fields more } := fun p hp => by
          obtain ⟨more, z⟩ := un.tbls p.2 #[] (HT _ (memT p hp))
          exact ⟨_, hok' p.2 _ z⟩
        refine ⟨rfl, ⟨fun b u e => ?_, fun b u e => ?_⟩, os, bare⟩
        · by_cases hb : b ∈ cs.map (·.2)
          · obtain ⟨p, hp, rfl⟩ := List.mem_map.mp hb
            obtain ⟨more, hm⟩ := grow p hp
            have eu := (tabs p hp).symm.trans e
            cases eu
            exact .inr (.inl ⟨((Cd p hp).tab (tabs p hp)).isCodeTable, rfl, #[], more, rfl, by rw [Array.empty_append]; exact hm⟩)
          · exact .inl (stays b u hb e)
        · by_cases hb : b ∈ cs.map (·.2)
          · obtain ⟨p, hp, rfl⟩ := List.mem_map.mp hb
            obtain ⟨more, hm⟩ := grow p hp
            exact ⟨_, hm⟩
          · exact ⟨u, stays b u hb e⟩
  cases hk : K.lookup a with
  | some u =>
    have e := (KX a u hk).symm.trans ha
    cases e
    exact go none (.inr ⟨_, vs.toArray, _, hk, rfl, rfl, rfl, by rw [List.size_toArray, ← nl]; exact hl, by simpa using rel⟩) fun u z => by cases z
  | none =>
    refine go (some (.frz { cls := .type "list", data := .seq vs.toArray } (.lst (ns.map V.int)))) (.inl (.inr ⟨_, if_pos rfl⟩)) fun u z => ?_
    cases z
    exact ⟨⟨ha, by rw [List.length_map]; exact hl, vs, _, rel, ha⟩, hk, _, _, rfl⟩
end Ov

set_option Elab.async false
set_option linter.all false
set_option maxRecDepth 100000
set_option maxHeartbeats 4000000
namespace Ov
open PySem PySem.Spec PyProof.Rows L2 GxR
/-- repr of a list of data -/
def rReprL (K : PySem.W.Frag) : List V → Hp → VK → Prop := fun xs H Q => ∃ (a : Addr) (d : PyData), xs = [V.ref a] ∧ Dp K H (.ref a) d ∧ d.showable = true ∧ d.hasDict = false ∧ d.depth ≤ 60 ∧ d.shown.length ≤ sizeLine ∧ Q (.str d.shown) H
theorem call_reprL {X : Cx} (hg : X.A.guards = some []) (hu : X.A.units + 64 < cLine) : CallR X (.builtin "repr") (rReprL X.K) := by
  intro pins s σ H xs us Q I r h
  obtain ⟨a, d, rfl, hd, hs, hdict, dep, hsz, q⟩ := h
  obtain ⟨u, rfl, ru⟩ := vals1 r
  obtain rfl : u = Value.ref a := ru
  obtain ⟨as, rd⟩ := Dp.reads I d _ _ hd rfl
  refine repr_of_reads' rd hs (fun z => by rw [hdict] at z; cases z) hg (by omega) (fun b o e => e) (fun h' u tk hk => ?_) hsz
  exact ⟨.str d.shown, H, I.kept (t' := tk) hk, ⟨u, rfl⟩, q⟩
end Ov

set_option Elab.async false
set_option linter.all false
set_option maxRecDepth 100000
set_option maxHeartbeats 4000000
/-! own __len__ and __add__ of instances -/
namespace Ov
open PySem PySem.Spec PyProof.Rows L2 GxR
theorem insAt {X : Cx} {pins : List (Addr × Obj)} {σ : L2.St} {H : Hp} {s : Shared} {a C dx : Addr} {fs : List (Str × V)} (I : Inv X pins σ H s) (h : H a = some (.ins C dx fs)) : ∃ o od, PySem.W.InstAt s.heap a o C od ∧ o.data = .plain := by
  obtain ⟨m, O, _⟩ := ins_get I.hok h
  obtain ⟨od, J, _⟩ := O.look
  exact ⟨_, _, J, rfl⟩
theorem frOf {X : Cx} {pins : List (Addr × Obj)} {σ : L2.St} {H : Hp} {s : Shared} (I : Inv X pins σ H s) : ∃ m, Fr X.base X.env.locals s.heap m := by
  obtain ⟨m, hm, _⟩ := I.loc
  exact ⟨m, hm, fun b o e => (I.bs b o e).1, Nat.le_trans I.ok.bsz I.ok.above⟩
/-- len of an instance of C -/
def rLenI (C : Addr) (sp : Sp) : List V → Hp → VK → Prop := fun xs H Q => ∃ a dx fs, xs = [V.ref a] ∧ H a = some (.ins C dx fs) ∧ sp [.ref a] H (fun v H2 => ∃ n : Nat, v = .int (n : Nat) ∧ n < 2 ^ 62 ∧ Q (.int (n : Nat)) H2) E0
theorem call_lenI {X : Cx} {k : Nat} {C f : Addr} {sp : Sp} (hs : PySem.W.findIn X.K (.ref C) "__len__" = some (some (.ref f))) (hf : PySem.W.isFn X.K (.ref f) = true) (F : FnR X.prog X.w X.K X.mg X.base CX0 k f sp) (hr : Room (k + 1) X.A) : CallR X (.builtin "len") (rLenI C sp) := by
  intro pins s σ H xs us Q I r h
  obtain ⟨a, dx, fs, rfl, ha, q⟩ := h
  obtain ⟨u, rfl, ru⟩ := vals1 r
  obtain rfl : u = Value.ref a := ru
  obtain ⟨o, od, J, _⟩ := insAt I ha
  obtain ⟨m, Fm⟩ := frOf I
  refine PySem.W.len_K Fm I.ok.mod.kin J hs hf ?_
  refine wpAny_call (codeAny_mono (F X.A.in1 X.stack s H [.ref a] [V.ref a] _ E0 hr.in1 I.env0.in1 (.cons rfl .nil) q) fun rr s' hq => ?_)
  cases rr with
  | error e => exact False.elim hq
  | ok fl =>
    cases fl with
    | ret u =>
      obtain ⟨v, H2, I2, rv, n, rfl, hn, q2⟩ := I.after hq
      obtain ⟨t, rfl⟩ := rv
      exact ⟨⟨by omega, by omega⟩, .int (n : Nat), H2, I2.tok _, ⟨_, rfl⟩, q2⟩
    | next => exact False.elim hq
    | brk => exact False.elim hq
    | cont => exact False.elim hq
/-- x + y, instances of C with __add__; in a try's body too -/
def tAddI (C : Addr) (sp : Sp) (E : L2.St → XK) (ta tb : TE) : TE := fun σ H Q => ta σ H fun x H1 => tb σ H1 fun y H2 => ∃ a b dx fs dy gs, x = V.ref a ∧ y = V.ref b ∧ H2 a = some (.ins C dx fs) ∧ H2 b = some (.ins C dy gs) ∧ sp [.ref a, .ref b] H2 (fun v H3 => (∃ p, v = .ref p) ∧ Q v H3) (E σ)
theorem pe_addI {X : Cx} {CX : CXT} {k : Nat} {C f : Addr} {sp : Sp} {E : L2.St → XK} {e1 e2 : Expr} {ta tb : TE} {pos : Pos} (hs : PySem.W.findIn X.K (.ref C) "__add__" = some (some (.ref f))) (hf : PySem.W.isFn X.K (.ref f) = true) (hc : PySem.W.selfFirst X.K C = true)
    (F : FnR X.prog X.w X.K X.mg X.base CX k f sp) (hr : Room k X.A) (hx : ∀ σ, PassesAt CX X σ (E σ)) (h1 : PE X e1 ta) (h2 : PE X e2 tb) : PE X (.BinOp e1 .Add e2 pos) (tAddI C sp E ta tb) := by
  refine ⟨fun pins s σ H Q I h => ?_⟩
  refine wpAny_BinOp (thn (h1.run pins s σ H _ I h) fun v s1 ⟨x, H1, I1, r1, q1⟩ => thn (h2.run pins s1 σ H1 _ I1 q1) fun u s2 ⟨y, H2, I2, r2, q2⟩ => ?_)
  obtain ⟨a, b, dx, fs, dy, gs, rfl, rfl, ha, hb, q⟩ := q2
  obtain rfl : v = Value.ref a := r1
  obtain rfl : u = Value.ref b := r2
  obtain ⟨o, od, J, _⟩ := insAt I2 ha
  obtain ⟨o', od', J', _⟩ := insAt I2 hb
  obtain ⟨m, Fm⟩ := frOf I2
  refine PySem.W.binop_K (op := .Add) Fm I2.ok.mod.kin J J'.type hc hs hf ?_
  refine wpAny_call (codeAny_mono (F X.A X.stack s2 H2 [.ref a, .ref b] [V.ref a, V.ref b] _ (E σ) hr I2.env0 (.cons rfl (.cons rfl .nil)) q) fun rr s' hq => ?_)
  cases rr with
  | error e => exact hx σ _ H2 s2 e s' I2 hq
  | ok fl =>
    cases fl with
    | ret u =>
      obtain ⟨v, H3, I3, rv, ⟨p, rfl⟩, q3⟩ := I2.after hq
      obtain rfl : u = Value.ref p := rv
      exact ⟨.ref p, H3, I3, rfl, q3⟩
    | next => exact False.elim hq
    | brk => exact False.elim hq
    | cont => exact False.elim hq
end Ov

set_option Elab.async false
set_option linter.all false
set_option maxRecDepth 100000
set_option maxHeartbeats 4000000
namespace Ov
open PySem PySem.Spec PyProof.Rows L2 GxR
abbrev sLenI : Stmt := inClass (top 46) 5
abbrev sAdd : Stmt := inClass (top 46) 6
theorem pe_fldK {X : Cx} {K : PySem.W.Frag} (hK : X.K = K) {e : Expr} {f : Str} {ta : TE} {pos : Pos} (he : PE X e ta) (hb : attributeBase e f X.env (eval e X.env) = eval e X.env) : PE X (.Attribute e f pos) (tFld K ta f) := by subst hK; exact pe_fld he hb
structure InsU (K : PySem.W.Frag) (C : Addr) : Prop where
  ha : PySem.W.findIn K (.ref C) "__class__" = some (some (.builtin "object.__class__"))
  hn : PySem.W.specialIn K (.builtin "object.__class__") "__get__" = some (some (.builtin "getset_descriptor.__get__"))
  htk : PySem.W.takesIn K (.builtin "object.__class__") = some true
  hm : PySem.W.mroIn K C (.type "object") = some true
  kit : PySem.W.kitOne K (.ref C) (.ref C) = some true
def fresh (ws us : List Str) : List Str := us.filter fun z => !inV (.str z) (ws.map V.str)
def sumW (ws us : List Str) : List Str := ws ++ fresh ws us
section
variable {P : Program} {w : World} {K : PySem.W.Frag} {mg : Str → Option Value} {base : Heap} {T : List Addr} {C D fLow fText fAre fTape fNext fInks fInit cLow PLow cAre PAre fStrip fOver pWi fWi pWo fWo fCl DSp DSg : Addr}
def spLenI (C : Addr) : Sp := fun vs H Q _ => ∃ (a l dx : Addr) (xs : List V), vs = [.ref a] ∧ Stp H C a l dx xs ∧ Q (.int (xs.length : Nat)) H
theorem scSelf3 : FnScope ["self"] ["self"] (defScope sLenI) := ⟨rfl, rfl, rfl, by decide +kernel, rfl, by decide +kernel, by decide +kernel⟩
theorem ok_lenI {f : Addr} {fd : FuncData} (F : L2.Fun K "__len__" "Stamps.__len__" sLenI f fd) (X : Txt K mg C fLow fText fAre fTape fNext fInks) (O : Own K C) : FnOk P w K mg base CX0 1 f fd ["self"] (spLenI C) := by
  refine F.ok scSelf3 (fun vs H Q E h => ?_) (fun cdv A outer s H vs Q E hr h => ?_)
  · obtain ⟨a, l, dx, xs, rfl, _⟩ := h
    rfl
  · obtain ⟨a, l, dx, xs, rfl, st, q⟩ := h
    refine ⟨_, pss_one (ps_ret (pe_callB call_len_seq (by rfl) X.len boot_len (pa_cons (pe_fld (pv 0) (by rfl)) pa_nil))), ?_⟩
    exact ⟨_, rfl, a, C, dx, _, _, rfl, st.1, O.cls, O.noW, rfl, l, xs, rfl, .inl (.inl (.inl st.2)), q⟩
/-- one + other of stamps -/
def spAdd (K : PySem.W.Frag) (T : List Addr) (C D : Addr) : Sp := fun vs H Q E => ∃ (a l dx : Addr) (ws : List Str) (b m dy : Addr) (us : List Str), vs = [.ref a, .ref b] ∧ Stp H C a l dx (ws.map V.str) ∧ Stp H C b m dy (us.map V.str) ∧ (∀ p ∈ T, TabG H p) ∧
  ws.length ≤ 36 ∧ us.length ≤ 36 ∧ (∀ z ∈ sumW ws us, z.length ≤ 100) ∧
  (stampsV ((sumW ws us).map V.str) = true → ∀ H3 x k dz, H x = none → H k = none → x ∉ T → k ∉ T → Stp H3 C x k dz ((sumW ws us).map V.str) → Kep T H H3 → Q (.ref x) H3) ∧ (stampsV ((sumW ws us).map V.str) = false → ∀ H3, Kep T H H3 → E (.ref D) none H3)
abbrev NAdd : List Str := ["self", "other", "added", "words", "word"]
theorem scAdd : FnScope NAdd ["self", "other"] (defScope sAdd) := ⟨rfl, rfl, rfl, by decide +kernel, rfl, by decide +kernel, by decide +kernel⟩
theorem fresh_take {ws us : List Str} {j : Nat} {z : Str} (h : us[j]? = some z) : fresh ws (us.take (j + 1)) = if (!inV (.str z) (ws.map V.str)) = true then fresh ws (us.take j) ++ [z] else fresh ws (us.take j) := by
  unfold fresh
  rw [List.take_add_one, h, List.filter_append]
  by_cases c : (!inV (.str z) (ws.map V.str)) = true
  · rw [if_pos c]; simp at c; simp [c]
  · rw [if_neg c]; simp at c; simp [c]
theorem fresh_len (ws us : List Str) : (fresh ws us).length ≤ us.length := List.length_filter_le _ _
theorem flat_strs (ws : List Str) : (ws.map V.str).all flatV = true := by
  rw [List.all_map]; exact List.all_eq_true.mpr fun _ _ => rfl
theorem ok_add {f : Addr} {fd fdW : FuncData} (F : L2.Fun K "__add__" "Stamps.__add__" sAdd f fd) (FI : FnR P w K mg base (L2.CX P w) 6 fInit (spInit K T C D)) (FW : L2.Fun K "words" "Stamps.words" sWords fWo fdW) (M : Mk K C fInit)
    (X : Txt K mg C fLow fText fAre fTape fNext fInks) (O : Own K C) (hp : PropOf K C "words" pWo fWo) (IU : InsU K C) :
    FnOk P w K mg base (L2.CX P w) 8 f fd ["self", "other"] (spAdd K T C D) := by
  have WW : FnOk P w K mg base CX0 1 fWo fdW ["self"] (spWords C) := ok_words FW X O
  have bW : Binds K fdW ["self"] [] := FW.binds fun _ _ _ _ _ _ us hl => match us, hl with | [_], _ => rfl
  refine F.okX scAdd (fun vs H Q E h => ?_) (fun cdv A outer s H vs Q E hr h => ?_)
  · obtain ⟨a, l, dx, ws, b, m, dy, us, rfl, _⟩ := h
    rfl
  · obtain ⟨a, l, dx, ws, b, m, dy, us, rfl, sa, sb, hT, nw, nu, hz, k1, k2⟩ := h
    refine ⟨_, pss_cons (ps_if (pt_not (pt_val (pe_callB call_isi (by rfl) X.isi boot_isinstance (pa_cons (pv 1) (pa_cons (pe_glob (v := .ref C) (by rfl) X.gC rfl) pa_nil))))) pss_never pss_nil)
      (pss_cons (ps_setLc (i := 2) (own := [("word", 4)]) (g := gName 4) rfl scAdd.nd rfl rfl (sw_true rfl rfl rfl (by decide +kernel)) (pi_list (pe_propX (p := pWo) (pv 1) WW (hr.mono (by decide)) bW .nil L2.pass0)) (blkOk_by (own := [("word", 4)]) (N := NAdd) (sc := defScope sAdd) (by decide +kernel))
          (fun _ _ _ _ _ => pg_name (i := 4) scAdd.nd rfl (Or.inl rfl)) (fun _ _ _ _ _ => pts_one (pt_cmpR (show OpR _ _ (rIn K true) from op_notIn_seq) (pv 4) (pe_fldK (K := K) (by rfl) (pv 0) (by rfl)) (by rfl)))
          (fun _ _ _ _ _ => pv 4))
      (pss_cons (ps_set (i := 3) scAdd.nd rfl (.inl rfl) (pe_op op_cat (pe_propX (p := pWo) (pv 0) WW (hr.mono (by decide)) bW .nil L2.pass0) (pv 2)))
      (pss_one (ps_ret (pe_makeS M FI hr (passes_call (E := E) (takes_of rfl rfl rfl rfl) (fun _ _ _ _ h => h)) (pe_glob (v := .ref C) (by rfl) X.gC rfl) (pv 3)))))), ?_⟩
    have lT : l ∉ T := not_tab hT sa.2 fun _ z => by cases z
    have aT : a ∉ T := not_tab hT sa.1 fun _ z => by cases z
    refine ⟨_, rfl, _, _, _, _, _, rfl, .own _, .base (.ins sb.1 O.cls IU.ha IU.hn IU.htk IU.hm), IU.kit, true, rfl, iteF ?_⟩
    refine ⟨_, rfl, b, C, dy, _, rfl, O.cls, hp, sb.1, b, m, dy, us.map V.str, rfl, sb, fun q hq => ?_⟩
    have kq : Kep T H (upd H q (.lst (us.map V.str))) := Kep.new hT hq
    generalize hG : upd H q (.lst (us.map V.str)) = G at kq
    have Gq : G q = some (.lst (us.map V.str)) := by rw [← hG]; exact upd_same
    have qT : q ∉ T := free_tab hT hq
    refine ⟨q, rfl, ⟨_, .inl (.inl Gq)⟩, fun R hR => ?_⟩
    have RT : R ∉ T := free_tab kq.1 hR
    have RH : H R = none := kq.free hT hR
    refine lc_list (xs := us.map V.str) (fun j H5 => H5 R = some (.lst ((fresh ws (us.take j)).map V.str)) ∧ Kep T H H5 ∧ H5 q = some (.lst (us.map V.str))) ⟨upd_same, kq.trans (Kep.new kq.1 hR), (upd_ne (ne_of_none Gq hR)).trans Gq⟩ (fun j H5 _ p => .inl (.inl p.2.2)) (fun j x H5 hj p => ?_) (fun H5 p => ?_)
    · obtain ⟨hR5, k5, hq5⟩ := p
      rw [List.getElem?_map] at hj
      obtain ⟨z, hz5, rfl⟩ := Option.map_eq_some_iff.mp hj
      have ju : j < us.length := (List.getElem?_eq_some_iff.mp hz5).1
      refine ⟨rfl, ?_⟩
      refine ⟨_, rfl, ?_⟩
      refine ⟨_, rfl, a, C, dx, _, _, rfl, k5.at hT sa.1 (fun _ z => by cases z), O.cls, O.noW, rfl, l, _, rfl, .inl (.inl (.inl (k5.at hT sa.2 fun _ z => by cases z))), rfl, flat_strs ws, _, rfl, ?_⟩
      have ft := fresh_take (ws := ws) hz5
      show if (!inV (.str z) (ws.map V.str)) = true then _ else _
      by_cases c : (!inV (.str z) (ws.map V.str)) = true
      · rw [if_pos c] at ft ⊢
        refine ⟨_, rfl, _, hR5, ?_, ?_, Kep.put k5 RH RT, (upd_ne (ne_of_none Gq hR)).trans hq5⟩
        · rw [List.length_map]
          have := fresh_len ws (us.take j)
          rw [List.length_take] at this
          exact Nat.lt_of_lt_of_le (by omega : _ < 37) (by decide)
        · rw [ft, List.map_append]; exact upd_same
      · rw [if_neg c] at ft ⊢
        exact ⟨by rw [ft]; exact hR5, k5, hq5⟩
    · obtain ⟨hR5, k5, _⟩ := p
      rw [List.length_map, List.take_length] at hR5
      have sa5 : Stp H5 C a l dx (ws.map V.str) := ⟨k5.at hT sa.1 fun _ z => (by cases z), k5.at hT sa.2 fun _ z => (by cases z)⟩
      refine ⟨_, rfl, a, C, dx, _, rfl, O.cls, hp, sa5.1, a, l, dx, ws.map V.str, rfl, sa5, fun q2 hq2 => ?_⟩
      have q2R : R ≠ q2 := ne_of_none hR5 hq2
      have k6 : Kep T H (upd H5 q2 (.lst (ws.map V.str))) := k5.trans (Kep.new k5.1 hq2)
      have hR6 : upd H5 q2 (.lst (ws.map V.str)) R = some (.lst ((fresh ws us).map V.str)) := (upd_ne q2R).trans hR5
      have hq6 : upd H5 q2 (.lst (ws.map V.str)) q2 = some (.lst (ws.map V.str)) := upd_same
      generalize upd H5 q2 (.lst (ws.map V.str)) = H6 at k6 hR6 hq6
      have fl := fresh_len ws us
      refine ⟨_, rfl, q2, R, ws.map V.str, (fresh ws us).map V.str, rfl, rfl, hq6, hR6, ?_, fun q3 hq3 => ?_⟩
      · rw [List.length_map, List.length_map]
        exact Nat.le_trans (by omega : _ ≤ 72) (by decide)
      have k7 : Kep T H (upd H6 q3 (.lst (ws.map V.str ++ (fresh ws us).map V.str))) := k6.trans (Kep.new k6.1 hq3)
      have e7 : ws.map V.str ++ (fresh ws us).map V.str = (sumW ws us).map V.str := (List.map_append ..).symm
      rw [e7] at k7 ⊢
      have hq7 : upd H6 q3 (.lst ((sumW ws us).map V.str)) q3 = some (.lst ((sumW ws us).map V.str)) := upd_same
      generalize upd H6 q3 (.lst ((sumW ws us).map V.str)) = H7 at k7 hq7 ⊢
      have mk : Makes K T C D H7 ((sumW ws us).map V.str) Q E := by
        refine ⟨k7.1, ?_, fun x hx => ?_, fun hv H8 x k dz hx hk _ xT kT st k8 => k1 hv H8 x k dz (k7.free hT hx) (k7.free hT hk) xT kT st (k7.trans k8), fun hv H8 k8 => k2 hv H8 (k7.trans k8)⟩
        · rw [List.length_map]
          show (ws ++ fresh ws us).length ≤ 4000
          rw [List.length_append]; omega
        · obtain ⟨z, hz1, rfl⟩ := List.mem_map.mp hx
          exact .inl ⟨z, rfl, Nat.le_trans (hz z hz1) (by decide)⟩
      exact ⟨rfl, _, rfl, q3, _, rfl, .inr (.inl (.inl hq7)), fun x dx hx hdx hne => mk.init hx hdx hne⟩
end
end Ov

set_option Elab.async false
set_option linter.all false
set_option maxRecDepth 100000
set_option maxHeartbeats 4000000
namespace Ov
open PySem PySem.Spec PyProof.Rows L2 GxR
abbrev sKnows : Stmt := inClass (top 48) 17
abbrev sLFits : Stmt := inClass (top 49) 1
abbrev sWFits : Stmt := inClass (top 50) 1
abbrev sRFits : Stmt := inClass (top 51) 2
def knowsB (i n : Nat) (size word : Int) : Bool := decide (1 ≤ size) && (decide (size ≤ (cellsN i : Nat)) && (decide (0 ≤ word) && decide (word < (n : Nat))))
def spotB (i W : Nat) (size place : Int) : Bool := match i with
  | 0 => decide (0 ≤ place) && decide (place ≤ size - (W : Nat))
  | 1 => decide (-((W : Nat) : Int) < place) && decide (place < size)
  | _ => decide (((W : Nat) : Int) ≤ size) && (decide (0 ≤ place) && decide (place < size))
/-- whether there is such a stamping -/
def fitsB (i n W : Nat) (size word place : Int) : Bool := knowsB i n size word && spotB i W size place
structure LenO (K : PySem.W.Frag) (C fLen : Addr) : Prop where
  ls : PySem.W.findIn K (.ref C) "__len__" = some (some (.ref fLen))
  lf : PySem.W.isFn K (.ref fLen) = true
theorem and_T {a b : Bool} {R : Bool → Prop} (h : R (a && b)) (ha : a = true) : R b := by rw [ha, Bool.true_and] at h; exact h
theorem and_F {a b : Bool} {R : Bool → Prop} (h : R (a && b)) (ha : a = false) : R false := by rw [ha, Bool.false_and] at h; exact h
section
variable {P : Program} {w : World} {K : PySem.W.Frag} {mg : Str → Option Value} {base : Heap} {T : List Addr} {C D fLow fText fAre fTape fNext fInks fInit cLow PLow cAre PAre pWo fWo pWi fWi fLen : Addr} {B : BA}
def spKnows (C : Addr) (B : BA) (i : Nat) : Sp := fun vs H Q _ => ∃ (a m l dm : Addr) (H0 : Hp) (ws : List Str) (W : Nat) (size word : Int), vs = [.ref a, .int size, .int word] ∧ BdAt B H0 H a i m ws W ∧ Stp H C m l dm (ws.map V.str) ∧ ws.length ≤ 6 ∧ Q (.bl (knowsB i ws.length size word)) H
theorem scKnows : FnScope ["self", "size", "word"] ["self", "size", "word"] (defScope sKnows) := ⟨rfl, rfl, rfl, by decide +kernel, rfl, by decide +kernel, by decide +kernel⟩
theorem ok_knows {f : Addr} {fd fdLe : FuncData} {i : Nat} (hi : i < 4) (F : L2.Fun K "_knows" "Band._knows" sKnows f fd) (FLe : L2.Fun K "__len__" "Stamps.__len__" sLenI fLen fdLe) (X : Txt K mg C fLow fText fAre fTape fNext fInks) (O : Own K C) (BB : Bds K mg B) (A : LenO K C fLen) :
    FnOk P w K mg base CX0 3 f fd ["self", "size", "word"] (spKnows C B i) := by
  have L1 : FnOk P w K mg base CX0 1 fLen fdLe ["self"] (spLenI C) := ok_lenI FLe X O
  have LR : FnR P w K mg base CX0 1 fLen (spLenI C) := (L1.raw (FLe.binds fun _ _ _ _ _ _ us hl => match us, hl with | [_], _ => rfl) .nil).imp fun vs H Q E h => by rw [List.append_nil]; exact h
  have k := BB.k i hi
  obtain ⟨tc, hc⟩ := k.cells
  refine F.ok scKnows (fun vs H Q E h => ?_) (fun cdv A' outer s H vs Q E hr h => ?_)
  · obtain ⟨a, m, l, dm, H0, ws, W, size, word, rfl, _⟩ := h
    rfl
  · obtain ⟨a, m, l, dm, H0, ws, W, size, word, rfl, bd, st, n6, q⟩ := h
    obtain ⟨dx, pc, ha, _⟩ := bd
    refine ⟨_, (pss_one (ps_ret (pe_and (pe_chain op_le op_le pe_int (pv 1) (pe_con (pv 0) (by rfl))) (pe_one (pe_chain op_le op_lt pe_int (pv 2) (pe_callB (call_lenI A.ls A.lf LR (hr.mono (by decide))) (by rfl) X.len boot_len (pa_cons (pe_fld (pv 0) (by rfl)) pa_nil))))))), ?_⟩
    unfold knowsB at q
    refine ⟨_, rfl, _, _, rfl, rfl, _, rfl, ?_⟩
    by_cases c1 : 1 ≤ size
    case neg => exact iteF' (decide_eq_false c1) ⟨_, rfl, iteF (and_F (R := fun b => Q (.bl b) H) q (decide_eq_false c1))⟩
    have q := and_T (R := fun b => Q (.bl b) H) q (decide_eq_true c1)
    refine iteT' (decide_eq_true c1) ⟨_, rfl, a, _, dx, _, _, _, rfl, ha, k.cls, hc, rfl, _, _, rfl, rfl, _, rfl, ?_⟩
    by_cases c2 : size ≤ (cellsN i : Nat)
    case neg => exact iteF' (decide_eq_false c2) (and_F (R := fun b => Q (.bl b) H) q (decide_eq_false c2))
    have q := and_T (R := fun b => Q (.bl b) H) q (decide_eq_true c2)
    refine iteT' (decide_eq_true c2) ⟨_, rfl, _, _, rfl, rfl, _, rfl, ?_⟩
    by_cases c3 : 0 ≤ word
    case neg => exact iteF' (decide_eq_false c3) (and_F (R := fun b => Q (.bl b) H) q (decide_eq_false c3))
    have q := and_T (R := fun b => Q (.bl b) H) q (decide_eq_true c3)
    refine iteT' (decide_eq_true c3) ⟨_, rfl, a, _, dx, _, _, rfl, ha, k.cls, k.noS, rfl, m, dm, _, rfl, st.1, m, l, dm, _, rfl, st, ws.length, by rw [List.length_map], by omega, _, _, rfl, rfl, ?_⟩
    exact q
/-- fits of the i-th class -/
def spFits (C : Addr) (B : BA) (i : Nat) : Sp := fun vs H Q _ => ∃ (a m l dm : Addr) (H0 : Hp) (ws : List Str) (W : Nat) (size word place : Int), vs = [.ref a, .int size, .int word, .int place] ∧ BdAt B H0 H a i m ws W ∧ Stp H C m l dm (ws.map V.str) ∧ Good ws W ∧ Q (.bl (fitsB i ws.length W size word place)) H
theorem scLFits : FnScope ["self", "size", "word", "place"] ["self", "size", "word", "place"] (defScope sLFits) := ⟨rfl, rfl, rfl, by decide +kernel, rfl, by decide +kernel, by decide +kernel⟩
theorem scWFits : FnScope ["self", "size", "word", "place"] ["self", "size", "word", "place"] (defScope sWFits) := ⟨rfl, rfl, rfl, by decide +kernel, rfl, by decide +kernel, by decide +kernel⟩
theorem scRFits : FnScope ["self", "size", "word", "place"] ["self", "size", "word", "place"] (defScope sRFits) := ⟨rfl, rfl, rfl, by decide +kernel, rfl, by decide +kernel, by decide +kernel⟩
theorem ok_lfits {f : Addr} {fd fdK fdLe fdWi : FuncData} (F : L2.Fun K "fits" "Line.fits" sLFits f fd) (FK : L2.Fun K "_knows" "Band._knows" sKnows B.fKn fdK) (FLe : L2.Fun K "__len__" "Stamps.__len__" sLenI fLen fdLe) (FWi : L2.Fun K "width" "Stamps.width" sWidth fWi fdWi) (X : Txt K mg C fLow fText fAre fTape fNext fInks) (O : Own K C) (hpi : PropOf K C "width" pWi fWi) (BB : Bds K mg B) (A : LenO K C fLen) :
    FnOk P w K mg base CX0 4 f fd ["self", "size", "word", "place"] (spFits C B 0) := by
  have KN : FnOk P w K mg base CX0 3 B.fKn fdK ["self", "size", "word"] (spKnows C B 0) := ok_knows (by decide) FK FLe X O BB A
  have bK : Binds K fdK ["self", "size", "word"] [] := FK.binds fun _ _ _ _ _ _ us hl => match us, hl with | [_, _, _], _ => rfl
  have WI : FnOk P w K mg base CX0 1 fWi fdWi ["self"] (spWidth C) := ok_width FWi X O
  have bWi : Binds K fdWi ["self"] [] := FWi.binds fun _ _ _ _ _ _ us hl => match us, hl with | [_], _ => rfl
  have k := BB.k 0 (by decide)
  refine F.ok scLFits (fun vs H Q E h => ?_) (fun cdv A' outer s H vs Q E hr h => ?_)
  · obtain ⟨a, m, l, dm, H0, ws, W, size, word, place, rfl, _⟩ := h
    rfl
  · obtain ⟨a, m, l, dm, H0, ws, W, size, word, place, rfl, bd, st, g, q⟩ := h
    obtain ⟨dx, pc, ha, _⟩ := id bd
    refine ⟨_, (pss_one (ps_ret (pe_and (pe_meth (pv 0) (BB.k 0 (by decide)).cls (BB.k 0 (by decide)).kn KN hr bK .nil L2.pass0 (pa_cons (pv 1) (pa_cons (pv 2) pa_nil))) (pe_one (pe_chain op_le op_le pe_int (pv 3) (pe_op op_sub (pv 1) (pe_propX (p := pWi) (pe_fld (pv 0) (by rfl)) WI (hr.mono (by decide)) bWi .nil L2.pass0))))))), ?_⟩
    unfold fitsB at q
    refine ⟨_, rfl, a, dx, _, rfl, ha, rfl, _, rfl, _, rfl, a, m, l, dm, H0, ws, W, size, word, rfl, bd, st, g.n6, _, rfl, ?_⟩
    cases c0 : knowsB 0 ws.length size word with
    | false => exact iteF (and_F (R := fun b => Q (.bl b) H) q c0)
    | true =>
    have q := and_T (R := fun b => Q (.bl b) H) q c0
    unfold spotB at q
    refine iteT ⟨_, rfl, _, _, rfl, rfl, _, rfl, ?_⟩
    by_cases c3 : 0 ≤ place
    case neg => exact iteF' (decide_eq_false c3) (and_F (R := fun b => Q (.bl b) H) q (decide_eq_false c3))
    have q := and_T (R := fun b => Q (.bl b) H) q (decide_eq_true c3)
    refine iteT' (decide_eq_true c3) ⟨_, rfl, _, rfl, a, _, dx, _, _, rfl, ha, k.cls, k.noS, rfl, m, C, dm, _, rfl, O.cls, hpi, st.1, m, l, dm, ws, W, rfl, st, g, _, _, rfl, rfl, _, _, rfl, rfl, ?_⟩
    exact q
theorem ok_wfits {f : Addr} {fd fdK fdLe fdWi : FuncData} (F : L2.Fun K "fits" "Window.fits" sWFits f fd) (FK : L2.Fun K "_knows" "Band._knows" sKnows B.fKn fdK) (FLe : L2.Fun K "__len__" "Stamps.__len__" sLenI fLen fdLe) (FWi : L2.Fun K "width" "Stamps.width" sWidth fWi fdWi) (X : Txt K mg C fLow fText fAre fTape fNext fInks) (O : Own K C) (hpi : PropOf K C "width" pWi fWi) (BB : Bds K mg B) (A : LenO K C fLen) :
    FnOk P w K mg base CX0 4 f fd ["self", "size", "word", "place"] (spFits C B 1) := by
  have KN : FnOk P w K mg base CX0 3 B.fKn fdK ["self", "size", "word"] (spKnows C B 1) := ok_knows (by decide) FK FLe X O BB A
  have bK : Binds K fdK ["self", "size", "word"] [] := FK.binds fun _ _ _ _ _ _ us hl => match us, hl with | [_, _, _], _ => rfl
  have WI : FnOk P w K mg base CX0 1 fWi fdWi ["self"] (spWidth C) := ok_width FWi X O
  have bWi : Binds K fdWi ["self"] [] := FWi.binds fun _ _ _ _ _ _ us hl => match us, hl with | [_], _ => rfl
  have k := BB.k 1 (by decide)
  refine F.ok scWFits (fun vs H Q E h => ?_) (fun cdv A' outer s H vs Q E hr h => ?_)
  · obtain ⟨a, m, l, dm, H0, ws, W, size, word, place, rfl, _⟩ := h
    rfl
  · obtain ⟨a, m, l, dm, H0, ws, W, size, word, place, rfl, bd, st, g, q⟩ := h
    obtain ⟨dx, pc, ha, _⟩ := id bd
    refine ⟨_, (pss_one (ps_ret (pe_and (pe_meth (pv 0) (BB.k 1 (by decide)).cls (BB.k 1 (by decide)).kn KN hr bK .nil L2.pass0 (pa_cons (pv 1) (pa_cons (pv 2) pa_nil))) (pe_one (pe_chain op_lt op_lt (pe_un un_neg (pe_propX (p := pWi) (pe_fld (pv 0) (by rfl)) WI (hr.mono (by decide)) bWi .nil L2.pass0)) (pv 3) (pv 1)))))), ?_⟩
    unfold fitsB at q
    refine ⟨_, rfl, a, dx, _, rfl, ha, rfl, _, rfl, _, rfl, a, m, l, dm, H0, ws, W, size, word, rfl, bd, st, g.n6, _, rfl, ?_⟩
    cases c0 : knowsB 1 ws.length size word with
    | false => exact iteF (and_F (R := fun b => Q (.bl b) H) q c0)
    | true =>
    have q := and_T (R := fun b => Q (.bl b) H) q c0
    unfold spotB at q
    refine iteT ⟨_, rfl, a, _, dx, _, _, rfl, ha, k.cls, k.noS, rfl, m, C, dm, _, rfl, O.cls, hpi, st.1, m, l, dm, ws, W, rfl, st, g, _, rfl, _, rfl, _, _, rfl, rfl, _, rfl, ?_⟩
    by_cases c3 : -((W : Nat) : Int) < place
    case neg => exact iteF' (decide_eq_false c3) (and_F (R := fun b => Q (.bl b) H) q (decide_eq_false c3))
    have q := and_T (R := fun b => Q (.bl b) H) q (decide_eq_true c3)
    refine iteT' (decide_eq_true c3) ⟨_, rfl, _, _, rfl, rfl, ?_⟩
    exact q
theorem ok_rfits {f : Addr} {fd fdK fdLe fdWi : FuncData} (F : L2.Fun K "fits" "Ring.fits" sRFits f fd) (FK : L2.Fun K "_knows" "Band._knows" sKnows B.fKn fdK) (FLe : L2.Fun K "__len__" "Stamps.__len__" sLenI fLen fdLe) (FWi : L2.Fun K "width" "Stamps.width" sWidth fWi fdWi) (X : Txt K mg C fLow fText fAre fTape fNext fInks) (O : Own K C) (hpi : PropOf K C "width" pWi fWi) (BB : Bds K mg B) (A : LenO K C fLen) :
    FnOk P w K mg base CX0 4 f fd ["self", "size", "word", "place"] (spFits C B 2) := by
  have KN : FnOk P w K mg base CX0 3 B.fKn fdK ["self", "size", "word"] (spKnows C B 2) := ok_knows (by decide) FK FLe X O BB A
  have bK : Binds K fdK ["self", "size", "word"] [] := FK.binds fun _ _ _ _ _ _ us hl => match us, hl with | [_, _, _], _ => rfl
  have WI : FnOk P w K mg base CX0 1 fWi fdWi ["self"] (spWidth C) := ok_width FWi X O
  have bWi : Binds K fdWi ["self"] [] := FWi.binds fun _ _ _ _ _ _ us hl => match us, hl with | [_], _ => rfl
  have k := BB.k 2 (by decide)
  refine F.ok scRFits (fun vs H Q E h => ?_) (fun cdv A' outer s H vs Q E hr h => ?_)
  · obtain ⟨a, m, l, dm, H0, ws, W, size, word, place, rfl, _⟩ := h
    rfl
  · obtain ⟨a, m, l, dm, H0, ws, W, size, word, place, rfl, bd, st, g, q⟩ := h
    obtain ⟨dx, pc, ha, _⟩ := id bd
    refine ⟨_, (pss_one (ps_ret (pe_and (pe_meth (pv 0) (BB.k 2 (by decide)).cls (BB.k 2 (by decide)).kn KN hr bK .nil L2.pass0 (pa_cons (pv 1) (pa_cons (pv 2) pa_nil))) (pe_and (pe_cmpR op_le (pe_propX (p := pWi) (pe_fld (pv 0) (by rfl)) WI (hr.mono (by decide)) bWi .nil L2.pass0) (pv 1) (by rfl)) (pe_one (pe_chain op_le op_lt pe_int (pv 3) (pv 1))))))), ?_⟩
    unfold fitsB at q
    refine ⟨_, rfl, a, dx, _, rfl, ha, rfl, _, rfl, _, rfl, a, m, l, dm, H0, ws, W, size, word, rfl, bd, st, g.n6, _, rfl, ?_⟩
    cases c0 : knowsB 2 ws.length size word with
    | false => exact iteF (and_F (R := fun b => Q (.bl b) H) q c0)
    | true =>
    have q := and_T (R := fun b => Q (.bl b) H) q c0
    unfold spotB at q
    refine iteT ⟨_, rfl, a, _, dx, _, _, rfl, ha, k.cls, k.noS, rfl, m, C, dm, _, rfl, O.cls, hpi, st.1, m, l, dm, ws, W, rfl, st, g, _, rfl, _, _, rfl, rfl, _, rfl, ?_⟩
    by_cases c2 : ((W : Nat) : Int) ≤ size
    case neg => exact iteF' (decide_eq_false c2) (and_F (R := fun b => Q (.bl b) H) q (decide_eq_false c2))
    have q := and_T (R := fun b => Q (.bl b) H) q (decide_eq_true c2)
    refine iteT' (decide_eq_true c2) ⟨_, rfl, _, _, rfl, rfl, _, rfl, ?_⟩
    by_cases c3 : 0 ≤ place
    case neg => exact iteF' (decide_eq_false c3) (and_F (R := fun b => Q (.bl b) H) q (decide_eq_false c3))
    have q := and_T (R := fun b => Q (.bl b) H) q (decide_eq_true c3)
    refine iteT' (decide_eq_true c3) ⟨_, rfl, _, _, rfl, rfl, ?_⟩
    exact q
end
end Ov

set_option Elab.async false
set_option linter.all false
set_option maxRecDepth 100000
set_option maxHeartbeats 4000000
/-! the cells after a stamping: on a line (0), a window (1), a ring (2) -/
namespace Ov
open PySem PySem.Spec PyProof.Rows L2 GxR
/-- which letter of the word a cell shows -/
def offI (i n : Nat) (place : Int) (j : Nat) : Int := if i = 2 then ((j : Int) - place) % (n : Int) else (j : Int) - place
theorem offI_row {i n : Nat} {p : Int} {j : Nat} (h : i ≠ 2) : offI i n p j = (j : Int) - p := if_neg h
theorem offI_ring {n : Nat} {p : Int} {j : Nat} : offI 2 n p j = ((j : Int) - p) % (n : Int) := if_pos rfl
/-- the cells once the first m letters are printed -/
def inkM (i : Nat) (zs us : List Nat) (place : Int) (m : Nat) : List Nat := (List.range zs.length).map fun j => if 0 ≤ offI i zs.length place j ∧ offI i zs.length place j < (m : Int) then us.getD (offI i zs.length place j).toNat 0 else zs.getD j 0
def inkL (i : Nat) (zs us : List Nat) (place : Int) : List Nat := inkM i zs us place us.length
theorem inkM_len {i : Nat} {zs us : List Nat} {place : Int} {m : Nat} : (inkM i zs us place m).length = zs.length := by unfold inkM; rw [List.length_map, List.length_range]
theorem inkM_get {i : Nat} {zs us : List Nat} {place : Int} {m j : Nat} (h : j < zs.length) : (inkM i zs us place m)[j]? = some (if 0 ≤ offI i zs.length place j ∧ offI i zs.length place j < (m : Int) then us.getD (offI i zs.length place j).toNat 0 else zs.getD j 0) := by
  unfold inkM
  rw [List.getElem?_map, List.getElem?_range h]
  rfl
theorem ext_get {l1 l2 : List Nat} (hl : l1.length = l2.length) (h : ∀ j, j < l2.length → l1[j]? = l2[j]?) : l1 = l2 := by
  refine List.ext_getElem? fun j => ?_
  by_cases c : j < l2.length
  · exact h j c
  · rw [List.getElem?_eq_none (by omega), List.getElem?_eq_none (by omega)]
theorem getD_some {l : List Nat} {j : Nat} (h : j < l.length) : l[j]? = some (l.getD j 0) := by
  rw [List.getElem?_eq_getElem h]
  simp [List.getD, h]
/-- a line -/
theorem ink_line {zs us : List Nat} {p : Nat} (h : p + us.length ≤ zs.length) : zs.take p ++ us ++ zs.drop (p + us.length) = inkL 0 zs us (p : Int) := by
  have l0 : (zs.take p ++ us ++ zs.drop (p + us.length)).length = zs.length := by
    rw [List.length_append, List.length_append, List.length_take, List.length_drop]; omega
  refine ext_get (by rw [l0]; unfold inkL; rw [inkM_len]) fun j hj => ?_
  unfold inkL at hj ⊢
  rw [inkM_len] at hj
  rw [inkM_get hj]
  rw [offI_row (by decide)]
  by_cases c1 : j < p
  · rw [if_neg (by omega), List.append_assoc, List.getElem?_append_left (by rw [List.length_take]; omega), List.getElem?_take_of_lt c1, getD_some hj]
  · by_cases c2 : j < p + us.length
    · rw [if_pos (by omega), List.getElem?_append_left (by rw [List.length_append, List.length_take]; omega), List.getElem?_append_right (by rw [List.length_take]; omega), List.length_take, Nat.min_eq_left (by omega)]
      have e : ((j : Int) - (p : Int)).toNat = j - p := by omega
      rw [e, getD_some (by omega)]
    · rw [if_neg (by omega), List.getElem?_append_right (by rw [List.length_append, List.length_take]; omega), List.length_append, List.length_take, Nat.min_eq_left (by omega), List.getElem?_drop]
      rw [show p + us.length + (j - (p + us.length)) = j by omega, getD_some hj]
/-- a window: the strip between two edges -/
theorem ink_window {zs us es : List Nat} {place : Int} (he : es.length = us.length) (h1 : -(us.length : Int) < place) (h2 : place < (zs.length : Int)) :
    (((es ++ zs ++ es).take (place + us.length).toNat ++ us ++ (es ++ zs ++ es).drop ((place + us.length).toNat + us.length)).drop us.length).take zs.length = inkL 1 zs us place := by
  obtain ⟨P, hP⟩ : ∃ P : Nat, place + us.length = (P : Int) := ⟨(place + us.length).toNat, by omega⟩
  rw [hP, Int.toNat_natCast]
  have le : (es ++ zs ++ es).length = zs.length + 2 * us.length := by rw [List.length_append, List.length_append]; omega
  have hp : P + us.length ≤ (es ++ zs ++ es).length := by omega
  have l0 : ((es ++ zs ++ es).take P ++ us ++ (es ++ zs ++ es).drop (P + us.length)).length = (es ++ zs ++ es).length := by
    rw [List.length_append, List.length_append, List.length_take, List.length_drop]; omega
  refine ext_get (by unfold inkL; rw [inkM_len, List.length_take, List.length_drop, l0]; omega) fun j hj => ?_
  unfold inkL at hj ⊢
  rw [inkM_len] at hj
  rw [inkM_get hj, List.getElem?_take_of_lt hj, List.getElem?_drop, ink_line hp]
  unfold inkL
  rw [inkM_get (by omega)]
  rw [offI_row (by decide), offI_row (by decide)]
  have e : ((us.length + j : Nat) : Int) - (P : Int) = (j : Int) - place := by omega
  rw [e]
  have ez : (es ++ zs ++ es).getD (us.length + j) 0 = zs.getD j 0 := by
    have : (es ++ zs ++ es)[us.length + j]? = zs[j]? := by
      rw [List.getElem?_append_left (by rw [List.length_append]; omega), List.getElem?_append_right (by omega), he, Nat.add_sub_cancel_left]
    rw [List.getD_eq_getElem?_getD, this, ← List.getD_eq_getElem?_getD]
  rw [ez]
/-- a ring: turned, printed at its beginning, turned back -/
theorem ink_ring {zs us : List Nat} {p : Nat} (h1 : us.length ≤ zs.length) (h2 : p < zs.length) :
    ((us ++ (zs.drop p ++ zs.take p).drop us.length).drop (zs.length - p)) ++ ((us ++ (zs.drop p ++ zs.take p).drop us.length).take (zs.length - p)) = inkL 2 zs us (p : Int) := by
  have lt : (zs.drop p ++ zs.take p).length = zs.length := by rw [List.length_append, List.length_drop, List.length_take]; omega
  have l0 : (us ++ (zs.drop p ++ zs.take p).drop us.length).length = zs.length := by rw [List.length_append, List.length_drop, lt]; omega
  have got : ∀ k, k < zs.length → (us ++ (zs.drop p ++ zs.take p).drop us.length)[k]? = some (if k < us.length then us.getD k 0 else zs.getD (if k < zs.length - p then p + k else k - (zs.length - p)) 0) := fun k hk => by
    by_cases c : k < us.length
    · rw [if_pos c, List.getElem?_append_left c, getD_some c]
    · rw [if_neg c, List.getElem?_append_right (by omega), List.getElem?_drop, show us.length + (k - us.length) = k by omega]
      by_cases c2 : k < zs.length - p
      · rw [if_pos c2, List.getElem?_append_left (by rw [List.length_drop]; omega), List.getElem?_drop, getD_some (by omega)]
      · rw [if_neg c2, List.getElem?_append_right (by rw [List.length_drop]; omega), List.length_drop, List.getElem?_take_of_lt (by omega), getD_some (by omega)]
  refine ext_get (by unfold inkL; rw [inkM_len, List.length_append, List.length_drop, List.length_take, l0]; omega) fun j hj => ?_
  unfold inkL at hj ⊢
  rw [inkM_len] at hj
  rw [inkM_get hj]
  rw [offI_ring]
  by_cases c : j < p
  · have eo : ((j : Int) - (p : Int)) % (zs.length : Int) = ((zs.length - p + j : Nat) : Int) := by
      rw [← Int.add_emod_right]
      rw [Int.emod_eq_of_lt (by omega) (by omega)]
      omega
    rw [List.getElem?_append_left (by rw [List.length_drop, l0]; omega), List.getElem?_drop, got _ (by omega), eo, Int.toNat_natCast]
    by_cases c2 : zs.length - p + j < us.length
    · rw [if_pos c2, if_pos (by omega)]
    · rw [if_neg c2, if_neg (by omega), if_neg (by omega), show zs.length - p + j - (zs.length - p) = j by omega]
  · have eo : ((j : Int) - (p : Int)) % (zs.length : Int) = ((j - p : Nat) : Int) := by
      rw [Int.emod_eq_of_lt (by omega) (by omega)]
      omega
    rw [List.getElem?_append_right (by rw [List.length_drop, l0]; omega), List.length_drop, l0, show j - (zs.length - (zs.length - p)) = j - p by omega, List.getElem?_take_of_lt (by omega), got _ (by omega), eo, Int.toNat_natCast]
    by_cases c2 : j - p < us.length
    · rw [if_pos c2, if_pos (by omega)]
    · rw [if_neg c2, if_pos (by omega), if_neg (by omega), show p + (j - p) = j by omega]
/-- one letter more -/
theorem inkM_set {i : Nat} {zs us : List Nat} {place : Int} {m c j : Nat} (hc : us[m]? = some c) (hj : j < zs.length) (ho : ∀ k, k < zs.length → (offI i zs.length place k = (m : Int) ↔ k = j)) : (inkM i zs us place m).set j c = inkM i zs us place (m + 1) := by
  refine ext_get (by rw [List.length_set, inkM_len, inkM_len]) fun k hk => ?_
  rw [inkM_len] at hk
  rw [inkM_get hk, List.getElem?_set]
  have cm : us.getD m 0 = c := by rw [List.getD_eq_getElem?_getD, hc]; rfl
  by_cases e : j = k
  · rw [if_pos e, if_pos (by rw [inkM_len]; exact hj)]
    have ok := (ho k hk).mpr e.symm
    rw [ok, if_pos (by omega), Int.toNat_natCast, cm]
  · rw [if_neg e, inkM_get hk]
    have nk : ¬ offI i zs.length place k = (m : Int) := fun z => e ((ho k hk).mp z).symm
    by_cases q : 0 ≤ offI i zs.length place k ∧ offI i zs.length place k < (m : Int)
    · rw [if_pos q, if_pos (by omega)]
    · rw [if_neg q, if_neg (by omega)]
/-- a letter that is not seen -/
theorem inkM_skip {i : Nat} {zs us : List Nat} {place : Int} {m : Nat} (ho : ∀ k, k < zs.length → offI i zs.length place k ≠ (m : Int)) : inkM i zs us place m = inkM i zs us place (m + 1) := by
  refine ext_get (by rw [inkM_len, inkM_len]) fun k hk => ?_
  rw [inkM_len] at hk
  rw [inkM_get hk, inkM_get hk]
  have nk := ho k hk
  by_cases q : 0 ≤ offI i zs.length place k ∧ offI i zs.length place k < (m : Int)
  · rw [if_pos q, if_pos (by omega)]
  · rw [if_neg q, if_neg (by omega)]
theorem inkM_0 {i : Nat} {zs us : List Nat} {place : Int} : inkM i zs us place 0 = zs := by
  refine ext_get inkM_len fun k hk => ?_
  rw [inkM_get hk, if_neg (by omega), getD_some hk]
end Ov

set_option Elab.async false
set_option linter.all false
set_option maxRecDepth 100000
set_option maxHeartbeats 4000000
/-! a call of an instance that is held in an attribute of an instance: o.m(e, ..) -/
namespace Ov
open PySem PySem.Spec PyProof.Rows L2 GxR
section
variable {X : Cx} {CX : CXT} {k : Nat} {C g : Addr} {m : Str} {sp : Sp} {E : L2.St → XK} {o e : Expr} {es : List Expr} {ta : TE} {t : TA} {apos pos : Pos} {pl : Sem Bool}
def tCallF (K : PySem.W.Frag) (C : Addr) (m : Str) (sp : Sp) (E : L2.St → XK) (ta : TE) (t : TA) : TE := fun σ H Q => ta σ H fun x H1 => ∃ a Ca dx fs b, x = .ref a ∧ H1 a = some (.ins Ca dx fs) ∧ Cls K Ca ∧ NoAttr K Ca m ∧ fs.lookup m = some (.ref b) ∧
  t σ H1 fun vs H2 => (∃ dx fs, H2 b = some (.ins C dx fs)) ∧ sp (V.ref b :: vs) H2 Q (E σ)
theorem pe_callF (he : PE X o ta) (c : StX.CallO X.K C g) (F : FnR X.prog X.w X.K X.mg X.base CX k g sp) (hr : Room k X.A) (hx : ∀ σ, PassesAt CX X σ (E σ)) (ha : PA X (e :: es) t)
    (hst : starEach (e :: es) X.env = (false, eval e X.env) :: starEach es X.env := by rfl) (hpl : (backTo pos (starEach es X.env)).any (·.1) = false := by rfl)
    (ht : eval (.Call (.Attribute o m apos) (e :: es) [] pos) X.env = (do
      let ov ← eval o X.env
      standAt apos.atName
      let (f, first) ← holding [ov] (getMethod ov m pl)
      callWith pos f first (backTo pos (starEach (e :: es) X.env)) (backToKw pos (keywordEach [] X.env))) := by rfl) :
    PE X (.Call (.Attribute o m apos) (e :: es) [] pos) (tCallF X.K C m sp E ta t) := by
  refine ⟨fun pins s σ H Q I h => ?_⟩
  refine PySem.W.methodCall_KW (pl := pl) (thn (he.run pins s σ H _ I h) fun u s1 ⟨x, H1, I1, rx, a, Ca, dx, fs, b, ex, ea, cc, n, l, q⟩ => ?_) ht
  subst ex
  obtain rfl : u = Value.ref a := rx
  refine getmeth_fld I1 ea cc n l fun u s1' I1' ru => ?_
  obtain rfl : u = Value.ref b := ru
  refine StX.callO_with (thn (ha.run pos pins s1' σ H1 _ I1' q) fun us s2 ⟨vs, H2, I2, r, ⟨dx, fs, hi⟩, q2⟩ => ?_) hst hpl
  obtain ⟨o, od, J, plain⟩ := inst_at I2 hi
  refine ⟨⟨C, o, od, J, plain⟩, wpAny_call (PySem.W.kco_code I2.kIn J plain c.at_ c.fn c.fi (codeAny_mono (F X.A X.stack s2 H2 (.ref b :: us) (V.ref b :: vs) Q (E σ) hr I2.env0 (.cons rfl r) q2) fun r s' hq => ?_))⟩
  cases r with
  | error e => exact hx σ _ H2 s2 e s' I2 hq
  | ok fl =>
    cases fl with
    | ret u => exact I2.after hq
    | next => exact False.elim hq
    | brk => exact False.elim hq
    | cont => exact False.elim hq
/-- o.m(e, ..) with a method m of o's class, where what is wished of an error may speak of the slots -/
def tMethE (C : Addr) (m : Str) (sp : Sp) (E : L2.St → XK) (ta : TE) (t : TA) : TE := fun σ H Q => ta σ H fun x H1 => ∃ a dx fs, x = .ref a ∧ H1 a = some (.ins C dx fs) ∧ fs.lookup m = none ∧ t σ H1 fun vs H2 => sp (x :: vs) H2 Q (E σ)
theorem pe_methE (he : PE X o ta) (c : Cls X.K C) (hm : Meth X.K C m g) (F : FnR X.prog X.w X.K X.mg X.base CX k g sp) (hr : Room k X.A) (hx : ∀ σ, PassesAt CX X σ (E σ)) (ha : PA X (e :: es) t)
    (hst : starEach (e :: es) X.env = (false, eval e X.env) :: starEach es X.env := by rfl) (hpl : (backTo pos (starEach es X.env)).any (·.1) = false := by rfl)
    (ht : eval (.Call (.Attribute o m apos) (e :: es) [] pos) X.env = (do
      let ov ← eval o X.env
      standAt apos.atName
      let (f, first) ← holding [ov] (getMethod ov m pl)
      callWith pos f first (backTo pos (starEach (e :: es) X.env)) (backToKw pos (keywordEach [] X.env))) := by rfl) :
    PE X (.Call (.Attribute o m apos) (e :: es) [] pos) (tMethE C m sp E ta t) := by
  refine ⟨fun pins s σ H Q I h => ?_⟩
  refine PySem.W.methodCall_KW (pl := pl) (thn (he.run pins s σ H _ I h) fun u s1 ⟨x, H1, I1, rx, a, dx, fs, ex, ea, l, q⟩ => ?_) ht
  subst ex
  obtain rfl : u = Value.ref a := rx
  refine getmeth_ok I1 ea c hm l ?_
  refine PySem.W.callWith_K (first := [.ref a]) (h₀ := X.base) I.ok.mod.kin hm.kp (thn (ha.run pos pins s1 σ H1 _ I1 q) fun us s2 ⟨vs, H2, I2, r, q2⟩ => ⟨I2.kIn, ?_⟩) hst hpl
  refine wpAny_call (codeAny_mono (F X.A X.stack s2 H2 (.ref a :: us) (V.ref a :: vs) Q (E σ) hr I2.env0 (.cons rfl r) q2) fun r s' hq => ?_)
  cases r with
  | error e => exact hx σ _ H2 s2 e s' I2 hq
  | ok fl =>
    cases fl with
    | ret u => exact I2.after hq
    | next => exact False.elim hq
    | brk => exact False.elim hq
    | cont => exact False.elim hq
end
section
variable {X : Cx} {CX : CXT} {k : Nat} {C f : Addr} {fd : FuncData} {m : Str} {ps ks : List Str} {sp : Sp} {E : L2.St → XK} {o : Expr} {kws : List Keyword} {ta : TE} {tk : TA} {apos pos : Pos} {pl : Sem Bool} {g : List Value → List Value → List Value} {gV : List V → List V → List V}
/-- o.m(k = v, ..) -/
def tMethKE (C : Addr) (m : Str) (n : Nat) (sp : Sp) (gV : List V → List V → List V) (E : L2.St → XK) (ta : TE) (tk : TA) : TE := fun σ H Q => ta σ H fun x H1 => ∃ a dx fs, x = .ref a ∧ H1 a = some (.ins C dx fs) ∧ fs.lookup m = none ∧ tk σ H1 fun zs H2 => zs.length = n ∧ sp (gV [V.ref a] zs) H2 Q (E σ)
theorem pe_methKE (he : PE X o ta) (c : Cls X.K C) (hm : Meth X.K C m f) (F : FnOk X.prog X.w X.K X.mg X.base CX k f fd ps sp) (hr : Room k X.A) (hb : KBn X.K fd ps 1 ks g gV) (hx : ∀ σ, PassesAt CX X σ (E σ))
    (hkw : PK X kws tk) (hall : (backToKw pos (keywordEach kws X.env)).all (·.1.isSome) = true := by rfl) (hks : (backToKw pos (keywordEach kws X.env)).filterMap (·.1) = ks := by rfl)
    (hpl : ((backTo pos (starEach [] X.env)).any (·.1) || (backToKw pos (keywordEach kws X.env)).any (·.1.isNone)) = false := by rfl)
    (ht : eval (.Call (.Attribute o m apos) [] kws pos) X.env = (do
      let ov ← eval o X.env
      standAt apos.atName
      let (f, first) ← holding [ov] (getMethod ov m pl)
      callWith pos f first (backTo pos (starEach [] X.env)) (backToKw pos (keywordEach kws X.env))) := by rfl) :
    PE X (.Call (.Attribute o m apos) [] kws pos) (tMethKE C m ks.length sp gV E ta tk) := by
  refine ⟨fun pins s σ H Q I h => ?_⟩
  refine PySem.W.methodCall_KW (pl := pl) (thn (he.run pins s σ H _ I h) fun u s1 ⟨x, H1, I1, rx, a, dx, fs, ex, ea, l, q⟩ => ?_) ht
  subst ex
  obtain rfl : u = Value.ref a := rx
  refine getmeth_ok I1 ea c hm l ?_
  refine PySem.W.callWith_KW0 (first := [.ref a]) (h₀ := X.base) I.ok.mod.kin hm.kp hall ?_ hpl
  refine thn (hkw.run pos pins s1 σ H1 _ I1 q) fun ws s2 ⟨zs, H2, I2, rz, l2, q2⟩ => ⟨I2.kIn, ?_⟩
  rw [hks]
  refine wpAny_call (codeAny_mono (F.run X.A X.stack s2 H2 ⟨[.ref a], ks.zip ws⟩ (g [.ref a] ws) (gV [V.ref a] zs) Q (E σ) hr I2.env0 (hb.to s2 [.ref a] ws I2.kIn rfl (rz.length.symm.trans l2)) (hb.rel (.cons rfl .nil) rz) q2) fun r s' hq => ?_)
  cases r with
  | error e => exact hx σ _ H2 s2 e s' I2 hq
  | ok fl =>
    cases fl with
    | ret u => exact I2.after hq
    | next => exact False.elim hq
    | brk => exact False.elim hq
    | cont => exact False.elim hq
theorem pass0A {X : Cx} (E : L2.St → XK) (σ : L2.St) : PassesAt CX0 X σ (E σ) := fun _ _ _ _ _ _ h => h.elim
end
end Ov
namespace Ov
open PySem PySem.Spec PyProof.Rows L2 GxR
/-! ### .. of an instance of one of several classes -/
section
variable {X : Cx} {CX : CXT} {k n : Nat} {c g : Nat → Addr} {fd : Nat → FuncData} {m : Str} {ps ks : List Str} {sp : Nat → Sp} {E : L2.St → XK} {o e : Expr} {es : List Expr} {kws : List Keyword} {ta : TE} {t tk : TA} {apos pos : Pos} {pl : Sem Bool} {gg : List Value → List Value → List Value} {gV : List V → List V → List V}
def tMethF (n : Nat) (c : Nat → Addr) (m : Str) (sp : Nat → Sp) (E : L2.St → XK) (ta : TE) (t : TA) : TE := fun σ H Q => ta σ H fun x H1 => ∃ a i dx fs, i < n ∧ x = .ref a ∧ H1 a = some (.ins (c i) dx fs) ∧ fs.lookup m = none ∧ t σ H1 fun vs H2 => sp i (x :: vs) H2 Q (E σ)
theorem pe_methF (he : PE X o ta) (hc : ∀ i, i < n → Cls X.K (c i)) (hm : ∀ i, i < n → Meth X.K (c i) m (g i)) (F : ∀ i, i < n → FnR X.prog X.w X.K X.mg X.base CX k (g i) (sp i)) (hr : Room k X.A) (hx : ∀ σ, PassesAt CX X σ (E σ)) (ha : PA X (e :: es) t)
    (hst : starEach (e :: es) X.env = (false, eval e X.env) :: starEach es X.env := by rfl) (hpl : (backTo pos (starEach es X.env)).any (·.1) = false := by rfl)
    (ht : eval (.Call (.Attribute o m apos) (e :: es) [] pos) X.env = (do
      let ov ← eval o X.env
      standAt apos.atName
      let (f, first) ← holding [ov] (getMethod ov m pl)
      callWith pos f first (backTo pos (starEach (e :: es) X.env)) (backToKw pos (keywordEach [] X.env))) := by rfl) :
    PE X (.Call (.Attribute o m apos) (e :: es) [] pos) (tMethF n c m sp E ta t) := by
  refine ⟨fun pins s σ H Q I h => ?_⟩
  refine PySem.W.methodCall_KW (pl := pl) (thn (he.run pins s σ H _ I h) fun u s1 ⟨x, H1, I1, rx, a, i, dx, fs, hi, ex, ea, l, q⟩ => ?_) ht
  subst ex
  obtain rfl : u = Value.ref a := rx
  refine getmeth_ok I1 ea (hc i hi) (hm i hi) l ?_
  refine PySem.W.callWith_K (first := [.ref a]) (h₀ := X.base) I.ok.mod.kin (hm i hi).kp (thn (ha.run pos pins s1 σ H1 _ I1 q) fun us s2 ⟨vs, H2, I2, r, q2⟩ => ⟨I2.kIn, ?_⟩) hst hpl
  refine wpAny_call (codeAny_mono (F i hi X.A X.stack s2 H2 (.ref a :: us) (V.ref a :: vs) Q (E σ) hr I2.env0 (.cons rfl r) q2) fun r s' hq => ?_)
  cases r with
  | error e => exact hx σ _ H2 s2 e s' I2 hq
  | ok fl =>
    cases fl with
    | ret u => exact I2.after hq
    | next => exact False.elim hq
    | brk => exact False.elim hq
    | cont => exact False.elim hq
def tMethKF (n : Nat) (c : Nat → Addr) (m : Str) (nk : Nat) (sp : Nat → Sp) (gV : List V → List V → List V) (E : L2.St → XK) (ta : TE) (tk : TA) : TE := fun σ H Q => ta σ H fun x H1 => ∃ a i dx fs, i < n ∧ x = .ref a ∧ H1 a = some (.ins (c i) dx fs) ∧ fs.lookup m = none ∧ tk σ H1 fun zs H2 => zs.length = nk ∧ sp i (gV [V.ref a] zs) H2 Q (E σ)
theorem pe_methKF (he : PE X o ta) (hc : ∀ i, i < n → Cls X.K (c i)) (hm : ∀ i, i < n → Meth X.K (c i) m (g i)) (F : ∀ i, i < n → FnOk X.prog X.w X.K X.mg X.base CX k (g i) (fd i) ps (sp i)) (hr : Room k X.A) (hb : ∀ i, i < n → KBn X.K (fd i) ps 1 ks gg gV) (hx : ∀ σ, PassesAt CX X σ (E σ))
    (hkw : PK X kws tk) (hall : (backToKw pos (keywordEach kws X.env)).all (·.1.isSome) = true := by rfl) (hks : (backToKw pos (keywordEach kws X.env)).filterMap (·.1) = ks := by rfl)
    (hpl : ((backTo pos (starEach [] X.env)).any (·.1) || (backToKw pos (keywordEach kws X.env)).any (·.1.isNone)) = false := by rfl)
    (ht : eval (.Call (.Attribute o m apos) [] kws pos) X.env = (do
      let ov ← eval o X.env
      standAt apos.atName
      let (f, first) ← holding [ov] (getMethod ov m pl)
      callWith pos f first (backTo pos (starEach [] X.env)) (backToKw pos (keywordEach kws X.env))) := by rfl) :
    PE X (.Call (.Attribute o m apos) [] kws pos) (tMethKF n c m ks.length sp gV E ta tk) := by
  refine ⟨fun pins s σ H Q I h => ?_⟩
  refine PySem.W.methodCall_KW (pl := pl) (thn (he.run pins s σ H _ I h) fun u s1 ⟨x, H1, I1, rx, a, i, dx, fs, hi, ex, ea, l, q⟩ => ?_) ht
  subst ex
  obtain rfl : u = Value.ref a := rx
  refine getmeth_ok I1 ea (hc i hi) (hm i hi) l ?_
  refine PySem.W.callWith_KW0 (first := [.ref a]) (h₀ := X.base) I.ok.mod.kin (hm i hi).kp hall ?_ hpl
  refine thn (hkw.run pos pins s1 σ H1 _ I1 q) fun ws s2 ⟨zs, H2, I2, rz, l2, q2⟩ => ⟨I2.kIn, ?_⟩
  rw [hks]
  refine wpAny_call (codeAny_mono ((F i hi).run X.A X.stack s2 H2 ⟨[.ref a], ks.zip ws⟩ (gg [.ref a] ws) (gV [V.ref a] zs) Q (E σ) hr I2.env0 ((hb i hi).to s2 [.ref a] ws I2.kIn rfl (rz.length.symm.trans l2)) ((hb i hi).rel (.cons rfl .nil) rz) q2) fun r s' hq => ?_)
  cases r with
  | error e => exact hx σ _ H2 s2 e s' I2 hq
  | ok fl =>
    cases fl with
    | ret u => exact I2.after hq
    | next => exact False.elim hq
    | brk => exact False.elim hq
    | cont => exact False.elim hq
end
end Ov

set_option Elab.async false
set_option linter.all false
set_option maxRecDepth 100000
set_option maxHeartbeats 4000000
namespace Ov
open PySem PySem.Spec PyProof.Rows L2 GxR
abbrev sCheck : Stmt := inClass (top 48) 16
abbrev sChkS : Stmt := inClass (top 48) 13
abbrev sLStm : Stmt := inClass (top 49) 2
abbrev sWStm : Stmt := inClass (top 50) 2
abbrev sRStm : Stmt := inClass (top 51) 3
/-- the strip after a stamping -/
def inkS (i : Nat) (z u : Str) (place : Int) : Str := ⟨(inkL i z.cps.toList u.cps.toList place).toArray⟩
def stmB (i : Nat) (ws : List Str) (W : Nat) (z : Str) (word place : Int) : Called :=
  if stripB z (cellsN i : Nat) = false then .noStrip else if fitsB i ws.length W z.length word place = true then .row (inkS i z (ws.getD word.toNat Str.empty) place) else .noStamping
theorem overS_ink {z u : Str} {p : Nat} (h : p + u.length ≤ z.length) : overS z u p = inkS 0 z u (p : Int) := by
  unfold overS inkS
  have : p + u.cps.toList.length ≤ z.cps.toList.length := h
  rw [← ink_line this]
  rfl
theorem strip_size {z : Str} {m : Int} (h : stripB z m = true) : 1 ≤ z.length ∧ (z.length : Int) ≤ m := by
  unfold stripB at h
  simp only [Bool.and_eq_true, decide_eq_true_eq] at h
  exact ⟨by omega, h.1.2⟩
theorem stm_line {ws : List Str} {W : Nat} (g : Good ws W) (z : Str) (word place : Int) : calledS ws W z word place = stmB 0 ws W z word place := by
  unfold calledS stmB
  have c : ((cellsN 0 : Nat) : Int) = 120 := rfl
  rw [c]
  cases hs : stripB z 120 with
  | false => rw [if_pos rfl, if_pos rfl]
  | true =>
    rw [if_neg (show ¬(true = false) by decide), if_neg (show ¬(true = false) by decide)]
    obtain ⟨h1, h2⟩ := strip_size hs
    have e : (0 ≤ word ∧ word < (ws.length : Int) ∧ 0 ≤ place ∧ place + (W : Int) ≤ (z.length : Int)) ↔ fitsB 0 ws.length W z.length word place = true := by
      unfold fitsB knowsB spotB
      rw [c]
      simp only [Bool.and_eq_true, decide_eq_true_eq]
      omega
    by_cases q : 0 ≤ word ∧ word < (ws.length : Int) ∧ 0 ≤ place ∧ place + (W : Int) ≤ (z.length : Int)
    · rw [if_pos q, if_pos (e.mp q)]
      have gl := (g.get (i := word.toNat) (by omega)).1
      rw [overS_ink (by omega), show ((place.toNat : Nat) : Int) = place by omega]
    · rw [if_neg q, if_neg (fun z => q (e.mpr z))]
theorem fits_word {i n W : Nat} {size word place : Int} (h : fitsB i n W size word place = true) : 0 ≤ word ∧ word < (n : Int) ∧ spotB i W size place = true := by
  unfold fitsB knowsB at h
  simp only [Bool.and_eq_true, decide_eq_true_eq] at h
  exact ⟨h.1.2.2.1, h.1.2.2.2, h.2⟩
section
variable {P : Program} {w : World} {K : PySem.W.Frag} {mg : Str → Option Value} {base : Heap} {T : List Addr} {C D fLow fText fAre fTape fNext fInks fInit cLow PLow cAre PAre pWo fWo pWi fWi fLen fStrip fOver fCl DSp DSg : Addr} {B : BA}
def spStm (K : PySem.W.Frag) (T : List Addr) (C : Addr) (B : BA) (DSp DSg : Addr) (i : Nat) : Sp := fun vs H Q E => ∃ (a m l dm : Addr) (H0 : Hp) (ws : List Str) (W : Nat) (x : V) (word place : Int), vs = [.ref a, x, .int word, .int place] ∧ BdAt B H0 H a i m ws W ∧ Stp H C m l dm (ws.map V.str) ∧ Good ws W ∧ (∀ p ∈ T, TabG H p) ∧
  ((∃ z : Str, x = .str z ∧ z.length ≤ 4000 ∧ ∀ H2, Kep T H H2 → ans (stmB i ws W z word place) DSp DSg H2 Q E) ∨ (∃ t, TyX K H x t ∧ PySem.W.kitOne K t (.type "str") = some false ∧ E (.ref DSp) none H))
/-- the check: nothing, or the error -/
def chkA (c : Called) (DSp DSg : Addr) (H : Hp) (Q : VK) (E : XK) : Prop := match c with
  | .row _ => Q .non H
  | .noStrip => E (.ref DSp) none H
  | .noStamping => E (.ref DSg) none H
def spCheck (K : PySem.W.Frag) (T : List Addr) (C : Addr) (B : BA) (DSp DSg : Addr) (i : Nat) : Sp := fun vs H Q E => ∃ (a m l dm : Addr) (H0 : Hp) (ws : List Str) (W : Nat) (x : V) (word place : Int), vs = [.ref a, x, .int word, .int place] ∧ BdAt B H0 H a i m ws W ∧ Stp H C m l dm (ws.map V.str) ∧ Good ws W ∧ (∀ p ∈ T, TabG H p) ∧
  ((∃ z : Str, x = .str z ∧ z.length ≤ 4000 ∧ ∀ H2, Kep T H H2 → chkA (stmB i ws W z word place) DSp DSg H2 Q E) ∨ (∃ t, TyX K H x t ∧ PySem.W.kitOne K t (.type "str") = some false ∧ E (.ref DSp) none H))
theorem nk_kep {H0 H H2 : Hp} (hT : ∀ p ∈ T, TabG H p) (k : Kep T H H2) : NK H0 H H2 := fun b o _ n e => k.at hT e n
def spChkS (K : PySem.W.Frag) (T : List Addr) (B : BA) (DSp : Addr) (i : Nat) : Sp := fun vs H Q E => ∃ (a m : Addr) (H0 : Hp) (ws : List Str) (W : Nat) (x : V), vs = [.ref a, x] ∧ BdAt B H0 H a i m ws W ∧ (∀ p ∈ T, TabG H p) ∧
  ((∃ z : Str, x = .str z ∧ z.length ≤ 4000 ∧ ∀ H2, Tbs T H H2 → if stripB z (cellsN i : Nat) = true then Q .non H2 else E (.ref DSp) none H2) ∨ (∃ t, TyX K H x t ∧ PySem.W.kitOne K t (.type "str") = some false ∧ E (.ref DSp) none H))
theorem scChkS : FnScope ["self", "strip"] ["self", "strip"] (defScope sChkS) := ⟨rfl, rfl, rfl, by decide +kernel, rfl, by decide +kernel, by decide +kernel⟩
theorem ok_chks {f : Addr} {i : Nat} {fd fdS fdL : FuncData} (hi : i < 3) (F : L2.Fun K "check_strip" "Band.check_strip" sChkS f fd) (FS : L2.Fun K "is_strip" "is_strip" sStrip fStrip fdS) (FL : FunC K "is_lowercase" "is_lowercase" sLow fLow fdL cLow)
    (X : Txt K mg C fLow fText fAre fTape fNext fInks) (X2 : Txt2 K mg fStrip fOver) (Tb : Tab base mg T cLow PLow cAre PAre) (BB : Bds K mg B) (E1 : ErrC K mg "InvalidStrip" DSp) :
    FnOk P w K mg base (L2.CX P w) 4 f fd ["self", "strip"] (spChkS K T B DSp i) := by
  have SS : FnOk P w K mg base CX0 3 fStrip fdS ["thing", "most"] (spStrip K T) := ok_strip FS FL X Tb
  have bS : Binds K fdS ["thing", "most"] [] := FS.binds fun _ _ _ _ _ _ us hl => match us, hl with | [_, _], _ => rfl
  have k := BB.k i (by omega)
  obtain ⟨tc, hc⟩ := k.cells
  refine F.okX scChkS (fun vs H Q E h => ?_) (fun cdv A outer s H vs Q E hr h => ?_)
  · obtain ⟨a, m, H0, ws, W, x, rfl, _⟩ := h
    rfl
  · obtain ⟨a, m, H0, ws, W, x, rfl, bd, hT, h⟩ := h
    obtain ⟨dx, pc, ha, _⟩ := id bd
    refine ⟨_, (pss_one (ps_if (pt_not (pt_val (pe_call SS (hr.mono (by decide)) (by rfl) X2.gStrip X2.kStrip bS .nil L2.pass0 (pa_cons (pv 1) (pa_cons (pe_con (pv 0) (by rfl)) pa_nil))))) (pss_one (ps_raise rfl (takes_of rfl rfl rfl rfl) (pmk_own PySem.F.excBase_ValueError E1.e E1.g E1.k (raises_own E1.b E1.t) (by rfl)))) pss_nil)), ?_⟩
    rcases h with ⟨z, rfl, hz, h⟩ | ⟨t, ht, hk, h⟩
    · refine ⟨_, rfl, _, rfl, a, _, dx, _, _, _, rfl, ha, k.cls, hc, rfl, _, _, rfl, hT, .inl ⟨z, rfl, hz, fun H2 h2 => ⟨_, rfl, ?_⟩⟩⟩
      have hh := h H2 h2
      cases hs : stripB z (cellsN i : Nat) with
      | false =>
        rw [hs, if_neg (by decide)] at hh
        exact iteT hh
      | true =>
        rw [hs, if_pos rfl] at hh
        exact iteF hh
    · exact ⟨_, rfl, _, rfl, a, _, dx, _, _, _, rfl, ha, k.cls, hc, rfl, _, _, rfl, hT, .inr ⟨t, ht, hk, _, rfl, iteT h⟩⟩
theorem scCheck : FnScope ["self", "strip", "word", "place"] ["self", "strip", "word", "place"] (defScope sCheck) := ⟨rfl, rfl, rfl, by decide +kernel, rfl, by decide +kernel, by decide +kernel⟩
theorem ok_check {f : Addr} {i : Nat} {fd fdC fdF : FuncData} (hi : i < 3) (F : L2.Fun K "_check_stamping" "Band._check_stamping" sCheck f fd) (FC : L2.Fun K "check_strip" "Band.check_strip" sChkS B.fCs fdC) (CS : FnOk P w K mg base (L2.CX P w) 4 B.fCs fdC ["self", "strip"] (spChkS K T B DSp i))
    (FF : FnOk P w K mg base CX0 4 (B.ff i) fdF ["self", "size", "word", "place"] (spFits C B i)) (bF : Binds K fdF ["self", "size", "word", "place"] []) (X : Txt K mg C fLow fText fAre fTape fNext fInks) (BB : Bds K mg B) (E2 : ErrC K mg "InvalidStamping" DSg) :
    FnOk P w K mg base (L2.CX P w) 5 f fd ["self", "strip", "word", "place"] (spCheck K T C B DSp DSg i) := by
  have bCS : Binds K fdC ["self", "strip"] [] := FC.binds fun _ _ _ _ _ _ us hl => match us, hl with | [_, _], _ => rfl
  have k := BB.k i (by omega)
  refine F.okX scCheck (fun vs H Q E h => ?_) (fun cdv A outer s H vs Q E hr h => ?_)
  · obtain ⟨a, m, l, dm, H0, ws, W, x, word, place, rfl, _⟩ := h
    rfl
  · obtain ⟨a, m, l, dm, H0, ws, W, x, word, place, rfl, bd, st, g, hT, h⟩ := h
    obtain ⟨dx, pc, ha, _⟩ := id bd
    refine ⟨_, (pss_cons (ps_expr (pe_meth (pv 0) k.cls k.cs CS (hr.mono (by decide)) bCS .nil (passes_call (E := E) (takes_of rfl rfl rfl rfl) (fun _ _ _ _ h => h)) (pa_cons (pv 1) pa_nil)))
      (pss_one (ps_if (pt_not (pt_val (pe_meth (pv 0) k.cls (BB.fits i (by omega)) FF hr bF .nil L2.pass0 (pa_cons (pe_callB call_len_str (by rfl) X.len boot_len (pa_cons (pv 1) pa_nil)) (pa_cons (pv 2) (pa_cons (pv 3) pa_nil)))))) (pss_one (ps_raise rfl (takes_of rfl rfl rfl rfl) (pmk_own PySem.F.excBase_ValueError E2.e E2.g E2.k (raises_own E2.b E2.t) (by rfl)))) pss_nil))), ?_⟩
    refine ⟨_, rfl, a, dx, _, rfl, ha, rfl, _, rfl, a, m, H0, ws, W, x, rfl, bd, hT, ?_⟩
    rcases h with ⟨z, rfl, hz, h⟩ | ⟨t, ht, hk, h⟩
    case inr => exact .inr ⟨t, ht, hk, h⟩
    have zl : z.length ≤ sizeLine := Nat.le_trans hz (by decide)
    refine .inl ⟨z, rfl, hz, fun H2 h2 => ?_⟩
    have hh := h H2 h2.kep
    unfold stmB at hh
    cases hs : stripB z (cellsN i : Nat) with
    | false =>
      rw [hs, if_pos rfl] at hh
      exact hh
    | true =>
      rw [hs, if_neg (by decide)] at hh
      refine iteT ?_
      have nk : NK H0 H H2 := nk_kep hT h2.kep
      have bd2 := bd.keep nk
      obtain ⟨dx2, pc2, ha2, _⟩ := id bd2
      have st2 : Stp H2 C m l dm (ws.map V.str) := ⟨h2.kep.at hT st.1 fun _ z => (by cases z), h2.kep.at hT st.2 fun _ z => (by cases z)⟩
      refine ⟨_, rfl, a, dx2, _, rfl, ha2, rfl, _, rfl, z, rfl, zl, _, rfl, _, rfl, a, m, l, dm, H0, ws, W, _, word, place, rfl, bd2, st2, g, _, rfl, ?_⟩
      cases hf : fitsB i ws.length W z.length word place with
      | false =>
        rw [hf, if_neg (by decide)] at hh
        exact iteT hh
      | true =>
        rw [hf, if_pos rfl] at hh
        exact iteF hh
theorem scLStm : FnScope ["self", "strip", "word", "place"] ["self", "strip", "word", "place"] (defScope sLStm) := ⟨rfl, rfl, rfl, by decide +kernel, rfl, by decide +kernel, by decide +kernel⟩
theorem ok_lstm {f : Addr} {fd fdC : FuncData} (F : L2.Fun K "stamped" "Line.stamped" sLStm f fd) (FC : L2.Fun K "__call__" "Stamps.__call__" sCall fCl fdC) (F1 : FnOk P w K mg base (L2.CX P w) 4 fCl fdC ["self", "strip", "word", "place"] (spCall K T C DSp DSg)) (BB : Bds K mg B) (co : StX.CallO K C fCl) :
    FnOk P w K mg base (L2.CX P w) 7 f fd ["self", "strip", "word", "place"] (spStm K T C B DSp DSg 0) := by
  have FR : FnR P w K mg base (L2.CX P w) 4 fCl (spCall K T C DSp DSg) := (F1.raw (FC.binds fun _ _ _ _ _ _ us hl => match us, hl with | [_, _, _, _], _ => rfl) .nil).imp fun vs H Q E h => by rw [List.append_nil]; exact h
  have k := BB.k 0 (by decide)
  refine F.okX scLStm (fun vs H Q E h => ?_) (fun cdv A outer s H vs Q E hr h => ?_)
  · obtain ⟨a, m, l, dm, H0, ws, W, x, word, place, rfl, _⟩ := h
    rfl
  · obtain ⟨a, m, l, dm, H0, ws, W, x, word, place, rfl, bd, st, g, hT, h⟩ := h
    obtain ⟨dx, pc, ha, _⟩ := id bd
    refine ⟨_, (pss_one (ps_ret (pe_callF (pv 0) co FR (hr.mono (by decide)) (fun σ pins H s e s' I c => (passes_call (E := E) (takes_of rfl rfl rfl rfl) (fun _ _ _ _ h => h)) pins σ H s e s' I c) (pa_cons (pv 1) (pa_cons (pv 2) (pa_cons (pv 3) pa_nil)))))), ?_⟩
    refine ⟨_, rfl, a, _, dx, _, m, rfl, ha, k.cls, k.noS, rfl, _, rfl, _, rfl, _, rfl, ⟨dm, _, st.1⟩, m, l, dm, ws, W, x, word, place, rfl, st, g, hT, ?_⟩
    rcases h with ⟨z, rfl, hz, h⟩ | ⟨t, ht, hk, h⟩
    · refine .inl ⟨z, rfl, hz, fun H2 h2 => ?_⟩
      rw [stm_line g]
      exact h H2 h2.kep
    · exact .inr ⟨t, ht, hk, h⟩
theorem scWStm : FnScope ["self", "strip", "word", "place", "letters", "width", "edge", "longer"] ["self", "strip", "word", "place"] (defScope sWStm) := ⟨rfl, rfl, rfl, by decide +kernel, rfl, by decide +kernel, by decide +kernel⟩
theorem scRStm : FnScope ["self", "strip", "word", "place", "turned", "back"] ["self", "strip", "word", "place"] (defScope sRStm) := ⟨rfl, rfl, rfl, by decide +kernel, rfl, by decide +kernel, by decide +kernel⟩
theorem rep_len (n : Nat) : ((List.replicate n ("." : Str).cps.toList).flatten).length = n := by
  induction n with
  | zero => rfl
  | succ n ih => rw [List.replicate_succ, List.flatten_cons, List.length_append, ih]; show 1 + n = n + 1; omega
theorem overS_list (z u : Str) (p : Nat) : (overS z u p).cps.toList = z.cps.toList.take p ++ u.cps.toList ++ z.cps.toList.drop (p + u.cps.toList.length) := rfl
theorem app_list (a b : Str) : (a ++ b).cps.toList = a.cps.toList ++ b.cps.toList := Array.toList_append ..
theorem cut_both (o : Str) (a b : Nat) (h : a ≤ b) (hb : b ≤ o.length) : cutS o (some (a : Int)) (some (b : Int)) = ⟨((o.cps.toList.drop a).take (b - a)).toArray⟩ := by
  unfold cutS
  rw [HT.sIx_nat, HT.sIx_nat, Nat.min_eq_left hb, Nat.min_eq_left (by omega)]
theorem cut_hi (o : Str) (b : Nat) (hb : b ≤ o.length) : cutS o none (some (b : Int)) = ⟨(o.cps.toList.take b).toArray⟩ := by
  unfold cutS
  rw [HT.sIx_nat, HT.sIx_none, Nat.min_eq_left hb, List.drop_zero, Nat.sub_zero]
theorem cut_lo (o : Str) (a : Nat) (ha : a ≤ o.length) : cutS o (some (a : Int)) none = ⟨(o.cps.toList.drop a).toArray⟩ := by
  unfold cutS
  rw [HT.sIx_nat, HT.sIx_none, Nat.min_eq_left ha]
  rw [List.take_of_length_le (by rw [List.length_drop]; exact Nat.le_refl _)]
theorem win_str {z u e : Str} {place : Int} {pp : Nat} (eL : e.length = u.length) (hpp : place + (u.length : Int) = (pp : Int)) (p1 : -(u.length : Int) < place) (p2 : place < (z.length : Int)) :
    cutS (overS (e ++ z ++ e) u pp) (some (u.length : Int)) (some ((u.length : Int) + z.length)) = inkS 1 z u place := by
  have l1 : (e ++ z ++ e).length = e.length + z.length + e.length := (Array.size_append ..).trans (by rw [show (e ++ z).cps.size = e.length + z.length from Array.size_append ..]; rfl)
  have lo := overS_len (e ++ z ++ e) u pp (by omega)
  rw [show ((u.length : Int) + z.length) = ((u.length + z.length : Nat) : Int) by omega, cut_both _ _ _ (by omega) (by rw [lo, l1]; omega), overS_list, app_list, app_list]
  unfold inkS
  have w := ink_window (zs := z.cps.toList) (us := u.cps.toList) (es := e.cps.toList) (place := place) eL p1 p2
  rw [← w]
  have hq : (place + (u.cps.toList.length : Int)).toNat = pp := by
    have : (u.cps.toList.length : Int) = (u.length : Int) := rfl
    omega
  rw [hq]
  congr 1
  congr 1
  show List.take (u.length + z.length - u.length) _ = _
  rw [Nat.add_sub_cancel_left]
  rfl
theorem turn_len {z : Str} {q : Nat} (h : q ≤ z.length) : (cutS z (some (q : Int)) none ++ cutS z none (some (q : Int))).length = z.length := by
  rw [cut_lo _ _ h, cut_hi _ _ h]
  show (((z.cps.toList.drop q).toArray ++ (z.cps.toList.take q).toArray)).size = z.length
  rw [Array.size_append, List.size_toArray, List.size_toArray, List.length_drop, List.length_take, tl_len]
  omega
theorem ring_str {z u : Str} {q : Nat} (h1 : u.length ≤ z.length) (h2 : q < z.length) :
    cutS (overS (cutS z (some (q : Int)) none ++ cutS z none (some (q : Int))) u 0) (some ((z.length : Int) - q)) none ++ cutS (overS (cutS z (some (q : Int)) none ++ cutS z none (some (q : Int))) u 0) none (some ((z.length : Int) - q)) = inkS 2 z u (q : Int) := by
  have lt := turn_len (z := z) (q := q) (by omega)
  have lo := overS_len (cutS z (some (q : Int)) none ++ cutS z none (some (q : Int))) u 0 (by omega)
  have w := ink_ring (zs := z.cps.toList) (us := u.cps.toList) (p := q) h1 h2
  have oL : (overS (cutS z (some (q : Int)) none ++ cutS z none (some (q : Int))) u 0).cps.toList = u.cps.toList ++ (z.cps.toList.drop q ++ z.cps.toList.take q).drop u.cps.toList.length := by
    rw [overS_list, app_list, cut_lo _ _ (by omega), cut_hi _ _ (by omega), Nat.zero_add, List.take_zero, List.nil_append]
  generalize overS (cutS z (some (q : Int)) none ++ cutS z none (some (q : Int))) u 0 = o at lo oL
  rw [show ((z.length : Int) - q) = ((z.length - q : Nat) : Int) by omega, cut_lo _ _ (by rw [lo, lt]; omega), cut_hi _ _ (by rw [lo, lt]; omega), oL]
  unfold inkS
  rw [← w]
  show (⟨_ ++ _⟩ : Str) = _
  congr 1
  rw [List.append_toArray]
  rfl
theorem ok_wstm {f : Addr} {fd fdC fdO fdW : FuncData} (F : L2.Fun K "stamped" "Window.stamped" sWStm f fd) (CK : FnOk P w K mg base (L2.CX P w) 5 B.fCk fdC ["self", "strip", "word", "place"] (spCheck K T C B DSp DSg 1)) (bC : Binds K fdC ["self", "strip", "word", "place"] []) (FO : L2.Fun K "over" "over" sOver fOver fdO) (FW : L2.Fun K "words" "Stamps.words" sWords fWo fdW)
    (X : Txt K mg C fLow fText fAre fTape fNext fInks) (X2 : Txt2 K mg fStrip fOver) (O : Own K C) (hp : PropOf K C "words" pWo fWo) (BB : Bds K mg B) : FnOk P w K mg base (L2.CX P w) 7 f fd ["self", "strip", "word", "place"] (spStm K T C B DSp DSg 1) := by
  have OO : FnOk P w K mg base CX0 1 fOver fdO ["strip", "letters", "place"] spOver := ok_over FO X
  have bO : Binds K fdO ["strip", "letters", "place"] [] := FO.binds fun _ _ _ _ _ _ us hl => match us, hl with | [_, _, _], _ => rfl
  have WW : FnOk P w K mg base CX0 1 fWo fdW ["self"] (spWords C) := ok_words FW X O
  have bW : Binds K fdW ["self"] [] := FW.binds fun _ _ _ _ _ _ us hl => match us, hl with | [_], _ => rfl
  have k := BB.k 1 (by decide)
  refine F.okX scWStm (fun vs H Q E h => ?_) (fun cdv A outer s H vs Q E hr h => ?_)
  · obtain ⟨a, m, l, dm, H0, ws, W, x, word, place, rfl, _⟩ := h
    rfl
  · obtain ⟨a, m, l, dm, H0, ws, W, x, word, place, rfl, bd, st, g, hT, h⟩ := h
    obtain ⟨dx, pc, ha, _⟩ := id bd
    refine ⟨_, (pss_cons (ps_expr (pe_meth (pv 0) k.cls k.ck CK (hr.mono (by decide)) bC .nil (passes_call (E := E) (takes_of rfl rfl rfl rfl) (fun _ _ _ _ h => h)) (pa_cons (pv 1) (pa_cons (pv 2) (pa_cons (pv 3) pa_nil)))))
      (pss_cons (ps_set (i := 4) scWStm.nd rfl (.inl rfl) (pe_ix ix_seq (pe_propX (p := pWo) (pe_fld (pv 0) (by rfl)) WW (hr.mono (by decide)) bW .nil L2.pass0) (pv 2) fun _ _ => rfl))
      (pss_cons (ps_set (i := 5) scWStm.nd rfl (.inl rfl) (pe_callB call_len_str (by rfl) X.len boot_len (pa_cons (pv 4) pa_nil)))
      (pss_cons (ps_set (i := 6) scWStm.nd rfl (.inl rfl) (pe_op op_mulS pe_str (pv 5)))
      (pss_cons (ps_set (i := 7) scWStm.nd rfl (.inl rfl) (pe_call OO (hr.mono (by decide)) (by rfl) X2.gOver X2.kOver bO .nil L2.pass0 (pa_cons (pe_op op_add_str (pe_op op_add_str (pv 6) (pv 1)) (pv 6)) (pa_cons (pv 4) (pa_cons (pe_op op_add (pv 3) (pv 5)) pa_nil)))))
      (pss_one (ps_ret (pe_slice sl_str (pv 7) (po_some (pv 5)) (po_some (pe_op op_add (pv 5) (pe_callB call_len_str (by rfl) X.len boot_len (pa_cons (pv 1) pa_nil)))))))))))), ?_⟩
    refine ⟨_, rfl, a, dx, _, rfl, ha, rfl, _, rfl, _, rfl, _, rfl, a, m, l, dm, H0, ws, W, x, word, place, rfl, bd, st, g, hT, ?_⟩
    rcases h with ⟨z, rfl, hz, h⟩ | ⟨t, ht, hk, h⟩
    case inr => exact .inr ⟨t, ht, hk, h⟩
    refine .inl ⟨z, rfl, hz, fun H2 h2 => ?_⟩
    have hh := h H2 h2
    cases hs : stripB z (cellsN 1 : Nat) with
    | false =>
      unfold stmB at hh ⊢
      rw [hs, if_pos rfl] at hh ⊢
      exact hh
    | true =>
    cases hf : fitsB 1 ws.length W z.length word place with
    | false =>
      unfold stmB at hh ⊢
      rw [hs, if_neg (by decide), hf, if_neg (by decide)] at hh ⊢
      exact hh
    | true =>
    have zl : z.length ≤ sizeLine := Nat.le_trans hz (by decide)
    obtain ⟨w0, wn, sp⟩ := fits_word hf
    unfold spotB at sp
    simp only [Bool.and_eq_true, decide_eq_true_eq] at sp
    obtain ⟨p1, p2⟩ := sp
    have nk : NK H0 H H2 := nk_kep hT h2
    obtain ⟨dx2, pc2, ha2, _⟩ := bd.keep nk
    have st2 : Stp H2 C m l dm (ws.map V.str) := ⟨h2.at hT st.1 fun _ z => (by cases z), h2.at hT st.2 fun _ z => (by cases z)⟩
    obtain ⟨gl, _⟩ := g.get (i := word.toNat) (by omega)
    have w8 := g.w8
    unfold stmB at hh ⊢
    rw [hs, if_neg (by decide), hf, if_pos rfl] at hh ⊢
    have hh : Q (.str (inkS 1 z (ws.getD word.toNat Str.empty) place)) H2 := hh
    generalize hu : ws.getD word.toNat Str.empty = u at gl hh
    obtain ⟨z1, z2⟩ := strip_size hs
    refine ⟨_, rfl, a, _, dx2, _, _, rfl, ha2, k.cls, k.noS, rfl, m, C, dm, _, rfl, O.cls, hp, st2.1, m, l, dm, _, rfl, st2, fun p hp0 => ?_⟩
    generalize hG : upd H2 p _ = G
    have eG : G p = some (.lst (ws.map V.str)) := by rw [← hG]; exact upd_same
    refine ⟨_, rfl, .inl ⟨p, _, word, .str u, rfl, rfl, .inl (.inl eG), hu ▸ at_i w0 wn, ?_⟩⟩
    have uz : u.length ≤ sizeLine := by rw [gl, sizeLine_eq]; omega
    have c1 : cellsN 1 = 120 := rfl
    refine ⟨_, rfl, u, rfl, uz, _, rfl, "." , (u.length : Int), rfl, rfl, by omega, by omega, by decide, ?_⟩
    generalize he : (⟨(List.replicate ((u.length : Int)).toNat ("." : Str).cps.toList).flatten.toArray⟩ : Str) = e
    have eL : e.length = u.length := by
      rw [← he]
      show ((List.replicate ((u.length : Int)).toNat ("." : Str).cps.toList).flatten.toArray).size = _
      rw [List.size_toArray, rep_len]; omega
    have l1 : (e ++ z).length = e.length + z.length := Array.size_append ..
    have l2 : (e ++ z ++ e).length = e.length + z.length + e.length := (Array.size_append ..).trans (by rw [← l1]; rfl)
    obtain ⟨pp, hpp⟩ : ∃ pp : Nat, place + (u.length : Int) = (pp : Int) := ⟨(place + u.length).toNat, by omega⟩
    refine ⟨_, rfl, _, rfl, e, z, rfl, rfl, by rw [sizeLine_eq]; omega, _, rfl, e ++ z, e, rfl, rfl, by rw [l1, sizeLine_eq]; omega, _, rfl, _, rfl, _, rfl, _, _, rfl, rfl, e ++ z ++ e, u, pp, by rw [← hpp]; rfl, by omega, by omega, ?_⟩
    have lo := overS_len (e ++ z ++ e) u pp (by omega)
    generalize ho : overS (e ++ z ++ e) u pp = o at lo
    refine ⟨_, rfl, _, rfl, _, rfl, _, rfl, _, rfl, z, rfl, zl, _, _, rfl, rfl, _, rfl, o, rfl, by rw [lo, l2, sizeLine_eq]; omega, ?_⟩
    have kG : Kep T H G := by rw [← hG]; exact h2.trans (Kep.new h2.1 hp0)
    have hh := h G kG
    unfold stmB at hh
    rw [hs, if_neg (by decide), hf, if_pos rfl, hu, ← win_str eL hpp (by omega) p2, ho] at hh
    exact hh
theorem ok_rstm {f : Addr} {fd fdC fdO fdW : FuncData} (F : L2.Fun K "stamped" "Ring.stamped" sRStm f fd) (CK : FnOk P w K mg base (L2.CX P w) 5 B.fCk fdC ["self", "strip", "word", "place"] (spCheck K T C B DSp DSg 2)) (bC : Binds K fdC ["self", "strip", "word", "place"] []) (FO : L2.Fun K "over" "over" sOver fOver fdO) (FW : L2.Fun K "words" "Stamps.words" sWords fWo fdW)
    (X : Txt K mg C fLow fText fAre fTape fNext fInks) (X2 : Txt2 K mg fStrip fOver) (O : Own K C) (hp : PropOf K C "words" pWo fWo) (BB : Bds K mg B) : FnOk P w K mg base (L2.CX P w) 7 f fd ["self", "strip", "word", "place"] (spStm K T C B DSp DSg 2) := by
  have OO : FnOk P w K mg base CX0 1 fOver fdO ["strip", "letters", "place"] spOver := ok_over FO X
  have bO : Binds K fdO ["strip", "letters", "place"] [] := FO.binds fun _ _ _ _ _ _ us hl => match us, hl with | [_, _, _], _ => rfl
  have WW : FnOk P w K mg base CX0 1 fWo fdW ["self"] (spWords C) := ok_words FW X O
  have bW : Binds K fdW ["self"] [] := FW.binds fun _ _ _ _ _ _ us hl => match us, hl with | [_], _ => rfl
  have k := BB.k 2 (by decide)
  refine F.okX scRStm (fun vs H Q E h => ?_) (fun cdv A outer s H vs Q E hr h => ?_)
  · obtain ⟨a, m, l, dm, H0, ws, W, x, word, place, rfl, _⟩ := h
    rfl
  · obtain ⟨a, m, l, dm, H0, ws, W, x, word, place, rfl, bd, st, g, hT, h⟩ := h
    obtain ⟨dx, pc, ha, _⟩ := id bd
    refine ⟨_, (pss_cons (ps_expr (pe_meth (pv 0) k.cls k.ck CK (hr.mono (by decide)) bC .nil (passes_call (E := E) (takes_of rfl rfl rfl rfl) (fun _ _ _ _ h => h)) (pa_cons (pv 1) (pa_cons (pv 2) (pa_cons (pv 3) pa_nil)))))
      (pss_cons (ps_set (i := 4) scRStm.nd rfl (.inl rfl) (pe_call OO (hr.mono (by decide)) (by rfl) X2.gOver X2.kOver bO .nil L2.pass0 (pa_cons (pe_op op_add_str (pe_slice sl_str (pv 1) (po_some (pv 3)) po_none) (pe_slice sl_str (pv 1) po_none (po_some (pv 3)))) (pa_cons (pe_ix ix_seq (pe_propX (p := pWo) (pe_fld (pv 0) (by rfl)) WW (hr.mono (by decide)) bW .nil L2.pass0) (pv 2) fun _ _ => rfl) (pa_cons pe_int pa_nil)))))
      (pss_cons (ps_set (i := 5) scRStm.nd rfl (.inl rfl) (pe_op op_sub (pe_callB call_len_str (by rfl) X.len boot_len (pa_cons (pv 1) pa_nil)) (pv 3)))
      (pss_one (ps_ret (pe_op op_add_str (pe_slice sl_str (pv 4) (po_some (pv 5)) po_none) (pe_slice sl_str (pv 4) po_none (po_some (pv 5))))))))), ?_⟩
    refine ⟨_, rfl, a, dx, _, rfl, ha, rfl, _, rfl, _, rfl, _, rfl, a, m, l, dm, H0, ws, W, x, word, place, rfl, bd, st, g, hT, ?_⟩
    rcases h with ⟨z, rfl, hz, h⟩ | ⟨t, ht, hk, h⟩
    case inr => exact .inr ⟨t, ht, hk, h⟩
    refine .inl ⟨z, rfl, hz, fun H2 h2 => ?_⟩
    have hh := h H2 h2
    cases hs : stripB z (cellsN 2 : Nat) with
    | false =>
      unfold stmB at hh ⊢
      rw [hs, if_pos rfl] at hh ⊢
      exact hh
    | true =>
    cases hf : fitsB 2 ws.length W z.length word place with
    | false =>
      unfold stmB at hh ⊢
      rw [hs, if_neg (by decide), hf, if_neg (by decide)] at hh ⊢
      exact hh
    | true =>
    have zl : z.length ≤ sizeLine := Nat.le_trans hz (by decide)
    obtain ⟨w0, wn, sp⟩ := fits_word hf
    unfold spotB at sp
    simp only [Bool.and_eq_true, decide_eq_true_eq] at sp
    obtain ⟨p1, p2, p3⟩ := sp
    have nk : NK H0 H H2 := nk_kep hT h2
    obtain ⟨dx2, pc2, ha2, _⟩ := bd.keep nk
    have st2 : Stp H2 C m l dm (ws.map V.str) := ⟨h2.at hT st.1 fun _ z => (by cases z), h2.at hT st.2 fun _ z => (by cases z)⟩
    obtain ⟨gl, _⟩ := g.get (i := word.toNat) (by omega)
    have w8 := g.w8
    unfold stmB at hh ⊢
    rw [hs, if_neg (by decide), hf, if_pos rfl] at hh ⊢
    generalize hu : ws.getD word.toNat Str.empty = u at gl hh
    obtain ⟨z1, z2⟩ := strip_size hs
    have uz : u.length ≤ sizeLine := by rw [gl, sizeLine_eq]; omega
    have c2 : cellsN 2 = 60 := rfl
    obtain ⟨q, hq⟩ : ∃ q : Nat, place = (q : Int) := ⟨place.toNat, by omega⟩
    subst hq
    have l1 : (cutS z (some (q : Int)) none ++ cutS z none (some (q : Int))).length = z.length := turn_len (by omega)
    have l2 := cutS_length z (some (q : Int)) none
    have l3 := cutS_length z none (some (q : Int))
    refine ⟨_, rfl, _, rfl, _, rfl, z, rfl, zl, _, rfl, _, rfl, _, rfl, z, rfl, zl, _, _, rfl, rfl, by rw [sizeLine_eq]; omega, _, rfl, a, _, dx2, _, _, rfl, ha2, k.cls, k.noS, rfl, m, C, dm, _, rfl, O.cls, hp, st2.1, m, l, dm, _, rfl, st2, fun p hp0 => ?_⟩
    generalize hG : upd H2 p _ = G
    have eG : G p = some (.lst (ws.map V.str)) := by rw [← hG]; exact upd_same
    refine ⟨_, rfl, .inl ⟨p, _, word, .str u, rfl, rfl, .inl (.inl eG), hu ▸ at_i w0 wn, ?_⟩⟩
    refine ⟨_, u, 0, rfl, by omega, by omega, ?_⟩
    have lo := overS_len (cutS z (some (q : Int)) none ++ cutS z none (some (q : Int))) u 0 (by omega)
    generalize ho : overS (cutS z (some (q : Int)) none ++ cutS z none (some (q : Int))) u 0 = o at lo
    have l4 := cutS_length o (some ((z.length : Int) - q)) none
    have l5 := cutS_length o none (some ((z.length : Int) - q))
    refine ⟨_, rfl, z, rfl, zl, _, rfl, _, _, rfl, rfl, ?_⟩
    refine ⟨_, rfl, _, rfl, _, rfl, o, rfl, by rw [lo, l1]; exact zl, _, rfl, _, rfl, _, rfl, o, rfl, by rw [lo, l1]; exact zl, _, _, rfl, rfl, by rw [sizeLine_eq]; omega, ?_⟩
    have kG : Kep T H G := by rw [← hG]; exact h2.trans (Kep.new h2.1 hp0)
    have hh := h G kG
    unfold stmB at hh
    rw [hs, if_neg (by decide), hf, if_pos rfl, hu, ← ring_str (by omega) (by omega), ho] at hh
    exact hh
end
end Ov

set_option Elab.async false
set_option linter.all false
set_option maxRecDepth 100000
set_option maxHeartbeats 4000000
namespace Ov
open PySem PySem.Spec PyProof.Rows L2 GxR
abbrev sInked : Stmt := top 56
abbrev sSpotsL : Stmt := top 57
abbrev sBandL : Stmt := top 58
/-! ### the cells after a stamping, by the law -/
def chV (c : Nat) : V := .str ⟨#[c]⟩
theorem join_ch (cs : List Nat) : Txt.join "" (cs.map fun c => (⟨#[c]⟩ : Str)) = ⟨cs.toArray⟩ := by
  have h := join_cps "" rfl (cs.map fun c => (⟨#[c]⟩ : Str))
  have e : ((cs.map fun c => (⟨#[c]⟩ : Str)).map fun z => z.cps.toList).flatten = cs := by
    rw [List.map_map]
    induction cs with
    | nil => rfl
    | cons c r ih =>
      rw [List.map_cons, List.flatten_cons, ih (by exact join_cps "" rfl _)]
      rfl
  rw [e] at h
  generalize Txt.join "" (cs.map fun c => (⟨#[c]⟩ : Str)) = z at h
  cases z
  simp at h
  simp [← h]
theorem sum_ch : ∀ cs : List Nat, ((cs.map fun c => (⟨#[c]⟩ : Str)).map (·.length)).sum = cs.length
  | [] => rfl
  | c :: r => by
    rw [List.map_cons, List.map_cons, List.sum_cons, sum_ch r, List.length_cons]
    show 1 + r.length = _
    omega
theorem emod_near {x n : Int} (h0 : -n ≤ x) (h1 : x < 2 * n) : x % n = if x < 0 then x + n else if x < n then x else x - n := by
  by_cases a : x < 0
  · rw [if_pos a]
    have : (x + n) % n = x + n := Int.emod_eq_of_lt (by omega) (by omega)
    rw [← this, Int.add_emod_right]
  · rw [if_neg a]
    by_cases b : x < n
    · rw [if_pos b]; exact Int.emod_eq_of_lt (by omega) b
    · rw [if_neg b]
      have : (x - n) % n = x - n := Int.emod_eq_of_lt (by omega) (by omega)
      rw [← this, Int.sub_emod_right]
/-- where the m-th letter falls -/
def spotAt (i n : Nat) (p : Int) (m : Nat) : Int := if i = 2 then (p + m) % (n : Int) else p + m
theorem spot_set {i n : Nat} {p : Int} {m : Nat} {W : Nat} (hs : spotB i W n p = true) (hm : m < W) (hW : i = 2 → W ≤ n) (h0 : 0 ≤ spotAt i n p m) (h1 : spotAt i n p m < (n : Int)) :
    ∀ k, k < n → (offI i n p k = (m : Int) ↔ k = (spotAt i n p m).toNat) := by
  intro k hk
  by_cases i2 : i = 2
  · subst i2
    unfold spotB at hs
    simp at hs
    unfold spotAt at h0 h1 ⊢
    rw [if_pos rfl] at h0 h1 ⊢
    rw [offI_ring]
    have := hW rfl
    rw [emod_near (x := p + m) (by omega) (by omega)] at h0 h1 ⊢
    rw [emod_near (x := (k : Int) - p) (by omega) (by omega)]
    (repeat' split) <;> omega
  · unfold spotAt at h0 h1 ⊢
    rw [if_neg i2] at h0 h1 ⊢
    rw [offI_row i2]
    omega
theorem spot_skip {i n : Nat} {p : Int} {m : Nat} (hn : 1 ≤ n) (h : ¬ (0 ≤ spotAt i n p m ∧ spotAt i n p m < (n : Int))) : ∀ k, k < n → offI i n p k ≠ (m : Int) := by
  intro k hk
  by_cases i2 : i = 2
  · subst i2
    exfalso
    unfold spotAt at h
    rw [if_pos rfl] at h
    exact h ⟨Int.emod_nonneg _ (by omega), Int.emod_lt_of_pos _ (by omega)⟩
  · unfold spotAt at h
    rw [if_neg i2] at h
    rw [offI_row i2]
    omega
theorem inkS_len {i : Nat} {z u : Str} {p : Int} : (inkS i z u p).length = z.length := by
  show (inkL i z.cps.toList u.cps.toList p).toArray.size = z.length
  rw [List.size_toArray]
  unfold inkL
  rw [inkM_len]
  exact tl_len z
section
variable {P : Program} {w : World} {K : PySem.W.Frag} {mg : Str → Option Value} {base : Heap} {T : List Addr} {C D fLow fText fAre fTape fNext fInks fInit cLow PLow cAre PAre pWo fWo pO gO DN : Addr} {B : BA}
def spInked : Sp := fun vs H Q _ => ∃ (i : Nat) (z u : Str) (p : Int), vs = [.int (i : Nat), .str z, .str u, .int p] ∧ spotB i u.length z.length p = true ∧ 1 ≤ z.length ∧ z.length ≤ 4000 ∧ u.cps.all (· < 128) = true ∧ ∀ H3, L2.Same H H3 → Q (.str (inkS i z u p)) H3
abbrev NInked : List Str := ["kind", "row", "ink", "at", "cells", "found", "offset", "letter", "spot"]
theorem scInked : FnScope NInked ["kind", "row", "ink", "at"] (defScope sInked) := ⟨rfl, rfl, rfl, by decide +kernel, rfl, by decide +kernel, by decide +kernel⟩
theorem ok_inked {f : Addr} {fd : FuncData} (F : L2.Fun K "_law_inked" "_law_inked" sInked f fd) (X : Txt K mg C fLow fText fAre fTape fNext fInks) (enu : mg "enumerate" = none) : FnOk P w K mg base CX0 1 f fd ["kind", "row", "ink", "at"] spInked := by
  refine F.ok scInked (fun vs H Q E h => ?_) (fun cdv A outer s H vs Q E hr h => ?_)
  · obtain ⟨i, z, u, p, rfl, _⟩ := h
    rfl
  · obtain ⟨i, z, u, p, rfl, hs, hz1, hz, asc, q⟩ := h
    refine ⟨_, pss_cons (ps_par (i := 4) (j := 5) rfl scInked.nd rfl rfl (by decide) rfl rfl (pa_cons (pe_callB call_len_str (by rfl) X.len boot_len (pa_cons (pv 1) pa_nil)) (pa_cons (pe_callTy (call_listS rfl) (by rfl) X.lst (by decide +kernel) (pa_cons (pv 1) pa_nil)) pa_nil)) (by rfl))
      (pss_cons (ps_for PassesOwn.never rfl (pi_enumS (by rfl) enu (pa_cons (pv 2) pa_nil)) (pg_tup rfl (pgs_cons (pg_name (i := 6) scInked.nd rfl (Or.inl rfl)) (pgs_cons (pg_name (i := 7) scInked.nd rfl (Or.inl rfl)) pgs_nil)))
        (pss_cons (ps_set (i := 8) scInked.nd rfl (.inl rfl) (pe_ifExp (pt_cmpR op_eq (pv 0) pe_int (by rfl)) (pe_op op_mod (pe_op op_add (pv 3) (pv 6)) (pv 4)) (pe_op op_add (pv 3) (pv 6))))
        (pss_one (ps_if (pt_chain op_le op_lt pe_int (pv 8) (pv 4)) (pss_one (ps_asg (pv 7) (pg_sub (pv 5) (pv 8) set_list))) pss_nil))))
      (pss_one (ps_ret (pe_join pe_str (pv 5))))), ?_⟩
    have hzs : z.length ≤ sizeLine := Nat.le_trans hz (by decide)
    have lz := tl_len z
    have lu := tl_len u
    have hW : i = 2 → u.length ≤ z.length := fun e => by
      subst e
      unfold spotB at hs
      simp at hs
      omega
    refine ⟨_, rfl, z, rfl, hzs, _, rfl, z, rfl, hzs, fun l hl => ?_⟩
    refine ⟨_, _, rfl, ?_⟩
    refine ⟨_, rfl, u, rfl, asc, for_enumS (fun m σ H' => (∃ v6 v7 v8, σ = [some (.int (i : Nat)), some (.str z), some (.str u), some (.int p), some (.int (z.length : Nat)), some (.ref l), v6, v7, v8]) ∧ H' l = some (.lst ((inkM i z.cps.toList u.cps.toList p m).map chV)) ∧ L2.Same H H')
      ⟨⟨_, _, _, rfl⟩, by rw [inkM_0]; exact upd_same, same_new hl⟩ (fun m c σ H' T hc pp hT => ?_) (fun σ H' pp => ?_)⟩
    · obtain ⟨⟨v6, v7, v8, rfl⟩, hl', sm⟩ := pp
      have hm : m < u.length := (Array.getElem?_eq_some_iff.mp hc).1
      have hc' : u.cps.toList[m]? = some c := by rw [Array.getElem?_toList]; exact hc
      refine ⟨T, _, rfl, .inl (.inl upd_same), rfl, _, _, rfl, _, _, rfl, rfl, ?_⟩
      have sT := sm.trans (same_new (o := .tup [.int (m : Nat), .str ⟨#[c]⟩]) hT)
      have hlT : upd H' T (.tup [.int (m : Nat), .str ⟨#[c]⟩]) l = some (.lst ((inkM i z.cps.toList u.cps.toList p m).map chV)) := same_new hT _ _ hl'
      generalize hGG : upd H' T (.tup [.int (m : Nat), .str ⟨#[c]⟩]) = G at sT hlT ⊢
      refine ⟨_, rfl, rfl, _, rfl, ?_⟩
      have sp : spotAt i z.length p m = if i = 2 then (p + m) % (z.length : Int) else p + m := rfl
      by_cases i2 : i = 2
      case' pos =>
        refine iteT' (by rw [decide_eq_true_eq, i2]; rfl) ⟨_, rfl, _, rfl, _, _, rfl, rfl, _, rfl, _, _, rfl, rfl, by show (0 : Int) < _; omega, ?_⟩
        rw [if_pos i2] at sp
        show gName 8 (V.int ((p + (m : Int)) % (z.length : Int))) _ _ _
      case' neg =>
        refine iteF' (by rw [decide_eq_false_iff_not]; intro z; injection z with z; omega) ⟨_, rfl, _, rfl, _, _, rfl, rfl, ?_⟩
        rw [if_neg i2] at sp
        show gName 8 (V.int (p + (m : Int))) _ _ _
      all_goals
        rw [← sp]
        refine ⟨_, rfl, _, _, rfl, rfl, _, rfl, ?_⟩
        by_cases c1 : 0 ≤ spotAt i z.length p m
        case neg =>
          refine iteF' (decide_eq_false c1) ⟨_, rfl, iteF ?_⟩
          refine ⟨⟨_, _, _, rfl⟩, ?_, sT⟩
          rw [← inkM_skip (spot_skip (i := i) (n := z.cps.toList.length) (by omega) (by rw [lz]; exact fun h => c1 h.1))]
          exact hlT
        refine iteT' (decide_eq_true c1) ⟨_, rfl, _, _, rfl, rfl, _, rfl, ?_⟩
        by_cases c2 : spotAt i z.length p m < (z.length : Int)
        case neg =>
          refine iteF' (decide_eq_false c2) ?_
          refine ⟨⟨_, _, _, rfl⟩, ?_, sT⟩
          rw [← inkM_skip (spot_skip (i := i) (n := z.cps.toList.length) (by omega) (by rw [lz]; exact fun h => c2 h.2))]
          exact hlT
        refine iteT' (decide_eq_true c2) ?_
        have lo : (inkM i z.cps.toList u.cps.toList p m).length = z.length := by rw [inkM_len, lz]
        refine ⟨_, rfl, _, rfl, _, rfl, l, _, spotAt i z.length p m, (spotAt i z.length p m).toNat, rfl, rfl, hlT, ?_, ⟨_, _, _, rfl⟩, ?_, ?_⟩
        · unfold ixN
          rw [List.length_map, lo, if_pos (by omega), if_pos (by omega)]
        · have := inkM_set (i := i) (zs := z.cps.toList) (us := u.cps.toList) (place := p) (m := m) (c := c) (j := (spotAt i z.length p m).toNat) hc' (by rw [lz]; omega) (by rw [lz]; exact spot_set hs hm hW c1 c2)
          rw [← this, List.map_set]
          exact upd_same
        · exact fun b o e => (upd_ne (ne_of_none e hl)).trans (sT b o e)
    · obtain ⟨⟨v6, v7, v8, rfl⟩, hl', sm⟩ := pp
      refine ⟨⟨_, rfl⟩, _, rfl, "", l, (inkS i z u p).cps.toList.map fun c => (⟨#[c]⟩ : Str), rfl, rfl, .inl (.inl (.inl ?_)), ?_, ?_⟩
      · rw [List.map_map, hl']; rfl
      · rw [sum_ch]
        show (inkS i z u p).cps.toList.length + _ * 0 ≤ 16777216
        rw [tl_len, inkS_len]
        omega
      · rw [join_ch]
        exact q _ sm
/-! ### the places of the stampings -/
def loI (i W : Nat) : Int := if i = 1 then 1 - (W : Int) else 0
def hiI (i n W : Nat) : Int := if i = 0 then (n : Int) - W else (n : Int) - 1
def spotsL (i n W : Nat) : List V := if i = 2 ∧ n < W then [] else (List.range (hiI i n W + 1 - loI i W).toNat).map fun k => V.int (loI i W + (k : Nat))
theorem inV_range (a lo : Int) (n : Nat) : inV (.int a) ((List.range n).map fun k => V.int (lo + (k : Nat))) = decide (lo ≤ a ∧ a < lo + n) := by
  unfold inV
  rw [List.any_map, Bool.eq_iff_iff, List.any_eq_true, decide_eq_true_eq]
  constructor
  · rintro ⟨k, hk, e⟩
    have hk := List.mem_range.mp hk
    have : lo + (k : Int) = a := by simpa [eqV] using e
    omega
  · intro h
    exact ⟨(a - lo).toNat, List.mem_range.mpr (by omega), by simp [eqV]; omega⟩
theorem inV_spots {i n W : Nat} (hi : i < 3) (hn : 1 ≤ n) (hW : 1 ≤ W) (a : Int) : inV (.int a) (spotsL i n W) = spotB i W n a := by
  unfold spotsL
  rw [Bool.eq_iff_iff]
  have : i = 0 ∨ i = 1 ∨ i = 2 := by omega
  rcases this with rfl | rfl | rfl
  · have e1 : loI 0 W = 0 := rfl
    have e2 : hiI 0 n W = (n : Int) - W := rfl
    have e3 : spotB 0 W n a = (decide (0 ≤ a) && decide (a ≤ (n : Int) - W)) := rfl
    rw [if_neg (by omega), inV_range, e1, e2, e3]
    simp only [Bool.and_eq_true, decide_eq_true_eq]
    omega
  · have e1 : loI 1 W = 1 - (W : Int) := rfl
    have e2 : hiI 1 n W = (n : Int) - 1 := rfl
    have e3 : spotB 1 W n a = (decide (-(W : Int) < a) && decide (a < (n : Int))) := rfl
    rw [if_neg (by omega), inV_range, e1, e2, e3]
    simp only [Bool.and_eq_true, decide_eq_true_eq]
    omega
  · have e1 : loI 2 W = 0 := rfl
    have e2 : hiI 2 n W = (n : Int) - 1 := rfl
    have e3 : spotB 2 W n a = (decide ((W : Int) ≤ n) && (decide (0 ≤ a) && decide (a < (n : Int)))) := rfl
    by_cases c : n < W
    · rw [if_pos ⟨rfl, c⟩, e3]
      simp only [Bool.and_eq_true, decide_eq_true_eq]
      constructor
      · intro h
        exact absurd (show false = true from h) (by decide)
      · intro h
        omega
    · rw [if_neg (by omega), inV_range, e1, e2, e3]
      simp only [Bool.and_eq_true, decide_eq_true_eq]
      omega
theorem spots_flat {i n W : Nat} : (spotsL i n W).all flatV = true := by
  unfold spotsL
  split
  · rfl
  · rw [List.all_map, List.all_eq_true]
    intro k _
    rfl
def spSpotsL : Sp := fun vs H Q _ => ∃ (i n W : Nat), vs = [.int (i : Nat), .int (n : Nat), .int (W : Nat)] ∧ i < 3 ∧ n ≤ 1000 ∧ W ≤ 1000 ∧ ∀ l H3, H3 l = some (.lst (spotsL i n W)) → L2.Same H H3 → Q (.ref l) H3
abbrev NSpotsL : List Str := ["kind", "cells", "width", "low", "high"]
theorem scSpotsL : FnScope NSpotsL ["kind", "cells", "width"] (defScope sSpotsL) := ⟨rfl, rfl, rfl, by decide +kernel, rfl, by decide +kernel, by decide +kernel⟩
theorem ok_spotsL {f : Addr} {fd : FuncData} (F : L2.Fun K "_law_spots" "_law_spots" sSpotsL f fd) (X : Txt K mg C fLow fText fAre fTape fNext fInks) : FnOk P w K mg base CX0 1 f fd ["kind", "cells", "width"] spSpotsL := by
  refine F.ok scSpotsL (fun vs H Q E h => ?_) (fun cdv A outer s H vs Q E hr h => ?_)
  · obtain ⟨i, n, W, rfl, _⟩ := h
    rfl
  · obtain ⟨i, n, W, rfl, hi, hn, hW, q⟩ := h
    refine ⟨_, (pss_cons (ps_if ((pw_and (pt_cmpR op_eq (pv 0) pe_int (by rfl)) (pw_and1 (pt_cmpR op_lt (pv 1) (pv 2) (by rfl)))).pt) (pss_one (ps_ret (pe_lst pa_nil))) pss_nil)
      (pss_cons (ps_asg (pe_ix ix_seq (pe_lst (pa_cons (pe_tup (pa_cons pe_int (pa_cons (pe_op op_sub (pv 1) (pv 2)) pa_nil))) (pa_cons (pe_tup (pa_cons (pe_op op_sub pe_int (pv 2)) (pa_cons (pe_op op_sub (pv 1) pe_int) pa_nil))) (pa_cons (pe_tup (pa_cons pe_int (pa_cons (pe_op op_sub (pv 1) pe_int) pa_nil))) pa_nil)))) (pv 0) fun _ _ => rfl) (pg_tup rfl (pgs_cons (pg_name (i := 3) scSpotsL.nd rfl (Or.inl rfl)) (pgs_cons (pg_name (i := 4) scSpotsL.nd rfl (Or.inl rfl)) pgs_nil))))
      (pss_one (ps_ret (pe_callTy (call_listR rfl) (by rfl) X.lst (by decide +kernel) (pa_cons (pe_callTy cr_range2 (by rfl) X.rng (by decide +kernel) (pa_cons (pv 3) (pa_cons (pe_op op_add (pv 4) pe_int) pa_nil))) pa_nil)))))), ?_⟩
    refine ⟨_, rfl, rfl, _, rfl, ?_⟩
    have e9 : loI i W + ((hiI i n W + 1 - loI i W)) = hiI i n W + 1 := by omega
    by_cases i2 : i = 2
    case' pos =>
      refine iteT' (by rw [decide_eq_true_eq, i2]; rfl) ⟨_, rfl, _, rfl, _, _, rfl, rfl, _, rfl, ?_⟩
      by_cases c : n < W
      case pos =>
        refine iteT' (decide_eq_true (by omega)) ?_
        refine ⟨by decide, fun l hl => q l _ (upd_same.trans ?_) (same_new hl)⟩
        unfold spotsL
        rw [if_pos ⟨i2, c⟩]
      refine iteF' (decide_eq_false (by omega)) ?_
      have no : ¬ (i = 2 ∧ n < W) := fun h => c h.2
    case' neg =>
      refine iteF' (by rw [decide_eq_false_iff_not]; intro z; injection z with z; omega) (iteF ?_)
      have no : ¬ (i = 2 ∧ n < W) := fun h => i2 h.1
    all_goals
      refine ⟨_, rfl, _, rfl, _, _, rfl, rfl, (by decide : 2 ≤ sizeLine), fun t1 ht1 => ?_⟩
      refine ⟨_, rfl, _, _, rfl, rfl, _, rfl, _, _, rfl, rfl, (by decide : 2 ≤ sizeLine), fun t2 ht2 => ?_⟩
      refine ⟨_, rfl, _, _, rfl, rfl, (by decide : 2 ≤ sizeLine), fun t3 ht3 => ?_⟩
      refine ⟨(by decide : 3 ≤ sizeLine), fun l hl => ?_⟩
      have s1 := same_new (o := .tup [.int 0, .int ((n : Int) - W)]) ht1
      have s2 := same_new (o := .tup [.int (1 - (W : Int)), .int ((n : Int) - 1)]) ht2
      have s3 := same_new (o := .tup [.int 0, .int ((n : Int) - 1)]) ht3
      have s4 := same_new (o := .lst [.ref t1, .ref t2, .ref t3]) hl
      have sA := s1.trans (s2.trans (s3.trans s4))
      obtain ⟨tk, hat, htk⟩ : ∃ tk, atI ([.ref t1, .ref t2, .ref t3] : List V) (i : Nat) = some (.ref tk) ∧ upd (upd (upd (upd H t1 (.tup [.int 0, .int ((n : Int) - W)])) t2 (.tup [.int (1 - (W : Int)), .int ((n : Int) - 1)])) t3 (.tup [.int 0, .int ((n : Int) - 1)])) l (.lst [.ref t1, .ref t2, .ref t3]) tk = some (.tup [.int (loI i W), .int (hiI i n W)]) := by
        have : i = 0 ∨ i = 1 ∨ i = 2 := by omega
        rcases this with rfl | rfl | rfl
        · exact ⟨t1, by simp [atI, ixN], s4 _ _ (s3 _ _ (s2 _ _ upd_same))⟩
        · exact ⟨t2, by simp [atI, ixN], s4 _ _ (s3 _ _ upd_same)⟩
        · exact ⟨t3, by simp [atI, ixN], s4 _ _ upd_same⟩
      refine ⟨_, rfl, .inl ⟨l, _, (i : Nat), .ref tk, rfl, rfl, .inl (.inl upd_same), hat, ?_⟩⟩
      refine ⟨tk, _, rfl, .inl (.inl htk), rfl, _, _, rfl, _, _, rfl, rfl, ?_⟩
      refine ⟨_, rfl, _, rfl, _, _, rfl, rfl, loI i W, hiI i n W + 1, rfl, fun p hp => ?_⟩
      have lb : -1001 < loI i W ∧ loI i W ≤ 1000 := by unfold loI; split <;> omega
      have hb : -1001 < hiI i n W ∧ hiI i n W ≤ 1000 := by unfold hiI; split <;> omega
      refine ⟨p, _, _, rfl, upd_same, by omega, by omega, by omega, by omega, by omega, fun l5 hl5 => q l5 _ (upd_same.trans ?_) (sA.trans ((same_new hp).trans (same_new hl5)))⟩
      unfold spotsL
      rw [if_neg no]
end
theorem BdAt.rebase {B : BA} {H0 H1 H : Hp} {a m : Addr} {i : Nat} {ws : List Str} {W : Nat} (h : ∀ b, H1 b = none → H0 b = none) (p : BdAt B H1 H a i m ws W) : BdAt B H0 H a i m ws W := by
  obtain ⟨dx, pc, e, n, p⟩ := p
  exact ⟨dx, pc, e, h _ n, p.base h⟩
/-- a band of the i-th kind over ws at a, all that it holds made since H0 -/
def BdO (C : Addr) (B : BA) (H0 H : Hp) (a : Addr) (i : Nat) (ws : List Str) (W : Nat) : Prop := ∃ m l dm, BdAt B H0 H a i m ws W ∧ Stp H C m l dm (ws.map V.str) ∧ H0 m = none ∧ H0 l = none
theorem BdO.keep {C : Addr} {B : BA} {H0 H H2 : Hp} {a : Addr} {i : Nat} {ws : List Str} {W : Nat} (k : NK H0 H H2) (h : BdO C B H0 H a i ws W) : BdO C B H0 H2 a i ws W := by
  obtain ⟨m, l, dm, b, st, n1, n2⟩ := h
  exact ⟨m, l, dm, b.keep k, ⟨k m _ n1 (fun _ z => by cases z) st.1, k l _ n2 (fun _ z => by cases z) st.2⟩, n1, n2⟩
theorem BdO.rebase {C : Addr} {B : BA} {H0 H1 H : Hp} {a : Addr} {i : Nat} {ws : List Str} {W : Nat} (h : ∀ b, H1 b = none → H0 b = none) (p : BdO C B H1 H a i ws W) : BdO C B H0 H a i ws W := by
  obtain ⟨m, l, dm, b, st, n1, n2⟩ := p
  exact ⟨m, l, dm, b.rebase h, st, h _ n1, h _ n2⟩
/-! ### a drawn row -/
abbrev sRow : Stmt := top 59
theorem yes_ok {σ : L2.St} {H : Hp} {R : Bool → Hp → Prop} (h : R true H) : tYes σ H R := h
def okC (c : Nat) : Bool := c == 46 || (decide (97 ≤ c) && decide (c ≤ 122))
theorem pool2_at (d : Int) (h0 : 0 ≤ d) (h4 : d < 4) : ∃ z : Str, atI [V.str "ab", V.str "abcz.", V.str "..x", V.str "."] d = some (.str z) ∧ 1 ≤ z.length ∧ z.length ≤ 26 ∧ dotsB z = true := by
  have : d = 0 ∨ d = 1 ∨ d = 2 ∨ d = 3 := by omega
  rcases this with rfl | rfl | rfl | rfl
  · exact ⟨"ab", by simp [atI, ixN], by decide +kernel, by decide +kernel, by decide +kernel⟩
  · exact ⟨"abcz.", by simp [atI, ixN], by decide +kernel, by decide +kernel, by decide +kernel⟩
  · exact ⟨"..x", by simp [atI, ixN], by decide +kernel, by decide +kernel, by decide +kernel⟩
  · exact ⟨".", by simp [atI, ixN], by decide +kernel, by decide +kernel, by decide +kernel⟩
theorem pool2_ch {z : Str} (hl : dotsB z = true) {d : Int} (h0 : 0 ≤ d) (hd : d < z.length) : ∃ c, atI z.cps.toList d = some c ∧ okC c = true := by
  have hk : d.toNat < z.cps.toList.length := by rw [tl_len]; omega
  have e : d = (d.toNat : Int) := by omega
  have z1 : atI z.cps.toList (d.toNat : Int) = some z.cps.toList[d.toNat] := atI_nat (List.getElem?_eq_getElem hk)
  rw [← e] at z1
  exact ⟨_, z1, List.all_eq_true.mp hl _ (List.getElem_mem hk)⟩
theorem dots_of {cs : List Nat} (h : ∀ c ∈ cs, okC c = true) : dotsB ⟨cs.toArray⟩ = true := by
  unfold dotsB
  rw [List.all_eq_true]
  exact h
section
variable {P : Program} {w : World} {K : PySem.W.Frag} {mg : Str → Option Value} {base : Heap} {T : List Addr} {C D fLow fText fAre fTape fNext fInks fInit cLow PLow cAre PAre pWo fWo pO gO DN : Addr} {B : BA}
def spRow : Sp := fun vs H Q _ => ∃ (t : Addr) (cells n : Nat), vs = [.ref t, .int (cells : Nat)] ∧ cells ≤ 120 ∧ Tp H t n ∧ n + 200 < 2 ^ 40 ∧ ∀ (z : Str) H', z.length = cells → dotsB z = true → Tp H' t (n + 130) → Bt t H H' → Q (.str z) H'
abbrev NRow : List Str := ["tape", "cells", "pool", "spot"]
theorem scRow : FnScope NRow ["tape", "cells"] (defScope sRow) := ⟨rfl, rfl, rfl, by decide +kernel, rfl, by decide +kernel, by decide +kernel⟩
theorem ok_row {f : Addr} {fd fdN : FuncData} (F : L2.Fun K "_law_row" "_law_row" sRow f fd) (FN : L2.Fun K "_law_next" "_law_next" sNext fNext fdN) (X : Txt K mg C fLow fText fAre fTape fNext fInks) : FnOk P w K mg base CX0 2 f fd ["tape", "cells"] spRow := by
  have N1 : FnOk P w K mg base CX0 1 fNext fdN ["tape", "many"] spNext := ok_next FN X
  have bN : Binds K fdN ["tape", "many"] [] := FN.binds fun _ _ _ _ _ _ us hl => match us, hl with | [_, _], _ => rfl
  refine F.ok scRow (fun vs H Q E h => ?_) (fun cdv A outer s H vs Q E hr h => ?_)
  · obtain ⟨t, m, n, rfl, _⟩ := h
    rfl
  · obtain ⟨t, m, n, rfl, hm, ht, hn, q⟩ := h
    refine ⟨_, pss_cons (ps_set (i := 2) scRow.nd rfl (.inr rfl) (pe_ix ix_seq (pe_lst (pa_cons pe_str (pa_cons pe_str (pa_cons pe_str (pa_cons pe_str pa_nil))))) (pe_next N1 bN hr (by rfl) X.gNext X.kNext (pa_cons (pv 0) (pa_cons pe_int pa_nil))) fun _ _ => rfl))
      (pss_one (ps_ret (pe_join pe_str (pe_lc (own := [("spot", 3)]) (g := gName 3) (tt := tYes) (by rfl) scRow.nd (pi_range1 (by rfl) X.rng (pa_cons (pv 1) pa_nil)) (blkOk_by (own := [("spot", 3)]) (N := NRow) (sc := defScope sRow) (by decide +kernel))
            (fun _ _ _ _ _ => pg_name (i := 3) scRow.nd rfl (Or.inl rfl)) (fun _ _ _ _ _ => pts_nil)
            (fun s H C cl fp => pe_ix (show IxR _ (rIx K) from ix_seq) (pv 2) (pe_next N1 bN hr (by rfl) X.gNext X.kNext (pa_cons (pv 0) (pa_cons (pe_callB call_len_str (by rfl) X.len boot_len (pa_cons (pv 2) pa_nil)) pa_nil))) fun _ _ => rfl))))), ?_⟩
    refine ⟨(by decide : 4 ≤ sizeLine), fun pl hpl => ?_⟩
    refine ⟨_, rfl, t, 4, n, rfl, ht.new hpl, by omega, by decide, by decide, fun d2 H2 d20 d24 t2 b2 => ?_⟩
    obtain ⟨z, hz, z1, z26, zl⟩ := pool2_at d2 d20 d24
    have bt2 : Bt t H H2 := (Bt.new hpl).trans b2.bt
    refine .inl ⟨pl, _, d2, .str z, rfl, rfl, .inl (.inl ((b2 pl (ht.ne hpl).symm).trans upd_same)), hz, ?_⟩
    have zsz : z.length ≤ sizeLine := Nat.le_trans z26 (by decide)
    refine ⟨⟨_, rfl⟩, _, rfl, (m : Int), rfl, by omega, by omega, fun D hD => ?_⟩
    have Dt : D ≠ t := (t2.ne hD).symm
    refine lc_range (lo := 0) (n := (m : Int).toNat) (fun j H5 => ∃ cs : List Nat, H5 D = some (.lst ((cs.map fun c => (⟨#[c]⟩ : Str)).map V.str)) ∧ cs.length = j ∧ (∀ c ∈ cs, okC c = true) ∧ Tp H5 t (n + 1 + j) ∧ Bt t H2 H5)
      ⟨[], upd_same, rfl, fun y hy => by simp at hy, t2.new hD, Bt.new hD⟩ (fun j H5 hj hp => ?_) (fun H5 hp => ?_)
    · obtain ⟨cs, hD5, hyl, hy1, t5, bt5⟩ := hp
      refine ⟨rfl, ?_⟩
      refine yes_ok ?_
      refine iteT' (b := true) rfl ?_
      refine ⟨_, rfl, _, rfl, _, rfl, z, rfl, zsz, t, z.length, n + 1 + j, rfl, t5, by omega, by omega, by omega, fun d H6 hd0 hdz t6 b6 => ?_⟩
      obtain ⟨c, hc, hone⟩ := pool2_ch zl hd0 hdz
      have e6 := (b6 D Dt).trans hD5
      refine .inr (.inr ⟨z, d, c, rfl, rfl, zsz, hc, _, e6, by rw [List.length_map, List.length_map, hyl]; exact Nat.lt_of_lt_of_le (by omega : j < 121) (by decide), cs ++ [c], ?_, by simp [hyl], fun y hy => ?_, ?_, ?_⟩)
      · rw [List.map_append, List.map_append]; exact upd_same
      · rcases List.mem_append.mp hy with h | h
        · exact hy1 y h
        · rw [List.mem_singleton.mp h]; exact hone
      · exact t6.at (upd_ne Dt.symm)
      · exact (bt5.trans b6.bt).put hD
    · obtain ⟨cs, hD5, hyl, hy1, t5, bt5⟩ := hp
      refine ⟨"", D, cs.map fun c => (⟨#[c]⟩ : Str), rfl, rfl, .inl (.inl (.inl hD5)), ?_, ?_⟩
      · rw [sum_ch]
        show cs.length + _ * 0 ≤ 16777216
        omega
      · rw [join_ch]
        refine q _ H5 ?_ (dots_of hy1) (t5.mono (by omega)) (bt2.trans bt5)
        show cs.toArray.size = m
        rw [List.size_toArray, hyl]
        omega
/-! ### a band, made by name -/
def spBandL (K : PySem.W.Frag) (T : List Addr) (C : Addr) (B : BA) : Sp := fun vs H Q _ => ∃ (i : Nat) (l : Addr) (ws : List Str) (W : Nat), vs = [.int (i : Nat), .ref l] ∧ i < 3 ∧ H l = some (.lst (ws.map V.str)) ∧ stampsV (ws.map V.str) = true ∧ Good ws W ∧ (∀ p ∈ T, TabG H p) ∧ ∀ a H3, BdO C B H H3 a i ws W → Kep T H H3 → Q (.ref a) H3
theorem scBandL : FnScope ["kind", "inks"] ["kind", "inks"] (defScope sBandL) := ⟨rfl, rfl, rfl, by decide +kernel, rfl, by decide +kernel, by decide +kernel⟩
theorem Kep.sameT {T : List Addr} {H H1 H2 : Hp} (k : Kep T H H1) (s : L2.Same H1 H2) : Kep T H H2 := ⟨fun p hp => by
  obtain ⟨ps, h1, h2⟩ := k.1 p hp
  exact ⟨ps, s _ _ h1, h2⟩, fun a o ha e => s _ _ (k.2 a o ha e)⟩
theorem ok_band {f : Addr} {fd fdO fdN : FuncData} (F : L2.Fun K "_law_band" "_law_band" sBandL f fd) (FO : L2.Fun K "of" "Stamps.of" sOf gO fdO) (FN : L2.Fun K "named" "Band.named" sNamed B.gN fdN)
    (OO : FnOk P w K mg base (L2.CX P w) 8 gO fdO ["cls", "words"] (spOf K T C D)) (NN : FnOk P w K mg base (L2.CX P w) 6 B.gN fdN ["cls", "name", "stamps"] (spNamed C B DN)) (BB : Bds K mg B) (X : Txt K mg C fLow fText fAre fTape fNext fInks) (co : ClX.CMet K C (.type "type") "of" pO gO) :
    FnOk P w K mg base CX0 9 f fd ["kind", "inks"] (spBandL K T C B) := by
  have OR : FnR P w K mg base (L2.CX P w) 8 gO (spOf K T C D) := (OO.raw (FO.binds fun _ _ _ _ _ _ us hl => match us, hl with | [_, _], _ => rfl) .nil).imp fun vs H Q E h => by rw [List.append_nil]; exact h
  have NR : FnR P w K mg base (L2.CX P w) 6 B.gN (spNamed C B DN) := (NN.raw (FN.binds fun _ _ _ _ _ _ us hl => match us, hl with | [_, _, _], _ => rfl) .nil).imp fun vs H Q E h => by rw [List.append_nil]; exact h
  have k3 := BB.k 3 (by decide)
  refine F.ok scBandL (fun vs H Q E h => ?_) (fun cdv A outer s H vs Q E hr h => ?_)
  · obtain ⟨i, l, ws, W, rfl, _⟩ := h
    rfl
  · obtain ⟨i, l, ws, W, rfl, hi, hl, sv, g, hT, q⟩ := h
    refine ⟨_, (pss_one (ps_ret (ClX.pe_cmeth (pe_glob (v := .ref (B.c 3)) (by rfl) k3.g rfl) k3.rd k3.nmd NR (hr.mono (by decide)) passL (pa_cons (pe_ix ix_seq (pe_lst (pa_cons pe_str (pa_cons pe_str (pa_cons pe_str pa_nil)))) (pv 0) fun _ _ => rfl) (pa_cons (ClX.pe_cmeth (pe_glob (v := .ref C) (by rfl) X.gC rfl) X.rd co OR hr passL (pa_cons (pv 1) pa_nil)) pa_nil))))), ?_⟩
    refine ⟨rfl, (by decide : 3 ≤ sizeLine), fun l1 hl1 => ?_⟩
    have s1 := same_new (o := .lst [.str "line", .str "window", .str "ring"]) hl1
    have k1 := Kep.new (o := .lst [.str "line", .str "window", .str "ring"]) hT hl1
    obtain ⟨hat, hlab⟩ : atI ([.str "line", .str "window", .str "ring"] : List V) (i : Nat) = some (.str (labN i)) ∧ lab (labN i) = some i := by
      have : i = 0 ∨ i = 1 ∨ i = 2 := by omega
      rcases this with rfl | rfl | rfl
      · exact ⟨by simp [atI, ixN, labN], by decide +kernel⟩
      · exact ⟨by simp [atI, ixN, labN], by decide +kernel⟩
      · exact ⟨by simp [atI, ixN, labN], by decide +kernel⟩
    have hl2 := s1 _ _ hl
    have f1 : ∀ b, upd H l1 (.lst [.str "line", .str "window", .str "ring"]) b = none → H b = none := fun b e => s1.free e
    refine ⟨_, rfl, .inl ⟨l1, _, (i : Nat), .str (labN i), rfl, rfl, .inl (.inl upd_same), hat, ?_⟩⟩
    generalize upd H l1 (.lst [.str "line", .str "window", .str "ring"]) = H1 at s1 k1 hl2 f1 ⊢
    have wd : ∀ x ∈ ws.map V.str, Wd K T H1 x := fun x hx => by
      obtain ⟨z, hz, rfl⟩ := List.mem_map.mp hx
      exact .inl ⟨z, rfl, by rw [(g.all z hz).1]; exact Nat.le_trans g.w8 (by decide)⟩
    refine ⟨rfl, _, rfl, .ref l, rfl, .inl ⟨l, ws.map V.str, rfl, hl2, k1.1, by rw [List.length_map]; have := g.n6; omega, wd, fun _ H3 m l' dx hm hl' hdx hmT hlT st k3 => ?_, fun hf => by rw [sv] at hf; cases hf⟩⟩
    refine ⟨_, labN i, m, l', dx, ws, W, rfl, st, g, fun j hj b Hb BD sb => ?_, fun hn => by rw [hlab] at hn; cases hn⟩
    obtain rfl : i = j := by rw [hlab] at hj; exact Option.some.inj hj
    have kb : Kep T H Hb := (k1.trans k3).sameT sb
    exact q b Hb ⟨m, l', dx, BD.rebase fun b e => (k1.trans k3).free hT e, ⟨sb _ _ st.1, sb _ _ st.2⟩, f1 m hm, f1 l' hl'⟩ kb
end
end Ov

set_option Elab.async false
set_option linter.all false
set_option maxRecDepth 100000
set_option maxHeartbeats 4000000
/-! isinstance of a caught error: one class, a tuple of classes; its class is told where the reading is -/
namespace Ov
open PySem PySem.Spec PyProof.Rows L2 GxR
def rIsEX (K : PySem.W.Frag) (cls : Value) (d : Option Addr) (a : Addr) : List V → Hp → VK → Prop := fun xs H Q => ∃ D, cls = .ref D ∧ d = none ∧ ExcC K D ∧
  ((∃ (c : V) (cv : Value) (b : Bool), xs = [.ref a, c] ∧ ClsV c cv ∧ PySem.W.kitOne K (.ref D) cv = some b ∧ Q (.bl b) H) ∨
   (∃ (tp : Addr) (cs : List V) (us : List Value) (b : Bool), xs = [.ref a, .ref tp] ∧ H tp = some (.tup cs) ∧ Paired ClsV cs us ∧ PySem.W.kitAny K (.ref D) us = some b ∧ Q (.bl b) H))
theorem call_isEX {X : Cx} {a : Addr} {cls : Value} {d : Option Addr} {oe : Obj} {pn : List (Addr × Obj)} (hz : Zc cls d oe) (hf : ∃ vs, oe.data = .fields vs) : CallR (X.suite a ((a, oe) :: pn)) (.builtin "isinstance") (rIsEX X.K cls d a) := by
  intro pins s σ H xs us Q I r h
  obtain ⟨D, rfl, rfl, C, h⟩ := h
  obtain ⟨hget, _⟩ := I.pin (a, oe) (List.mem_append.mpr (.inl List.mem_cons_self))
  obtain ⟨vs, hv⟩ := hf
  have J : PySem.W.InstAt s.heap a oe D none := by
    obtain ⟨oc, od, oda, osl⟩ := oe
    obtain ⟨h1, h2⟩ := hz
    dsimp only at h1 h2 hv
    subst h1 h2 hv
    exact ⟨hget, rfl, rfl, trivial⟩
  have Z : PySem.W.KitX X.K (.ref a) (.ref D) (fun h => PySem.W.InstAt h a oe D none) := PySem.W.handS_kitx_exc C.hg C.hk C.hs C.hd C.ha C.hn C.ht C.hm
  rcases h with ⟨c, cv, b, rfl, hcv, e, q⟩ | ⟨tp, cs, ts, b, rfl, hT, k, e, q⟩
  · obtain ⟨u1, u2, rfl, r1, r2⟩ := vals2 r
    obtain rfl : u1 = Value.ref a := r1
    have ec := hcv.eq r2
    subst ec
    exact PySem.W.kia_one Z I.kIn J e (fun z => nomatch z) fun tk => ⟨.bl b, H, I.kept (t' := tk) fun _ _ z => z, rfl, q⟩
  · obtain ⟨u1, u2, rfl, r1, r2⟩ := vals2 r
    obtain rfl : u1 = Value.ref a := r1
    cases (show u2 = Value.ref tp from r2)
    obtain ⟨_, its, rv, o, h1, h2, n, h3⟩ := (show ObjOk X.prog X.w H s.heap tp (.tup cs) from I.hok tp _ hT)
    have e3 := ClsV.all k rv
    subst e3
    obtain ⟨oc, od, dt, sl⟩ := o
    simp only at h2 h3
    subst h2 h3
    exact PySem.W.kia_tup Z I.kIn J h1 e (fun z => nomatch z) fun tk => ⟨.bl b, H, I.kept (t' := tk) fun _ _ z => z, rfl, q⟩
end Ov

set_option Elab.async false
set_option linter.all false
set_option maxRecDepth 100000
set_option maxHeartbeats 4000000
namespace Ov
open PySem PySem.Spec PyProof.Rows L2 GxR
abbrev sTold : Stmt := top 60
/-- what a caught error of the class E answers -/
structure ErrK (K : PySem.W.Frag) (DS DNum DTx E : Addr) : Prop where
  ex : PySem.W.exmOne K (.ref E) (.ref DS) = some true
  c : ExcC K E
  k1 : PySem.W.kitOne K (.ref E) (.ref DNum) = some false
  k3 : PySem.W.kitOne K (.ref E) (.ref DTx) = some false
  k4 : PySem.W.kitOne K (.ref E) (.type "ValueError") = some true
structure Errs5 (K : PySem.W.Frag) (mg : Str → Option Value) (DS DNum DTx DSp DSg : Addr) : Prop where
  s : mg "StampError" = some (.ref DS)
  num : mg "InvalidNumber" = some (.ref DNum)
  tx : mg "InvalidText" = some (.ref DTx)
  sp : ErrC K mg "InvalidStrip" DSp
  sg : ErrC K mg "InvalidStamping" DSg
  val : mg "ValueError" = none
  isi : mg "isinstance" = none
  p : ErrK K DS DNum DTx DSp
  g : ErrK K DS DNum DTx DSg
  pp : PySem.W.kitOne K (.ref DSp) (.ref DSp) = some true
  pg : PySem.W.kitOne K (.ref DSp) (.ref DSg) = some false
  gp : PySem.W.kitOne K (.ref DSg) (.ref DSp) = some false
  gg : PySem.W.kitOne K (.ref DSg) (.ref DSg) = some true
def calledT : Called → Str
  | .row z => z
  | .noStrip => "Strip"
  | .noStamping => "Stamping"
abbrev gT (us ws : List Value) : List Value := [us.getD 0 .none, ws.getD 2 .none, ws.getD 1 .none, ws.getD 0 .none]
abbrev gTV (us ws : List V) : List V := [us.getD 0 .non, ws.getD 2 .non, ws.getD 1 .non, ws.getD 0 .non]
def stmN : Nat → Str
  | 0 => "Line.stamped"
  | 1 => "Window.stamped"
  | _ => "Ring.stamped"
def stmS : Nat → Stmt
  | 0 => sLStm
  | 1 => sWStm
  | _ => sRStm
section
variable {P : Program} {w : World} {K : PySem.W.Frag} {mg : Str → Option Value} {base : Heap} {T : List Addr} {C D fLow fText fAre fTape fNext fInks fInit cLow PLow cAre PAre pWo fWo pO gO DN DS DNum DTx DSp DSg : Addr} {B : BA}
theorem stm_kw {i : Nat} {f : Addr} {fd : FuncData} (F : L2.Fun K "stamped" (stmN i) (stmS i) f fd) : KBn K fd ["self", "strip", "word", "place"] 1 ["place", "word", "strip"] gT gTV := by
  obtain ⟨oc, od, kV, doc, pm, an, cdv, ct, osl, rfl, lk, hcd⟩ := F.ex
  refine ⟨fun s us ws _ h1 h2 => ?_, fun r1 r2 => .cons (valsGet r1 0) (.cons (valsGet r2 2) (.cons (valsGet r2 1) (.cons (valsGet r2 0) .nil)))⟩
  match us, ws, h1, h2 with
  | [a], [b, c, d], _, _ =>
    match i with
    | 0 => exact BindsTo.of_eq rfl
    | 1 => exact BindsTo.of_eq rfl
    | n + 2 => exact BindsTo.of_eq rfl
theorem stm_b {i : Nat} {f : Addr} {fd : FuncData} (F : L2.Fun K "stamped" (stmN i) (stmS i) f fd) : Binds K fd ["self", "strip", "word", "place"] [] := by
  match i with
  | 0 => exact F.binds fun _ _ _ _ _ _ us hl => match us, hl with | [_, _, _, _], _ => rfl
  | 1 => exact F.binds fun _ _ _ _ _ _ us hl => match us, hl with | [_, _, _, _], _ => rfl
  | n + 2 => exact F.binds fun _ _ _ _ _ _ us hl => match us, hl with | [_, _, _, _], _ => rfl
def spTold (K : PySem.W.Frag) (T : List Addr) (C : Addr) (B : BA) : Sp := fun vs H Q _ => ∃ (a : Addr) (i : Nat) (H0 : Hp) (ws : List Str) (W : Nat) (x : V) (word place : Int) (b : Bool), vs = [.ref a, x, .int word, .int place, .bl b] ∧ i < 3 ∧ BdO C B H0 H a i ws W ∧ Good ws W ∧ (∀ p ∈ T, TabG H p) ∧
  ((∃ z : Str, x = .str z ∧ z.length ≤ 4000 ∧ ∀ H3, Kep T H H3 → Q (.str (calledT (stmB i ws W z word place))) H3) ∨ (∃ t, TyX K H x t ∧ PySem.W.kitOne K t (.type "str") = some false ∧ ∀ H3, Kep T H H3 → Q (.str "Strip") H3))
abbrev NTold : List Str := ["band", "row", "which", "at", "by_name", "e"]
theorem scTold : FnScope NTold ["band", "row", "which", "at", "by_name"] (defScope sTold) := ⟨rfl, rfl, rfl, by decide +kernel, rfl, by decide +kernel, by decide +kernel⟩
theorem ok_told {f : Addr} {fd : FuncData} {fds : Nat → FuncData} (F : L2.Fun K "_law_told" "_law_told" sTold f fd) (FF : ∀ i, i < 3 → L2.Fun K "stamped" (stmN i) (stmS i) (B.fs i) (fds i))
    (FS : ∀ i, i < 3 → FnOk P w K mg base (L2.CX P w) 7 (B.fs i) (fds i) ["self", "strip", "word", "place"] (spStm K T C B DSp DSg i)) (BB : Bds K mg B) (Er : Errs5 K mg DS DNum DTx DSp DSg) :
    FnOk P w K mg base CX0 8 f fd ["band", "row", "which", "at", "by_name"] (spTold K T C B) := by
  refine F.ok scTold (fun vs H Q E h => ?_) (fun cdv A outer s H vs Q E hr h => ?_)
  · obtain ⟨a, i, H0, ws, W, x, word, place, b, rfl, _⟩ := h
    rfl
  · obtain ⟨a, i, H0, ws, W, x, word, place, b, rfl, hi, bo, g, hT, kk⟩ := h
    obtain ⟨m, l, dm, bd, st, _, _⟩ := bo
    have k := BB.k i (by omega)
    obtain ⟨dx, pc, ha, _⟩ := id bd
    have FR : FnR P w K mg base (L2.CX P w) 7 (B.fs i) (spStm K T C B DSp DSg i) := ((FS i hi).raw (stm_b (FF i hi)) .nil).imp fun vs H Q E h => by rw [List.append_nil]; exact h
    refine ⟨_, (pss_one (ps_try_as (i := 5) (c := .ref DS) rfl rfl scTold.nd rfl rfl ⟨rfl, by decide, .inl Er.s⟩ takes0 (fun W pn xe tk _ => (pss_one (ps_ret (pe_ifExp (pt_val (pv 4)) (pe_methKE (pv 0) k.cls (BB.stm i hi) (FS i hi) hr (stm_kw (FF i hi)) (fun σ => passAt tk σ) (pk_cons (pv 3) (pk_cons (pv 2) (pk_cons (pv 1) pk_nil)))) (pe_methE (pv 0) k.cls (BB.stm i hi) FR hr (fun σ => passAt tk σ) (pa_cons (pv 1) (pa_cons (pv 2) (pa_cons (pv 3) pa_nil)))))))) (fun a oe cls d pn hz hf => (pss_cons (ps_if ((pw_or (pt_val (pe_callB (call_isEX hz hf) (by rfl) Er.isi boot_isinstance (pa_cons (pv 5) (pa_cons (pe_tup (pa_cons (pe_glob (v := .ref DNum) (by rfl) Er.num rfl) (pa_cons (pe_glob (v := .ref DTx) (by rfl) Er.tx rfl) pa_nil))) pa_nil)))) (pw_or1 (pt_not (pt_val (pe_callB (call_isEX hz hf) (by rfl) Er.isi boot_isinstance (pa_cons (pv 5) (pa_cons (pe_bltn (v := .ty "ValueError") (by rfl) Er.val (by decide +kernel) rfl) pa_nil))))))).pt) (pss_one (ps_ret pe_str)) pss_nil)
      (pss_cons (ps_if (pt_val (pe_callB (call_isEX hz hf) (by rfl) Er.isi boot_isinstance (pa_cons (pv 5) (pa_cons (pe_glob (v := .ref DSp) (by rfl) Er.sp.g rfl) pa_nil)))) (pss_one (ps_ret (pe_ifExp (pt_val (pe_callB (call_isEX hz hf) (by rfl) Er.isi boot_isinstance (pa_cons (pv 5) (pa_cons (pe_glob (v := .ref DSg) (by rfl) Er.sg.g rfl) pa_nil)))) pe_str pe_str))) pss_nil)
      (pss_one (ps_ret (pe_ifExp (pt_val (pe_callB (call_isEX hz hf) (by rfl) Er.isi boot_isinstance (pa_cons (pv 5) (pa_cons (pe_glob (v := .ref DSg) (by rfl) Er.sg.g rfl) pa_nil)))) pe_str pe_str)))))))), ?_⟩
    -- what the ways out of the body ask
    have sp : ∀ (E' : XK), (∀ z, x = .str z → stmB i ws W z word place = .noStrip → ∀ H2, Kep T H H2 → E' (.ref DSp) none H2) → (∀ z, x = .str z → stmB i ws W z word place = .noStamping → ∀ H2, Kep T H H2 → E' (.ref DSg) none H2) →
        ((∃ t, TyX K H x t ∧ PySem.W.kitOne K t (.type "str") = some false) → E' (.ref DSp) none H) → spStm K T C B DSp DSg i [.ref a, x, .int word, .int place] H Q E' := fun E' e1 e2 e3 => by
      refine ⟨a, m, l, dm, H0, ws, W, x, word, place, rfl, bd, st, g, hT, ?_⟩
      rcases kk with ⟨z, rfl, hz, k⟩ | ⟨t, ht, hk, k⟩
      · refine .inl ⟨z, rfl, hz, fun H2 h2 => ?_⟩
        have kk := k H2 h2
        cases hc : stmB i ws W z word place with
        | row y => rw [hc] at kk; exact kk
        | noStrip => exact e1 z rfl hc H2 h2
        | noStamping => exact e2 z rfl hc H2 h2
      · exact .inr ⟨t, ht, hk, e3 ⟨t, ht, hk⟩⟩
    have kS : ∀ H2, Kep T H H2 → ((∃ z, x = .str z ∧ stmB i ws W z word place = .noStrip) ∨ (∃ t, TyX K H x t ∧ PySem.W.kitOne K t (.type "str") = some false)) → ∀ tp, H2 tp = none → ∀ o, Q (.str "Strip") (upd H2 tp o) := fun H2 h2 hx tp htp o => by
      have kn := h2.trans (Kep.new (o := o) h2.1 htp)
      rcases kk with ⟨z, rfl, hz, k⟩ | ⟨t, ht, hk, k⟩
      · rcases hx with ⟨z', e, hc⟩ | ⟨t, ht, hk⟩
        · cases e
          have := k _ kn
          rw [hc] at this
          exact this
        · exfalso
          cases ht with
          | base b =>
            cases b
            have : PySem.W.kitOne K (.type "str") (.type "str") = some true := kit_ty (r := true) (by decide +kernel)
            rw [this] at hk
            cases hk
      · exact k _ kn
    have kG : ∀ H2, Kep T H H2 → (∃ z, x = .str z ∧ stmB i ws W z word place = .noStamping) → ∀ tp, H2 tp = none → ∀ o, Q (.str "Stamping") (upd H2 tp o) := fun H2 h2 hx tp htp o => by
      have kn := h2.trans (Kep.new (o := o) h2.1 htp)
      obtain ⟨z', rfl, hc⟩ := hx
      rcases kk with ⟨z, e, hz, k⟩ | ⟨t, ht, hk, k⟩
      · cases e
        have := k _ kn
        rw [hc] at this
        exact this
      · exfalso
        cases ht with
        | base b =>
          cases b
          have : PySem.W.kitOne K (.type "str") (.type "str") = some true := kit_ty (r := true) (by decide +kernel)
          rw [this] at hk
          cases hk
    refine ⟨_, rfl, b, rfl, ?_⟩
    cases b with
    | true =>
      refine iteT ?_
      refine ⟨_, rfl, a, dx, _, rfl, ha, rfl, _, rfl, _, rfl, _, rfl, rfl, ?_⟩
      refine sp _ (fun z e hc H2 h2 => ?_) (fun z e hc H2 h2 => ?_) (fun e => ?_)
      · refine ⟨true, Er.p.ex, fun _ a' ha => ?_, fun q => nomatch q⟩
        refine ⟨_, rfl, (by decide : 2 ≤ sizeLine), fun tp htp => ⟨DSp, rfl, rfl, Er.p.c, .inr ⟨tp, _, [.ref DNum, .ref DTx], false, rfl, upd_same, .cons (.own _) (.cons (.own _) .nil), kitAny_cons Er.p.k1 (fun _ => kitAny_cons Er.p.k3 (fun _ => kitAny_nil) (fun z => nomatch z)) (fun z => nomatch z), _, rfl, iteF ?_⟩⟩⟩
        refine ⟨_, rfl, DSp, rfl, rfl, Er.p.c, .inl ⟨.ty "ValueError", _, true, rfl, .ty _, Er.p.k4, _, rfl, iteF ?_⟩⟩
        refine ⟨_, rfl, DSp, rfl, rfl, Er.p.c, .inl ⟨.ref DSp, _, true, rfl, .own _, Er.pp, _, rfl, iteT ?_⟩⟩
        refine ⟨_, rfl, DSp, rfl, rfl, Er.p.c, .inl ⟨.ref DSg, _, false, rfl, .own _, Er.pg, _, rfl, iteF ?_⟩⟩
        exact kS H2 h2 (.inl ⟨z, e, hc⟩) tp htp _
      · refine ⟨true, Er.g.ex, fun _ a' ha => ?_, fun q => nomatch q⟩
        refine ⟨_, rfl, (by decide : 2 ≤ sizeLine), fun tp htp => ⟨DSg, rfl, rfl, Er.g.c, .inr ⟨tp, _, [.ref DNum, .ref DTx], false, rfl, upd_same, .cons (.own _) (.cons (.own _) .nil), kitAny_cons Er.g.k1 (fun _ => kitAny_cons Er.g.k3 (fun _ => kitAny_nil) (fun z => nomatch z)) (fun z => nomatch z), _, rfl, iteF ?_⟩⟩⟩
        refine ⟨_, rfl, DSg, rfl, rfl, Er.g.c, .inl ⟨.ty "ValueError", _, true, rfl, .ty _, Er.g.k4, _, rfl, iteF ?_⟩⟩
        refine ⟨_, rfl, DSg, rfl, rfl, Er.g.c, .inl ⟨.ref DSp, _, false, rfl, .own _, Er.gp, _, rfl, iteF ?_⟩⟩
        refine ⟨_, rfl, DSg, rfl, rfl, Er.g.c, .inl ⟨.ref DSg, _, true, rfl, .own _, Er.gg, _, rfl, iteT ?_⟩⟩
        exact kG H2 h2 ⟨z, e, hc⟩ tp htp _
      · refine ⟨true, Er.p.ex, fun _ a' ha => ?_, fun q => nomatch q⟩
        refine ⟨_, rfl, (by decide : 2 ≤ sizeLine), fun tp htp => ⟨DSp, rfl, rfl, Er.p.c, .inr ⟨tp, _, [.ref DNum, .ref DTx], false, rfl, upd_same, .cons (.own _) (.cons (.own _) .nil), kitAny_cons Er.p.k1 (fun _ => kitAny_cons Er.p.k3 (fun _ => kitAny_nil) (fun z => nomatch z)) (fun z => nomatch z), _, rfl, iteF ?_⟩⟩⟩
        refine ⟨_, rfl, DSp, rfl, rfl, Er.p.c, .inl ⟨.ty "ValueError", _, true, rfl, .ty _, Er.p.k4, _, rfl, iteF ?_⟩⟩
        refine ⟨_, rfl, DSp, rfl, rfl, Er.p.c, .inl ⟨.ref DSp, _, true, rfl, .own _, Er.pp, _, rfl, iteT ?_⟩⟩
        refine ⟨_, rfl, DSp, rfl, rfl, Er.p.c, .inl ⟨.ref DSg, _, false, rfl, .own _, Er.pg, _, rfl, iteF ?_⟩⟩
        exact kS H (.refl hT) (.inr e) tp htp _
    | false =>
      refine iteF ?_
      refine ⟨_, rfl, a, dx, _, rfl, ha, rfl, _, rfl, _, rfl, _, rfl, ?_⟩
      refine sp _ (fun z e hc H2 h2 => ?_) (fun z e hc H2 h2 => ?_) (fun e => ?_)
      · refine ⟨true, Er.p.ex, fun _ a' ha => ?_, fun q => nomatch q⟩
        refine ⟨_, rfl, (by decide : 2 ≤ sizeLine), fun tp htp => ⟨DSp, rfl, rfl, Er.p.c, .inr ⟨tp, _, [.ref DNum, .ref DTx], false, rfl, upd_same, .cons (.own _) (.cons (.own _) .nil), kitAny_cons Er.p.k1 (fun _ => kitAny_cons Er.p.k3 (fun _ => kitAny_nil) (fun z => nomatch z)) (fun z => nomatch z), _, rfl, iteF ?_⟩⟩⟩
        refine ⟨_, rfl, DSp, rfl, rfl, Er.p.c, .inl ⟨.ty "ValueError", _, true, rfl, .ty _, Er.p.k4, _, rfl, iteF ?_⟩⟩
        refine ⟨_, rfl, DSp, rfl, rfl, Er.p.c, .inl ⟨.ref DSp, _, true, rfl, .own _, Er.pp, _, rfl, iteT ?_⟩⟩
        refine ⟨_, rfl, DSp, rfl, rfl, Er.p.c, .inl ⟨.ref DSg, _, false, rfl, .own _, Er.pg, _, rfl, iteF ?_⟩⟩
        exact kS H2 h2 (.inl ⟨z, e, hc⟩) tp htp _
      · refine ⟨true, Er.g.ex, fun _ a' ha => ?_, fun q => nomatch q⟩
        refine ⟨_, rfl, (by decide : 2 ≤ sizeLine), fun tp htp => ⟨DSg, rfl, rfl, Er.g.c, .inr ⟨tp, _, [.ref DNum, .ref DTx], false, rfl, upd_same, .cons (.own _) (.cons (.own _) .nil), kitAny_cons Er.g.k1 (fun _ => kitAny_cons Er.g.k3 (fun _ => kitAny_nil) (fun z => nomatch z)) (fun z => nomatch z), _, rfl, iteF ?_⟩⟩⟩
        refine ⟨_, rfl, DSg, rfl, rfl, Er.g.c, .inl ⟨.ty "ValueError", _, true, rfl, .ty _, Er.g.k4, _, rfl, iteF ?_⟩⟩
        refine ⟨_, rfl, DSg, rfl, rfl, Er.g.c, .inl ⟨.ref DSp, _, false, rfl, .own _, Er.gp, _, rfl, iteF ?_⟩⟩
        refine ⟨_, rfl, DSg, rfl, rfl, Er.g.c, .inl ⟨.ref DSg, _, true, rfl, .own _, Er.gg, _, rfl, iteT ?_⟩⟩
        exact kG H2 h2 ⟨z, e, hc⟩ tp htp _
      · refine ⟨true, Er.p.ex, fun _ a' ha => ?_, fun q => nomatch q⟩
        refine ⟨_, rfl, (by decide : 2 ≤ sizeLine), fun tp htp => ⟨DSp, rfl, rfl, Er.p.c, .inr ⟨tp, _, [.ref DNum, .ref DTx], false, rfl, upd_same, .cons (.own _) (.cons (.own _) .nil), kitAny_cons Er.p.k1 (fun _ => kitAny_cons Er.p.k3 (fun _ => kitAny_nil) (fun z => nomatch z)) (fun z => nomatch z), _, rfl, iteF ?_⟩⟩⟩
        refine ⟨_, rfl, DSp, rfl, rfl, Er.p.c, .inl ⟨.ty "ValueError", _, true, rfl, .ty _, Er.p.k4, _, rfl, iteF ?_⟩⟩
        refine ⟨_, rfl, DSp, rfl, rfl, Er.p.c, .inl ⟨.ref DSp, _, true, rfl, .own _, Er.pp, _, rfl, iteT ?_⟩⟩
        refine ⟨_, rfl, DSp, rfl, rfl, Er.p.c, .inl ⟨.ref DSg, _, false, rfl, .own _, Er.pg, _, rfl, iteF ?_⟩⟩
        exact kS H (.refl hT) (.inr e) tp htp _
end
end Ov

set_option Elab.async false
set_option linter.all false
set_option maxRecDepth 100000
set_option maxHeartbeats 8000000
namespace Ov
open PySem PySem.Spec PyProof.Rows L2 GxR
abbrev sRR : Stmt := top 61
structure Top5 (K : PySem.W.Frag) (mg : Str → Option Value) (fInked fSpots fBand fRow fTold fRR fNR : Addr) : Prop where
  gInked : mg "_law_inked" = some (.ref fInked)
  kInked : PySem.W.keepIn K (.ref fInked) = true
  gSpots : mg "_law_spots" = some (.ref fSpots)
  kSpots : PySem.W.keepIn K (.ref fSpots) = true
  gBand : mg "_law_band" = some (.ref fBand)
  kBand : PySem.W.keepIn K (.ref fBand) = true
  gRow : mg "_law_row" = some (.ref fRow)
  kRow : PySem.W.keepIn K (.ref fRow) = true
  gTold : mg "_law_told" = some (.ref fTold)
  kTold : PySem.W.keepIn K (.ref fTold) = true
  gRR : mg "_law_row_right" = some (.ref fRR)
  kRR : PySem.W.keepIn K (.ref fRR) = true
  gNR : mg "_law_none_right" = some (.ref fNR)
  kNR : PySem.W.keepIn K (.ref fNR) = true
  enu : mg "enumerate" = none
  rep : mg "repr" = none
  int : mg "int" = none
theorem call_reprBl {X : Cx} : CallR X (.builtin "repr") (fun xs H Q => ∃ b, xs = [.bl b] ∧ Q (.str (if b then "True" else "False")) H) := by
  intro pins s σ H xs us Q I r h
  obtain ⟨b, rfl, q⟩ := h
  obtain ⟨u0, rfl, ru⟩ := vals1 r
  obtain rfl : u0 = Value.bool b := ru
  exact PySem.P.repr_of_bool ⟨.str (if b then "True" else "False"), H, I.tok _, ⟨_, rfl⟩, q⟩
def fitN : Nat → Str
  | 0 => "Line.fits"
  | 1 => "Window.fits"
  | _ => "Ring.fits"
def fitS : Nat → Stmt
  | 0 => sLFits
  | 1 => sWFits
  | _ => sRFits
abbrev gF (us ws : List Value) : List Value := [us.getD 0 .none, ws.getD 1 .none, ws.getD 2 .none, ws.getD 0 .none]
abbrev gFV (us ws : List V) : List V := [us.getD 0 .non, ws.getD 1 .non, ws.getD 2 .non, ws.getD 0 .non]
theorem low_asc {u : Str} (h : lowB u = true) : u.cps.all (· < 128) = true := by
  rw [← Array.all_toList, List.all_eq_true]
  intro c hc
  have := List.all_eq_true.mp h c hc
  simp only [Bool.and_eq_true, decide_eq_true_eq] at this
  simp
  omega
def goodB (i n W cells : Nat) (word place : Int) : Bool := (decide (0 ≤ word ∧ word < (n : Int)) && spotB i W cells place) && (decide (i < 2) || decide (cells < 61))
theorem good_fits {i n W cells : Nat} {word place : Int} (hi : i < 3) (h1 : 1 ≤ cells) (h2 : cells ≤ 120) : fitsB i n W cells word place = goodB i n W cells word place := by
  unfold fitsB knowsB goodB
  have c : ((cellsN i : Nat) : Int) = if i = 2 then 60 else 120 := by unfold cellsN; split <;> rfl
  rw [c, Bool.eq_iff_iff]
  simp only [Bool.and_eq_true, Bool.or_eq_true, decide_eq_true_eq]
  by_cases i2 : i = 2
  · rw [if_pos i2]
    constructor
    · rintro ⟨a, b⟩; exact ⟨⟨by omega, b⟩, by omega⟩
    · rintro ⟨⟨a, b⟩, e⟩; exact ⟨by omega, b⟩
  · rw [if_neg i2]
    constructor
    · rintro ⟨a, b⟩; exact ⟨⟨by omega, b⟩, by omega⟩
    · rintro ⟨⟨a, b⟩, e⟩; exact ⟨by omega, b⟩
def dueS (i : Nat) (ws : List Str) (W : Nat) (z : Str) (word place : Int) : Str := if goodB i ws.length W z.length word place = true then inkS i z (ws.getD word.toNat Str.empty) place else if i = 2 ∧ 60 < z.length then "Strip" else "Stamping"
theorem due_told {i : Nat} {ws : List Str} {W : Nat} {z : Str} {word place : Int} (hi : i < 3) (h1 : 1 ≤ z.length) (h2 : z.length ≤ 120) (hd : dotsB z = true) : calledT (stmB i ws W z word place) = dueS i ws W z word place := by
  unfold stmB dueS
  rw [good_fits hi h1 h2]
  have c : ((cellsN i : Nat) : Int) = if i = 2 then 60 else 120 := by unfold cellsN; split <;> rfl
  have s : stripB z (cellsN i : Nat) = decide ((z.length : Int) ≤ (cellsN i : Nat)) := by
    unfold stripB
    rw [hd, Bool.and_true, Bool.eq_iff_iff]
    simp only [Bool.and_eq_true, decide_eq_true_eq]
    omega
  rw [s, c]
  by_cases i2 : i = 2 ∧ 60 < z.length
  · obtain ⟨a, b⟩ := i2
    rw [if_pos a, if_pos (by rw [decide_eq_false_iff_not]; omega)]
    have : goodB i ws.length W z.length word place = false := by
      unfold goodB
      rw [Bool.eq_false_iff]
      intro h
      simp only [Bool.and_eq_true, Bool.or_eq_true, decide_eq_true_eq] at h
      omega
    rw [this, if_neg (by decide), if_pos ⟨a, b⟩]
    rfl
  · rw [if_neg (by rw [decide_eq_false_iff_not]; split <;> omega), if_neg i2]
    split <;> rfl
section
variable {P : Program} {w : World} {K : PySem.W.Frag} {mg : Str → Option Value} {base : Heap} {T : List Addr} {C D fLow fText fAre fTape fNext fInks fInit cLow PLow cAre PAre pWo fWo pO gO DN DS DNum DTx DSp DSg fInked fSpots fBand fRow fTold fRR fNR : Addr} {B : BA}
theorem fits_kw {i : Nat} {f : Addr} {fd : FuncData} (F : L2.Fun K "fits" (fitN i) (fitS i) f fd) : KBn K fd ["self", "size", "word", "place"] 1 ["place", "size", "word"] gF gFV := by
  obtain ⟨oc, od, kV, doc, pm, an, cdv, ct, osl, rfl, lk, hcd⟩ := F.ex
  refine ⟨fun s us ws _ h1 h2 => ?_, fun r1 r2 => .cons (valsGet r1 0) (.cons (valsGet r2 1) (.cons (valsGet r2 2) (.cons (valsGet r2 0) .nil)))⟩
  match us, ws, h1, h2 with
  | [a], [b, c, d], _, _ =>
    match i with
    | 0 => exact BindsTo.of_eq rfl
    | 1 => exact BindsTo.of_eq rfl
    | n + 2 => exact BindsTo.of_eq rfl
theorem fits_b {i : Nat} {f : Addr} {fd : FuncData} (F : L2.Fun K "fits" (fitN i) (fitS i) f fd) : Binds K fd ["self", "size", "word", "place"] [] := by
  match i with
  | 0 => exact F.binds fun _ _ _ _ _ _ us hl => match us, hl with | [_, _, _, _], _ => rfl
  | 1 => exact F.binds fun _ _ _ _ _ _ us hl => match us, hl with | [_, _, _, _], _ => rfl
  | n + 2 => exact F.binds fun _ _ _ _ _ _ us hl => match us, hl with | [_, _, _, _], _ => rfl
def spRR (K : PySem.W.Frag) (T : List Addr) (C : Addr) (B : BA) : Sp := fun vs H Q _ => ∃ (t cs li lb : Addr) (n : Nat) (H0 : Hp) (ab : Nat → Addr) (ws : List Str) (W : Nat) (z : Str), vs = [.ref t, .ref cs, .str z] ∧ Tp H t n ∧ n + 1000 < 2 ^ 40 ∧ H cs = some (.tup [.ref li, .ref lb]) ∧ H li = some (.lst (ws.map V.str)) ∧ H lb = some (.lst [.ref (ab 0), .ref (ab 1), .ref (ab 2)]) ∧
  li ≠ t ∧ lb ≠ t ∧ H0 t ≠ none ∧ (∀ i, i < 3 → BdO C B H0 H (ab i) i ws W) ∧ Good ws W ∧ dotsB z = true ∧ 1 ≤ z.length ∧ z.length ≤ 120 ∧ (∀ p ∈ T, TabG H p) ∧ ∀ H3, Tp H3 t (n + 500) → KepX T t H H3 → Q (.bl true) H3
abbrev NRR : List Str := ["tape", "case", "row", "inks", "bands_here", "width", "cells", "spots", "at", "kind", "by_name", "which", "is_good", "band", "told", "due"]
theorem scRR : FnScope NRR ["tape", "case", "row"] (defScope sRR) := ⟨rfl, rfl, rfl, by decide +kernel, rfl, by decide +kernel, by decide +kernel⟩
abbrev SG (t cs : Addr) (z : Str) (li lb : Addr) (W n : Nat) (s2 : Addr) (v8 v9 v10 v11 v12 v13 v14 v15 : Option V) : L2.St := [some (.ref t), some (.ref cs), some (.str z), some (.ref li), some (.ref lb), some (.int (W : Nat)), some (.int (n : Nat)), some (.ref s2), v8, v9, v10, v11, v12, v13, v14, v15]
theorem ok_rr {f : Addr} {fd fdN fdS fdI fdT : FuncData} {fdf : Nat → FuncData} (F : L2.Fun K "_law_row_right" "_law_row_right" sRR f fd) (FN : L2.Fun K "_law_next" "_law_next" sNext fNext fdN) (FSp : L2.Fun K "_law_spots" "_law_spots" sSpotsL fSpots fdS) (FI : L2.Fun K "_law_inked" "_law_inked" sInked fInked fdI) (FT : L2.Fun K "_law_told" "_law_told" sTold fTold fdT)
    (TL : FnOk P w K mg base CX0 8 fTold fdT ["band", "row", "which", "at", "by_name"] (spTold K T C B)) (FFit : ∀ i, i < 3 → L2.Fun K "fits" (fitN i) (fitS i) (B.ff i) (fdf i)) (FFO : ∀ i, i < 3 → FnOk P w K mg base CX0 4 (B.ff i) (fdf i) ["self", "size", "word", "place"] (spFits C B i))
    (X : Txt K mg C fLow fText fAre fTape fNext fInks) (X5 : Top5 K mg fInked fSpots fBand fRow fTold fRR fNR) (BB : Bds K mg B) : FnOk P w K mg base CX0 9 f fd ["tape", "case", "row"] (spRR K T C B) := by
  have N1 : FnOk P w K mg base CX0 1 fNext fdN ["tape", "many"] spNext := ok_next FN X
  have bN : Binds K fdN ["tape", "many"] [] := FN.binds fun _ _ _ _ _ _ us hl => match us, hl with | [_, _], _ => rfl
  have SP : FnOk P w K mg base CX0 1 fSpots fdS ["kind", "cells", "width"] spSpotsL := ok_spotsL FSp X
  have bSP : Binds K fdS ["kind", "cells", "width"] [] := FSp.binds fun _ _ _ _ _ _ us hl => match us, hl with | [_, _, _], _ => rfl
  have IK : FnOk P w K mg base CX0 1 fInked fdI ["kind", "row", "ink", "at"] spInked := ok_inked FI X X5.enu
  have bIK : Binds K fdI ["kind", "row", "ink", "at"] [] := FI.binds fun _ _ _ _ _ _ us hl => match us, hl with | [_, _, _, _], _ => rfl
  have bTL : Binds K fdT ["band", "row", "which", "at", "by_name"] [] := FT.binds fun _ _ _ _ _ _ us hl => match us, hl with | [_, _, _, _, _], _ => rfl
  have FFR : ∀ i, i < 3 → FnR P w K mg base CX0 4 (B.ff i) (spFits C B i) := fun i hi => ((FFO i hi).raw (fits_b (FFit i hi)) .nil).imp fun vs H Q E h => by rw [List.append_nil]; exact h
  refine F.ok scRR (fun vs H Q E h => ?_) (fun cdv A outer s H vs Q E hr h => ?_)
  · obtain ⟨t, cs, li, lb, n, H0, ab, ws, W, z, rfl, _⟩ := h
    rfl
  · obtain ⟨t, cs, li, lb, n, H0, ab, ws, W, z, rfl, tp, hn, hcs, hli, hlb, lit, lbt, h0t, hbd, g, zd, z1, z120, hT, q⟩ := h
    have nt : t ∉ T := tp.nT hT
    have w1 := g.w1
    have w8 := g.w8
    have hz : z.length ≤ sizeLine := Nat.le_trans z120 (by decide)
    obtain ⟨u0, hu0, rfl⟩ : ∃ u0 : Str, atI (ws.map V.str) 0 = some (.str u0) ∧ u0.length = W := ⟨_, at_0 g.n1, g.at g.n1⟩
    refine ⟨_, (pss_cons (ps_asg (pv 1) (pg_tup rfl (pgs_cons (pg_name (i := 3) scRR.nd rfl (Or.inl rfl)) (pgs_cons (pg_name (i := 4) scRR.nd rfl (Or.inl rfl)) pgs_nil))))
      (pss_cons (ps_par (i := 5) (j := 6) rfl scRR.nd rfl rfl (by decide) rfl rfl (pa_cons (pe_callB call_len_str (by rfl) X.len boot_len (pa_cons (pe_ix ix_seq (pv 3) pe_int fun _ _ => rfl) pa_nil)) (pa_cons (pe_callB call_len_str (by rfl) X.len boot_len (pa_cons (pv 2) pa_nil)) pa_nil)) (by rfl))
      (C8.pss_cut (ps_set (i := 7) scRR.nd rfl (.inl rfl) (pe_ifExp (pt_cmpR op_lt (pv 6) pe_int (by rfl)) (pe_callTy (call_listR rfl) (by rfl) X.lst (by decide +kernel) (pa_cons (pe_callTy cr_range2 (by rfl) X.rng (by decide +kernel) (pa_cons (pe_op op_sub (pe_op op_sub pe_int (pv 5)) pe_int) (pa_cons (pe_op op_add (pv 6) pe_int) pa_nil))) pa_nil)) (pe_lst (pa_cons pe_int (pa_cons pe_int (pa_cons (pe_op op_sub (pv 6) (pv 5)) (pa_cons (pe_op op_add (pe_op op_sub (pv 6) (pv 5)) pe_int) pa_nil)))))))
      (pss_cons (ps_set (i := 7) scRR.nd rfl (.inl rfl) (pe_op op_cat (pv 7) (pe_lst (pa_cons (pe_un un_neg pe_int) (pa_cons (pe_op op_sub pe_int (pv 5)) (pa_cons (pe_op op_sub pe_int (pv 5)) (pa_cons (pe_op op_sub (pv 6) pe_int) (pa_cons (pv 6) (pa_cons (pe_next N1 bN (hr.mono (by decide)) (by rfl) X.gNext X.kNext (pa_cons (pv 0) (pa_cons (pv 6) pa_nil))) (pa_cons (pe_op op_pow pe_int pe_int) (pa_cons (pe_op op_sub pe_int (pe_op op_pow pe_int pe_int)) pa_nil)))))))))))
      (pss_cons (ps_for PassesOwn.never rfl (pi_list (pv 7)) (pg_name (i := 8) scRR.nd rfl (Or.inl rfl)) (pss_cons (ps_par (i := 9) (j := 10) rfl scRR.nd rfl rfl (by decide) rfl rfl (pa_cons (pe_next N1 bN (hr.mono (by decide)) (by rfl) X.gNext X.kNext (pa_cons (pv 0) (pa_cons pe_int pa_nil))) (pa_cons (pe_cmpR op_eq (pe_next N1 bN (hr.mono (by decide)) (by rfl) X.gNext X.kNext (pa_cons (pv 0) (pa_cons pe_int pa_nil))) pe_int (by rfl)) pa_nil)) (by rfl))
      (pss_cons (ps_set (i := 11) scRR.nd rfl (.inl rfl) (pe_next N1 bN (hr.mono (by decide)) (by rfl) X.gNext X.kNext (pa_cons (pv 0) (pa_cons (pe_callB call_len_seq (by rfl) X.len boot_len (pa_cons (pv 3) pa_nil)) pa_nil))))
      (C8.pss_cut (ps_if (pt_cmpR op_eq (pe_next N1 bN (hr.mono (by decide)) (by rfl) X.gNext X.kNext (pa_cons (pv 0) (pa_cons pe_int pa_nil))) pe_int (by rfl)) (pss_one (ps_set (i := 11) scRR.nd rfl (.inl rfl) (pe_ix ix_seq (pe_lst (pa_cons (pe_un un_neg pe_int) (pa_cons (pe_callB call_len_seq (by rfl) X.len boot_len (pa_cons (pv 3) pa_nil)) (pa_cons (pe_op op_sub pe_int (pe_op op_pow pe_int pe_int)) pa_nil)))) (pe_next N1 bN (hr.mono (by decide)) (by rfl) X.gNext X.kNext (pa_cons (pv 0) (pa_cons pe_int pa_nil))) fun _ _ => rfl))) pss_nil)
      (C8.pss_cut (ps_set (i := 12) scRR.nd rfl (.inl rfl) (pe_and (pe_chain op_le op_lt pe_int (pv 11) (pe_callB call_len_seq (by rfl) X.len boot_len (pa_cons (pv 3) pa_nil))) (pe_one (pe_cmpR op_in_seq (pv 8) (pe_call SP (hr.mono (by decide)) (by rfl) X5.gSpots X5.kSpots bSP .nil L2.pass0 (pa_cons (pv 9) (pa_cons (pv 6) (pa_cons (pv 5) pa_nil)))) (by rfl)))))
      (C8.pss_cut (ps_set (i := 12) scRR.nd rfl (.inl rfl) (pe_and (pv 12) (pe_one (pe_or (pe_cmpR op_lt (pv 9) pe_int (by rfl)) (pe_one (pe_cmpR op_lt (pv 6) pe_int (by rfl)))))))
      (pss_cons (ps_set (i := 13) scRR.nd rfl (.inl rfl) (pe_ix ix_seq (pv 4) (pv 9) fun _ _ => rfl))
      (pss_cons (ps_set (i := 14) scRR.nd rfl (.inl rfl) (pe_methF (n := 3) (c := B.c) (sp := spFits C B) (pv 13) (fun i hi => (BB.k i (by omega)).cls) BB.fits FFR (hr.mono (by decide)) (pass0A (fun _ => E0)) (pa_cons (pv 6) (pa_cons (pv 11) (pa_cons (pv 8) pa_nil)))))
      (C8.pss_cut (ps_if (pt_val (pv 10)) (pss_one (ps_set (i := 14) scRR.nd rfl (.inl rfl) (pe_methKF (n := 3) (c := B.c) (sp := spFits C B) (pv 13) (fun i hi => (BB.k i (by omega)).cls) BB.fits FFO (hr.mono (by decide)) (fun i hi => fits_kw (FFit i hi)) (pass0A (fun _ => E0)) (pk_cons (pv 8) (pk_cons (pv 6) (pk_cons (pv 11) pk_nil)))))) pss_nil)
      (pss_cons (ps_if (pt_cmpR op_ne (pe_callB call_reprBl (by rfl) X5.rep (by decide +kernel) (pa_cons (pv 14) pa_nil)) (pe_callB call_reprBl (by rfl) X5.rep (by decide +kernel) (pa_cons (pv 12) pa_nil)) (by rfl)) (pss_one (ps_ret pe_bl)) pss_nil)
      (pss_cons (ps_set (i := 15) scRR.nd rfl (.inl rfl) pe_str)
      (C8.pss_cut (ps_if ((pw_and (pt_cmpR op_eq (pv 9) pe_int (by rfl)) (pw_and1 (pt_cmpR op_gt (pv 6) pe_int (by rfl)))).pt) (pss_one (ps_set (i := 15) scRR.nd rfl (.inl rfl) pe_str)) pss_nil)
      (C8.pss_cut (ps_if (pt_val (pv 12)) (pss_one (ps_set (i := 15) scRR.nd rfl (.inl rfl) (pe_call IK (hr.mono (by decide)) (by rfl) X5.gInked X5.kInked bIK .nil L2.pass0 (pa_cons (pv 9) (pa_cons (pv 2) (pa_cons (pe_ix ix_seq (pv 3) (pv 11) fun _ _ => rfl) (pa_cons (pv 8) pa_nil))))))) pss_nil)
      (pss_one (ps_if (pt_cmpR op_ne (pe_call TL (hr.mono (by decide)) (by rfl) X5.gTold X5.kTold bTL .nil L2.pass0 (pa_cons (pv 13) (pa_cons (pv 2) (pa_cons (pv 11) (pa_cons (pv 8) (pa_cons (pe_not (pv 10)) pa_nil)))))) (pv 15) (by rfl)) (pss_one (ps_ret pe_bl)) pss_nil)))))))))))))))
      (pss_one (ps_ret pe_bl))))))), ?_⟩
    refine ⟨_, rfl, cs, _, rfl, .inl (.inl hcs), rfl, _, _, rfl, _, _, rfl, rfl, ?_⟩
    refine ⟨_, rfl, .inl ⟨li, _, 0, .str u0, rfl, rfl, .inl (.inl hli), hu0, u0, rfl, Nat.le_trans w8 (by decide), _, rfl, z, rfl, hz, ?_⟩⟩
    refine ⟨_, _, rfl, ?_⟩
    refine ⟨fun σ' Hm => ∃ (sm : Addr) (is : List Int), σ' = [some (.ref t), some (.ref cs), some (.str z), some (.ref li), some (.ref lb), some (.int (u0.length : Nat)), some (.int (z.length : Nat)), some (.ref sm), none, none, none, none, none, none, none, none] ∧ Hm sm = some (.lst (is.map V.int)) ∧ is.length ≤ 30 ∧ sm ≠ t ∧ KepX T t H Hm ∧ Tp Hm t n, ?_, ?_⟩
    · refine ⟨_, rfl, _, _, rfl, rfl, _, rfl, ite2 (fun c10 => ?_) (fun _ => ?_)⟩
      · have c10 : (z.length : Int) < 10 := by simpa using c10
        refine ⟨_, rfl, _, _, rfl, rfl, _, _, rfl, rfl, _, rfl, _, _, rfl, rfl, _, _, rfl, fun rg hrg => ?_⟩
        refine ⟨rg, _, _, rfl, upd_same, by omega, by omega, by omega, by omega, by omega, fun sm hsm => ?_⟩
        refine ⟨sm, (List.range ((z.length : Int) + 2 - (0 - (u0.length : Int) - 1)).toNat).map fun i => (0 - (u0.length : Int) - 1 + (i : Nat) : Int), rfl, by rw [List.map_map]; exact upd_same, by rw [List.length_map, List.length_range]; omega, ((tp.new hrg).ne hsm).symm, ((KepX.refl hT).new hrg).new hsm, (tp.new hrg).new hsm⟩
      · refine ⟨_, rfl, _, rfl, _, _, rfl, rfl, _, rfl, _, rfl, _, _, rfl, rfl, _, _, rfl, rfl, (by decide : 4 ≤ sizeLine), fun sm hsm => ?_⟩
        exact ⟨sm, [0, 1, (z.length : Int) - u0.length, (z.length : Int) - u0.length + 1], rfl, upd_same, Nat.le_of_ble_eq_true rfl, (tp.ne hsm).symm, (KepX.refl hT).new hsm, tp.new hsm⟩
    rintro σ' Hm ⟨sm, is, rfl, hsm, his, smt, xm, tpm⟩
    refine ⟨_, rfl, _, rfl, _, rfl, _, _, rfl, rfl, _, rfl, _, _, rfl, rfl, _, rfl, _, _, rfl, rfl, _, rfl, _, rfl, _, rfl, t, (z.length : Int), _, rfl, tpm, by omega, by omega, by omega, fun d2 Hd d20 d2c tpd butd => ?_⟩
    refine ⟨_, _, rfl, rfl, ⟨by decide, by decide, by decide⟩, _, _, rfl, rfl, ⟨by decide, by decide, by decide⟩, _, _, rfl, rfl, (by decide : 8 ≤ sizeLine), fun l8 hl8 => ?_⟩
    have xd : KepX T t H Hd := butd.bt.kxt xm nt
    have hsmd : Hd sm = some (.lst (is.map V.int)) := (butd sm smt).trans hsm
    refine ⟨sm, l8, _, _, rfl, rfl, (upd_ne (ne_of_none hsmd hl8)).trans hsmd, upd_same, ?_, fun s2 hs2 => ?_⟩
    · rw [List.length_map]
      show is.length + 8 ≤ sizeLine
      rw [sizeLine_eq]; omega
    generalize hHs : upd (upd Hd l8 _) s2 _ = Hs
    have xs : KepX T t H Hs := by rw [← hHs]; exact (xd.new hl8).new hs2
    have tps : Tp Hs t (n + 1) := by rw [← hHs]; exact (tpd.new hl8).new hs2
    have s2t : s2 ≠ t := ((tpd.new hl8).ne hs2).symm
    obtain ⟨is2, hs2v, is2l⟩ : ∃ is2 : List Int, Hs s2 = some (.lst (is2.map V.int)) ∧ is2.length ≤ 38 := by
      refine ⟨is ++ [-1, 0 - (u0.length : Int), 1 - (u0.length : Int), (z.length : Int) - 1, (z.length : Int), d2, 10 ^ Int.toNat 59, 0 - 10 ^ Int.toNat 59], ?_, by rw [List.length_append]; show is.length + 8 ≤ 38; omega⟩
      rw [← hHs, List.map_append]
      exact upd_same
    clear hHs
    have hTs := xs.1
    have fS : ∀ Hx, KepX T t Hs Hx → Hx s2 = some (.lst (is2.map V.int)) := fun Hx x => x.at hTs s2t hs2v fun _ z => by cases z
    have hliS := xs.at hT lit hli fun _ z => by cases z
    have hlbS := xs.at hT lbt hlb fun _ z => by cases z
    have fL : ∀ Hx, KepX T t Hs Hx → Hx li = some (.lst (ws.map V.str)) := fun Hx x => x.at hTs lit hliS fun _ z => by cases z
    have fB : ∀ Hx, KepX T t Hs Hx → Hx lb = some (.lst [.ref (ab 0), .ref (ab 1), .ref (ab 2)]) := fun Hx x => x.at hTs lbt hlbS fun _ z => by cases z
    have fO : ∀ Hx, KepX T t Hs Hx → ∀ i, i < 3 → BdO C B H0 Hx (ab i) i ws u0.length := fun Hx x i hi => (hbd i hi).keep fun b o nb nt' e => (xs.trans x).at hT (fun z => h0t (z ▸ nb)) e nt'
    have w6 := g.n6
    have wn := g.n1
    refine ⟨_, rfl, s2, rfl, ⟨_, .inl (.inl (fS _ (.refl hTs)))⟩, for_list (xs := is2.map V.int) (fun j σ Hx => (∃ v8 v9 v10 v11 v12 v13 v14 v15, σ = SG t cs z li lb u0.length z.length s2 v8 v9 v10 v11 v12 v13 v14 v15) ∧ KepX T t Hs Hx ∧ Tp Hx t (n + 1 + 5 * j))
      ⟨⟨_, _, _, _, _, _, _, _, rfl⟩, .refl hTs, tps⟩ (fun j σ Hx _ p => .inl (.inl (fS Hx p.2.1))) (fun j x σ Hx hj p => ?_) (fun σ Hx p => ?_)⟩
    · obtain ⟨⟨v8, v9, v10, v11, v12, v13, v14, v15, rfl⟩, x7, tp7⟩ := p
      have j38 : j < 38 := by
        have := (List.getElem?_eq_some_iff.mp hj).1
        rw [List.length_map] at this
        omega
      obtain ⟨v, rfl⟩ : ∃ v : Int, x = .int v := by
        obtain ⟨v, _, e⟩ := List.mem_map.mp (List.mem_of_getElem? hj)
        exact ⟨v, e.symm⟩
      refine ⟨_, rfl, t, 3, _, rfl, tp7, by omega, by decide, by decide, fun kd Hk kd0 kd3 tpk butk => ⟨_, rfl, t, 2, _, rfl, tpk, by omega, by decide, by decide, fun db Hb db0 db2 tpb butb => ⟨rfl, _, _, rfl, ?_⟩⟩⟩
      have xb : KepX T t Hs Hb := (x7.trans (butk.bt.kx x7.1 nt)).trans (butb.bt.kx (x7.trans (butk.bt.kx x7.1 nt)).1 nt)
      obtain ⟨kn, rfl⟩ : ∃ kn : Nat, kd = (kn : Int) := ⟨kd.toNat, by omega⟩
      have k3 : kn < 3 := by
        have : (kn : Int) < 3 := kd3
        omega
      refine ⟨_, rfl, _, rfl, li, _, rfl, .inl (.inl (.inl (fL Hb xb))), t, ((ws.map V.str).length : Nat), _, rfl, tpb, by omega, by rw [List.length_map]; omega, by rw [List.length_map]; omega, fun wh0 Hw wh00 whn tpw butw => ?_⟩
      have xw := xb.trans (butw.bt.kx xb.1 nt)
      refine ⟨fun σ' Hm => ∃ wh : Int, σ' = SG t cs z li lb u0.length z.length s2 (some (.int v)) (some (.int (kn : Nat))) (some (.bl (decide (V.int db = V.int 0)))) (some (.int wh)) v12 v13 v14 v15 ∧ KepX T t Hs Hm ∧ Tp Hm t (n + 1 + 5 * (j + 1)), ?_, ?_⟩
      · refine ⟨_, rfl, t, 4, _, rfl, tpw, by omega, by decide, by decide, fun dt Ht dt0 dt4 tpt butt => ⟨rfl, _, rfl, ite2 (fun _ => ?_) (fun _ => ?_)⟩⟩
        · have xt := xw.trans (butt.bt.kx xw.1 nt)
          refine ⟨_, rfl, _, rfl, li, _, rfl, .inl (.inl (.inl (fL Ht xt))), _, _, rfl, rfl, ⟨by decide, by decide, by decide⟩, _, _, rfl, rfl, (by decide : 3 ≤ sizeLine), fun l3 hl3 => ?_⟩
          have tp3 := tpt.new (o := .lst [.int (-1), .int ((ws.map V.str).length : Nat), .int (0 - 10 ^ Int.toNat 59)]) hl3
          have x3 := xt.new (o := .lst [.int (-1), .int ((ws.map V.str).length : Nat), .int (0 - 10 ^ Int.toNat 59)]) hl3
          refine ⟨_, rfl, t, 3, _, rfl, tp3, by omega, by decide, by decide, fun dw Hv dw0 dw3 tpv butv => ?_⟩
          have xv := x3.trans (butv.bt.kx x3.1 nt)
          obtain ⟨wv, hwv⟩ : ∃ wv : Int, atI ([.int (-1), .int ((ws.map V.str).length : Nat), .int (0 - 10 ^ Int.toNat 59)] : List V) dw = some (.int wv) := by
            have : dw = 0 ∨ dw = 1 ∨ dw = 2 := by omega
            rcases this with rfl | rfl | rfl
            · exact ⟨_, rfl⟩
            · exact ⟨_, rfl⟩
            · exact ⟨_, rfl⟩
          refine .inl ⟨l3, _, dw, .int wv, rfl, rfl, .inl (.inl ((butv l3 ((tpt.ne hl3).symm)).trans upd_same)), hwv, ?_⟩
          exact ⟨wv, rfl, xv, tpv.mono (by omega)⟩
        · exact ⟨wh0, rfl, xw.trans (butt.bt.kx xw.1 nt), tpt.mono (by omega)⟩
      rintro σ' Hm ⟨wh, rfl, xm2, tpm2⟩
      generalize hbn : decide (V.int db = V.int 0) = bn
      have lws : (ws.map V.str).length = ws.length := List.length_map ..
      refine ⟨fun σ' Hn => σ' = SG t cs z li lb u0.length z.length s2 (some (.int v)) (some (.int (kn : Nat))) (some (.bl bn)) (some (.int wh)) (some (.bl (decide (0 ≤ wh ∧ wh < (ws.length : Int)) && spotB kn u0.length z.length v))) v13 v14 v15 ∧ KepX T t Hs Hn ∧ Tp Hn t (n + 1 + 5 * (j + 1)), ?_, ?_⟩
      · refine ⟨_, rfl, _, _, rfl, rfl, _, rfl, ?_⟩
        by_cases c1 : 0 ≤ wh
        case neg =>
          refine iteF' (decide_eq_false c1) ⟨_, rfl, iteF ?_⟩
          rw [show decide (0 ≤ wh ∧ wh < (ws.length : Int)) = false from decide_eq_false fun h => c1 h.1, Bool.false_and]
          exact ⟨rfl, xm2, tpm2⟩
        refine iteT' (decide_eq_true c1) ⟨_, rfl, li, _, rfl, .inl (.inl (.inl (fL Hm xm2))), _, _, rfl, rfl, _, rfl, ?_⟩
        by_cases c2 : wh < ((ws.map V.str).length : Nat)
        case neg =>
          refine iteF' (decide_eq_false c2) ?_
          rw [show decide (0 ≤ wh ∧ wh < (ws.length : Int)) = false from decide_eq_false fun h => c2 (by rw [lws]; exact h.2), Bool.false_and]
          exact ⟨rfl, xm2, tpm2⟩
        rw [show decide (0 ≤ wh ∧ wh < (ws.length : Int)) = true from decide_eq_true ⟨c1, by rw [← lws]; exact c2⟩, Bool.true_and]
        refine iteT' (decide_eq_true c2) ⟨_, rfl, _, rfl, _, rfl, _, rfl, kn, z.length, u0.length, rfl, k3, by omega, by omega, fun lsp Hq hls sq => ?_⟩
        have kq : Kep T Hm Hq := (Kep.refl xm2.1).sameT sq
        refine ⟨lsp, _, rfl, .inl (.inl (.inl hls)), rfl, spots_flat, ?_⟩
        rw [← inV_spots k3 z1 w1 v]
        exact ⟨rfl, xm2.trans kq.kx, tpm2.kx xm2.1 kq⟩
      rintro σ' Hn ⟨rfl, xn, tpn⟩
      generalize hg1 : (decide (0 ≤ wh ∧ wh < (ws.length : Int)) && spotB kn u0.length z.length v) = g1
      refine ⟨fun σ' Hn => σ' = SG t cs z li lb u0.length z.length s2 (some (.int v)) (some (.int (kn : Nat))) (some (.bl bn)) (some (.int wh)) (some (.bl (goodB kn ws.length u0.length z.length wh v))) v13 v14 v15 ∧ KepX T t Hs Hn ∧ Tp Hn t (n + 1 + 5 * (j + 1)), ?_, ?_⟩
      · have eg : goodB kn ws.length u0.length z.length wh v = (g1 && (decide (kn < 2) || decide (z.length < 61))) := by rw [← hg1]; rfl
        rw [eg]
        refine ⟨_, rfl, g1, rfl, ?_⟩
        cases g1 with
        | false => exact iteF ⟨rfl, xn, tpn⟩
        | true =>
          refine iteT ⟨_, rfl, _, _, rfl, rfl, _, rfl, ?_⟩
          by_cases c1 : kn < 2
          · refine iteT' (decide_eq_true (by omega)) ?_
            rw [decide_eq_true c1]
            exact ⟨rfl, xn, tpn⟩
          · refine iteF' (decide_eq_false (by omega)) ⟨_, rfl, _, _, rfl, rfl, ?_⟩
            rw [decide_eq_false c1, Bool.true_and, Bool.false_or]
            exact ⟨by rw [show decide (z.length < 61) = decide ((z.length : Int) < 61) from by rw [Bool.eq_iff_iff]; simp only [decide_eq_true_eq]; omega]; rfl, xn, tpn⟩
      clear hg1
      rintro σ' Hn ⟨rfl, xn, tpn⟩
      generalize hgd : goodB kn ws.length u0.length z.length wh v = gd
      have hat : atI ([.ref (ab 0), .ref (ab 1), .ref (ab 2)] : List V) (kn : Nat) = some (.ref (ab kn)) := by
        have : kn = 0 ∨ kn = 1 ∨ kn = 2 := by omega
        rcases this with rfl | rfl | rfl <;> simp [atI, ixN]
      have hfit : fitsB kn ws.length u0.length (z.length : Int) wh v = gd := by rw [good_fits k3 z1 z120, hgd]
      refine ⟨_, rfl, _, rfl, .inl ⟨lb, _, (kn : Nat), .ref (ab kn), rfl, rfl, .inl (.inl (fB Hn xn)), hat, ?_⟩⟩
      obtain ⟨m, l, dm, bd, st, _, _⟩ := fO Hn xn kn k3
      obtain ⟨dx, pc, ha, _⟩ := id bd
      refine ⟨_, rfl, ab kn, kn, dx, _, k3, rfl, ha, rfl, _, rfl, _, rfl, _, rfl, ab kn, m, l, dm, H0, ws, u0.length, (z.length : Int), wh, v, rfl, bd, st, g, ?_⟩
      rw [hfit]
      refine ⟨fun σ' Hn => σ' = SG t cs z li lb u0.length z.length s2 (some (.int v)) (some (.int (kn : Nat))) (some (.bl bn)) (some (.int wh)) (some (.bl gd)) (some (.ref (ab kn))) (some (.bl gd)) v15 ∧ KepX T t Hs Hn ∧ Tp Hn t (n + 1 + 5 * (j + 1)), ?_, ?_⟩
      · refine ⟨_, rfl, bn, rfl, ?_⟩
        cases bn with
        | false => exact iteF ⟨rfl, xn, tpn⟩
        | true =>
          refine iteT ⟨_, rfl, ab kn, kn, dx, _, k3, rfl, ha, rfl, _, rfl, _, rfl, _, rfl, rfl, ab kn, m, l, dm, H0, ws, u0.length, (z.length : Int), wh, v, rfl, bd, st, g, ?_⟩
          rw [hfit]
          exact ⟨rfl, xn, tpn⟩
      clear bd st ha
      rintro σ' Hn ⟨rfl, xn, tpn⟩
      refine ⟨_, rfl, gd, rfl, _, rfl, gd, rfl, rfl, _, rfl, iteF' (by simp) ?_⟩
      refine ⟨fun σ' Hn => σ' = SG t cs z li lb u0.length z.length s2 (some (.int v)) (some (.int (kn : Nat))) (some (.bl bn)) (some (.int wh)) (some (.bl gd)) (some (.ref (ab kn))) (some (.bl gd)) (some (.str (if kn = 2 ∧ 60 < z.length then "Strip" else "Stamping"))) ∧ KepX T t Hs Hn ∧ Tp Hn t (n + 1 + 5 * (j + 1)), ?_, ?_⟩
      · refine ⟨_, rfl, rfl, _, rfl, ?_⟩
        by_cases c1 : kn = 2
        case neg =>
          refine iteF' (by rw [decide_eq_false_iff_not]; intro e; injection e with e; omega) (iteF ?_)
          rw [if_neg fun h => c1 h.1]
          exact ⟨rfl, xn, tpn⟩
        refine iteT' (by rw [decide_eq_true_eq, c1]; rfl) ⟨_, rfl, _, _, rfl, rfl, _, rfl, ?_⟩
        by_cases c2 : 60 < z.length
        · refine iteT' (decide_eq_true (by omega)) ?_
          rw [if_pos ⟨c1, c2⟩]
          exact ⟨rfl, xn, tpn⟩
        · refine iteF' (decide_eq_false (by omega)) ?_
          rw [if_neg fun h => c2 h.2]
          exact ⟨rfl, xn, tpn⟩
      rintro σ' Hn ⟨rfl, xn, tpn⟩
      refine ⟨fun σ' Hn => σ' = SG t cs z li lb u0.length z.length s2 (some (.int v)) (some (.int (kn : Nat))) (some (.bl bn)) (some (.int wh)) (some (.bl gd)) (some (.ref (ab kn))) (some (.bl gd)) (some (.str (dueS kn ws u0.length z wh v))) ∧ KepX T t Hs Hn ∧ Tp Hn t (n + 1 + 5 * (j + 1)), ?_, ?_⟩
      · unfold dueS
        rw [hgd]
        refine ⟨_, rfl, gd, rfl, ?_⟩
        cases gd with
        | false => exact iteF ⟨rfl, xn, tpn⟩
        | true =>
          unfold goodB at hgd
          simp only [Bool.and_eq_true, decide_eq_true_eq] at hgd
          obtain ⟨⟨⟨wh0, whn⟩, sp⟩, _⟩ := hgd
          obtain ⟨gl, glo⟩ := g.get (i := wh.toNat) (by omega)
          refine iteT ⟨_, rfl, _, rfl, _, rfl, _, rfl, .inl ⟨li, _, wh, _, rfl, rfl, .inl (.inl (fL Hn xn)), at_i wh0 whn, _, rfl, kn, z, ws.getD wh.toNat Str.empty, v, rfl, by rw [gl]; exact sp, z1, by omega, low_asc glo, fun H3 sm => ?_⟩⟩
          have kq : Kep T Hn H3 := (Kep.refl xn.1).sameT sm
          exact ⟨rfl, xn.trans kq.kx, tpn.kx xn.1 kq⟩
      rintro σ' Hn ⟨rfl, xn, tpn⟩
      refine ⟨_, rfl, _, rfl, _, rfl, _, rfl, _, rfl, bn, rfl, ab kn, kn, H0, ws, u0.length, .str z, wh, v, !bn, rfl, k3, fO Hn xn kn k3, g, xn.1, .inl ⟨z, rfl, by omega, fun H3 k => ⟨_, rfl, rfl, _, rfl, ?_⟩⟩⟩
      rw [due_told k3 z1 z120 zd]
      refine iteF' (by simp) ?_
      exact ⟨⟨_, _, _, _, _, _, _, _, rfl⟩, xn.trans k.kx, tpn.kx xn.1 k⟩
    · exact q Hx (p.2.2.mono (by rw [List.length_map]; omega)) (xs.trans p.2.1)
end
end Ov

set_option Elab.async false
set_option linter.all false
set_option maxRecDepth 100000
set_option maxHeartbeats 8000000
namespace Ov
open PySem PySem.Spec PyProof.Rows L2 GxR
abbrev sNR : Stmt := top 62
theorem bl_beq (a b : Bool) : (Value.bool a == Value.bool b) = decide (a = b) := by
  by_cases e : a = b
  · subst e
    exact (beq_self_eq_true (Value.bool a)).trans (decide_eq_true (p := a = a) rfl).symm
  · exact (beq_eq_false_iff_ne.mpr fun z => e (Value.bool.inj z)).trans (decide_eq_false e).symm
theorem op_isnotBl {X : Cx} : OpR X (compareOp .IsNot) (fun x y H Q => ∃ a b, x = .bl a ∧ y = .bl b ∧ Q (.bl (!decide (a = b))) H) := by
  intro pins s σ H x y v u Q I rx ry h
  obtain ⟨a, b, rfl, rfl, q⟩ := h
  cases (show v = Value.bool a from rx)
  cases (show u = Value.bool b from ry)
  exact wpAny_isNot_plain rfl (fin_bl I q (congrArg not (bl_beq a b).symm))
theorem Tp.same2 {H H' : Hp} {t : Addr} {n : Nat} (h : Tp H t n) (k : L2.Same H H') : Tp H' t n := by
  obtain ⟨a, b, c, h1, h2⟩ := h
  exact ⟨a, b, c, k t _ h1, h2⟩
theorem nofit {i n W : Nat} {size word place : Int} (h : size < 1 ∨ (cellsN i : Nat) < size) : fitsB i n W size word place = false := by
  unfold fitsB knowsB
  rw [Bool.eq_false_iff]
  intro e
  simp only [Bool.and_eq_true, decide_eq_true_eq] at e
  omega
/-- an object that is no strip, whatever the band -/
def NoS (K : PySem.W.Frag) (T : List Addr) (t : Addr) (H : Hp) (x : V) : Prop := (∃ z : Str, x = .str z ∧ z.length ≤ 4000 ∧ ∀ i, i < 3 → stripB z (cellsN i : Nat) = false) ∨ (∃ ty, PySem.W.kitOne K ty (.type "str") = some false ∧ ∀ H2, KepX T t H H2 → TyX K H2 x ty)
theorem no3 {z : Str} (h0 : stripB z 60 = false) (h1 : stripB z 120 = false) : ∀ i, i < 3 → stripB z (cellsN i : Nat) = false := fun i hi => by
  have : i = 0 ∨ i = 1 ∨ i = 2 := by omega
  rcases this with rfl | rfl | rfl
  · exact h1
  · exact h1
  · exact h0
section
variable {P : Program} {w : World} {K : PySem.W.Frag} {mg : Str → Option Value} {base : Heap} {T : List Addr} {C D fLow fText fAre fTape fNext fInks fInit cLow PLow cAre PAre pWo fWo pO gO DN DS DNum DTx DSp DSg fInked fSpots fBand fRow fTold fRR fNR : Addr} {B : BA}
def spNR (K : PySem.W.Frag) (T : List Addr) (C : Addr) (B : BA) : Sp := fun vs H Q _ => ∃ (t cs li lb : Addr) (n : Nat) (H0 : Hp) (ab : Nat → Addr) (ws : List Str) (W : Nat), vs = [.ref t, .ref cs] ∧ Tp H t n ∧ n + 2000 < 2 ^ 40 ∧ H cs = some (.tup [.ref li, .ref lb]) ∧ H li = some (.lst (ws.map V.str)) ∧ H lb = some (.lst [.ref (ab 0), .ref (ab 1), .ref (ab 2)]) ∧
  li ≠ t ∧ lb ≠ t ∧ H0 t ≠ none ∧ (∀ i, i < 3 → BdO C B H0 H (ab i) i ws W) ∧ Good ws W ∧ (∀ p ∈ T, TabG H p) ∧ ∀ H3, Tp H3 t (n + 1000) → KepX T t H H3 → Q (.bl true) H3
abbrev NNR : List Str := ["tape", "case", "inks", "bands_here", "kind", "cells", "which", "at", "row"]
theorem scNR : FnScope NNR ["tape", "case"] (defScope sNR) := ⟨rfl, rfl, rfl, by decide +kernel, rfl, by decide +kernel, by decide +kernel⟩
abbrev SN (t cs li lb : Addr) (v4 v5 v6 v7 v8 : Option V) : L2.St := [some (.ref t), some (.ref cs), some (.ref li), some (.ref lb), v4, v5, v6, v7, v8]
theorem ok_nr {f : Addr} {fd fdN fdT : FuncData} {fdf : Nat → FuncData} (F : L2.Fun K "_law_none_right" "_law_none_right" sNR f fd) (FN : L2.Fun K "_law_next" "_law_next" sNext fNext fdN) (FT : L2.Fun K "_law_told" "_law_told" sTold fTold fdT)
    (TL : FnOk P w K mg base CX0 8 fTold fdT ["band", "row", "which", "at", "by_name"] (spTold K T C B)) (FFit : ∀ i, i < 3 → L2.Fun K "fits" (fitN i) (fitS i) (B.ff i) (fdf i)) (FFO : ∀ i, i < 3 → FnOk P w K mg base CX0 4 (B.ff i) (fdf i) ["self", "size", "word", "place"] (spFits C B i))
    (X : Txt K mg C fLow fText fAre fTape fNext fInks) (X5 : Top5 K mg fInked fSpots fBand fRow fTold fRR fNR) (BB : Bds K mg B) (ks : ∀ i, i < 3 → PySem.W.kitOne K (.ref (B.c i)) (.type "str") = some false) : FnOk P w K mg base CX0 9 f fd ["tape", "case"] (spNR K T C B) := by
  have N1 : FnOk P w K mg base CX0 1 fNext fdN ["tape", "many"] spNext := ok_next FN X
  have bN : Binds K fdN ["tape", "many"] [] := FN.binds fun _ _ _ _ _ _ us hl => match us, hl with | [_, _], _ => rfl
  have bTL : Binds K fdT ["band", "row", "which", "at", "by_name"] [] := FT.binds fun _ _ _ _ _ _ us hl => match us, hl with | [_, _, _, _, _], _ => rfl
  have FFR : ∀ i, i < 3 → FnR P w K mg base CX0 4 (B.ff i) (spFits C B i) := fun i hi => ((FFO i hi).raw (fits_b (FFit i hi)) .nil).imp fun vs H Q E h => by rw [List.append_nil]; exact h
  refine F.ok scNR (fun vs H Q E h => ?_) (fun cdv A outer s H vs Q E hr h => ?_)
  · obtain ⟨t, cs, li, lb, n, H0, ab, ws, W, rfl, _⟩ := h
    rfl
  · obtain ⟨t, cs, li, lb, n, H0, ab, ws, W, rfl, tp, hn, hcs, hli, hlb, lit, lbt, h0t, hbd, g, hT, q⟩ := h
    have nt : t ∉ T := tp.nT hT
    have fL : ∀ Hx, KepX T t H Hx → Hx li = some (.lst (ws.map V.str)) := fun Hx x => x.at hT lit hli fun _ z => by cases z
    have fB : ∀ Hx, KepX T t H Hx → Hx lb = some (.lst [.ref (ab 0), .ref (ab 1), .ref (ab 2)]) := fun Hx x => x.at hT lbt hlb fun _ z => by cases z
    have fO : ∀ Hx, KepX T t H Hx → ∀ i, i < 3 → BdO C B H0 Hx (ab i) i ws W := fun Hx x i hi => (hbd i hi).keep fun b o nb nt' e => x.at hT (fun z => h0t (z ▸ nb)) e nt'
    refine ⟨_, (pss_cons (ps_asg (pv 1) (pg_tup rfl (pgs_cons (pg_name (i := 2) scNR.nd rfl (Or.inl rfl)) (pgs_cons (pg_name (i := 3) scNR.nd rfl (Or.inl rfl)) pgs_nil))))
      (pss_cons (ps_for PassesOwn.never rfl (pi_range1 (by rfl) X.rng (pa_cons pe_int pa_nil)) (pg_name (i := 4) scNR.nd rfl (Or.inl rfl)) (pss_cons (ps_for PassesOwn.never rfl (pi_list (pe_lst (pa_cons pe_int (pa_cons (pe_un un_neg pe_int) (pa_cons (pe_un un_neg pe_int) (pa_cons pe_int (pa_cons (pe_op op_pow pe_int pe_int) (pa_cons (pe_op op_sub pe_int (pe_op op_pow pe_int pe_int)) (pa_cons (pe_op op_add pe_int (pe_op op_mul pe_int (pe_callTy call_int1 (by rfl) X5.int (by decide +kernel) (pa_cons (pe_cmpR op_lt (pv 4) pe_int (by rfl)) pa_nil)))) pa_nil))))))))) (pg_name (i := 5) scNR.nd rfl (Or.inl rfl)) (pss_one (ps_for PassesOwn.never rfl (pi_list (pe_lst (pa_cons (pe_tup (pa_cons pe_int (pa_cons pe_int pa_nil))) (pa_cons (pe_tup (pa_cons (pe_un un_neg pe_int) (pa_cons (pe_un un_neg pe_int) pa_nil))) (pa_cons (pe_tup (pa_cons pe_int (pa_cons (pe_op op_sub pe_int (pe_op op_pow pe_int pe_int)) pa_nil))) (pa_cons (pe_tup (pa_cons (pe_callB call_len_seq (by rfl) X.len boot_len (pa_cons (pv 2) pa_nil)) (pa_cons (pe_op op_pow pe_int pe_int) pa_nil))) pa_nil)))))) (pg_tup rfl (pgs_cons (pg_name (i := 6) scNR.nd rfl (Or.inl rfl)) (pgs_cons (pg_name (i := 7) scNR.nd rfl (Or.inl rfl)) pgs_nil))) (pss_one (ps_if (pt_cmpR op_isnotBl (pe_methF (n := 3) (c := B.c) (sp := spFits C B) (pe_ix ix_seq (pv 3) (pv 4) fun _ _ => rfl) (fun i hi => (BB.k i (by omega)).cls) BB.fits FFR (hr.mono (by decide)) (pass0A (fun _ => E0)) (pa_cons (pv 5) (pa_cons (pv 6) (pa_cons (pv 7) pa_nil)))) pe_bl (by rfl)) (pss_one (ps_ret pe_bl)) pss_nil)))))
      (pss_one (ps_for PassesOwn.never rfl (pi_list (pe_lst (pa_cons pe_non (pa_cons pe_bl (pa_cons pe_int (pa_cons pe_str (pa_cons (pe_lst pa_nil) (pa_cons (pe_lst (pa_cons pe_str pa_nil)) (pa_cons (pe_tup (pa_cons pe_str pa_nil)) (pa_cons pe_dnewK (pa_cons pe_str (pa_cons pe_str (pa_cons pe_str (pa_cons (pe_op op_mulS pe_str pe_int) (pa_cons pe_str (pa_cons (pe_ix ix_seq (pv 3) (pv 4) fun _ _ => rfl) pa_nil)))))))))))))))) (pg_name (i := 8) scNR.nd rfl (Or.inl rfl)) (pss_one (ps_for PassesOwn.never rfl (pi_list (pe_lst (pa_cons (pe_tup (pa_cons pe_int (pa_cons pe_int pa_nil))) (pa_cons (pe_tup (pa_cons (pe_un un_neg pe_int) (pa_cons pe_int pa_nil))) (pa_cons (pe_tup (pa_cons (pe_op op_sub pe_int (pe_op op_pow pe_int pe_int)) (pa_cons (pe_un un_neg pe_int) pa_nil))) pa_nil))))) (pg_tup rfl (pgs_cons (pg_name (i := 6) scNR.nd rfl (Or.inl rfl)) (pgs_cons (pg_name (i := 7) scNR.nd rfl (Or.inl rfl)) pgs_nil))) (pss_one (ps_if (pt_cmpR op_ne (pe_call TL (hr.mono (by decide)) (by rfl) X5.gTold X5.kTold bTL .nil L2.pass0 (pa_cons (pe_ix ix_seq (pv 3) (pv 4) fun _ _ => rfl) (pa_cons (pv 8) (pa_cons (pv 6) (pa_cons (pv 7) (pa_cons (pe_cmpR op_eq (pe_next N1 bN (hr.mono (by decide)) (by rfl) X.gNext X.kNext (pa_cons (pv 0) (pa_cons pe_int pa_nil))) pe_int (by rfl)) pa_nil)))))) pe_str (by rfl)) (pss_one (ps_ret pe_bl)) pss_nil))))))))
      (pss_one (ps_ret pe_bl)))), ?_⟩
    refine ⟨_, rfl, cs, _, rfl, .inl (.inl hcs), rfl, _, _, rfl, _, _, rfl, rfl, ?_⟩
    refine ⟨3, rfl, by decide, by decide, for_range (lo := 0) (n := 3) (fun k σ Hx => (∃ v4 v5 v6 v7 v8, σ = SN t cs li lb v4 v5 v6 v7 v8) ∧ KepX T t H Hx ∧ Tp Hx t (n + 100 * k)) ⟨⟨_, _, _, _, _, rfl⟩, .refl hT, tp⟩ (fun kn σ Hx k3 p => ?_) (fun σ Hx p => ?_)⟩
    · obtain ⟨⟨v4, v5, v6, v7, v8, rfl⟩, xx, tpx⟩ := p
      have hat : atI ([.ref (ab 0), .ref (ab 1), .ref (ab 2)] : List V) (0 + (kn : Nat)) = some (.ref (ab kn)) := by
        have : kn = 0 ∨ kn = 1 ∨ kn = 2 := by omega
        rcases this with rfl | rfl | rfl <;> simp [atI, ixN]
      refine ⟨_, rfl, _, rfl, _, _, rfl, rfl, ⟨by decide, by decide, by decide⟩, ?_⟩
      refine ⟨_, _, rfl, rfl, ⟨by decide, by decide, by decide⟩, _, _, rfl, rfl, ?_⟩
      refine ⟨_, rfl, _, _, rfl, rfl, .inr ⟨_, rfl, _, _, rfl, rfl, ?_, _, _, rfl, rfl, (by decide : 7 ≤ sizeLine), fun l7 hl7 => ?_⟩⟩
      · split <;> exact .inl ⟨by decide, by decide⟩
      have c7 : ∃ xs : List Int, [V.int 0, .int (-1), .int (-5), .int 121, .int (10 ^ Int.toNat 59), .int (0 - 10 ^ Int.toNat 59), .int (61 + 60 * (if decide ((0 : Int) + (kn : Nat) < 2) = true then 1 else 0))] = xs.map V.int ∧ ∀ c ∈ xs, c < 1 ∨ (cellsN kn : Nat) < c := by
        refine ⟨[0, -1, -5, 121, 10 ^ Int.toNat 59, 0 - 10 ^ Int.toNat 59, 61 + 60 * (if decide ((0 : Int) + (kn : Nat) < 2) = true then 1 else 0)], rfl, ?_⟩
        have : kn = 0 ∨ kn = 1 ∨ kn = 2 := by omega
        rcases this with rfl | rfl | rfl <;> decide +kernel
      obtain ⟨xs, exs, hxs⟩ := c7
      have x7 := xx.new (o := .lst (xs.map V.int)) hl7
      have tp7 := tpx.new (o := .lst (xs.map V.int)) hl7
      have h7 : upd Hx l7 (.lst (xs.map V.int)) l7 = some (.lst (xs.map V.int)) := upd_same
      rw [exs]
      have l7t : l7 ≠ t := (tpx.ne hl7).symm
      generalize upd Hx l7 (.lst (xs.map V.int)) = G at x7 tp7 h7
      have hTG := x7.1
      refine ⟨l7, rfl, ⟨_, .inl (.inl h7)⟩, for_list (xs := xs.map V.int) (fun y σ Hy => (∃ v5 v6 v7 v8, σ = SN t cs li lb (some (.int (0 + (kn : Nat)))) v5 v6 v7 v8) ∧ KepX T t G Hy ∧ Tp Hy t (n + 100 * kn)) ⟨⟨_, _, _, _, rfl⟩, .refl hTG, tp7⟩ (fun y σ Hy _ p => .inl (.inl (p.2.1.at hTG l7t h7 fun _ z => by cases z))) (fun y x σ Hy hy p => ?_) (fun σ Hy p => ?_)⟩
      · obtain ⟨⟨v5, v6, v7, v8, rfl⟩, xy, tpy⟩ := p
        obtain ⟨c, rfl, hc⟩ : ∃ c : Int, x = .int c ∧ (c < 1 ∨ (cellsN kn : Nat) < c) := by
          obtain ⟨c, hm, e⟩ := List.mem_map.mp (List.mem_of_getElem? hy)
          exact ⟨c, e.symm, hxs c hm⟩
        have xyH := x7.trans xy
        refine ⟨(by decide : 2 ≤ sizeLine), fun t1 ht1 => ⟨_, rfl, _, rfl, (by decide : 2 ≤ sizeLine), fun t2 ht2 => ?_⟩⟩
        refine ⟨_, _, rfl, rfl, ⟨by decide, by decide, by decide⟩, _, _, rfl, rfl, (by decide : 2 ≤ sizeLine), fun t3 ht3 => ?_⟩
        refine ⟨_, rfl, li, _, rfl, .inl (.inl (.inl (((same_new ht1).trans ((same_new ht2).trans (same_new ht3))) _ _ (fL Hy xyH)))), _, _, rfl, rfl, ⟨by decide, by decide, by decide⟩, (by decide : 2 ≤ sizeLine), fun t4 ht4 => ⟨(by decide : 4 ≤ sizeLine), fun tl htl => ?_⟩⟩
        refine ⟨tl, rfl, ⟨_, .inl (.inl upd_same)⟩, ?_⟩
        generalize hB : upd _ tl _ = Bh
        have sB : L2.Same Hy Bh := by
          rw [← hB]
          exact (same_new ht1).trans ((same_new ht2).trans ((same_new ht3).trans ((same_new ht4).trans (same_new htl))))
        have b1 : ∃ a1 b1, Bh t1 = some (.tup [.int a1, .int b1]) := ⟨_, _, by
          rw [← hB]
          exact ((same_new ht2).trans ((same_new ht3).trans ((same_new ht4).trans (same_new htl)))) _ _ upd_same⟩
        have b2 : ∃ a1 b1, Bh t2 = some (.tup [.int a1, .int b1]) := ⟨_, _, by
          rw [← hB]
          exact ((same_new ht3).trans ((same_new ht4).trans (same_new htl))) _ _ upd_same⟩
        have b3 : ∃ a1 b1, Bh t3 = some (.tup [.int a1, .int b1]) := ⟨_, _, by
          rw [← hB]
          exact ((same_new ht4).trans (same_new htl)) _ _ upd_same⟩
        have b4 : ∃ a1 b1, Bh t4 = some (.tup [.int a1, .int b1]) := ⟨_, _, by
          rw [← hB]
          exact (same_new htl) _ _ upd_same⟩
        have b5 : Bh tl = some (.lst [.ref t1, .ref t2, .ref t3, .ref t4]) := by rw [← hB]; exact upd_same
        clear hB
        have tpB : Tp Bh t (n + 100 * kn) := tpy.same2 sB
        have xB : KepX T t G Bh := xy.trans (Bt.kx (fun b o _ e => sB b o e) xy.1 nt)
        have hTB := xB.1
        have neB : ∀ {b : Addr} {o : HO}, Bh b = some o → (∀ a1 b1 c1 : Int, o ≠ .lst [.int a1, .int b1, .int c1]) → b ≠ t := fun {b o} e h z => by
          obtain ⟨a1, b1, c1, e1, _⟩ := tpB
          rw [z, e1] at e
          exact h _ _ _ (Option.some.inj e).symm
        have m5 : tl ≠ t := neB b5 fun _ _ _ e => by cases e
        refine for_list (xs := [.ref t1, .ref t2, .ref t3, .ref t4]) (fun u σ Hz => (∃ v6 v7 v8, σ = SN t cs li lb (some (.int (0 + (kn : Nat)))) (some (.int c)) v6 v7 v8) ∧ KepX T t Bh Hz ∧ Tp Hz t (n + 100 * kn))
          ⟨⟨_, _, _, rfl⟩, .refl hTB, tpB⟩ (fun u σ Hz _ p => .inl (.inl (p.2.1.at hTB m5 b5 fun _ z => by cases z))) (fun u it σ Hz hu' p => ?_) (fun σ Hz p => ?_)
        · obtain ⟨⟨v6, v7, v8, rfl⟩, xz, tpz⟩ := p
          obtain ⟨tu, a1, b1, rfl, etu⟩ : ∃ tu a1 b1, it = V.ref tu ∧ Hz tu = some (.tup [.int a1, .int b1]) := by
            have go : ∀ tu : Addr, (∃ a1 b1, Bh tu = some (.tup [.int a1, .int b1])) → ∃ a1 b1, Hz tu = some (.tup [.int a1, .int b1]) := fun tu ⟨a1, b1, e⟩ =>
              ⟨a1, b1, xz.at hTB (neB e fun _ _ _ z => by cases z) e fun _ z => by cases z⟩
            match u, hu' with
            | 0, h => simp at h; obtain ⟨a1, b1, e⟩ := go t1 b1; exact ⟨_, _, _, h.symm, e⟩
            | 1, h => simp at h; obtain ⟨a1, b1, e⟩ := go t2 b2; exact ⟨_, _, _, h.symm, e⟩
            | 2, h => simp at h; obtain ⟨a1, b1, e⟩ := go t3 b3; exact ⟨_, _, _, h.symm, e⟩
            | 3, h => simp at h; obtain ⟨a1, b1, e⟩ := go t4 b4; exact ⟨_, _, _, h.symm, e⟩
            | n + 4, h => simp at h
          refine ⟨tu, _, rfl, .inl (.inl etu), rfl, _, _, rfl, _, _, rfl, rfl, ?_⟩
          have xzH := x7.trans (xB.trans xz)
          obtain ⟨m, l, dm, bd, st, _, _⟩ := fO Hz xzH kn k3
          obtain ⟨dx, pc, ha, _⟩ := id bd
          refine ⟨_, rfl, _, rfl, .inl ⟨lb, _, 0 + (kn : Nat), .ref (ab kn), rfl, rfl, .inl (.inl (fB Hz xzH)), hat, ?_⟩⟩
          refine ⟨ab kn, kn, dx, _, k3, rfl, ha, rfl, _, rfl, _, rfl, _, rfl, ab kn, m, l, dm, H0, ws, W, c, a1, b1, rfl, bd, st, g, ?_⟩
          rw [nofit hc]
          refine ⟨false, false, rfl, rfl, _, rfl, iteF' (by simp) ?_⟩
          exact ⟨⟨_, _, _, rfl⟩, xz, tpz⟩
        · obtain ⟨⟨v6, v7, v8, rfl⟩, xz, tpz⟩ := p
          exact ⟨⟨_, _, _, _, rfl⟩, xB.trans xz, tpz⟩
      · obtain ⟨⟨v5, v6, v7, v8, rfl⟩, xy, tpy⟩ := p
        have xyH := x7.trans xy
        refine ⟨(by decide : 0 ≤ sizeLine), fun p1 h1 => ⟨(by decide : 1 ≤ sizeLine), fun p2 h2 => ⟨(by decide : 1 ≤ sizeLine), fun p3 h3 p4 h4 => ?_⟩⟩⟩
        have sD := (same_new (o := .lst []) h1).trans ((same_new (o := .lst [.str "a"]) h2).trans ((same_new (o := .tup [.str "a"]) h3).trans (same_new (o := .dK []) h4)))
        refine ⟨_, _, rfl, rfl, by decide, by decide, by decide, _, rfl, _, rfl, .inl ⟨lb, _, 0 + (kn : Nat), .ref (ab kn), rfl, rfl, .inl (.inl (sD _ _ (fB Hy xyH))), hat, (by decide : 14 ≤ sizeLine), fun l8 hl8 => ?_⟩⟩
        refine ⟨l8, rfl, ⟨_, .inl (.inl upd_same)⟩, ?_⟩
        generalize hG2 : upd _ l8 _ = G2
        have sF : L2.Same Hy G2 := by
          rw [← hG2]
          exact sD.trans (same_new hl8)
        have g1 : G2 p1 = some (.lst []) := by
          rw [← hG2]
          exact ((same_new h2).trans ((same_new h3).trans ((same_new h4).trans (same_new hl8)))) _ _ upd_same
        have g2 : G2 p2 = some (.lst [.str "a"]) := by
          rw [← hG2]
          exact ((same_new h3).trans ((same_new h4).trans (same_new hl8))) _ _ upd_same
        have g3 : G2 p3 = some (.tup [.str "a"]) := by
          rw [← hG2]
          exact ((same_new h4).trans (same_new hl8)) _ _ upd_same
        have g4 : G2 p4 = some (.dK []) := by
          rw [← hG2]
          exact (same_new hl8) _ _ upd_same
        obtain ⟨ys, hys, g8⟩ : ∃ ys, ys = [V.non, .bl true, .int 3, .str "", .ref p1, .ref p2, .ref p3, .ref p4, .str "A", .str "a b", .str "a_", .str ⟨(List.replicate (Int.toNat 121) ("." : Str).cps.toList).flatten.toArray⟩, .str "a\n", .ref (ab kn)] ∧ G2 l8 = some (.lst ys) := ⟨_, rfl, by rw [← hG2]; exact upd_same⟩
        clear hG2 sD
        have tpG2 : Tp G2 t (n + 100 * kn) := tpy.same2 sF
        have xG2 : KepX T t H G2 := xyH.trans (Bt.kx (fun b o _ e => sF b o e) xyH.1 nt)
        have neT : ∀ {b : Addr} {o : HO}, G2 b = some o → (∀ l : List V, o = .lst l → l.length ≠ 3) → b ≠ t := fun {b o} e h z => by
          obtain ⟨a1, b1, c1, e1, _⟩ := tpG2
          rw [z, e1] at e
          exact h _ (Option.some.inj e).symm rfl
        have hTG2 := xG2.1
        have n1 : p1 ≠ t := neT g1 fun l e => by cases e; simp
        have n2 : p2 ≠ t := neT g2 fun l e => by cases e; simp
        have n3 : p3 ≠ t := neT g3 fun l e => by cases e
        have n4 : p4 ≠ t := neT g4 fun l e => by cases e
        have n8 : l8 ≠ t := neT g8 fun l e => by cases e; rw [hys]; simp
        have nos : ∀ x ∈ ys, NoS K T t G2 x := by
          have kl : PySem.W.kitOne K (.type "list") (.type "str") = some false := kit_ty (r := false) (by decide +kernel)
          have kt : PySem.W.kitOne K (.type "tuple") (.type "str") = some false := kit_ty (r := false) (by decide +kernel)
          have kd : PySem.W.kitOne K (.type "dict") (.type "str") = some false := kit_ty (r := false) (by decide +kernel)
          have bO : ∀ H2, KepX T t G2 H2 → TyX K H2 (.ref (ab kn)) (.ref (B.c kn)) := fun H2 k => by
            obtain ⟨m, l, dm, bd, _⟩ := fO H2 (xG2.trans k) kn k3
            obtain ⟨dx, pc, ha, _⟩ := bd
            have kk := BB.k kn (by omega)
            exact .base (.ins ha kk.cls kk.ha BB.hn BB.htk kk.hm)
          rw [hys]
          intro x hx
          simp only [List.mem_cons, List.not_mem_nil, or_false] at hx
          rcases hx with rfl | rfl | rfl | rfl | rfl | rfl | rfl | rfl | rfl | rfl | rfl | rfl | rfl | rfl
          · exact .inr ⟨_, kit_ty (r := false) (by decide +kernel), fun _ _ => .base .non⟩
          · exact .inr ⟨_, kit_ty (r := false) (by decide +kernel), fun _ _ => .base (.bl _)⟩
          · exact .inr ⟨_, kit_ty (r := false) (by decide +kernel), fun _ _ => .base (.int _)⟩
          · exact .inl ⟨_, rfl, by decide +kernel, no3 (by decide +kernel) (by decide +kernel)⟩
          · exact .inr ⟨_, kl, fun H2 k => .base (.lst (k.at hTG2 n1 g1 fun _ z => by cases z))⟩
          · exact .inr ⟨_, kl, fun H2 k => .base (.lst (k.at hTG2 n2 g2 fun _ z => by cases z))⟩
          · exact .inr ⟨_, kt, fun H2 k => .base (.tup (k.at hTG2 n3 g3 fun _ z => by cases z))⟩
          · exact .inr ⟨_, kd, fun H2 k => .base (.dK (k.at hTG2 n4 g4 fun _ z => by cases z))⟩
          · exact .inl ⟨_, rfl, by decide +kernel, no3 (by decide +kernel) (by decide +kernel)⟩
          · exact .inl ⟨_, rfl, by decide +kernel, no3 (by decide +kernel) (by decide +kernel)⟩
          · exact .inl ⟨_, rfl, by decide +kernel, no3 (by decide +kernel) (by decide +kernel)⟩
          · exact .inl ⟨_, rfl, by decide +kernel, no3 (by decide +kernel) (by decide +kernel)⟩
          · exact .inl ⟨_, rfl, by decide +kernel, no3 (by decide +kernel) (by decide +kernel)⟩
          · exact .inr ⟨_, ks kn k3, bO⟩
        have yl : ys.length = 14 := by rw [hys]; rfl
        refine for_list (xs := ys) (fun y σ Hw => (∃ v5 v6 v7 v8, σ = SN t cs li lb (some (.int (0 + (kn : Nat)))) v5 v6 v7 v8) ∧ KepX T t G2 Hw ∧ Tp Hw t (n + 100 * kn + 3 * y))
          ⟨⟨_, _, _, _, rfl⟩, .refl hTG2, tpG2⟩ (fun y σ Hw _ p => .inl (.inl (p.2.1.at hTG2 n8 g8 fun _ z => by cases z))) (fun y x σ Hw hy p => ?_) (fun σ Hw p => ?_)
        · obtain ⟨⟨v5, v6, v7, v8, rfl⟩, xw, tpw⟩ := p
          have y14 : y < 14 := by rw [← yl]; exact (List.getElem?_eq_some_iff.mp hy).1
          have nx := nos x (List.mem_of_getElem? hy)
          refine ⟨(by decide : 2 ≤ sizeLine), fun t1 ht1 => ⟨_, rfl, (by decide : 2 ≤ sizeLine), fun t2 ht2 => ?_⟩⟩
          refine ⟨_, _, rfl, rfl, ⟨by decide, by decide, by decide⟩, _, _, rfl, rfl, _, rfl, (by decide : 2 ≤ sizeLine), fun t3 ht3 => ⟨(by decide : 3 ≤ sizeLine), fun tl htl => ?_⟩⟩
          refine ⟨tl, rfl, ⟨_, .inl (.inl upd_same)⟩, ?_⟩
          generalize hB : upd _ tl _ = Bh
          have sB : L2.Same Hw Bh := by
            rw [← hB]
            exact (same_new ht1).trans ((same_new ht2).trans ((same_new ht3).trans (same_new htl)))
          have b1 : ∃ a1 b1, Bh t1 = some (.tup [.int a1, .int b1]) := ⟨_, _, by
            rw [← hB]
            exact ((same_new ht2).trans ((same_new ht3).trans (same_new htl))) _ _ upd_same⟩
          have b2 : ∃ a1 b1, Bh t2 = some (.tup [.int a1, .int b1]) := ⟨_, _, by
            rw [← hB]
            exact ((same_new ht3).trans (same_new htl)) _ _ upd_same⟩
          have b3 : ∃ a1 b1, Bh t3 = some (.tup [.int a1, .int b1]) := ⟨_, _, by
            rw [← hB]
            exact (same_new htl) _ _ upd_same⟩
          have b5 : Bh tl = some (.lst [.ref t1, .ref t2, .ref t3]) := by rw [← hB]; exact upd_same
          clear hB
          have tpB : Tp Bh t (n + 100 * kn + 3 * y) := tpw.same2 sB
          have xB : KepX T t G2 Bh := xw.trans (Bt.kx (fun b o _ e => sB b o e) xw.1 nt)
          have hTB := xB.1
          have neB : ∀ {b : Addr} {o : HO}, Bh b = some o → (∀ a1 b1 c1 : Int, o ≠ .lst [.int a1, .int b1, .int c1]) → b ≠ t := fun {b o} e h z => by
            obtain ⟨a1, b1, c1, e1, _⟩ := tpB
            rw [z, e1] at e
            exact h _ _ _ (Option.some.inj e).symm
          have m5 : tl ≠ t := neB b5 fun _ _ _ e => by cases e
          refine for_list (xs := [.ref t1, .ref t2, .ref t3]) (fun u σ Hz => (∃ v5 v6 v7, σ = SN t cs li lb (some (.int (0 + (kn : Nat)))) v5 v6 v7 (some x)) ∧ KepX T t Bh Hz ∧ Tp Hz t (n + 100 * kn + 3 * y + u))
            ⟨⟨_, _, _, rfl⟩, .refl hTB, tpB⟩ (fun u σ Hz _ p => .inl (.inl (p.2.1.at hTB m5 b5 fun _ z => by cases z))) (fun u it σ Hz hu' p => ?_) (fun σ Hz p => ?_)
          · obtain ⟨⟨v5, v6, v7, rfl⟩, xz, tpz⟩ := p
            have u3 : u < 3 := (List.getElem?_eq_some_iff.mp hu').1
            obtain ⟨tu, a1, b1, rfl, etu⟩ : ∃ tu a1 b1, it = V.ref tu ∧ Hz tu = some (.tup [.int a1, .int b1]) := by
              have go : ∀ tu : Addr, (∃ a1 b1, Bh tu = some (.tup [.int a1, .int b1])) → ∃ a1 b1, Hz tu = some (.tup [.int a1, .int b1]) := fun tu ⟨a1, b1, e⟩ =>
                ⟨a1, b1, xz.at hTB (neB e fun _ _ _ z => by cases z) e fun _ z => by cases z⟩
              match u, hu' with
              | 0, h => simp at h; obtain ⟨a1, b1, e⟩ := go t1 b1; exact ⟨_, _, _, h.symm, e⟩
              | 1, h => simp at h; obtain ⟨a1, b1, e⟩ := go t2 b2; exact ⟨_, _, _, h.symm, e⟩
              | 2, h => simp at h; obtain ⟨a1, b1, e⟩ := go t3 b3; exact ⟨_, _, _, h.symm, e⟩
              | n + 3, h => simp at h
            refine ⟨tu, _, rfl, .inl (.inl etu), rfl, _, _, rfl, _, _, rfl, rfl, ?_⟩
            have xz2 : KepX T t G2 Hz := xB.trans xz
            have xzH := xG2.trans xz2
            refine ⟨_, rfl, _, rfl, .inl ⟨lb, _, 0 + (kn : Nat), .ref (ab kn), rfl, rfl, .inl (.inl (fB Hz xzH)), hat, ?_⟩⟩
            refine ⟨_, rfl, _, rfl, _, rfl, _, rfl, t, 2, _, rfl, tpz, by omega, by decide, by decide, fun d' H11 d0' d2' tp11 but11 => ⟨rfl, ?_⟩⟩
            have x11 : KepX T t Bh H11 := but11.bt.kxt xz nt
            have xG11 : KepX T t G2 H11 := xB.trans x11
            have bo := fO H11 (xG2.trans xG11) kn k3
            rcases nx with ⟨z, rfl, hz, hns⟩ | ⟨ty, hk, hty⟩
            · refine ⟨ab kn, kn, H0, ws, W, _, a1, b1, _, rfl, k3, bo, g, x11.1, .inl ⟨z, rfl, hz, fun H12 k12 => ?_⟩⟩
              have cs : calledT (stmB kn ws W z a1 b1) = "Strip" := by
                unfold stmB
                rw [hns kn k3, if_pos rfl]; rfl
              rw [cs]
              refine ⟨rfl, _, rfl, iteF' (by simp) ?_⟩
              exact ⟨⟨_, _, _, rfl⟩, x11.trans k12.kx, tp11.kx x11.1 k12⟩
            · refine ⟨ab kn, kn, H0, ws, W, _, a1, b1, _, rfl, k3, bo, g, x11.1, .inr ⟨ty, hty H11 xG11, hk, fun H12 k12 => ?_⟩⟩
              refine ⟨rfl, _, rfl, iteF' (by simp) ?_⟩
              exact ⟨⟨_, _, _, rfl⟩, x11.trans k12.kx, tp11.kx x11.1 k12⟩
          · obtain ⟨⟨v5, v6, v7, rfl⟩, xz, tpz⟩ := p
            exact ⟨⟨_, _, _, _, rfl⟩, xB.trans xz, tpz.mono (by show n + 100 * kn + 3 * y + 3 ≤ _; omega)⟩
        · obtain ⟨⟨v5, v6, v7, v8, rfl⟩, xw, tpw⟩ := p
          exact ⟨⟨_, _, _, _, _, rfl⟩, xG2.trans xw, tpw.mono (by rw [yl]; omega)⟩
    · exact q Hx (p.2.2.mono (by omega)) p.2.1
end
end Ov

set_option Elab.async false
set_option linter.all false
set_option maxRecDepth 100000
set_option maxHeartbeats 8000000
namespace Ov
open PySem PySem.Spec PyProof.Rows L2 GxR
abbrev sLaw : Stmt := top 63
section
variable {P : Program} {w : World} {K : PySem.W.Frag} {mg : Str → Option Value} {base : Heap} {T : List Addr} {C D fLow fText fAre fTape fNext fInks fInit cLow PLow cAre PAre pWo fWo pO gO DN DS DNum DTx DSp DSg fInked fSpots fBand fRow fTold fRR fNR : Addr} {B : BA}
def spLaw (K : PySem.W.Frag) (T : List Addr) : Sp := fun vs H Q _ => ∃ (a : Addr) (ns : List Int), vs = [.ref a] ∧ (∀ p ∈ T, TabG H p) ∧ SqL K H a (ns.map V.int) ∧ ns.length ≤ 63 ∧ ∀ H', Q (.bl true) H'
abbrev NLaw5 : List Str := ["script", "k", "tape", "inks", "case", "cells", "kind"]
theorem scLaw5 : FnScope NLaw5 ["script"] (defScope sLaw) := ⟨rfl, rfl, rfl, by decide +kernel, rfl, by decide +kernel, by decide +kernel⟩
abbrev SL (a : Addr) (v1 v2 v3 v4 v5 : Option V) : L2.St := [some (.ref a), v1, v2, v3, v4, v5, none]
theorem makeB (BB : Bds K mg B) {i : Nat} (hi : i < 4) {H : Hp} {m l dm : Addr} {ws : List Str} {W : Nat} (st : Stp H C m l dm (ws.map V.str)) (g : Good ws W) {x dx : Addr} (hx : H x = none) (hdx : H dx = none) (hne : dx ≠ x) {Q : Hp → Prop} (mk : ∀ H3, BdAt B H H3 x i m ws W → L2.Same H H3 → Q H3) :
    spBInit K C B [V.ref x, .ref m] (upd (upd H dx (.own x)) x (.ins (B.c i) dx [])) (fun v H2 => v = .non ∧ Q H2) E0 := by
  have sx : L2.Same H (upd (upd H dx (.own x)) x (.ins (B.c i) dx [])) := fun b o e => (upd_ne (ne_of_none e hx)).trans ((upd_ne (ne_of_none e hdx)).trans e)
  refine ⟨x, B.c i, dx, m, l, dm, ws, W, rfl, upd_same, (BB.k i hi).cls, (BB.k i hi).noS, (BB.k i hi).noP, ⟨sx m _ st.1, sx l _ st.2⟩, g, fun pc H3 e3 p kp => ⟨rfl, ?_⟩⟩
  exact mk H3 ⟨dx, pc, e3, hx, p.base fun b e => sx.free e⟩ fun b o e => kp b o (ne_of_none e hx) (sx b o e)
theorem ok_law5 {f : Addr} {fd fdTp fdNx fdIn fdBD fdRow fdRR fdNR fdB : FuncData} (F : L2.Fun K "law" "law" sLaw f fd)
    (FTp : L2.Fun K "_law_tape" "_law_tape" sTape fTape fdTp) (FNx : L2.Fun K "_law_next" "_law_next" sNext fNext fdNx) (FIn : L2.Fun K "_law_inks" "_law_inks" sInks fInks fdIn) (FBD : L2.Fun K "_law_band" "_law_band" sBandL fBand fdBD) (FRow : L2.Fun K "_law_row" "_law_row" sRow fRow fdRow)
    (FRR : L2.Fun K "_law_row_right" "_law_row_right" sRR fRR fdRR) (FNR : L2.Fun K "_law_none_right" "_law_none_right" sNR fNR fdNR) (FB : L2.Fun K "__init__" "Band.__init__" sBInit B.fB fdB)
    (BD : FnOk P w K mg base CX0 9 fBand fdBD ["kind", "inks"] (spBandL K T C B)) (RR : FnOk P w K mg base CX0 9 fRR fdRR ["tape", "case", "row"] (spRR K T C B)) (NR : FnOk P w K mg base CX0 9 fNR fdNR ["tape", "case"] (spNR K T C B))
    (FI0 : FnOk P w K mg base CX0 4 B.fB fdB ["self", "stamps"] (spBInit K C B)) (FI1 : FnR P w K mg base (L2.CX P w) 6 fInit (spInit K T C D)) (SR : ∀ i, i < 3 → FnR P w K mg base (L2.CX P w) 7 (B.fs i) (spStm K T C B DSp DSg i))
    (X : Txt K mg C fLow fText fAre fTape fNext fInks) (X5 : Top5 K mg fInked fSpots fBand fRow fTold fRR fNR) (BB : Bds K mg B) (M : Mk K C fInit) : FnOk P w K mg base CX0 10 f fd ["script"] (spLaw K T) := by
  have TT : FnOk P w K mg base CX0 1 fTape fdTp ["script", "k"] (spTape K) := ok_tape FTp X
  have bT : Binds K fdTp ["script", "k"] [] := FTp.binds fun _ _ _ _ _ _ us hl => match us, hl with | [_, _], _ => rfl
  have N1 : FnOk P w K mg base CX0 1 fNext fdNx ["tape", "many"] spNext := ok_next FNx X
  have bN : Binds K fdNx ["tape", "many"] [] := FNx.binds fun _ _ _ _ _ _ us hl => match us, hl with | [_, _], _ => rfl
  have I1 : FnOk P w K mg base CX0 2 fInks fdIn ["tape", "most"] (spInks K) := ok_inks FIn FNx X
  have bI : Binds K fdIn ["tape", "most"] [] := FIn.binds fun _ _ _ _ _ _ us hl => match us, hl with | [_, _], _ => rfl
  have RW : FnOk P w K mg base CX0 2 fRow fdRow ["tape", "cells"] spRow := ok_row FRow FNx X
  have bRw : Binds K fdRow ["tape", "cells"] [] := FRow.binds fun _ _ _ _ _ _ us hl => match us, hl with | [_, _], _ => rfl
  have bBD : Binds K fdBD ["kind", "inks"] [] := FBD.binds fun _ _ _ _ _ _ us hl => match us, hl with | [_, _], _ => rfl
  have bRR : Binds K fdRR ["tape", "case", "row"] [] := FRR.binds fun _ _ _ _ _ _ us hl => match us, hl with | [_, _, _], _ => rfl
  have bNR : Binds K fdNR ["tape", "case"] [] := FNR.binds fun _ _ _ _ _ _ us hl => match us, hl with | [_, _], _ => rfl
  have bB : Binds K fdB ["self", "stamps"] [] := FB.binds fun _ _ _ _ _ _ us hl => match us, hl with | [_, _], _ => rfl
  have k1 := BB.k 1 (by decide)
  have k2 := BB.k 2 (by decide)
  refine F.ok scLaw5 (fun vs H Q E h => ?_) (fun cdv A outer s H vs Q E hr h => ?_)
  · obtain ⟨a, ns, rfl, _⟩ := h
    rfl
  · obtain ⟨a, ns, rfl, hT, hs, hn, q⟩ := h
    refine ⟨_, (pss_cons (ps_for PassesOwn.never rfl (pi_range1 (by rfl) X.rng (pa_cons (pe_callB (call_max2 rfl) (by rfl) X.max boot_max (pa_cons pe_int (pa_cons (pe_callB (call_min2 rfl) (by rfl) X.min boot_min (pa_cons pe_int (pa_cons (pe_callB call_len_seq (by rfl) X.len boot_len (pa_cons (pv 0) pa_nil)) pa_nil))) pa_nil))) pa_nil)) (pg_name (i := 1) scLaw5.nd rfl (Or.inl rfl)) (pss_cons (ps_set (i := 2) scLaw5.nd rfl (.inl rfl) (pe_call TT (hr.mono (by decide)) (by rfl) X.gTape X.kTape bT .nil L2.pass0 (pa_cons (pv 0) (pa_cons (pv 1) pa_nil))))
      (pss_cons (ps_set (i := 3) scLaw5.nd rfl (.inr rfl) (pe_call I1 (hr.mono (by decide)) (by rfl) X.gInks X.kInks bI .nil L2.pass0 (pa_cons (pv 2) (pa_cons pe_int pa_nil))))
      (pss_cons (ps_set (i := 4) scLaw5.nd rfl (.inl rfl) (pe_tup (pa_cons (pv 3) (pa_cons (pe_lc (own := [("kind", 6)]) (g := gName 6) (tt := tYes) (by rfl) scLaw5.nd (pi_range1 (by rfl) X.rng (pa_cons pe_int pa_nil)) (blkOk_by (own := [("kind", 6)]) (N := NLaw5) (sc := defScope sLaw) (by decide +kernel)) (fun _ _ _ _ _ => pg_name (i := 6) scLaw5.nd rfl (Or.inl rfl)) (fun _ _ _ _ _ => pts_nil) (fun _ _ _ _ _ => pe_call BD (hr.mono (by decide)) (by rfl) X5.gBand X5.kBand bBD .nil L2.pass0 (pa_cons (pv 6) (pa_cons (pv 3) pa_nil)))) pa_nil))))
      (pss_cons (ps_for PassesOwn.never rfl (pi_list (pe_lst (pa_cons (pe_op op_add pe_int (pe_next N1 bN (hr.mono (by decide)) (by rfl) X.gNext X.kNext (pa_cons (pv 2) (pa_cons pe_int pa_nil)))) (pa_cons (pe_op op_add pe_int (pe_next N1 bN (hr.mono (by decide)) (by rfl) X.gNext X.kNext (pa_cons (pv 2) (pa_cons pe_int pa_nil)))) (pa_cons (pe_ix ix_seq (pe_lst (pa_cons pe_int (pa_cons pe_int (pa_cons pe_int (pa_cons pe_int pa_nil))))) (pe_next N1 bN (hr.mono (by decide)) (by rfl) X.gNext X.kNext (pa_cons (pv 2) (pa_cons pe_int pa_nil))) fun _ _ => rfl) pa_nil))))) (pg_name (i := 5) scLaw5.nd rfl (Or.inl rfl)) (pss_one (ps_if (pt_not (pt_val (pe_call RR (hr.mono (by decide)) (by rfl) X5.gRR X5.kRR bRR .nil L2.pass0 (pa_cons (pv 2) (pa_cons (pv 4) (pa_cons (pe_call RW (hr.mono (by decide)) (by rfl) X5.gRow X5.kRow bRw .nil L2.pass0 (pa_cons (pv 2) (pa_cons (pv 5) pa_nil))) pa_nil)))))) (pss_one (ps_ret pe_bl)) pss_nil)))
      (pss_one (ps_if (pt_not (pt_val (pe_call NR (hr.mono (by decide)) (by rfl) X5.gNR X5.kNR bNR .nil L2.pass0 (pa_cons (pv 2) (pa_cons (pv 4) pa_nil))))) (pss_one (ps_ret pe_bl)) pss_nil)))))))
      (pss_one (ps_ret (pe_and (pe_cmpR op_eq (pe_methE (pe_make k2.mak FI0 (hr.mono (by decide)) (by rfl) k2.g bB .nil L2.pass0 (pa_cons (StX.pe_makeR M FI1 (hr.mono (by decide)) (by rfl) X.gC passL (pa_cons pe_str pa_nil)) pa_nil)) k2.cls (BB.stm 2 (by decide)) (SR 2 (by decide)) (hr.mono (by decide)) (fun σ pins H s e s' I c => passL pins σ H s e s' I c) (pa_cons pe_str (pa_cons pe_int (pa_cons pe_int pa_nil)))) pe_str (by rfl)) (pe_one (pe_cmpR op_eq (pe_methE (pe_make k1.mak FI0 (hr.mono (by decide)) (by rfl) k1.g bB .nil L2.pass0 (pa_cons (StX.pe_makeR M FI1 (hr.mono (by decide)) (by rfl) X.gC passL (pa_cons pe_str pa_nil)) pa_nil)) k1.cls (BB.stm 1 (by decide)) (SR 1 (by decide)) (hr.mono (by decide)) (fun σ pins H s e s' I c => passL pins σ H s e s' I c) (pa_cons pe_str (pa_cons pe_int (pa_cons (pe_un un_neg pe_int) pa_nil)))) pe_str (by rfl))))))), ?_⟩
    refine ⟨_, rfl, a, _, rfl, .inl hs, _, _, rfl, _, _, rfl, _, rfl, ?_, ?_, ?_⟩
    · rw [List.length_map]; split <;> omega
    · rw [List.length_map]; split <;> (try split) <;> omega
    rw [List.length_map]
    generalize hN : (if (if (ns.length : Int) < 3 then (ns.length : Int) else 3) > 1 then (if (ns.length : Int) < 3 then (ns.length : Int) else 3) else 1) = N
    have N3 : N ≤ 3 := by rw [← hN]; split <;> (try split) <;> omega
    refine for_range (lo := 0) (n := N.toNat) (fun k σ H' => (∃ v1 v2 v3 v4 v5, σ = SL a v1 v2 v3 v4 v5) ∧ Kep T H H') ⟨⟨_, _, _, _, _, rfl⟩, .refl hT⟩ (fun k σ H' hk p => ?_) (fun σ H' p => ?_)
    · obtain ⟨⟨v1, v2, v3, v4, v5, rfl⟩, kH⟩ := p
      refine ⟨_, rfl, _, rfl, a, ns, _, rfl, kH.seqL hT hs, by omega, by omega, fun t H1 ht tp1 but1 => ?_⟩
      have hT' := kH.1
      have xH1 : KepX T t H' H1 := but1.bt.kx hT' (fun z => by obtain ⟨_, e, _⟩ := hT' t z; rw [ht] at e; cases e)
      have nt : t ∉ T := tp1.nT xH1.1
      refine ⟨_, rfl, t, 8, 0, rfl, tp1, by omega, by decide, by decide, fun li ws H2 hli0 hli sv tp2 bt2 => ?_⟩
      have xH2 : KepX T t H' H2 := xH1.trans (bt2.kx xH1.1 nt)
      obtain ⟨W, g⟩ := good_of sv
      have lit : li ≠ t := (tp1.ne hli0).symm
      refine ⟨_, rfl, 3, rfl, by decide, by decide, fun Dl hDl => ?_⟩
      have Dt : Dl ≠ t := (tp2.ne hDl).symm
      have lD : li ≠ Dl := ne_of_none hli hDl
      have D' : H' Dl = none := xH2.free hT' Dt hDl
      have DT : Dl ∉ T := free_tab xH2.1 hDl
      -- the base of the three bands
      obtain ⟨H0, hH0⟩ : ∃ H0, H0 = upd H2 Dl (.lst []) := ⟨_, rfl⟩
      have d0 : H0 Dl = some (.lst (([] : List Addr).map V.ref)) := by rw [hH0]; exact upd_same
      have x0 : KepX T t H' (upd H2 Dl (.lst [])) := xH2.new hDl
      have tp0 : Tp (upd H2 Dl (.lst [])) t 60 := (tp2.new hDl).mono (by omega)
      have li0 : upd H2 Dl (.lst []) li = some (.lst (ws.map V.str)) := same_new hDl _ _ hli
      have h0t : H0 t ≠ none := by
        obtain ⟨_, _, _, e, _⟩ := tp0
        rw [hH0, e]; intro z; cases z
      have h0D : H0 Dl ≠ none := by rw [d0]; intro z; cases z
      refine lc_range (lo := 0) (n := 3) (fun j Hx => ∃ as : List Addr, Hx Dl = some (.lst (as.map V.ref)) ∧ as.length = j ∧ (∀ i, i < j → BdO C B H0 Hx (as.getD i 0) i ws W) ∧ Tp Hx t 60 ∧ KepX T t H' Hx ∧ Hx li = some (.lst (ws.map V.str)) ∧ ∀ b, Hx b = none → H0 b = none) ⟨[], upd_same, rfl, fun i hi => absurd hi (Nat.not_lt_zero i), tp0, x0, li0, fun b e => by rw [hH0]; exact e⟩ (fun j Hx hj p => ?_) (fun Hx p => ?_)
      · obtain ⟨as, hd, hl, hb, tpx, xx, hlx, fr⟩ := p
        refine ⟨rfl, ?_⟩
        refine yes_ok ?_
        refine iteT' (b := true) rfl ?_
        refine ⟨_, rfl, _, rfl, j, li, ws, W, by rw [Int.zero_add]; rfl, hj, hlx, sv, g, xx.1, fun b H3 bo k3 => ?_⟩
        have nk3 : NK H0 Hx H3 := nk_kep xx.1 k3
        have nkD : ∀ o, NK H0 H3 (upd H3 Dl o) := fun o b o' nb _ e => (upd_ne (fun z => h0D (by rw [← z]; exact nb))).trans e
        have hd3 : H3 Dl = some (.lst (as.map V.ref)) := k3.at xx.1 hd fun _ z => by cases z
        refine ⟨as.map V.ref, hd3, by rw [List.length_map, hl]; exact Nat.lt_of_lt_of_le (by omega : j < 9) (by decide), as ++ [b], by rw [List.map_append]; exact upd_same, by simp [hl], fun i hi => ?_, (tpx.kx xx.1 k3).at (upd_ne Dt.symm), (xx.trans k3.kx).put D' DT, (upd_ne lD).trans (k3.at xx.1 hlx fun _ z => by cases z), fun c e => ?_⟩
        · by_cases e : i = j
          · subst e
            have : (as ++ [b]).getD i 0 = b := by simp [List.getD, hl]
            rw [this]
            exact (bo.rebase fr).keep (nkD _)
          · have : (as ++ [b]).getD i 0 = as.getD i 0 := by
              simp only [List.getD]
              rw [List.getElem?_append_left (by omega)]
            rw [this]
            exact ((hb i (by omega)).keep nk3).keep (nkD _)
        · refine fr c (k3.free xx.1 ?_)
          by_cases z : c = Dl
          · rw [z, upd_same] at e; cases e
          · exact (upd_ne z).symm.trans e
      · obtain ⟨as, hd, hl, hb, tpx, xx, hlx, fr⟩ := p
        obtain ⟨ab, hab⟩ : ∃ ab : Nat → Addr, ab = fun i => as.getD i 0 := ⟨_, rfl⟩
        have has : as = [ab 0, ab 1, ab 2] := by
          rw [hab]
          match as, hl with
          | [x, y, z], _ => rfl
        have hd : Hx Dl = some (.lst [.ref (ab 0), .ref (ab 1), .ref (ab 2)]) := by rw [hd, has]; rfl
        have hb : ∀ i, i < 3 → BdO C B H0 Hx (ab i) i ws W := fun i hi => by rw [hab]; exact hb i hi
        clear has hab hl
        refine ⟨(by decide : 2 ≤ sizeLine), fun cs hcs => ?_⟩
        have xc := xx.new (o := .tup [.ref li, .ref Dl]) hcs
        have tpc := tpx.new (o := .tup [.ref li, .ref Dl]) hcs
        have sc := same_new (o := .tup [.ref li, .ref Dl]) hcs
        have c1 : upd Hx cs (.tup [.ref li, .ref Dl]) cs = some (.tup [.ref li, .ref Dl]) := upd_same
        have c2 := sc _ _ hd
        have c3 := sc _ _ hlx
        have c4 : ∀ i, i < 3 → BdO C B H0 (upd Hx cs (.tup [.ref li, .ref Dl])) (ab i) i ws W := fun i hi => (hb i hi).keep fun b o _ _ e => sc b o e
        have cst : cs ≠ t := (tpx.ne hcs).symm
        generalize upd Hx cs (.tup [.ref li, .ref Dl]) = G at xc tpc c1 c2 c3 c4
        have hTG := xc.1
        refine ⟨_, rfl, t, 9, 60, rfl, tpc, by omega, by decide, by decide, fun d1 Ha d10 d19 tpa buta => ⟨_, _, rfl, rfl, ?_⟩⟩
        refine ⟨_, rfl, t, 50, _, rfl, tpa, by omega, by decide, by decide, fun d2 Hb d20 d250 tpb butb => ⟨_, _, rfl, rfl, (by decide : 4 ≤ sizeLine), fun l4 hl4 => ?_⟩⟩
        have tp4 := tpb.new (o := .lst [.int 60, .int 61, .int 120, .int 119]) hl4
        refine ⟨_, rfl, t, 4, _, rfl, tp4, by omega, by decide, by decide, fun d3 Hc d30 d34 tpd butd => ?_⟩
        have hc4 : Hc l4 = some (.lst [.int 60, .int 61, .int 120, .int 119]) := (butd l4 ((tpb.ne hl4).symm)).trans upd_same
        obtain ⟨v3', hat, v31, v32⟩ : ∃ v : Int, atI ([.int 60, .int 61, .int 120, .int 119] : List V) d3 = some (.int v) ∧ 1 ≤ v ∧ v ≤ 120 := by
          have : d3 = 0 ∨ d3 = 1 ∨ d3 = 2 ∨ d3 = 3 := by omega
          rcases this with rfl | rfl | rfl | rfl
          · exact ⟨60, rfl, by decide, by decide⟩
          · exact ⟨61, rfl, by decide, by decide⟩
          · exact ⟨120, rfl, by decide, by decide⟩
          · exact ⟨119, rfl, by decide, by decide⟩
        refine .inl ⟨l4, _, d3, .int v3', rfl, rfl, .inl (.inl hc4), hat, (by decide : 3 ≤ sizeLine), fun cl hcl => ?_⟩
        have xa : KepX T t G Ha := buta.bt.kx hTG nt
        have xb : KepX T t G Hb := xa.trans (butb.bt.kx xa.1 nt)
        have x4 := xb.new (o := .lst [.int 60, .int 61, .int 120, .int 119]) hl4
        have xd : KepX T t G Hc := x4.trans (butd.bt.kx x4.1 nt)
        have xl := xd.new (o := .lst [.int (1 + d1), .int (10 + d2), .int v3']) hcl
        have tpl := tpd.new (o := .lst [.int (1 + d1), .int (10 + d2), .int v3']) hcl
        have hl3 : upd Hc cl (.lst [.int (1 + d1), .int (10 + d2), .int v3']) cl = some (.lst [.int (1 + d1), .int (10 + d2), .int v3']) := upd_same
        have clt : cl ≠ t := (tpd.ne hcl).symm
        refine ⟨cl, rfl, ⟨_, .inl (.inl hl3)⟩, ?_⟩
        generalize upd Hc cl (.lst [.int (1 + d1), .int (10 + d2), .int v3']) = L at xl tpl hl3
        have hTL := xl.1
        have fC : ∀ Hy, KepX T t G Hy → Hy cs = some (.tup [.ref li, .ref Dl]) := fun Hy x => x.at hTG cst c1 fun _ z => by cases z
        have fD : ∀ Hy, KepX T t G Hy → Hy Dl = some (.lst [.ref (ab 0), .ref (ab 1), .ref (ab 2)]) := fun Hy x => x.at hTG Dt c2 fun _ z => by cases z
        have fL : ∀ Hy, KepX T t G Hy → Hy li = some (.lst (ws.map V.str)) := fun Hy x => x.at hTG lit c3 fun _ z => by cases z
        have fO : ∀ Hy, KepX T t G Hy → ∀ i, i < 3 → BdO C B H0 Hy (ab i) i ws W := fun Hy x i hi => (c4 i hi).keep fun b o nb nt' e => x.at hTG (fun z => h0t (z ▸ nb)) e nt'
        refine for_list (xs := [.int (1 + d1), .int (10 + d2), .int v3']) (fun r σ Hy => (∃ v5, σ = SL a (some (.int (0 + (k : Nat)))) (some (.ref t)) (some (.ref li)) (some (.ref cs)) v5) ∧ KepX T t L Hy ∧ Tp Hy t (70 + 700 * r))
          ⟨⟨_, rfl⟩, .refl hTL, tpl.mono (by omega)⟩ (fun r σ Hy _ p => .inl (.inl (p.2.1.at hTL clt hl3 fun _ z => by cases z))) (fun r x σ Hy hr' p => ?_) (fun σ Hy p => ?_)
        · obtain ⟨⟨v5, rfl⟩, xy, tpy⟩ := p
          have r3 : r < 3 := (List.getElem?_eq_some_iff.mp hr').1
          obtain ⟨cN, rfl, cN1, cN120⟩ : ∃ cN : Nat, x = .int (cN : Nat) ∧ 1 ≤ cN ∧ cN ≤ 120 := by
            have d19' : d1 < 9 := d19
            have d250' : d2 < 50 := d250
            match r, hr' with
            | 0, h => simp at h; exact ⟨(1 + d1).toNat, by rw [← h]; congr 1; omega, by omega, by omega⟩
            | 1, h => simp at h; exact ⟨(10 + d2).toNat, by rw [← h]; congr 1; omega, by omega, by omega⟩
            | 2, h => simp at h; exact ⟨v3'.toNat, by rw [← h]; congr 1; omega, by omega, by omega⟩
            | n + 3, h => simp at h
          refine ⟨_, rfl, _, rfl, _, rfl, _, rfl, t, cN, _, rfl, cN120, tpy, by omega, fun z Hr zl zd tpr btr => ?_⟩
          have xr : KepX T t L Hr := btr.kxt xy nt
          have xrG := xl.trans xr
          refine ⟨t, cs, li, Dl, _, H0, ab, ws, W, z, rfl, tpr, by omega, fC Hr xrG, fL Hr xrG, fD Hr xrG, lit, Dt, h0t, fO Hr xrG, g, zd, by omega, by omega, xr.1, fun H3 tp3 x3 => ⟨_, rfl, iteF ?_⟩⟩
          exact ⟨⟨_, rfl⟩, xr.trans x3, tp3.mono (by omega)⟩
        · obtain ⟨⟨v5, rfl⟩, xy, tpy⟩ := p
          have xyG := xl.trans xy
          have tpy : Tp Hy t 2170 := tpy.mono (by show 70 + 700 * 3 ≤ _; omega)
          refine ⟨_, rfl, _, rfl, t, cs, li, Dl, _, H0, ab, ws, W, rfl, tpy, by omega, fC Hy xyG, fL Hy xyG, fD Hy xyG, lit, Dt, h0t, fO Hy xyG, g, xyG.1, fun H3 tp3 x3 => ⟨_, rfl, iteF ?_⟩⟩
          exact ⟨⟨_, _, _, _, _, rfl⟩, kH.trans (KepX.kep (.refl hT') ht (xc.trans (xyG.trans x3)))⟩
    · obtain ⟨⟨v1, v2, v3, v4, v5, rfl⟩, kH⟩ := p
      have sab : stampsV [V.str "abc"] = true := by decide +kernel
      have gd : Good ["abc"] 3 := ⟨by decide, by decide, by decide, by decide, fun z hz => by rw [List.mem_singleton.mp hz]; exact ⟨by decide +kernel, by decide +kernel⟩⟩
      refine fun x dx hx hdx hne => ?_
      have kn : Kep T H' (upd (upd H' dx (.own x)) x (.ins C dx [])) := Kep.made kH.1 hx hdx hne
      refine ⟨x, dx, [.str "abc"], rfl, upd_same, kn.1, by decide, fun y hy => ?_, fun _ H3 l hl hlT hla st kx => ⟨rfl, ?_⟩, fun hf => by rw [sab] at hf; cases hf⟩
      · rw [List.mem_singleton.mp hy]
        exact .inl ⟨_, rfl, by decide +kernel⟩
      refine fun b1 dx1 hb1 hdb1 hne1 => makeB BB (i := 2) (by decide) st gd hb1 hdb1 hne1 (fun H4 BD1 s4 => ?_)
      obtain ⟨e1, pc1, ha1, _⟩ := id BD1
      have st4 : Stp H4 C x l dx [V.str "abc"] := ⟨s4 _ _ st.1, s4 _ _ st.2⟩
      have k3 : Kep T H' H3 := KepX.kep kn (by exact hx) kx
      have k4 : Kep T H' H4 := k3.sameT s4
      refine ⟨b1, e1, _, rfl, ha1, rfl, ?_⟩
      refine ⟨b1, x, l, dx, _, ["abc"], 3, .str ".....", 0, 4, rfl, BD1, st4, gd, k4.1, .inl ⟨".....", rfl, by decide +kernel, fun H5 k5 => ?_⟩⟩
      have cc : stmB 2 ["abc"] 3 "....." 0 4 = .row "bc..a" := by
        unfold stmB
        rw [if_neg (by decide +kernel), if_pos (by decide +kernel)]
        congr 1
      rw [cc]
      have k45 : Kep T H' H5 := k4.trans k5
      refine ⟨rfl, ?_⟩
      refine ⟨_, rfl, iteT' (by simp) ?_⟩
      -- the window
      refine fun x' dx' hx' hdx' hne' => ?_
      have kn' : Kep T H5 (upd (upd H5 dx' (.own x')) x' (.ins C dx' [])) := Kep.made k45.1 hx' hdx' hne'
      refine ⟨x', dx', [.str "abc"], rfl, upd_same, kn'.1, by decide, fun y hy => ?_, fun _ H6 l' hl' hlT' hla' st' kx' => ⟨rfl, ?_⟩, fun hf => by rw [sab] at hf; cases hf⟩
      · rw [List.mem_singleton.mp hy]
        exact .inl ⟨_, rfl, by decide +kernel⟩
      refine fun b2 dx2 hb2 hdb2 hne2 => makeB BB (i := 1) (by decide) st' gd hb2 hdb2 hne2 (fun H7 BD2 s7 => ?_)
      obtain ⟨e2, pc2, ha2, _⟩ := id BD2
      have st7 : Stp H7 C x' l' dx' [V.str "abc"] := ⟨s7 _ _ st'.1, s7 _ _ st'.2⟩
      have k7 : Kep T H5 H7 := (KepX.kep kn' (by exact hx') kx').sameT s7
      refine ⟨b2, e2, _, rfl, ha2, rfl, ?_⟩
      refine ⟨_, rfl, b2, x', l', dx', _, ["abc"], 3, .str "..", 0, -1, rfl, BD2, st7, gd, k7.1, .inl ⟨"..", rfl, by decide +kernel, fun H8 k8 => ?_⟩⟩
      have cc2 : stmB 1 ["abc"] 3 ".." 0 (-1) = .row "bc" := by
        unfold stmB
        rw [if_neg (by decide +kernel), if_pos (by decide +kernel)]
        congr 1
      rw [cc2]
      refine ⟨rfl, ?_⟩
      have e : decide (V.str "bc" = V.str "bc") = true := by simp
      rw [e]
      exact q _
end
end Ov

set_option Elab.async false
set_option linter.all false
set_option maxRecDepth 100000
set_option maxHeartbeats 4000000
namespace Ov
open PySem PySem.Spec PyProof.Rows L2 GxR
theorem kit_ref {K : PySem.W.Frag} {D C : Addr} {b : Bool} (hi : PySem.W.isClsIn K C = true) (ht : PySem.W.typeIn K (.ref C) = some (.type "type")) (hs : PySem.W.subIn K (.ref D) (.ref C) = some b) (hself : PySem.W.subIn K (.ref C) (.ref C) = some true) : PySem.W.kitOne K (.ref D) (.ref C) = some b := by
  unfold PySem.W.kitOne
  by_cases h : D = C
  · subst h
    rw [hs] at hself
    rw [if_pos (by simp), Option.some.inj hself]
  · rw [if_neg (by simp [h])]
    unfold PySem.W.kitCls
    have hi' : (PySem.W.clsIn K C).isSome = true := hi
    show (if ((PySem.W.clsIn K C).isSome && PySem.W.typeIn K (.ref C) == some (.type "type")) = true then PySem.W.subIn K (.ref D) (.ref C) else none) = some b
    rw [hi', ht, if_pos (by rfl)]
    exact hs
theorem kit_typ {K : PySem.W.Frag} {D : Addr} {T : String} {b : Bool} (hm : PySem.W.kitMeta T = true) (hs : PySem.W.subIn K (.ref D) (.type T) = some b) : PySem.W.kitOne K (.ref D) (.type T) = some b := by
  unfold PySem.W.kitOne
  rw [if_neg (by simp)]
  show (if PySem.W.kitMeta T = true then PySem.W.subIn K (.ref D) (.type T) else none) = some b
  rw [if_pos hm]
  exact hs
theorem tab_mk {K : PySem.W.Frag} {x : Str} {f c P : Addr} {o1 o2 : Value} {d1 d2 : Option Addr} {s1 s2 : Array (Option Value)} {fd : FuncData} {vs : Array Value} (a : PySem.W.nsIn K mainGlobals x = some (some (.ref f))) (l : K.lookup f = some ⟨o1, d1, .func fd, s1⟩) (e : fd.code = .ref c)
    (lc : K.lookup c = some ⟨o2, d2, .fields vs, s2⟩) (v : (vs[11]? : Option Value) = some (.ref P)) : PySem.W.tabIn K x = some (c, P) := by
  unfold PySem.W.tabIn
  simp only [a, l, e, lc, v]
theorem fam3 {R : Nat → FuncData → Prop} {a b c : FuncData} (h0 : R 0 a) (h1 : R 1 b) (h2 : R 2 c) : ∃ fd : Nat → FuncData, ∀ i, i < 3 → R i (fd i) :=
  ⟨fun i => match i with | 0 => a | 1 => b | _ => c, fun i hi => match i, hi with | 0, _ => h0 | 1, _ => h1 | 2, _ => h2⟩
theorem all_mk {P : Program} {w : World} {K : PySem.W.Frag} {h : Heap} {mg : Str → Option Value} {fa fLow cLow PLow fText fAre cAre PAre fStrip fOver fTape fNext fInks fInked fSpots fBand fRow fTold fRR fNR fLaw C fInit pO gO pWi fWi pWo fWo fLen fCl D DN DSp DSg fB pN gN pS gS fKn fCk fCs CP fP fF0 fF1 fF2 fS0 fS1 fS2 b0 b1 b2 b3 fSp fKi DS DNum DTx : Addr} {ocLow kVLow dcLow pmLow ctLow oqLow ocText kVText dcText pmText ctText cdText ocAre kVAre dcAre pmAre ctAre oqAre ocStrip kVStrip dcStrip pmStrip ctStrip cdStrip ocOver kVOver dcOver pmOver ctOver cdOver ocTape kVTape dcTape pmTape ctTape cdTape ocNext kVNext dcNext pmNext ctNext cdNext ocInks kVInks dcInks pmInks ctInks cdInks ocInked kVInked dcInked pmInked ctInked cdInked ocSpots kVSpots dcSpots pmSpots ctSpots cdSpots ocBand kVBand dcBand pmBand ctBand cdBand ocRow kVRow dcRow pmRow ctRow cdRow ocTold kVTold dcTold pmTold ctTold cdTold ocRR kVRR dcRR pmRR ctRR cdRR ocNR kVNR dcNR pmNR ctNR cdNR ocLaw kVLaw dcLaw pmLaw ctLaw cdLaw ocInit kVInit dcInit pmInit ctInit cdInit ocOf kVOf dcOf pmOf ctOf cdOf ocWi kVWi dcWi pmWi ctWi cdWi ocWo kVWo dcWo pmWo ctWo cdWo ocLen kVLen dcLen pmLen ctLen cdLen ocCl kVCl dcCl pmCl ctCl cdCl ocB kVB dcB pmB ctB cdB ocN kVN dcN pmN ctN cdN ocG kVG dcG pmG ctG cdG ocP kVP dcP pmP ctP cdP ocSp kVSp dcSp pmSp ctSp cdSp ocKi kVKi dcKi pmKi ctKi cdKi ocKn kVKn dcKn pmKn ctKn cdKn ocCk kVCk dcCk pmCk ctCk cdCk ocCs kVCs dcCs pmCs ctCs cdCs ocF0 kVF0 dcF0 pmF0 ctF0 cdF0 ocSt0 kVSt0 dcSt0 pmSt0 ctSt0 cdSt0 ocF1 kVF1 dcF1 pmF1 ctF1 cdF1 ocSt1 kVSt1 dcSt1 pmSt1 ctSt1 cdSt1 ocF2 kVF2 dcF2 pmF2 ctF2 cdF2 ocSt2 kVSt2 dcSt2 pmSt2 ctSt2 cdSt2 : Value} {odLow anLow oeLow odText anText odAre anAre oeAre odStrip anStrip odOver anOver odTape anTape odNext anNext odInks anInks odInked anInked odSpots anSpots odBand anBand odRow anRow odTold anTold odRR anRR odNR anNR odLaw anLaw odInit anInit odOf anOf odWi anWi odWo anWo odLen anLen odCl anCl odB anB odN anN odG anG odP anP odSp anSp odKi anKi odKn anKn odCk anCk odCs anCs odF0 anF0 odSt0 anSt0 odF1 anF1 odSt1 anSt1 odF2 anF2 odSt2 anSt2 : Option Addr} {slLow sqLow slText slAre sqAre slStrip slOver slTape slNext slInks slInked slSpots slBand slRow slTold slRR slNR slLaw slInit slOf slWi slWo slLen slCl slB slN slG slP slSp slKi slKn slCk slCs slF0 slSt0 slF1 slSt1 slF2 slSt2 : Array (Option Value)} {tW tM tCells tMost u0 v0 w0 u1 v1 w1 u2 v2 w2 u3 v3 w3 : Tok} {restO restWi restWo restN restS : List Value} {vqLow vqAre : Array Value}
    (X : K.In h) (G : h.Ns mainGlobals mg) (hfa : mg "law" = some (.ref fa)) (q : Program) (tabs : TabsT q K h) (r0 : ((recsOf q).find? (fun e => e.name == ("is_lowercase" : Str))).isSome = true) (r1 : ((recsOf q).find? (fun e => e.name == ("are_stamps" : Str))).isSome = true)
    (aLow : PySem.W.nsIn K mainGlobals "is_lowercase" = some (some (.ref fLow)))
    (lLow : K.lookup fLow = some ⟨ocLow, odLow, .func (PySem.W.fnOf "is_lowercase" "is_lowercase" (defArgs sLow) (defBody sLow) (defScope sLow) .none kVLow dcLow pmLow anLow (.ref cLow) ctLow), slLow⟩)
    (coLow : PySem.W.codeIn K (.ref cLow) "is_lowercase" = true)
    (kLow : PySem.W.keepIn K (.ref fLow) = true)
    (tLow : K.lookup cLow = some ⟨oqLow, oeLow, .fields vqLow, sqLow⟩)
    (wLow : (vqLow[11]? : Option Value) = some (.ref PLow))
    (nLow : K.lookup PLow = none)
    (aText : PySem.W.nsIn K mainGlobals "is_text" = some (some (.ref fText)))
    (lText : K.lookup fText = some ⟨ocText, odText, .func (PySem.W.fnOf "is_text" "is_text" (defArgs sText) (defBody sText) (defScope sText) .none kVText dcText pmText anText cdText ctText), slText⟩)
    (coText : PySem.W.codeIn K cdText "is_text" = true)
    (kText : PySem.W.keepIn K (.ref fText) = true)
    (aAre : PySem.W.nsIn K mainGlobals "are_stamps" = some (some (.ref fAre)))
    (lAre : K.lookup fAre = some ⟨ocAre, odAre, .func (PySem.W.fnOf "are_stamps" "are_stamps" (defArgs sAre) (defBody sAre) (defScope sAre) .none kVAre dcAre pmAre anAre (.ref cAre) ctAre), slAre⟩)
    (coAre : PySem.W.codeIn K (.ref cAre) "are_stamps" = true)
    (kAre : PySem.W.keepIn K (.ref fAre) = true)
    (tAre : K.lookup cAre = some ⟨oqAre, oeAre, .fields vqAre, sqAre⟩)
    (wAre : (vqAre[11]? : Option Value) = some (.ref PAre))
    (nAre : K.lookup PAre = none)
    (aStrip : PySem.W.nsIn K mainGlobals "is_strip" = some (some (.ref fStrip)))
    (lStrip : K.lookup fStrip = some ⟨ocStrip, odStrip, .func (PySem.W.fnOf "is_strip" "is_strip" (defArgs sStrip) (defBody sStrip) (defScope sStrip) .none kVStrip dcStrip pmStrip anStrip cdStrip ctStrip), slStrip⟩)
    (coStrip : PySem.W.codeIn K cdStrip "is_strip" = true)
    (kStrip : PySem.W.keepIn K (.ref fStrip) = true)
    (aOver : PySem.W.nsIn K mainGlobals "over" = some (some (.ref fOver)))
    (lOver : K.lookup fOver = some ⟨ocOver, odOver, .func (PySem.W.fnOf "over" "over" (defArgs sOver) (defBody sOver) (defScope sOver) .none kVOver dcOver pmOver anOver cdOver ctOver), slOver⟩)
    (coOver : PySem.W.codeIn K cdOver "over" = true)
    (kOver : PySem.W.keepIn K (.ref fOver) = true)
    (aTape : PySem.W.nsIn K mainGlobals "_law_tape" = some (some (.ref fTape)))
    (lTape : K.lookup fTape = some ⟨ocTape, odTape, .func (PySem.W.fnOf "_law_tape" "_law_tape" (defArgs sTape) (defBody sTape) (defScope sTape) .none kVTape dcTape pmTape anTape cdTape ctTape), slTape⟩)
    (coTape : PySem.W.codeIn K cdTape "_law_tape" = true)
    (kTape : PySem.W.keepIn K (.ref fTape) = true)
    (aNext : PySem.W.nsIn K mainGlobals "_law_next" = some (some (.ref fNext)))
    (lNext : K.lookup fNext = some ⟨ocNext, odNext, .func (PySem.W.fnOf "_law_next" "_law_next" (defArgs sNext) (defBody sNext) (defScope sNext) .none kVNext dcNext pmNext anNext cdNext ctNext), slNext⟩)
    (coNext : PySem.W.codeIn K cdNext "_law_next" = true)
    (kNext : PySem.W.keepIn K (.ref fNext) = true)
    (aInks : PySem.W.nsIn K mainGlobals "_law_inks" = some (some (.ref fInks)))
    (lInks : K.lookup fInks = some ⟨ocInks, odInks, .func (PySem.W.fnOf "_law_inks" "_law_inks" (defArgs sInks) (defBody sInks) (defScope sInks) .none kVInks dcInks pmInks anInks cdInks ctInks), slInks⟩)
    (coInks : PySem.W.codeIn K cdInks "_law_inks" = true)
    (kInks : PySem.W.keepIn K (.ref fInks) = true)
    (aInked : PySem.W.nsIn K mainGlobals "_law_inked" = some (some (.ref fInked)))
    (lInked : K.lookup fInked = some ⟨ocInked, odInked, .func (PySem.W.fnOf "_law_inked" "_law_inked" (defArgs sInked) (defBody sInked) (defScope sInked) .none kVInked dcInked pmInked anInked cdInked ctInked), slInked⟩)
    (coInked : PySem.W.codeIn K cdInked "_law_inked" = true)
    (kInked : PySem.W.keepIn K (.ref fInked) = true)
    (aSpots : PySem.W.nsIn K mainGlobals "_law_spots" = some (some (.ref fSpots)))
    (lSpots : K.lookup fSpots = some ⟨ocSpots, odSpots, .func (PySem.W.fnOf "_law_spots" "_law_spots" (defArgs sSpotsL) (defBody sSpotsL) (defScope sSpotsL) .none kVSpots dcSpots pmSpots anSpots cdSpots ctSpots), slSpots⟩)
    (coSpots : PySem.W.codeIn K cdSpots "_law_spots" = true)
    (kSpots : PySem.W.keepIn K (.ref fSpots) = true)
    (aBand : PySem.W.nsIn K mainGlobals "_law_band" = some (some (.ref fBand)))
    (lBand : K.lookup fBand = some ⟨ocBand, odBand, .func (PySem.W.fnOf "_law_band" "_law_band" (defArgs sBandL) (defBody sBandL) (defScope sBandL) .none kVBand dcBand pmBand anBand cdBand ctBand), slBand⟩)
    (coBand : PySem.W.codeIn K cdBand "_law_band" = true)
    (kBand : PySem.W.keepIn K (.ref fBand) = true)
    (aRow : PySem.W.nsIn K mainGlobals "_law_row" = some (some (.ref fRow)))
    (lRow : K.lookup fRow = some ⟨ocRow, odRow, .func (PySem.W.fnOf "_law_row" "_law_row" (defArgs sRow) (defBody sRow) (defScope sRow) .none kVRow dcRow pmRow anRow cdRow ctRow), slRow⟩)
    (coRow : PySem.W.codeIn K cdRow "_law_row" = true)
    (kRow : PySem.W.keepIn K (.ref fRow) = true)
    (aTold : PySem.W.nsIn K mainGlobals "_law_told" = some (some (.ref fTold)))
    (lTold : K.lookup fTold = some ⟨ocTold, odTold, .func (PySem.W.fnOf "_law_told" "_law_told" (defArgs sTold) (defBody sTold) (defScope sTold) .none kVTold dcTold pmTold anTold cdTold ctTold), slTold⟩)
    (coTold : PySem.W.codeIn K cdTold "_law_told" = true)
    (kTold : PySem.W.keepIn K (.ref fTold) = true)
    (aRR : PySem.W.nsIn K mainGlobals "_law_row_right" = some (some (.ref fRR)))
    (lRR : K.lookup fRR = some ⟨ocRR, odRR, .func (PySem.W.fnOf "_law_row_right" "_law_row_right" (defArgs sRR) (defBody sRR) (defScope sRR) .none kVRR dcRR pmRR anRR cdRR ctRR), slRR⟩)
    (coRR : PySem.W.codeIn K cdRR "_law_row_right" = true)
    (kRR : PySem.W.keepIn K (.ref fRR) = true)
    (aNR : PySem.W.nsIn K mainGlobals "_law_none_right" = some (some (.ref fNR)))
    (lNR : K.lookup fNR = some ⟨ocNR, odNR, .func (PySem.W.fnOf "_law_none_right" "_law_none_right" (defArgs sNR) (defBody sNR) (defScope sNR) .none kVNR dcNR pmNR anNR cdNR ctNR), slNR⟩)
    (coNR : PySem.W.codeIn K cdNR "_law_none_right" = true)
    (kNR : PySem.W.keepIn K (.ref fNR) = true)
    (aLaw : PySem.W.nsIn K mainGlobals "law" = some (some (.ref fLaw)))
    (lLaw : K.lookup fLaw = some ⟨ocLaw, odLaw, .func (PySem.W.fnOf "law" "law" (defArgs sLaw) (defBody sLaw) (defScope sLaw) .none kVLaw dcLaw pmLaw anLaw cdLaw ctLaw), slLaw⟩)
    (coLaw : PySem.W.codeIn K cdLaw "law" = true)
    (kLaw : PySem.W.keepIn K (.ref fLaw) = true)
    (aWidest : PySem.W.nsIn K mainGlobals "WIDEST" = some (some (.int 8 tW)))
    (aMostL : PySem.W.nsIn K mainGlobals "MOST_LETTERS" = some (some (.int 36 tM)))
    (aCells : PySem.W.nsIn K mainGlobals "MOST_CELLS" = some (some (.int 120 tCells)))
    (aC : PySem.W.nsIn K mainGlobals "Stamps" = some (some (.ref C)))
    (rdS : PySem.W.readsIn K C (.type "type") = true)
    (gaS : PySem.W.specialIn K (.ref C) "__getattribute__" = some (some (.builtin "type.__getattribute__")))
    (pgS : PySem.W.plainGet K C Str.empty = true)
    (hdS : PySem.W.hasDictIn K C = true)
    (poS : PySem.W.plainOver K C = true)
    (saS : PySem.W.findIn K (.ref C) "__setattr__" = some (some (.builtin "object.__setattr__")))
    (mkS : PySem.W.makesIn K C = true)
    (kcS : PySem.W.keepIn K (.ref C) = true)
    (iInit : PySem.W.findIn K (.ref C) "__init__" = some (some (.ref fInit)))
    (jInit : PySem.W.isFn K (.ref fInit) = true)
    (lInit : K.lookup fInit = some ⟨ocInit, odInit, .func (PySem.W.fnOf "__init__" "Stamps.__init__" (defArgs sInit) (defBody sInit) (defScope sInit) .none kVInit dcInit pmInit anInit cdInit ctInit), slInit⟩)
    (coInit : PySem.W.codeIn K cdInit "Stamps.__init__" = true)
    (kInit : PySem.W.keepIn K (.ref fInit) = true)
    (nW : PySem.W.findIn K (.ref C) "_words" = some none)
    (mst : PySem.W.findCls K (.ref C) (.type "type") "MOST" = some (.val (.int 6 tMost)))
    (oAOf : PySem.W.findCls K (.ref C) (.type "type") "of" = some (.get (.builtin "classmethod.__get__") (.ref pO) .none (.ref C)))
    (oROf : PySem.W.recIn K pO "classmethod" = some (.ref gO :: restO))
    (oFOf : PySem.W.fnIn K gO = true)
    (lOf : K.lookup gO = some ⟨ocOf, odOf, .func (PySem.W.fnOf "of" "Stamps.of" (defArgs sOf) (defBody sOf) (defScope sOf) .none kVOf dcOf pmOf anOf cdOf ctOf), slOf⟩)
    (coOf : PySem.W.codeIn K cdOf "Stamps.of" = true)
    (kOf : PySem.W.keepIn K (.ref gO) = true)
    (prWi : PySem.W.findIn K (.ref C) "width" = some (some (.ref pWi)))
    (pGWi : PySem.W.specialIn K (.ref pWi) "__get__" = some (some (.builtin "property.__get__")))
    (ptWi : PySem.W.takesIn K (.ref pWi) = some true)
    (pcWi : PySem.W.recIn K pWi "property" = some (.ref fWi :: restWi))
    (lWi : K.lookup fWi = some ⟨ocWi, odWi, .func (PySem.W.fnOf "width" "Stamps.width" (defArgs sWidth) (defBody sWidth) (defScope sWidth) .none kVWi dcWi pmWi anWi cdWi ctWi), slWi⟩)
    (coWi : PySem.W.codeIn K cdWi "Stamps.width" = true)
    (kWi : PySem.W.keepIn K (.ref fWi) = true)
    (prWo : PySem.W.findIn K (.ref C) "words" = some (some (.ref pWo)))
    (pGWo : PySem.W.specialIn K (.ref pWo) "__get__" = some (some (.builtin "property.__get__")))
    (ptWo : PySem.W.takesIn K (.ref pWo) = some true)
    (pcWo : PySem.W.recIn K pWo "property" = some (.ref fWo :: restWo))
    (lWo : K.lookup fWo = some ⟨ocWo, odWo, .func (PySem.W.fnOf "words" "Stamps.words" (defArgs sWords) (defBody sWords) (defScope sWords) .none kVWo dcWo pmWo anWo cdWo ctWo), slWo⟩)
    (coWo : PySem.W.codeIn K cdWo "Stamps.words" = true)
    (kWo : PySem.W.keepIn K (.ref fWo) = true)
    (dLen : PySem.W.findIn K (.ref C) "__len__" = some (some (.ref fLen)))
    (eLen : PySem.W.isFn K (.ref fLen) = true)
    (lLen : K.lookup fLen = some ⟨ocLen, odLen, .func (PySem.W.fnOf "__len__" "Stamps.__len__" (defArgs sLenI) (defBody sLenI) (defScope sLenI) .none kVLen dcLen pmLen anLen cdLen ctLen), slLen⟩)
    (coLen : PySem.W.codeIn K cdLen "Stamps.__len__" = true)
    (kLen : PySem.W.keepIn K (.ref fLen) = true)
    (dCl : PySem.W.findIn K (.ref C) "__call__" = some (some (.ref fCl)))
    (eCl : PySem.W.isFn K (.ref fCl) = true)
    (lCl : K.lookup fCl = some ⟨ocCl, odCl, .func (PySem.W.fnOf "__call__" "Stamps.__call__" (defArgs sCall) (defBody sCall) (defScope sCall) .none kVCl dcCl pmCl anCl cdCl ctCl), slCl⟩)
    (coCl : PySem.W.codeIn K cdCl "Stamps.__call__" = true)
    (kCl : PySem.W.keepIn K (.ref fCl) = true)
    (cI : PySem.W.fnIn K fCl = true)
    (aD : PySem.W.nsIn K mainGlobals "InvalidStamps" = some (some (.ref D)))
    (xD : PySem.W.excIn K D [.type "ValueError", .type "Exception", .type "BaseException", .type "object"] "ValueError.__new__" = true)
    (kkD : PySem.W.keepIn K (.ref D) = true)
    (bD : PySem.W.subIn K (.ref D) (.type "BaseException") = some true)
    (tyD : PySem.W.typeIn K (.ref D) = some (.type "type"))
    (aDN : PySem.W.nsIn K mainGlobals "InvalidName" = some (some (.ref DN)))
    (xDN : PySem.W.excIn K DN [.type "ValueError", .type "Exception", .type "BaseException", .type "object"] "ValueError.__new__" = true)
    (kkDN : PySem.W.keepIn K (.ref DN) = true)
    (bDN : PySem.W.subIn K (.ref DN) (.type "BaseException") = some true)
    (tyDN : PySem.W.typeIn K (.ref DN) = some (.type "type"))
    (aDSp : PySem.W.nsIn K mainGlobals "InvalidStrip" = some (some (.ref DSp)))
    (xDSp : PySem.W.excIn K DSp [.type "ValueError", .type "Exception", .type "BaseException", .type "object"] "ValueError.__new__" = true)
    (kkDSp : PySem.W.keepIn K (.ref DSp) = true)
    (bDSp : PySem.W.subIn K (.ref DSp) (.type "BaseException") = some true)
    (tyDSp : PySem.W.typeIn K (.ref DSp) = some (.type "type"))
    (aDSg : PySem.W.nsIn K mainGlobals "InvalidStamping" = some (some (.ref DSg)))
    (xDSg : PySem.W.excIn K DSg [.type "ValueError", .type "Exception", .type "BaseException", .type "object"] "ValueError.__new__" = true)
    (kkDSg : PySem.W.keepIn K (.ref DSg) = true)
    (bDSg : PySem.W.subIn K (.ref DSg) (.type "BaseException") = some true)
    (tyDSg : PySem.W.typeIn K (.ref DSg) = some (.type "type"))
    (e6 : PySem.W.specialIn K (.builtin "object.__class__") "__get__" = some (some (.builtin "getset_descriptor.__get__")))
    (e7 : PySem.W.takesIn K (.builtin "object.__class__") = some true)
    (ab0 : PySem.W.nsIn K mainGlobals "Line" = some (some (.ref b0)))
    (rdB0 : PySem.W.readsIn K b0 (.type "type") = true)
    (gaB0 : PySem.W.specialIn K (.ref b0) "__getattribute__" = some (some (.builtin "type.__getattribute__")))
    (pgB0 : PySem.W.plainGet K b0 Str.empty = true)
    (hdB0 : PySem.W.hasDictIn K b0 = true)
    (poB0 : PySem.W.plainOver K b0 = true)
    (saB0 : PySem.W.findIn K (.ref b0) "__setattr__" = some (some (.builtin "object.__setattr__")))
    (mkB0 : PySem.W.makesIn K b0 = true)
    (kcB0 : PySem.W.keepIn K (.ref b0) = true)
    (eqB0 : PySem.W.findIn K (.ref b0) "__eq__" = some (some (.builtin "object.__eq__")))
    (neB0 : PySem.W.findIn K (.ref b0) "__ne__" = some (some (.builtin "object.__ne__")))
    (soB0 : PySem.W.subIn K (.ref b0) (.type "object") = some true)
    (iB0 : PySem.W.findIn K (.ref b0) "__init__" = some (some (.ref fB)))
    (nS0 : PySem.W.findIn K (.ref b0) "_stamps" = some none)
    (nP0 : PySem.W.findIn K (.ref b0) "pieces" = some none)
    (nm0 : PySem.W.findCls K (.ref b0) (.type "type") "NAME" = some (.val (.str "line" u0)))
    (cn0 : PySem.W.findIn K (.ref b0) "NAME" = some (some (.str "line" v0)))
    (gc0 : PySem.W.specialIn K (.str "line" v0) "__get__" = some none)
    (ce0 : PySem.W.findIn K (.ref b0) "CELLS" = some (some (.int 120 w0)))
    (cg0 : PySem.W.specialIn K (.int 120 w0) "__get__" = some none)
    (nd0 : PySem.W.findCls K (.ref b0) (.type "type") "named" = some (.get (.builtin "classmethod.__get__") (.ref pN) .none (.ref b0)))
    (pr0 : PySem.W.findIn K (.ref b0) "stamps" = some (some (.ref pS)))
    (kn0 : PySem.W.findIn K (.ref b0) "_knows" = some (some (.ref fKn)))
    (ck0 : PySem.W.findIn K (.ref b0) "_check_stamping" = some (some (.ref fCk)))
    (cs0 : PySem.W.findIn K (.ref b0) "check_strip" = some (some (.ref fCs)))
    (hcb0 : PySem.W.findIn K (.ref b0) "__class__" = some (some (.builtin "object.__class__")))
    (hmb0 : PySem.W.mroIn K b0 (.type "object") = some true)
    (icb0 : PySem.W.isClsIn K b0 = true)
    (tyb0 : PySem.W.typeIn K (.ref b0) = some (.type "type"))
    (ab1 : PySem.W.nsIn K mainGlobals "Window" = some (some (.ref b1)))
    (rdB1 : PySem.W.readsIn K b1 (.type "type") = true)
    (gaB1 : PySem.W.specialIn K (.ref b1) "__getattribute__" = some (some (.builtin "type.__getattribute__")))
    (pgB1 : PySem.W.plainGet K b1 Str.empty = true)
    (hdB1 : PySem.W.hasDictIn K b1 = true)
    (poB1 : PySem.W.plainOver K b1 = true)
    (saB1 : PySem.W.findIn K (.ref b1) "__setattr__" = some (some (.builtin "object.__setattr__")))
    (mkB1 : PySem.W.makesIn K b1 = true)
    (kcB1 : PySem.W.keepIn K (.ref b1) = true)
    (eqB1 : PySem.W.findIn K (.ref b1) "__eq__" = some (some (.builtin "object.__eq__")))
    (neB1 : PySem.W.findIn K (.ref b1) "__ne__" = some (some (.builtin "object.__ne__")))
    (soB1 : PySem.W.subIn K (.ref b1) (.type "object") = some true)
    (iB1 : PySem.W.findIn K (.ref b1) "__init__" = some (some (.ref fB)))
    (nS1 : PySem.W.findIn K (.ref b1) "_stamps" = some none)
    (nP1 : PySem.W.findIn K (.ref b1) "pieces" = some none)
    (nm1 : PySem.W.findCls K (.ref b1) (.type "type") "NAME" = some (.val (.str "window" u1)))
    (cn1 : PySem.W.findIn K (.ref b1) "NAME" = some (some (.str "window" v1)))
    (gc1 : PySem.W.specialIn K (.str "window" v1) "__get__" = some none)
    (ce1 : PySem.W.findIn K (.ref b1) "CELLS" = some (some (.int 120 w1)))
    (cg1 : PySem.W.specialIn K (.int 120 w1) "__get__" = some none)
    (nd1 : PySem.W.findCls K (.ref b1) (.type "type") "named" = some (.get (.builtin "classmethod.__get__") (.ref pN) .none (.ref b1)))
    (pr1 : PySem.W.findIn K (.ref b1) "stamps" = some (some (.ref pS)))
    (kn1 : PySem.W.findIn K (.ref b1) "_knows" = some (some (.ref fKn)))
    (ck1 : PySem.W.findIn K (.ref b1) "_check_stamping" = some (some (.ref fCk)))
    (cs1 : PySem.W.findIn K (.ref b1) "check_strip" = some (some (.ref fCs)))
    (hcb1 : PySem.W.findIn K (.ref b1) "__class__" = some (some (.builtin "object.__class__")))
    (hmb1 : PySem.W.mroIn K b1 (.type "object") = some true)
    (icb1 : PySem.W.isClsIn K b1 = true)
    (tyb1 : PySem.W.typeIn K (.ref b1) = some (.type "type"))
    (ab2 : PySem.W.nsIn K mainGlobals "Ring" = some (some (.ref b2)))
    (rdB2 : PySem.W.readsIn K b2 (.type "type") = true)
    (gaB2 : PySem.W.specialIn K (.ref b2) "__getattribute__" = some (some (.builtin "type.__getattribute__")))
    (pgB2 : PySem.W.plainGet K b2 Str.empty = true)
    (hdB2 : PySem.W.hasDictIn K b2 = true)
    (poB2 : PySem.W.plainOver K b2 = true)
    (saB2 : PySem.W.findIn K (.ref b2) "__setattr__" = some (some (.builtin "object.__setattr__")))
    (mkB2 : PySem.W.makesIn K b2 = true)
    (kcB2 : PySem.W.keepIn K (.ref b2) = true)
    (eqB2 : PySem.W.findIn K (.ref b2) "__eq__" = some (some (.builtin "object.__eq__")))
    (neB2 : PySem.W.findIn K (.ref b2) "__ne__" = some (some (.builtin "object.__ne__")))
    (soB2 : PySem.W.subIn K (.ref b2) (.type "object") = some true)
    (iB2 : PySem.W.findIn K (.ref b2) "__init__" = some (some (.ref fB)))
    (nS2 : PySem.W.findIn K (.ref b2) "_stamps" = some none)
    (nP2 : PySem.W.findIn K (.ref b2) "pieces" = some none)
    (nm2 : PySem.W.findCls K (.ref b2) (.type "type") "NAME" = some (.val (.str "ring" u2)))
    (cn2 : PySem.W.findIn K (.ref b2) "NAME" = some (some (.str "ring" v2)))
    (gc2 : PySem.W.specialIn K (.str "ring" v2) "__get__" = some none)
    (ce2 : PySem.W.findIn K (.ref b2) "CELLS" = some (some (.int 60 w2)))
    (cg2 : PySem.W.specialIn K (.int 60 w2) "__get__" = some none)
    (nd2 : PySem.W.findCls K (.ref b2) (.type "type") "named" = some (.get (.builtin "classmethod.__get__") (.ref pN) .none (.ref b2)))
    (pr2 : PySem.W.findIn K (.ref b2) "stamps" = some (some (.ref pS)))
    (kn2 : PySem.W.findIn K (.ref b2) "_knows" = some (some (.ref fKn)))
    (ck2 : PySem.W.findIn K (.ref b2) "_check_stamping" = some (some (.ref fCk)))
    (cs2 : PySem.W.findIn K (.ref b2) "check_strip" = some (some (.ref fCs)))
    (hcb2 : PySem.W.findIn K (.ref b2) "__class__" = some (some (.builtin "object.__class__")))
    (hmb2 : PySem.W.mroIn K b2 (.type "object") = some true)
    (icb2 : PySem.W.isClsIn K b2 = true)
    (tyb2 : PySem.W.typeIn K (.ref b2) = some (.type "type"))
    (ab3 : PySem.W.nsIn K mainGlobals "Band" = some (some (.ref b3)))
    (rdB3 : PySem.W.readsIn K b3 (.type "type") = true)
    (gaB3 : PySem.W.specialIn K (.ref b3) "__getattribute__" = some (some (.builtin "type.__getattribute__")))
    (pgB3 : PySem.W.plainGet K b3 Str.empty = true)
    (hdB3 : PySem.W.hasDictIn K b3 = true)
    (poB3 : PySem.W.plainOver K b3 = true)
    (saB3 : PySem.W.findIn K (.ref b3) "__setattr__" = some (some (.builtin "object.__setattr__")))
    (mkB3 : PySem.W.makesIn K b3 = true)
    (kcB3 : PySem.W.keepIn K (.ref b3) = true)
    (eqB3 : PySem.W.findIn K (.ref b3) "__eq__" = some (some (.builtin "object.__eq__")))
    (neB3 : PySem.W.findIn K (.ref b3) "__ne__" = some (some (.builtin "object.__ne__")))
    (soB3 : PySem.W.subIn K (.ref b3) (.type "object") = some true)
    (iB3 : PySem.W.findIn K (.ref b3) "__init__" = some (some (.ref fB)))
    (nS3 : PySem.W.findIn K (.ref b3) "_stamps" = some none)
    (nP3 : PySem.W.findIn K (.ref b3) "pieces" = some none)
    (nm3 : PySem.W.findCls K (.ref b3) (.type "type") "NAME" = some (.val (.str "" u3)))
    (cn3 : PySem.W.findIn K (.ref b3) "NAME" = some (some (.str "" v3)))
    (gc3 : PySem.W.specialIn K (.str "" v3) "__get__" = some none)
    (ce3 : PySem.W.findIn K (.ref b3) "CELLS" = some (some (.int 120 w3)))
    (cg3 : PySem.W.specialIn K (.int 120 w3) "__get__" = some none)
    (nd3 : PySem.W.findCls K (.ref b3) (.type "type") "named" = some (.get (.builtin "classmethod.__get__") (.ref pN) .none (.ref b3)))
    (pr3 : PySem.W.findIn K (.ref b3) "stamps" = some (some (.ref pS)))
    (kn3 : PySem.W.findIn K (.ref b3) "_knows" = some (some (.ref fKn)))
    (ck3 : PySem.W.findIn K (.ref b3) "_check_stamping" = some (some (.ref fCk)))
    (cs3 : PySem.W.findIn K (.ref b3) "check_strip" = some (some (.ref fCs)))
    (hcb3 : PySem.W.findIn K (.ref b3) "__class__" = some (some (.builtin "object.__class__")))
    (hmb3 : PySem.W.mroIn K b3 (.type "object") = some true)
    (icb3 : PySem.W.isClsIn K b3 = true)
    (tyb3 : PySem.W.typeIn K (.ref b3) = some (.type "type"))
    (jB : PySem.W.isFn K (.ref fB) = true)
    (lB : K.lookup fB = some ⟨ocB, odB, .func (PySem.W.fnOf "__init__" "Band.__init__" (defArgs sBInit) (defBody sBInit) (defScope sBInit) .none kVB dcB pmB anB cdB ctB), slB⟩)
    (coB : PySem.W.codeIn K cdB "Band.__init__" = true)
    (kB : PySem.W.keepIn K (.ref fB) = true)
    (jKn : PySem.W.isFn K (.ref fKn) = true)
    (kKn : PySem.W.keepIn K (.ref fKn) = true)
    (jCs : PySem.W.isFn K (.ref fCs) = true)
    (kCs : PySem.W.keepIn K (.ref fCs) = true)
    (jCk : PySem.W.isFn K (.ref fCk) = true)
    (kCk : PySem.W.keepIn K (.ref fCk) = true)
    (nR : PySem.W.recIn K pN "classmethod" = some (.ref gN :: restN))
    (nF : PySem.W.fnIn K gN = true)
    (lN : K.lookup gN = some ⟨ocN, odN, .func (PySem.W.fnOf "named" "Band.named" (defArgs sNamed) (defBody sNamed) (defScope sNamed) .none kVN dcN pmN anN cdN ctN), slN⟩)
    (coN : PySem.W.codeIn K cdN "Band.named" = true)
    (kN : PySem.W.keepIn K (.ref gN) = true)
    (p1 : PySem.W.specialIn K (.ref pS) "__get__" = some (some (.builtin "property.__get__")))
    (p2 : PySem.W.takesIn K (.ref pS) = some true)
    (p3 : PySem.W.recIn K pS "property" = some (.ref gS :: restS))
    (lG : K.lookup gS = some ⟨ocG, odG, .func (PySem.W.fnOf "stamps" "Band.stamps" (defArgs sStamps) (defBody sStamps) (defScope sStamps) .none kVG dcG pmG anG cdG ctG), slG⟩)
    (coG : PySem.W.codeIn K cdG "Band.stamps" = true)
    (kG : PySem.W.keepIn K (.ref gS) = true)
    (sb00 : PySem.W.subIn K (.ref b0) (.ref b0) = some true)
    (sb01 : PySem.W.subIn K (.ref b0) (.ref b1) = some false)
    (sb02 : PySem.W.subIn K (.ref b0) (.ref b2) = some false)
    (sb03 : PySem.W.subIn K (.ref b0) (.ref b3) = some true)
    (sb10 : PySem.W.subIn K (.ref b1) (.ref b0) = some false)
    (sb11 : PySem.W.subIn K (.ref b1) (.ref b1) = some true)
    (sb12 : PySem.W.subIn K (.ref b1) (.ref b2) = some false)
    (sb13 : PySem.W.subIn K (.ref b1) (.ref b3) = some true)
    (sb20 : PySem.W.subIn K (.ref b2) (.ref b0) = some false)
    (sb21 : PySem.W.subIn K (.ref b2) (.ref b1) = some false)
    (sb22 : PySem.W.subIn K (.ref b2) (.ref b2) = some true)
    (sb23 : PySem.W.subIn K (.ref b2) (.ref b3) = some true)
    (sb30 : PySem.W.subIn K (.ref b3) (.ref b0) = some false)
    (sb31 : PySem.W.subIn K (.ref b3) (.ref b1) = some false)
    (sb32 : PySem.W.subIn K (.ref b3) (.ref b2) = some false)
    (sb33 : PySem.W.subIn K (.ref b3) (.ref b3) = some true)
    (mF0 : PySem.W.findIn K (.ref b0) "fits" = some (some (.ref fF0)))
    (jF0 : PySem.W.isFn K (.ref fF0) = true)
    (kF0_ : PySem.W.keepIn K (.ref fF0) = true)
    (mS0 : PySem.W.findIn K (.ref b0) "stamped" = some (some (.ref fS0)))
    (jS0 : PySem.W.isFn K (.ref fS0) = true)
    (kS0_ : PySem.W.keepIn K (.ref fS0) = true)
    (mF1 : PySem.W.findIn K (.ref b1) "fits" = some (some (.ref fF1)))
    (jF1 : PySem.W.isFn K (.ref fF1) = true)
    (kF1_ : PySem.W.keepIn K (.ref fF1) = true)
    (mS1 : PySem.W.findIn K (.ref b1) "stamped" = some (some (.ref fS1)))
    (jS1 : PySem.W.isFn K (.ref fS1) = true)
    (kS1_ : PySem.W.keepIn K (.ref fS1) = true)
    (mF2 : PySem.W.findIn K (.ref b2) "fits" = some (some (.ref fF2)))
    (jF2 : PySem.W.isFn K (.ref fF2) = true)
    (kF2_ : PySem.W.keepIn K (.ref fF2) = true)
    (mS2 : PySem.W.findIn K (.ref b2) "stamped" = some (some (.ref fS2)))
    (jS2 : PySem.W.isFn K (.ref fS2) = true)
    (kS2_ : PySem.W.keepIn K (.ref fS2) = true)
    (aCP : PySem.W.nsIn K mainGlobals "Pieces" = some (some (.ref CP)))
    (rdP : PySem.W.readsIn K CP (.type "type") = true)
    (gaP : PySem.W.specialIn K (.ref CP) "__getattribute__" = some (some (.builtin "type.__getattribute__")))
    (pgP : PySem.W.plainGet K CP Str.empty = true)
    (hdP : PySem.W.hasDictIn K CP = true)
    (poP : PySem.W.plainOver K CP = true)
    (saP : PySem.W.findIn K (.ref CP) "__setattr__" = some (some (.builtin "object.__setattr__")))
    (mkP : PySem.W.makesIn K CP = true)
    (kcP : PySem.W.keepIn K (.ref CP) = true)
    (iP : PySem.W.findIn K (.ref CP) "__init__" = some (some (.ref fP)))
    (jP : PySem.W.isFn K (.ref fP) = true)
    (lP : K.lookup fP = some ⟨ocP, odP, .func (PySem.W.fnOf "__init__" "Pieces.__init__" (defArgs sPInit) (defBody sPInit) (defScope sPInit) .none kVP dcP pmP anP cdP ctP), slP⟩)
    (coP : PySem.W.codeIn K cdP "Pieces.__init__" = true)
    (kP : PySem.W.keepIn K (.ref fP) = true)
    (nq1 : PySem.W.findIn K (.ref CP) "span" = some none)
    (nq2 : PySem.W.findIn K (.ref CP) "spots" = some none)
    (nq3 : PySem.W.findIn K (.ref CP) "kinds" = some none)
    (aSp : PySem.W.nsIn K mainGlobals "spots_of" = some (some (.ref fSp)))
    (lSp : K.lookup fSp = some ⟨ocSp, odSp, .func (PySem.W.fnOf "spots_of" "spots_of" (defArgs sSpots) (defBody sSpots) (defScope sSpots) .none kVSp dcSp pmSp anSp cdSp ctSp), slSp⟩)
    (coSp : PySem.W.codeIn K cdSp "spots_of" = true)
    (kSp : PySem.W.keepIn K (.ref fSp) = true)
    (aKi : PySem.W.nsIn K mainGlobals "kinds_of" = some (some (.ref fKi)))
    (lKi : K.lookup fKi = some ⟨ocKi, odKi, .func (PySem.W.fnOf "kinds_of" "kinds_of" (defArgs sKinds) (defBody sKinds) (defScope sKinds) .none kVKi dcKi pmKi anKi cdKi ctKi), slKi⟩)
    (coKi : PySem.W.codeIn K cdKi "kinds_of" = true)
    (kKi : PySem.W.keepIn K (.ref fKi) = true)
    (z_enumerate : PySem.W.nsIn K mainGlobals "enumerate" = some none)
    (lKn : K.lookup fKn = some ⟨ocKn, odKn, .func (PySem.W.fnOf "_knows" "Band._knows" (defArgs sKnows) (defBody sKnows) (defScope sKnows) .none kVKn dcKn pmKn anKn cdKn ctKn), slKn⟩)
    (coKn : PySem.W.codeIn K cdKn "Band._knows" = true)
    (lCk : K.lookup fCk = some ⟨ocCk, odCk, .func (PySem.W.fnOf "_check_stamping" "Band._check_stamping" (defArgs sCheck) (defBody sCheck) (defScope sCheck) .none kVCk dcCk pmCk anCk cdCk ctCk), slCk⟩)
    (coCk : PySem.W.codeIn K cdCk "Band._check_stamping" = true)
    (lCs : K.lookup fCs = some ⟨ocCs, odCs, .func (PySem.W.fnOf "check_strip" "Band.check_strip" (defArgs sChkS) (defBody sChkS) (defScope sChkS) .none kVCs dcCs pmCs anCs cdCs ctCs), slCs⟩)
    (coCs : PySem.W.codeIn K cdCs "Band.check_strip" = true)
    (lF0 : K.lookup fF0 = some ⟨ocF0, odF0, .func (PySem.W.fnOf "fits" "Line.fits" (defArgs sLFits) (defBody sLFits) (defScope sLFits) .none kVF0 dcF0 pmF0 anF0 cdF0 ctF0), slF0⟩)
    (coF0 : PySem.W.codeIn K cdF0 "Line.fits" = true)
    (kF0 : PySem.W.keepIn K (.ref fF0) = true)
    (lSt0 : K.lookup fS0 = some ⟨ocSt0, odSt0, .func (PySem.W.fnOf "stamped" "Line.stamped" (defArgs sLStm) (defBody sLStm) (defScope sLStm) .none kVSt0 dcSt0 pmSt0 anSt0 cdSt0 ctSt0), slSt0⟩)
    (coSt0 : PySem.W.codeIn K cdSt0 "Line.stamped" = true)
    (kSt0 : PySem.W.keepIn K (.ref fS0) = true)
    (lF1 : K.lookup fF1 = some ⟨ocF1, odF1, .func (PySem.W.fnOf "fits" "Window.fits" (defArgs sWFits) (defBody sWFits) (defScope sWFits) .none kVF1 dcF1 pmF1 anF1 cdF1 ctF1), slF1⟩)
    (coF1 : PySem.W.codeIn K cdF1 "Window.fits" = true)
    (kF1 : PySem.W.keepIn K (.ref fF1) = true)
    (lSt1 : K.lookup fS1 = some ⟨ocSt1, odSt1, .func (PySem.W.fnOf "stamped" "Window.stamped" (defArgs sWStm) (defBody sWStm) (defScope sWStm) .none kVSt1 dcSt1 pmSt1 anSt1 cdSt1 ctSt1), slSt1⟩)
    (coSt1 : PySem.W.codeIn K cdSt1 "Window.stamped" = true)
    (kSt1 : PySem.W.keepIn K (.ref fS1) = true)
    (lF2 : K.lookup fF2 = some ⟨ocF2, odF2, .func (PySem.W.fnOf "fits" "Ring.fits" (defArgs sRFits) (defBody sRFits) (defScope sRFits) .none kVF2 dcF2 pmF2 anF2 cdF2 ctF2), slF2⟩)
    (coF2 : PySem.W.codeIn K cdF2 "Ring.fits" = true)
    (kF2 : PySem.W.keepIn K (.ref fF2) = true)
    (lSt2 : K.lookup fS2 = some ⟨ocSt2, odSt2, .func (PySem.W.fnOf "stamped" "Ring.stamped" (defArgs sRStm) (defBody sRStm) (defScope sRStm) .none kVSt2 dcSt2 pmSt2 anSt2 cdSt2 ctSt2), slSt2⟩)
    (coSt2 : PySem.W.codeIn K cdSt2 "Ring.stamped" = true)
    (kSt2 : PySem.W.keepIn K (.ref fS2) = true)
    (aDS : PySem.W.nsIn K mainGlobals "StampError" = some (some (.ref DS)))
    (aDNum : PySem.W.nsIn K mainGlobals "InvalidNumber" = some (some (.ref DNum)))
    (aDTx : PySem.W.nsIn K mainGlobals "InvalidText" = some (some (.ref DTx)))
    (z_ValueError : PySem.W.nsIn K mainGlobals "ValueError" = some none)
    (z_isinstance : PySem.W.nsIn K mainGlobals "isinstance" = some none)
    (bDS : PySem.W.subIn K (.ref DS) (.type "BaseException") = some true)
    (u4DS : PySem.W.hasDictIn K DS = true)
    (tyDS : PySem.W.typeIn K (.ref DS) = some (.type "type"))
    (snDSp_DS : PySem.W.subIn K (.ref DSp) (.ref DS) = some true)
    (u1DSp : PySem.W.findIn K (.ref DSp) "__getattribute__" = some (some (.builtin "BaseException.__getattribute__")))
    (u2DSp : PySem.W.findIn K (.ref DSp) "__getattr__" = some none)
    (u4DSp : PySem.W.hasDictIn K DSp = true)
    (u5DSp : PySem.W.findIn K (.ref DSp) "__class__" = some (some (.builtin "object.__class__")))
    (u8DSp : PySem.W.mroIn K DSp (.type "object") = some true)
    (icDNum : PySem.W.isClsIn K DNum = true)
    (tyDNum : PySem.W.typeIn K (.ref DNum) = some (.type "type"))
    (snDSp_DNum : PySem.W.subIn K (.ref DSp) (.ref DNum) = some false)
    (snDNum_DNum : PySem.W.subIn K (.ref DNum) (.ref DNum) = some true)
    (icDTx : PySem.W.isClsIn K DTx = true)
    (tyDTx : PySem.W.typeIn K (.ref DTx) = some (.type "type"))
    (snDSp_DTx : PySem.W.subIn K (.ref DSp) (.ref DTx) = some false)
    (snDTx_DTx : PySem.W.subIn K (.ref DTx) (.ref DTx) = some true)
    (svDSp_ValueError : PySem.W.subIn K (.ref DSp) (.type "ValueError") = some true)
    (snDSg_DS : PySem.W.subIn K (.ref DSg) (.ref DS) = some true)
    (u1DSg : PySem.W.findIn K (.ref DSg) "__getattribute__" = some (some (.builtin "BaseException.__getattribute__")))
    (u2DSg : PySem.W.findIn K (.ref DSg) "__getattr__" = some none)
    (u4DSg : PySem.W.hasDictIn K DSg = true)
    (u5DSg : PySem.W.findIn K (.ref DSg) "__class__" = some (some (.builtin "object.__class__")))
    (u8DSg : PySem.W.mroIn K DSg (.type "object") = some true)
    (snDSg_DNum : PySem.W.subIn K (.ref DSg) (.ref DNum) = some false)
    (snDSg_DTx : PySem.W.subIn K (.ref DSg) (.ref DTx) = some false)
    (svDSg_ValueError : PySem.W.subIn K (.ref DSg) (.type "ValueError") = some true)
    (icDSp : PySem.W.isClsIn K DSp = true)
    (snDSp_DSp : PySem.W.subIn K (.ref DSp) (.ref DSp) = some true)
    (icDSg : PySem.W.isClsIn K DSg = true)
    (snDSp_DSg : PySem.W.subIn K (.ref DSp) (.ref DSg) = some false)
    (snDSg_DSg : PySem.W.subIn K (.ref DSg) (.ref DSg) = some true)
    (snDSg_DSp : PySem.W.subIn K (.ref DSg) (.ref DSp) = some false)
    (z_all : PySem.W.nsIn K mainGlobals "all" = some none)
    (z_len : PySem.W.nsIn K mainGlobals "len" = some none)
    (z_str : PySem.W.nsIn K mainGlobals "str" = some none)
    (z_list : PySem.W.nsIn K mainGlobals "list" = some none)
    (z_set : PySem.W.nsIn K mainGlobals "set" = some none)
    (z_abs : PySem.W.nsIn K mainGlobals "abs" = some none)
    (z_max : PySem.W.nsIn K mainGlobals "max" = some none)
    (z_min : PySem.W.nsIn K mainGlobals "min" = some none)
    (z_range : PySem.W.nsIn K mainGlobals "range" = some none)
    (z_repr : PySem.W.nsIn K mainGlobals "repr" = some none)
    (z_int : PySem.W.nsIn K mainGlobals "int" = some none)
    (svb0_str : PySem.W.subIn K (.ref b0) (.type "str") = some false)
    (svb1_str : PySem.W.subIn K (.ref b1) (.type "str") = some false)
    (svb2_str : PySem.W.subIn K (.ref b2) (.type "str") = some false) (l : PySem.W.OpenLaw) (hl : l.prog = P) :
    LamX.LawAtS l w K CX0 10 63 "script" mg fa h := by
  subst hl
  have ee := hfa.symm.trans (PySem.W.mg_of X G aLaw)
  cases ee
  have FLow : FunC K "is_lowercase" "is_lowercase" sLow fLow _ cLow := funC_mk lLow coLow kLow
  have FText := fun_mk (st := sText) lText coText kText
  have FAre : FunC K "are_stamps" "are_stamps" sAre fAre _ cAre := funC_mk lAre coAre kAre
  have FStrip := fun_mk (st := sStrip) lStrip coStrip kStrip
  have FOver := fun_mk (st := sOver) lOver coOver kOver
  have FTape := fun_mk (st := sTape) lTape coTape kTape
  have FNext := fun_mk (st := sNext) lNext coNext kNext
  have FInks := fun_mk (st := sInks) lInks coInks kInks
  have FInked := fun_mk (st := sInked) lInked coInked kInked
  have FSpots := fun_mk (st := sSpotsL) lSpots coSpots kSpots
  have FBand := fun_mk (st := sBandL) lBand coBand kBand
  have FRow := fun_mk (st := sRow) lRow coRow kRow
  have FTold := fun_mk (st := sTold) lTold coTold kTold
  have FRR := fun_mk (st := sRR) lRR coRR kRR
  have FNR := fun_mk (st := sNR) lNR coNR kNR
  have FLaw := fun_mk (st := sLaw) lLaw coLaw kLaw
  have FInit := fun_mk (st := sInit) lInit coInit kInit
  have FOf := fun_mk (st := sOf) lOf coOf kOf
  have FWi := fun_mk (st := sWidth) lWi coWi kWi
  have FWo := fun_mk (st := sWords) lWo coWo kWo
  have FLen := fun_mk (st := sLenI) lLen coLen kLen
  have FCl := fun_mk (st := sCall) lCl coCl kCl
  have FB := fun_mk (st := sBInit) lB coB kB
  have FN := fun_mk (st := sNamed) lN coN kN
  have FG := fun_mk (st := sStamps) lG coG kG
  have FP := fun_mk (st := sPInit) lP coP kP
  have FSp := fun_mk (st := sSpots) lSp coSp kSp
  have FKi := fun_mk (st := sKinds) lKi coKi kKi
  have FKn := fun_mk (st := sKnows) lKn coKn kKn
  have FCk := fun_mk (st := sCheck) lCk coCk kCk
  have FCs := fun_mk (st := sChkS) lCs coCs kCs
  have FF0 := fun_mk (st := sLFits) lF0 coF0 kF0
  have FSt0 := fun_mk (st := sLStm) lSt0 coSt0 kSt0
  have FF1 := fun_mk (st := sWFits) lF1 coF1 kF1
  have FSt1 := fun_mk (st := sWStm) lSt1 coSt1 kSt1
  have FF2 := fun_mk (st := sRFits) lF2 coF2 kF2
  have FSt2 := fun_mk (st := sRStm) lSt2 coSt2 kSt2
  have TB0 := tabs _ _ _ r0 (tab_mk aLow lLow rfl tLow wLow)
  have TB1 := tabs _ _ _ r1 (tab_mk aAre lAre rfl tAre wAre)
  have X' : Txt K mg C fLow fText fAre fTape fNext fInks := ⟨(PySem.W.mg_none_of X G z_all), (PySem.W.mg_none_of X G z_len), (PySem.W.mg_none_of X G z_isinstance), (PySem.W.mg_none_of X G z_str), (PySem.W.mg_none_of X G z_list), (PySem.W.mg_none_of X G z_set), (PySem.W.mg_none_of X G z_abs), (PySem.W.mg_none_of X G z_max), (PySem.W.mg_none_of X G z_min), (PySem.W.mg_none_of X G z_range),
    (PySem.W.mg_of X G aTape), kTape, (PySem.W.mg_of X G aNext), kNext, (PySem.W.mg_of X G aInks), kInks, (PySem.W.mg_of X G aLow), kLow, (PySem.W.mg_of X G aText), kText, (PySem.W.mg_of X G aAre), kAre, (PySem.W.mg_of X G aC), ⟨_, (PySem.W.mg_of X G aWidest)⟩, ⟨_, (PySem.W.mg_of X G aMostL)⟩, ⟨rdS, gaS⟩, ⟨_, mst, ⟨_, rfl⟩⟩⟩
  have X2 : Txt2 K mg fStrip fOver := ⟨(PySem.W.mg_of X G aStrip), kStrip, (PySem.W.mg_of X G aOver), kOver, ⟨_, (PySem.W.mg_of X G aCells)⟩⟩
  let BAv : BA := ⟨fun i => match i with | 0 => b0 | 1 => b1 | 2 => b2 | _ => b3, (fun i => match i with | 0 => fF0 | 1 => fF1 | _ => fF2), (fun i => match i with | 0 => fS0 | 1 => fS1 | _ => fS2), fB, pN, gN, pS, gS, fKn, fCk, CP, fP, fSp, fKi, fCs⟩
  have BB : Bds K mg BAv := by
    refine ⟨fun i hi => ?_, fun i j hi hj => ?_, fun i j hi hj => ?_, e6, e7, fun i hi => ?_, fun i hi => ?_, (PySem.W.mg_of X G aCP), ⟨mkP, iP, jP, kcP⟩, ⟨⟨pgP, hdP, poP, saP⟩, nq1, nq2, nq3⟩, ⟨(PySem.W.mg_of X G aSp), kSp, (PySem.W.mg_of X G aKi), kKi, (PySem.W.mg_none_of X G z_enumerate)⟩⟩
    · match i, hi with
      | 0, _ => exact ⟨(PySem.W.mg_of X G ab0), ⟨mkB0, iB0, jB, kcB0⟩, ⟨pgB0, hdB0, poB0, saB0⟩, ⟨eqB0, neB0, soB0⟩, nS0, nP0, ⟨rdB0, gaB0⟩, ⟨_, nm0, ⟨_, rfl⟩⟩, ⟨_, cn0, ⟨_, rfl⟩, gc0, by decide +kernel⟩, ⟨_, ce0, ⟨_, rfl⟩, cg0, by decide +kernel⟩, ⟨nd0, ⟨_, nR⟩, nF⟩, ⟨pr0, p1, p2, ⟨_, p3⟩⟩, hcb0, hmb0, ⟨kn0, jKn, kKn⟩, ⟨ck0, jCk, kCk⟩, ⟨cs0, jCs, kCs⟩⟩
      | 1, _ => exact ⟨(PySem.W.mg_of X G ab1), ⟨mkB1, iB1, jB, kcB1⟩, ⟨pgB1, hdB1, poB1, saB1⟩, ⟨eqB1, neB1, soB1⟩, nS1, nP1, ⟨rdB1, gaB1⟩, ⟨_, nm1, ⟨_, rfl⟩⟩, ⟨_, cn1, ⟨_, rfl⟩, gc1, by decide +kernel⟩, ⟨_, ce1, ⟨_, rfl⟩, cg1, by decide +kernel⟩, ⟨nd1, ⟨_, nR⟩, nF⟩, ⟨pr1, p1, p2, ⟨_, p3⟩⟩, hcb1, hmb1, ⟨kn1, jKn, kKn⟩, ⟨ck1, jCk, kCk⟩, ⟨cs1, jCs, kCs⟩⟩
      | 2, _ => exact ⟨(PySem.W.mg_of X G ab2), ⟨mkB2, iB2, jB, kcB2⟩, ⟨pgB2, hdB2, poB2, saB2⟩, ⟨eqB2, neB2, soB2⟩, nS2, nP2, ⟨rdB2, gaB2⟩, ⟨_, nm2, ⟨_, rfl⟩⟩, ⟨_, cn2, ⟨_, rfl⟩, gc2, by decide +kernel⟩, ⟨_, ce2, ⟨_, rfl⟩, cg2, by decide +kernel⟩, ⟨nd2, ⟨_, nR⟩, nF⟩, ⟨pr2, p1, p2, ⟨_, p3⟩⟩, hcb2, hmb2, ⟨kn2, jKn, kKn⟩, ⟨ck2, jCk, kCk⟩, ⟨cs2, jCs, kCs⟩⟩
      | 3, _ => exact ⟨(PySem.W.mg_of X G ab3), ⟨mkB3, iB3, jB, kcB3⟩, ⟨pgB3, hdB3, poB3, saB3⟩, ⟨eqB3, neB3, soB3⟩, nS3, nP3, ⟨rdB3, gaB3⟩, ⟨_, nm3, ⟨_, rfl⟩⟩, ⟨_, cn3, ⟨_, rfl⟩, gc3, by decide +kernel⟩, ⟨_, ce3, ⟨_, rfl⟩, cg3, by decide +kernel⟩, ⟨nd3, ⟨_, nR⟩, nF⟩, ⟨pr3, p1, p2, ⟨_, p3⟩⟩, hcb3, hmb3, ⟨kn3, jKn, kKn⟩, ⟨ck3, jCk, kCk⟩, ⟨cs3, jCs, kCs⟩⟩
    · match i, j, hi, hj with
      | 0, 0, _, _ => exact kit_ref icb0 tyb0 sb00 sb00
      | 0, 1, _, _ => exact kit_ref icb1 tyb1 sb01 sb11
      | 0, 2, _, _ => exact kit_ref icb2 tyb2 sb02 sb22
      | 0, 3, _, _ => exact kit_ref icb3 tyb3 sb03 sb33
      | 1, 0, _, _ => exact kit_ref icb0 tyb0 sb10 sb00
      | 1, 1, _, _ => exact kit_ref icb1 tyb1 sb11 sb11
      | 1, 2, _, _ => exact kit_ref icb2 tyb2 sb12 sb22
      | 1, 3, _, _ => exact kit_ref icb3 tyb3 sb13 sb33
      | 2, 0, _, _ => exact kit_ref icb0 tyb0 sb20 sb00
      | 2, 1, _, _ => exact kit_ref icb1 tyb1 sb21 sb11
      | 2, 2, _, _ => exact kit_ref icb2 tyb2 sb22 sb22
      | 2, 3, _, _ => exact kit_ref icb3 tyb3 sb23 sb33
      | 3, 0, _, _ => exact kit_ref icb0 tyb0 sb30 sb00
      | 3, 1, _, _ => exact kit_ref icb1 tyb1 sb31 sb11
      | 3, 2, _, _ => exact kit_ref icb2 tyb2 sb32 sb22
      | 3, 3, _, _ => exact kit_ref icb3 tyb3 sb33 sb33
    · match i, j, hi, hj with
      | 0, 0, _, _ => exact sb00
      | 0, 1, _, _ => exact sb01
      | 0, 2, _, _ => exact sb02
      | 0, 3, _, _ => exact sb03
      | 1, 0, _, _ => exact sb10
      | 1, 1, _, _ => exact sb11
      | 1, 2, _, _ => exact sb12
      | 1, 3, _, _ => exact sb13
      | 2, 0, _, _ => exact sb20
      | 2, 1, _, _ => exact sb21
      | 2, 2, _, _ => exact sb22
      | 2, 3, _, _ => exact sb23
      | 3, 0, _, _ => exact sb30
      | 3, 1, _, _ => exact sb31
      | 3, 2, _, _ => exact sb32
      | 3, 3, _, _ => exact sb33
    · match i, hi with
      | 0, _ => exact ⟨mF0, jF0, kF0_⟩
      | 1, _ => exact ⟨mF1, jF1, kF1_⟩
      | 2, _ => exact ⟨mF2, jF2, kF2_⟩
    · match i, hi with
      | 0, _ => exact ⟨mS0, jS0, kS0_⟩
      | 1, _ => exact ⟨mS1, jS1, kS1_⟩
      | 2, _ => exact ⟨mS2, jS2, kS2_⟩
  have X5 : Top5 K mg fInked fSpots fBand fRow fTold fRR fNR := ⟨(PySem.W.mg_of X G aInked), kInked, (PySem.W.mg_of X G aSpots), kSpots, (PySem.W.mg_of X G aBand), kBand, (PySem.W.mg_of X G aRow), kRow, (PySem.W.mg_of X G aTold), kTold, (PySem.W.mg_of X G aRR), kRR, (PySem.W.mg_of X G aNR), kNR, (PySem.W.mg_none_of X G z_enumerate), (PySem.W.mg_none_of X G z_repr), (PySem.W.mg_none_of X G z_int)⟩
  have Ers : Errs5 K mg DS DNum DTx DSp DSg := ⟨(PySem.W.mg_of X G aDS), (PySem.W.mg_of X G aDNum), (PySem.W.mg_of X G aDTx), ⟨xDSp, (PySem.W.mg_of X G aDSp), kkDSp, bDSp, tyDSp⟩, ⟨xDSg, (PySem.W.mg_of X G aDSg), kkDSg, bDSg, tyDSg⟩, (PySem.W.mg_none_of X G z_ValueError), (PySem.W.mg_none_of X G z_isinstance), ⟨(PySem.W.exm_ref bDS u4DS tyDS snDSp_DS), ⟨u1DSp, u2DSp, bDSp, u4DSp, u5DSp, e6, e7, u8DSp⟩, (kit_ref icDNum tyDNum snDSp_DNum snDNum_DNum), (kit_ref icDTx tyDTx snDSp_DTx snDTx_DTx), (kit_typ (by decide +kernel) svDSp_ValueError)⟩, ⟨(PySem.W.exm_ref bDS u4DS tyDS snDSg_DS), ⟨u1DSg, u2DSg, bDSg, u4DSg, u5DSg, e6, e7, u8DSg⟩, (kit_ref icDNum tyDNum snDSg_DNum snDNum_DNum), (kit_ref icDTx tyDTx snDSg_DTx snDTx_DTx), (kit_typ (by decide +kernel) svDSg_ValueError)⟩, (kit_ref icDSp tyDSp snDSp_DSp snDSp_DSp), (kit_ref icDSg tyDSg snDSp_DSg snDSg_DSg), (kit_ref icDSp tyDSp snDSg_DSp snDSp_DSp), (kit_ref icDSg tyDSg snDSg_DSg snDSg_DSg)⟩
  have Er : ErrC K mg "InvalidStamps" D := ⟨xD, (PySem.W.mg_of X G aD), kkD, bD, tyD⟩
  have En : ErrC K mg "InvalidName" DN := ⟨xDN, (PySem.W.mg_of X G aDN), kkDN, bDN, tyDN⟩
  have ks : ∀ i, i < 3 → PySem.W.kitOne K (.ref (BAv.c i)) (.type "str") = some false := fun i hi => by
    match i, hi with
    | 0, _ => exact (kit_typ (by decide +kernel) svb0_str)
    | 1, _ => exact (kit_typ (by decide +kernel) svb1_str)
    | 2, _ => exact (kit_typ (by decide +kernel) svb2_str)
  refine ⟨PySem.W.fnOf "law" "law" (defArgs sLaw) (defBody sLaw) (defScope sLaw) .none kVLaw dcLaw pmLaw anLaw cdLaw ctLaw, [(cLow, PLow), (cAre, PAre)], spLaw K [PLow, PAre], fun p hp => ?_, fun p hp => ?_, fun p hp => ?_, fun s u => .of_eq rfl, fun H a ns hn _ hH hS => ?_, fun base KB GB TB => ?_⟩
  · simp only [List.mem_cons, List.not_mem_nil, or_false] at hp
    rcases hp with rfl | rfl
    · exact TB0.2
    · exact TB1.2
  · simp only [List.mem_cons, List.not_mem_nil, or_false] at hp
    rcases hp with rfl | rfl
    · exact nLow
    · exact nAre
  · simp only [List.mem_cons, List.not_mem_nil, or_false] at hp
    rcases hp with rfl | rfl
    · exact TB0.1
    · exact TB1.1
  · refine ⟨a, ns, rfl, fun p hp => ?_, hS, hn, fun _ => rfl⟩
    have tr : TriplesOk (#[] : Array Value).toList := by first | trivial | simp [TriplesOk] | exact ⟨⟩
    simp only [List.mem_cons, List.not_mem_nil, or_false] at hp
    rcases hp with rfl | rfl
    · exact ⟨#[], hH (cLow, _) (by simp), tr⟩
    · exact ⟨#[], hH (cAre, _) (by simp), tr⟩
  · have TTB : ∀ c P', (c, P') ∈ ([(cLow, PLow), (cAre, PAre)] : List (Addr × Addr)) → TabB base mg c P' := fun c P' hm => (fun (z : LamX.TabB base mg c P') => ⟨z.code, z.bm, z.gP⟩) (TB (c, P') hm)
    have Tb : Tab base mg [PLow, PAre] cLow PLow cAre PAre := ⟨TTB cLow PLow (by simp), TTB cAre PAre (by simp), by simp, by simp⟩
    have O : Own K C := ⟨⟨pgS, hdS, poS, saS⟩, nW⟩
    have M : Mk K C fInit := ⟨mkS, iInit, jInit, kcS⟩
    have co : ClX.CMet K C (.type "type") "of" pO gO := ⟨oAOf, ⟨_, oROf⟩, oFOf⟩
    have pwo : PropOf K C "words" pWo fWo := ⟨prWo, pGWo, ptWo, ⟨_, pcWo⟩⟩
    have pwi : PropOf K C "width" pWi fWi := ⟨prWi, pGWi, ptWi, ⟨_, pcWi⟩⟩
    have LO : LenO K C fLen := ⟨dLen, eLen⟩
    have FI1 := ok_init (P := l.prog) (w := w) FInit FAre FText FLow X' Tb O Er
    have OO := ok_of FOf FI1 M X' Er
    have FI0 : FnOk l.prog w K mg base CX0 4 BAv.fB _ ["self", "stamps"] (spBInit K C BAv) := ok_binit FB FWo FP FSp FKi X' O pwo BB
    have NN := ok_named (P := l.prog) (w := w) (base := base) FN FB FI0 BB En
    have BD := ok_band (B := BAv) FBand FOf FN OO NN BB X' co
    have T0 := ok_lfits (P := l.prog) (w := w) (base := base) (B := BAv) FF0 FKn FLen FWi X' O pwi BB LO
    have T1 := ok_wfits (P := l.prog) (w := w) (base := base) (B := BAv) FF1 FKn FLen FWi X' O pwi BB LO
    have T2 := ok_rfits (P := l.prog) (w := w) (base := base) (B := BAv) FF2 FKn FLen FWi X' O pwi BB LO
    obtain ⟨fdf, hF⟩ := fam3 (R := fun i fd => L2.Fun K "fits" (fitN i) (fitS i) (BAv.ff i) fd ∧ FnOk l.prog w K mg base CX0 4 (BAv.ff i) fd ["self", "size", "word", "place"] (spFits C BAv i)) ⟨FF0, T0⟩ ⟨FF1, T1⟩ ⟨FF2, T2⟩
    have CL := ok_call (P := l.prog) (w := w) FCl FStrip FLow FOver FWi X' X2 Tb O pwi Ers.sp Ers.sg
    have D1 := ok_chks (P := l.prog) (w := w) (base := base) (B := BAv) (i := 1) (by decide) FCs FStrip FLow X' X2 Tb BB Ers.sp
    have D2 := ok_chks (P := l.prog) (w := w) (base := base) (B := BAv) (i := 2) (by decide) FCs FStrip FLow X' X2 Tb BB Ers.sp
    have C1 := ok_check (B := BAv) (i := 1) (by decide) FCk FCs D1 T1 (fits_b (i := 1) FF1) X' BB Ers.sg
    have C2 := ok_check (B := BAv) (i := 2) (by decide) FCk FCs D2 T2 (fits_b (i := 2) FF2) X' BB Ers.sg
    have bC : Binds K _ ["self", "strip", "word", "place"] [] := FCk.binds fun _ _ _ _ _ _ us hl => match us, hl with | [_, _, _, _], _ => rfl
    have S0 := ok_lstm (B := BAv) FSt0 FCl CL BB ⟨dCl, eCl, cI⟩
    have S1 := ok_wstm (B := BAv) FSt1 C1 bC FOver FWo X' X2 O pwo BB
    have S2 := ok_rstm (B := BAv) FSt2 C2 bC FOver FWo X' X2 O pwo BB
    obtain ⟨fds, hS⟩ := fam3 (R := fun i fd => L2.Fun K "stamped" (stmN i) (stmS i) (BAv.fs i) fd ∧ FnOk l.prog w K mg base (L2.CX l.prog w) 7 (BAv.fs i) fd ["self", "strip", "word", "place"] (spStm K [PLow, PAre] C BAv DSp DSg i)) ⟨FSt0, S0⟩ ⟨FSt1, S1⟩ ⟨FSt2, S2⟩
    have SR : ∀ i, i < 3 → FnR l.prog w K mg base (L2.CX l.prog w) 7 (BAv.fs i) (spStm K [PLow, PAre] C BAv DSp DSg i) := fun i hi => ((hS i hi).2.raw (stm_b (hS i hi).1) .nil).imp fun vs H Q E h => by rw [List.append_nil]; exact h
    have TL := ok_told (B := BAv) FTold (fun i hi => (hS i hi).1) (fun i hi => (hS i hi).2) BB Ers
    have RR := ok_rr FRR FNext FSpots FInked FTold TL (fun i hi => (hF i hi).1) (fun i hi => (hF i hi).2) X' X5 BB
    have NR := ok_nr FNR FNext FTold TL (fun i hi => (hF i hi).1) (fun i hi => (hF i hi).2) X' X5 BB ks
    exact ok_law5 FLaw FTape FNext FInks FBand FRow FRR FNR FB BD RR NR FI0 FI1 SR X' X5 BB M
end Ov

open PySem PySem.W PyProof.Rows
set_option maxRecDepth 100000 in
set_option maxHeartbeats 0 in
theorem PySem.Challenge.cw_overstamps_k05_stampings_on_bands_holds : PySem.Challenge.rw_overstamps_k05_stampings_on_bands.Holds := by
  w_on; o_law; k_head; (case hw => w_witness2)
  k_fill
  refine Ov.walk_T (l := PySem.Challenge.rw_overstamps_k05_stampings_on_bands) (n := 63) (k := 10) (x := "script") rfl (by decide) rfl ⟨rfl, by decide, by decide⟩ (fun w h Y => PySem.W.kIn_of Y) ?F
  case F =>
    intro w mg fa h Y KX G hmg tabs
    refine' Ov.all_mk KX G hmg _ tabs ?r0 ?r1 ?aLow ?lLow ?coLow ?kLow ?tLow ?wLow ?nLow ?aText ?lText ?coText ?kText ?aAre ?lAre ?coAre ?kAre ?tAre ?wAre ?nAre ?aStrip ?lStrip ?coStrip ?kStrip ?aOver ?lOver ?coOver ?kOver ?aTape ?lTape ?coTape ?kTape ?aNext ?lNext ?coNext ?kNext ?aInks ?lInks ?coInks ?kInks ?aInked ?lInked ?coInked ?kInked ?aSpots ?lSpots ?coSpots ?kSpots ?aBand ?lBand ?coBand ?kBand ?aRow ?lRow ?coRow ?kRow ?aTold ?lTold ?coTold ?kTold ?aRR ?lRR ?coRR ?kRR ?aNR ?lNR ?coNR ?kNR ?aLaw ?lLaw ?coLaw ?kLaw ?aWidest ?aMostL ?aCells ?aC ?rdS ?gaS ?pgS ?hdS ?poS ?saS ?mkS ?kcS ?iInit ?jInit ?lInit ?coInit ?kInit ?nW ?mst ?oAOf ?oROf ?oFOf ?lOf ?coOf ?kOf ?prWi ?pGWi ?ptWi ?pcWi ?lWi ?coWi ?kWi ?prWo ?pGWo ?ptWo ?pcWo ?lWo ?coWo ?kWo ?dLen ?eLen ?lLen ?coLen ?kLen ?dCl ?eCl ?lCl ?coCl ?kCl ?cI ?aD ?xD ?kkD ?bD ?tyD ?aDN ?xDN ?kkDN ?bDN ?tyDN ?aDSp ?xDSp ?kkDSp ?bDSp ?tyDSp ?aDSg ?xDSg ?kkDSg ?bDSg ?tyDSg ?e6 ?e7 ?ab0 ?rdB0 ?gaB0 ?pgB0 ?hdB0 ?poB0 ?saB0 ?mkB0 ?kcB0 ?eqB0 ?neB0 ?soB0 ?iB0 ?nS0 ?nP0 ?nm0 ?cn0 ?gc0 ?ce0 ?cg0 ?nd0 ?pr0 ?kn0 ?ck0 ?cs0 ?hcb0 ?hmb0 ?icb0 ?tyb0 ?ab1 ?rdB1 ?gaB1 ?pgB1 ?hdB1 ?poB1 ?saB1 ?mkB1 ?kcB1 ?eqB1 ?neB1 ?soB1 ?iB1 ?nS1 ?nP1 ?nm1 ?cn1 ?gc1 ?ce1 ?cg1 ?nd1 ?pr1 ?kn1 ?ck1 ?cs1 ?hcb1 ?hmb1 ?icb1 ?tyb1 ?ab2 ?rdB2 ?gaB2 ?pgB2 ?hdB2 ?poB2 ?saB2 ?mkB2 ?kcB2 ?eqB2 ?neB2 ?soB2 ?iB2 ?nS2 ?nP2 ?nm2 ?cn2 ?gc2 ?ce2 ?cg2 ?nd2 ?pr2 ?kn2 ?ck2 ?cs2 ?hcb2 ?hmb2 ?icb2 ?tyb2 ?ab3 ?rdB3 ?gaB3 ?pgB3 ?hdB3 ?poB3 ?saB3 ?mkB3 ?kcB3 ?eqB3 ?neB3 ?soB3 ?iB3 ?nS3 ?nP3 ?nm3 ?cn3 ?gc3 ?ce3 ?cg3 ?nd3 ?pr3 ?kn3 ?ck3 ?cs3 ?hcb3 ?hmb3 ?icb3 ?tyb3 ?jB ?lB ?coB ?kB ?jKn ?kKn ?jCs ?kCs ?jCk ?kCk ?nR ?nF ?lN ?coN ?kN ?p1 ?p2 ?p3 ?lG ?coG ?kG ?sb00 ?sb01 ?sb02 ?sb03 ?sb10 ?sb11 ?sb12 ?sb13 ?sb20 ?sb21 ?sb22 ?sb23 ?sb30 ?sb31 ?sb32 ?sb33 ?mF0 ?jF0 ?kF0_ ?mS0 ?jS0 ?kS0_ ?mF1 ?jF1 ?kF1_ ?mS1 ?jS1 ?kS1_ ?mF2 ?jF2 ?kF2_ ?mS2 ?jS2 ?kS2_ ?aCP ?rdP ?gaP ?pgP ?hdP ?poP ?saP ?mkP ?kcP ?iP ?jP ?lP ?coP ?kP ?nq1 ?nq2 ?nq3 ?aSp ?lSp ?coSp ?kSp ?aKi ?lKi ?coKi ?kKi ?z_enumerate ?lKn ?coKn ?lCk ?coCk ?lCs ?coCs ?lF0 ?coF0 ?kF0 ?lSt0 ?coSt0 ?kSt0 ?lF1 ?coF1 ?kF1 ?lSt1 ?coSt1 ?kSt1 ?lF2 ?coF2 ?kF2 ?lSt2 ?coSt2 ?kSt2 ?aDS ?aDNum ?aDTx ?z_ValueError ?z_isinstance ?bDS ?u4DS ?tyDS ?snDSp_DS ?u1DSp ?u2DSp ?u4DSp ?u5DSp ?u8DSp ?icDNum ?tyDNum ?snDSp_DNum ?snDNum_DNum ?icDTx ?tyDTx ?snDSp_DTx ?snDTx_DTx ?svDSp_ValueError ?snDSg_DS ?u1DSg ?u2DSg ?u4DSg ?u5DSg ?u8DSg ?snDSg_DNum ?snDSg_DTx ?svDSg_ValueError ?icDSp ?snDSp_DSp ?icDSg ?snDSp_DSg ?snDSg_DSg ?snDSg_DSp ?z_all ?z_len ?z_str ?z_list ?z_set ?z_abs ?z_max ?z_min ?z_range ?z_repr ?z_int ?svb0_str ?svb1_str ?svb2_str PySem.Challenge.rw_overstamps_k05_stampings_on_bands rfl
    (case aLow => k_is)
    (case lLow => k_is)
    (case coLow => k_is)
    (case kLow => k_is)
    (case tLow => k_is)
    (case wLow => rfl)
    (case nLow => first | k_is | rfl)
    (case aText => k_is)
    (case lText => k_is)
    (case coText => k_is)
    (case kText => k_is)
    (case aAre => k_is)
    (case lAre => k_is)
    (case coAre => k_is)
    (case kAre => k_is)
    (case tAre => k_is)
    (case wAre => rfl)
    (case nAre => first | k_is | rfl)
    (case aStrip => k_is)
    (case lStrip => k_is)
    (case coStrip => k_is)
    (case kStrip => k_is)
    (case aOver => k_is)
    (case lOver => k_is)
    (case coOver => k_is)
    (case kOver => k_is)
    (case aTape => k_is)
    (case lTape => k_is)
    (case coTape => k_is)
    (case kTape => k_is)
    (case aNext => k_is)
    (case lNext => k_is)
    (case coNext => k_is)
    (case kNext => k_is)
    (case aInks => k_is)
    (case lInks => k_is)
    (case coInks => k_is)
    (case kInks => k_is)
    (case aInked => k_is)
    (case lInked => k_is)
    (case coInked => k_is)
    (case kInked => k_is)
    (case aSpots => k_is)
    (case lSpots => k_is)
    (case coSpots => k_is)
    (case kSpots => k_is)
    (case aBand => k_is)
    (case lBand => k_is)
    (case coBand => k_is)
    (case kBand => k_is)
    (case aRow => k_is)
    (case lRow => k_is)
    (case coRow => k_is)
    (case kRow => k_is)
    (case aTold => k_is)
    (case lTold => k_is)
    (case coTold => k_is)
    (case kTold => k_is)
    (case aRR => k_is)
    (case lRR => k_is)
    (case coRR => k_is)
    (case kRR => k_is)
    (case aNR => k_is)
    (case lNR => k_is)
    (case coNR => k_is)
    (case kNR => k_is)
    (case aLaw => k_is)
    (case lLaw => k_is)
    (case coLaw => k_is)
    (case kLaw => k_is)
    (case aWidest => k_is)
    (case aMostL => k_is)
    (case aCells => k_is)
    (case aC => k_is)
    (case rdS => k_is)
    (case gaS => k_is)
    (case pgS => k_is)
    (case hdS => k_is)
    (case poS => k_is)
    (case saS => k_is)
    (case mkS => k_is)
    (case kcS => k_is)
    (case iInit => k_is)
    (case jInit => k_is)
    (case lInit => k_is)
    (case coInit => k_is)
    (case kInit => k_is)
    (case nW => k_is)
    (case mst => k_is)
    (case oAOf => k_is)
    (case oROf => k_is)
    (case oFOf => k_is)
    (case lOf => k_is)
    (case coOf => k_is)
    (case kOf => k_is)
    (case prWi => k_is)
    (case pGWi => k_is)
    (case ptWi => k_is)
    (case pcWi => k_is)
    (case lWi => k_is)
    (case coWi => k_is)
    (case kWi => k_is)
    (case prWo => k_is)
    (case pGWo => k_is)
    (case ptWo => k_is)
    (case pcWo => k_is)
    (case lWo => k_is)
    (case coWo => k_is)
    (case kWo => k_is)
    (case dLen => k_is)
    (case eLen => k_is)
    (case lLen => k_is)
    (case coLen => k_is)
    (case kLen => k_is)
    (case dCl => k_is)
    (case eCl => k_is)
    (case lCl => k_is)
    (case coCl => k_is)
    (case kCl => k_is)
    (case cI => k_is)
    (case aD => k_is)
    (case xD => k_exc)
    (case kkD => k_is)
    (case bD => k_is)
    (case tyD => k_is)
    (case aDN => k_is)
    (case xDN => k_exc)
    (case kkDN => k_is)
    (case bDN => k_is)
    (case tyDN => k_is)
    (case aDSp => k_is)
    (case xDSp => k_exc)
    (case kkDSp => k_is)
    (case bDSp => k_is)
    (case tyDSp => k_is)
    (case aDSg => k_is)
    (case xDSg => k_exc)
    (case kkDSg => k_is)
    (case bDSg => k_is)
    (case tyDSg => k_is)
    (case e6 => k_is)
    (case e7 => k_is)
    (case ab0 => k_is)
    (case rdB0 => k_is)
    (case gaB0 => k_is)
    (case pgB0 => k_is)
    (case hdB0 => k_is)
    (case poB0 => k_is)
    (case saB0 => k_is)
    (case mkB0 => k_is)
    (case kcB0 => k_is)
    (case eqB0 => k_is)
    (case neB0 => k_is)
    (case soB0 => k_is)
    (case iB0 => k_is)
    (case nS0 => k_is)
    (case nP0 => k_is)
    (case nm0 => k_is)
    (case cn0 => k_is)
    (case gc0 => k_is)
    (case ce0 => k_is)
    (case cg0 => k_is)
    (case nd0 => k_is)
    (case pr0 => k_is)
    (case kn0 => k_is)
    (case ck0 => k_is)
    (case cs0 => k_is)
    (case hcb0 => k_is)
    (case hmb0 => k_is)
    (case icb0 => k_is)
    (case tyb0 => k_is)
    (case ab1 => k_is)
    (case rdB1 => k_is)
    (case gaB1 => k_is)
    (case pgB1 => k_is)
    (case hdB1 => k_is)
    (case poB1 => k_is)
    (case saB1 => k_is)
    (case mkB1 => k_is)
    (case kcB1 => k_is)
    (case eqB1 => k_is)
    (case neB1 => k_is)
    (case soB1 => k_is)
    (case iB1 => k_is)
    (case nS1 => k_is)
    (case nP1 => k_is)
    (case nm1 => k_is)
    (case cn1 => k_is)
    (case gc1 => k_is)
    (case ce1 => k_is)
    (case cg1 => k_is)
    (case nd1 => k_is)
    (case pr1 => k_is)
    (case kn1 => k_is)
    (case ck1 => k_is)
    (case cs1 => k_is)
    (case hcb1 => k_is)
    (case hmb1 => k_is)
    (case icb1 => k_is)
    (case tyb1 => k_is)
    (case ab2 => k_is)
    (case rdB2 => k_is)
    (case gaB2 => k_is)
    (case pgB2 => k_is)
    (case hdB2 => k_is)
    (case poB2 => k_is)
    (case saB2 => k_is)
    (case mkB2 => k_is)
    (case kcB2 => k_is)
    (case eqB2 => k_is)
    (case neB2 => k_is)
    (case soB2 => k_is)
    (case iB2 => k_is)
    (case nS2 => k_is)
    (case nP2 => k_is)
    (case nm2 => k_is)
    (case cn2 => k_is)
    (case gc2 => k_is)
    (case ce2 => k_is)
    (case cg2 => k_is)
    (case nd2 => k_is)
    (case pr2 => k_is)
    (case kn2 => k_is)
    (case ck2 => k_is)
    (case cs2 => k_is)
    (case hcb2 => k_is)
    (case hmb2 => k_is)
    (case icb2 => k_is)
    (case tyb2 => k_is)
    (case ab3 => k_is)
    (case rdB3 => k_is)
    (case gaB3 => k_is)
    (case pgB3 => k_is)
    (case hdB3 => k_is)
    (case poB3 => k_is)
    (case saB3 => k_is)
    (case mkB3 => k_is)
    (case kcB3 => k_is)
    (case eqB3 => k_is)
    (case neB3 => k_is)
    (case soB3 => k_is)
    (case iB3 => k_is)
    (case nS3 => k_is)
    (case nP3 => k_is)
    (case nm3 => k_is)
    (case cn3 => k_is)
    (case gc3 => k_is)
    (case ce3 => k_is)
    (case cg3 => k_is)
    (case nd3 => k_is)
    (case pr3 => k_is)
    (case kn3 => k_is)
    (case ck3 => k_is)
    (case cs3 => k_is)
    (case hcb3 => k_is)
    (case hmb3 => k_is)
    (case icb3 => k_is)
    (case tyb3 => k_is)
    (case jB => k_is)
    (case lB => k_is)
    (case coB => k_is)
    (case kB => k_is)
    (case jKn => k_is)
    (case kKn => k_is)
    (case jCs => k_is)
    (case kCs => k_is)
    (case jCk => k_is)
    (case kCk => k_is)
    (case nR => k_is)
    (case nF => k_is)
    (case lN => k_is)
    (case coN => k_is)
    (case kN => k_is)
    (case p1 => k_is)
    (case p2 => k_is)
    (case p3 => k_is)
    (case lG => k_is)
    (case coG => k_is)
    (case kG => k_is)
    (case sb00 => k_is)
    (case sb01 => k_is)
    (case sb02 => k_is)
    (case sb03 => k_is)
    (case sb10 => k_is)
    (case sb11 => k_is)
    (case sb12 => k_is)
    (case sb13 => k_is)
    (case sb20 => k_is)
    (case sb21 => k_is)
    (case sb22 => k_is)
    (case sb23 => k_is)
    (case sb30 => k_is)
    (case sb31 => k_is)
    (case sb32 => k_is)
    (case sb33 => k_is)
    (case mF0 => k_is)
    (case jF0 => k_is)
    (case kF0_ => k_is)
    (case mS0 => k_is)
    (case jS0 => k_is)
    (case kS0_ => k_is)
    (case mF1 => k_is)
    (case jF1 => k_is)
    (case kF1_ => k_is)
    (case mS1 => k_is)
    (case jS1 => k_is)
    (case kS1_ => k_is)
    (case mF2 => k_is)
    (case jF2 => k_is)
    (case kF2_ => k_is)
    (case mS2 => k_is)
    (case jS2 => k_is)
    (case kS2_ => k_is)
    (case aCP => k_is)
    (case rdP => k_is)
    (case gaP => k_is)
    (case pgP => k_is)
    (case hdP => k_is)
    (case poP => k_is)
    (case saP => k_is)
    (case mkP => k_is)
    (case kcP => k_is)
    (case iP => k_is)
    (case jP => k_is)
    (case lP => k_is)
    (case coP => k_is)
    (case kP => k_is)
    (case nq1 => k_is)
    (case nq2 => k_is)
    (case nq3 => k_is)
    (case aSp => k_is)
    (case lSp => k_is)
    (case coSp => k_is)
    (case kSp => k_is)
    (case aKi => k_is)
    (case lKi => k_is)
    (case coKi => k_is)
    (case kKi => k_is)
    (case z_enumerate => k_is)
    (case lKn => k_is)
    (case coKn => k_is)
    (case lCk => k_is)
    (case coCk => k_is)
    (case lCs => k_is)
    (case coCs => k_is)
    (case lF0 => k_is)
    (case coF0 => k_is)
    (case kF0 => k_is)
    (case lSt0 => k_is)
    (case coSt0 => k_is)
    (case kSt0 => k_is)
    (case lF1 => k_is)
    (case coF1 => k_is)
    (case kF1 => k_is)
    (case lSt1 => k_is)
    (case coSt1 => k_is)
    (case kSt1 => k_is)
    (case lF2 => k_is)
    (case coF2 => k_is)
    (case kF2 => k_is)
    (case lSt2 => k_is)
    (case coSt2 => k_is)
    (case kSt2 => k_is)
    (case aDS => k_is)
    (case aDNum => k_is)
    (case aDTx => k_is)
    (case z_ValueError => k_is)
    (case z_isinstance => k_is)
    (case bDS => k_is)
    (case u4DS => k_is)
    (case tyDS => k_is)
    (case snDSp_DS => k_is)
    (case u1DSp => k_is)
    (case u2DSp => k_is)
    (case u4DSp => k_is)
    (case u5DSp => k_is)
    (case u8DSp => k_is)
    (case icDNum => k_is)
    (case tyDNum => k_is)
    (case snDSp_DNum => k_is)
    (case snDNum_DNum => k_is)
    (case icDTx => k_is)
    (case tyDTx => k_is)
    (case snDSp_DTx => k_is)
    (case snDTx_DTx => k_is)
    (case svDSp_ValueError => k_is)
    (case snDSg_DS => k_is)
    (case u1DSg => k_is)
    (case u2DSg => k_is)
    (case u4DSg => k_is)
    (case u5DSg => k_is)
    (case u8DSg => k_is)
    (case snDSg_DNum => k_is)
    (case snDSg_DTx => k_is)
    (case svDSg_ValueError => k_is)
    (case icDSp => k_is)
    (case snDSp_DSp => k_is)
    (case icDSg => k_is)
    (case snDSp_DSg => k_is)
    (case snDSg_DSg => k_is)
    (case snDSg_DSp => k_is)
    (case z_all => k_is)
    (case z_len => k_is)
    (case z_str => k_is)
    (case z_list => k_is)
    (case z_set => k_is)
    (case z_abs => k_is)
    (case z_max => k_is)
    (case z_min => k_is)
    (case z_range => k_is)
    (case z_repr => k_is)
    (case z_int => k_is)
    (case svb0_str => k_is)
    (case svb1_str => k_is)
    (case svb2_str => k_is)
    (case r0 => decide +kernel)
    (case r1 => decide +kernel)
