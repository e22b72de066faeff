import PyProof.Rows.All
import Wide.All
import OpenK.AllK
import Wide.FinOn
import PyProof.EqAt
import PyProof.EqKinds
import PyProof.TupleCall
import KE.KNest
import HandS.Base
import HandS.Call
import HandS.List
import HandS.Comp
import HandS.Text
import HandS.Iter
import HandS.AnyAll
import HandS.GenOver
import HandS.Words
import PyProof.InstEq
import PyProof.ReprRoads
import PyProof.StrOps2
import HandS.Exc
import HandS.ExcOwn
import HandS.Star
import HandS.ClsMeth
import HandS.Property
import HandS.IsInst
import HandS.OwnEq
import HandS.Wide
import Flt.Len
import PyProof.Rows.SetFrom
import HandS.Strs
import HandS.ForMost
import HandS.ForExc
import HandS.MakeKw
import HandS.Defaults
import HandS.ExcIs
import KE.KIsAll
import PyProof.Draws
import PyProof.EnumMake
import PyProof.ListStr
import PyProof.ListRange
import HandS.Sort
import HandS.ReplaceLit
import HandS.ReplaceDef
import PyProof.Rows.StrStrike
import HandS.Lambda
import OpenK.KOps
import OpenK.KMeth
import HandS.EndTab
import HandS.EndOwn
import HandS.Codes
import HandS.Style
import PyProof.ReprLen
import HandS.Walk
import PySem.Challenge.RW_overstamps_k02_stamps_added
set_option Elab.async false
set_option linter.all false
set_option maxRecDepth 100000
set_option maxHeartbeats 4000000
/-! all, any over a generator expression whose element runs like any expression (own defs called, tables grown). -/
namespace Ov
open PySem PySem.Spec PyProof.Rows L2 GxR

/-! ### the consumer -/
/-- the protocol: a truth value is handed out; Dn b: what is to hold when the consumer stops with the answer b; stop: at which value it stops -/
def YB (a : Addr) (g : Nat) (stop : Bool) (Dn : Bool → Shared → Prop) : Protocol := fun _ _ v s1 kap =>
  ∃ b, v = Value.bool b ∧ s1.heap.NoLimit ∧ s1.heap.IsGen a g ∧ AllBare s1.gens ∧
    (b = stop → ∀ G, AllBare G → Dn stop { s1 with gens := G }) ∧ (b ≠ stop → ∀ G, AllBare G → kap (.send .none) { s1 with gens := G })
def RB (stop : Bool) (Dn : Bool → Shared → Prop) : GenEnd := fun _ _ r s1 => r = .ok .next ∧ AllBare s1.gens ∧ ∀ (h' : Heap) (G : Array GenState), (∀ b o, s1.heap.get? b = some o → h'.get? b = some o) → AllBare G → Dn (!stop) { s1 with heap := h', gens := G }

theorem bare_set {s : Shared} {g : Nat} {x : GenState} (h : AllBare s.gens) (hx : x.bare = true) : AllBare (s.setGen g x).gens := fun y hy => by
  obtain ⟨i, hi, e⟩ := Array.mem_iff_getElem.mp hy
  have hi' : i < s.gens.size := by
    have q : (s.setGen g x).gens.size = s.gens.size := GenW.setGen_size s g x
    rw [q] at hi; exact hi
  by_cases z : i = g
  · subst z
    have q : (s.setGen i x).gens[i]? = some x := by
      show (s.gens.setIfInBounds i x)[i]? = some x
      simp [hi']
    have q2 : (s.setGen i x).gens[i]? = some y := by rw [Array.getElem?_eq_getElem hi, e]
    rw [q] at q2; cases q2; exact hx
  · have q : (s.setGen g x).gens[i]? = s.gens[i]? := by
      show (s.gens.setIfInBounds g x)[i]? = _
      rw [Array.getElem?_setIfInBounds_ne (Ne.symm z)]
    have q2 : s.gens[i]? = some y := by rw [← q, Array.getElem?_eq_getElem hi, e]
    exact h y (Array.mem_of_getElem? q2)
theorem set_at {s : Shared} {g : Nat} {x : GenState} (h : g < s.gens.size) : (s.setGen g x).gens[g]? = some x := by
  show (s.gens.setIfInBounds g x)[g]? = some x
  simp [h]

section
variable {P : Program} {w : World} {A : Around}
theorem all_drain {R : Result → Shared → Prop} {a : Addr} {g : Nat} {Dn : Bool → Shared → Prop} (hh : A.handled = none) (hd : A.depth < recursionLimit)
    (hR : ∀ b s', Dn b s' → R (.ok (.ret (.bool b))) s') :
    ∀ (m : Nat) (s : Shared), s.heap.IsGen a g → s.heap.NoLimit → AllBare s.gens →
      (∃ gs, s.gens[g]? = some gs ∧ gs.Goes (model P w) A.in1.in1 (RB false Dn) (YB a g false Dn) m (.send .none) (s.setGen g .running)) →
      codeAny (model P w) A (.builtin "all.loop" ⟨[.ref a], []⟩) R s := by
  intro m
  induction m with
  | zero =>
    intro s hg hl hb ⟨gs, hgs, hgo⟩
    have hgl : g < s.gens.size := (Array.getElem?_eq_some_iff.mp hgs).1
    refine codeAny_builtin F.entry_all_loop ?_
    rw [Around.under_plainId F.plain_all_loop _]
    show wpAny _ A.in1 (pyNext (.ref a) >>= _) _ _ s
    refine wpAny_bind (GenW.wpAny_gsz (n := g + 1) hgl (wpAny_pyNext_genexpQ (A := A.in1) (P := fun n s₀ s₁ => AllBare s₁.gens ∧ ∀ (h' : Heap) (G : Array GenState), (∀ b o, s₁.heap.get? b = some o → h'.get? b = some o) → AllBare G → Dn (!false) { s₁ with heap := h', gens := G }) hh hl hd hg hgs hgo (fun v s₁ gs' hbare hv => ?_) (fun s₁ hp h' hk => ?_)))
    · intro hsz
      obtain ⟨b, rfl, hl1, hg1, hb1, hs1, hk1⟩ := hv
      cases b with
      | true => exact False.elim (hk1 (by decide) _ hb1)
      | false =>
        refine wpAny_bind (wpAny_holding (wpAny_truthy_bool ?_))
        refine wpAny_bind (wpAny_letGo ?_)
        simp only [Bool.false_eq_true, if_false]
        refine wpAny_bind (wpAny_rule (wpAny_pure ?_))
        exact hR false _ (hs1 rfl _ (bare_set hb1 hbare))
    · intro hsz
      refine wpAny_bind (wpAny_rule (wpAny_pure ?_))
      exact hR true _ (hp.2 h' _ hk (bare_set hp.1 rfl))
  | succ m ih =>
    intro s hg hl hb ⟨gs, hgs, hgo⟩
    have hgl : g < s.gens.size := (Array.getElem?_eq_some_iff.mp hgs).1
    refine codeAny_builtin F.entry_all_loop ?_
    rw [Around.under_plainId F.plain_all_loop _]
    show wpAny _ A.in1 (pyNext (.ref a) >>= _) _ _ s
    refine wpAny_bind (GenW.wpAny_gsz (n := g + 1) hgl (wpAny_pyNext_genexpQ (A := A.in1) (P := fun n s₀ s₁ => AllBare s₁.gens ∧ ∀ (h' : Heap) (G : Array GenState), (∀ b o, s₁.heap.get? b = some o → h'.get? b = some o) → AllBare G → Dn (!false) { s₁ with heap := h', gens := G }) hh hl hd hg hgs hgo (fun v s₁ gs' hbare hv => ?_) (fun s₁ hp h' hk => ?_)))
    · intro hsz
      obtain ⟨b, rfl, hl1, hg1, hb1, hs1, hk1⟩ := hv
      have hsz1 : g < s₁.gens.size := by
        have q : (s₁.setGen g gs').gens.size = s₁.gens.size := GenW.setGen_size _ _ _
        have hsz' : g + 1 ≤ (s₁.setGen g gs').gens.size := hsz
        omega
      cases b with
      | true =>
        refine wpAny_bind (wpAny_holding (wpAny_truthy_bool ?_))
        refine wpAny_bind (wpAny_letGo ?_)
        simp only [if_true]
        refine wpAny_pure ⟨plainId_quiet F.plain_all_loop _, ih (s₁.setGen g gs') hg1 hl1 (bare_set hb1 hbare) ⟨gs', set_at hsz1, ?_⟩⟩
        have z := hk1 (by decide) (((s₁.setGen g gs').setGen g .running).gens) (bare_set (bare_set hb1 hbare) rfl)
        exact z
      | false =>
        refine wpAny_bind (wpAny_holding (wpAny_truthy_bool ?_))
        refine wpAny_bind (wpAny_letGo ?_)
        simp only [Bool.false_eq_true, if_false]
        refine wpAny_bind (wpAny_rule (wpAny_pure ?_))
        exact hR false _ (hs1 rfl _ (bare_set hb1 hbare))
    · intro hsz
      refine wpAny_bind (wpAny_rule (wpAny_pure ?_))
      exact hR true _ (hp.2 h' _ hk (bare_set hp.1 rfl))
end
end Ov

set_option Elab.async false
set_option linter.all false
set_option maxRecDepth 100000
set_option maxHeartbeats 4000000
namespace Ov
open PySem PySem.Spec PyProof.Rows L2 GxR
/-- the values of the captured names -/
def caps (σ : L2.St) (pick : List Nat) : L2.St := pick.map fun j => (σ[j]?).join
/-- the context of the generator's block -/
abbrev cxG (X : Cx) (s : Shared) (H : Hp) (N : List Str) (cenv : Env) (A : Around) (fp : List Addr) (pn : List (Addr × Obj)) : Cx :=
  { X with A := A, N := N, s_0 := s, H_0 := H, env := cenv, outer := X.stack, stack := cenv :: X.stack, ex := fp, fn := fun _ => false, calm := true, pn := pn, xe := fun _ _ => False }
/-- the names of the block: its variable x, the captured ones cs with their places in the def's names -/
structure GenN (X : Cx) (scope : Scope) (x : Str) (cs : List Str) (pick : List Nat) : Prop where
  gen : GenS X.env scope x
  uniq : ∀ y ∈ scope.names, scope.names.lookup y.1 = some y.2
  nd : (x :: cs).Nodup
  len : cs.length = pick.length
  at_ : ∀ (i : Nat) (y : Str), cs[i]? = some y → scope.names.lookup y = some .free ∧ (X.env.scope.names.lookup y = some .cell ∨ X.env.scope.names.lookup y = some .free) ∧ ∃ j, pick[i]? = some j ∧ X.N[j]? = some y
section
variable {X : Cx} {pins : List (Addr × Obj)} {σ : L2.St} {H : Hp} {s : Shared}
theorem clo_get {cells : List (Str × Addr)} {names : List (Str × NameKind)} (h : ∀ y ∈ names, y.2 = .free → ∃ c, cells.lookup y.1 = some c) {y : Str} {c : Addr} (e : (cloFrom cells names []).lookup y = some c) : (y, NameKind.free) ∈ names ∧ cells.lookup y = some c := by
  rcases cloFrom_mem (PySem.mem_of_lookup e) with hm | ⟨h1, rfl⟩
  · cases hm
  · obtain ⟨c, hc⟩ := h _ h1 rfl
    rw [hc]
    exact ⟨h1, rfl⟩
theorem clo_has {cells : List (Str × Addr)} {names : List (Str × NameKind)} (h : ∀ y ∈ names, y.2 = .free → ∃ c, cells.lookup y.1 = some c) {y : Str} (hy : (y, NameKind.free) ∈ names) : ∃ c, (cloFrom cells names []).lookup y = some c ∧ cells.lookup y = some c := by
  obtain ⟨c', e'⟩ := mem_lookup (cloFrom_has (cells := cells) (acc := []) hy)
  exact ⟨c', e', (clo_get h e').2⟩
/-- the block's start: the frame at s.heap's size, empty of x; the generator's own object at a -/
theorem gen_start {scope : Scope} {x : Str} {cs : List Str} {pick : List Nat} {fp : List Addr} {A : Around} {code itv : Value} {go : Obj} {gs : Array GenState} {tk : Nat} {h' : Heap} {a : Addr}
    (I : Inv X pins σ H s) (G : GenN X scope x cs pick) (hA : A.handled = none) (hfr : A.frames = some (genEnv scope (cloFrom X.env.cells scope.names []) s.heap.objs.size code builtinsNs X.env :: X.stack))
    (hfp : ∀ b ∈ fp, FpOk X pins H b ∧ b < s.heap.objs.size)
    (hn : h'.Ns s.heap.objs.size fun y => if y = ".0" then some itv else none) (hk : ∀ b o, s.heap.get? b = some o → h'.get? b = some o) (ha : s.heap.objs.size < a) (hgo : h'.get? a = some go) (hgd : ∀ v, go.data ≠ .cell v)
    (hb : AllBare gs) :
    Inv (cxG X s H (x :: cs) (genEnv scope (cloFrom X.env.cells scope.names []) s.heap.objs.size code builtinsNs X.env) A fp [(a, go)]) [] (none :: caps σ pick) H { s with heap := h', gens := gs, toks := tk } := by
  have hfree : ∀ y ∈ scope.names, y.2 = .free → ∃ c, X.env.cells.lookup y.1 = some c := G.gen.free
  have okB : (cxG X s H (x :: cs) (genEnv scope (cloFrom X.env.cells scope.names []) s.heap.objs.size code builtinsNs X.env) A fp [(a, go)]).Ok := by
    refine ⟨I.ok.mod, G.gen.kind, I.ok.glob, rfl, Nat.le_refl _, fun y z c e1 e2 => ?_, fun y hy => ?_, fun y c z _ => ?_, fun _ => hA, hfr, .inr ⟨rfl, rfl⟩, fun b hb => ⟨?_, fun y c e z => ?_⟩, I.bs, Nat.le_trans I.ok.bsz I.sz, fun b o e hb => ?_, fun b hb z => ?_, I.stack, I.stkFree⟩
    · exact I.ok.inj y z c (clo_get hfree e1).2 (clo_get hfree e2).2
    · have hy : scope.names.lookup y = some .cell ∨ scope.names.lookup y = some .free := hy
      rcases hy with hy | hy
      · exact absurd rfl (G.gen.cell _ (PySem.mem_of_lookup hy))
      · obtain ⟨c, h1, _⟩ := clo_has hfree (PySem.mem_of_lookup hy)
        exact ⟨c, h1⟩
    · exact absurd (show false = true from z) (by decide)
    · exact Nat.ne_of_lt (hfp b hb).2
    · exact (hfp b hb).1.2.2.2.2.1 y c (clo_get hfree e).2 z
    · rcases (hfp b hb).1.2.2.2.1 with z | z
      · exact I.ok.noex b o e z
      · exact absurd (Nat.lt_of_lt_of_le (Heap.lt_size e) (Nat.le_trans I.ok.bsz z)) (Nat.lt_irrefl _)
    · rcases List.mem_cons.mp (I.stkSub b z) with z | z
      · exact (hfp b hb).1.2.1 z
      · exact (hfp b hb).1.2.2.1 z
  refine ⟨okB, rfl, hb, Un.kept hk, ⟨_, hn, fun i y av e1 e2 e3 => ?_⟩, fun y c e => ?_, I.hok.fresh (Nat.le_refl _), fun y c e => I.freeC y c (clo_get hfree e).2, fun p hp => ?_, I.hok.kept hk, ?_⟩
  · cases i with
    | zero => cases e2
    | succ i =>
      have e1 : cs[i]? = some y := e1
      obtain ⟨q1, q2, j, hj, hN⟩ := G.at_ i y e1
      have e2 : (caps σ pick)[i]? = some (some av) := e2
      unfold caps at e2
      rw [List.getElem?_map, hj] at e2
      have e2 : (σ[j]?).join = some av := Option.some.inj e2
      have e2' : σ[j]? = some (some av) := by
        cases q : σ[j]? with
        | none => rw [q] at e2; cases e2
        | some o =>
          rw [q] at e2
          have : o = some av := e2
          rw [this]
      obtain ⟨m, hm, hl⟩ := I.loc
      have hvis : Vis X.env.scope y := q2.elim (fun k => .inr (.inl k)) (fun k => .inr (.inr k))
      obtain ⟨u, r, q⟩ := hl j y av hN e2' hvis
      refine ⟨u, r, .inr ⟨.inr q1, ?_⟩⟩
      obtain ⟨c, h1, h2⟩ := clo_has hfree (PySem.mem_of_lookup q1)
      refine ⟨c, h1, ?_⟩
      rcases q with ⟨k, _⟩ | ⟨_, c', e', z⟩
      · have k : X.env.scope.names.lookup y = some .local := k
        rcases q2 with k' | k' <;> rw [k'] at k <;> cases k
      · rw [h2] at e'; cases e'
        exact z.keeps hk
  · obtain ⟨w, z⟩ := I.cell y c (clo_get hfree e).2
    exact ⟨w, z.keeps hk⟩
  · have e : p = (a, go) := by simpa using hp
    subst e
    refine ⟨hgo, I.hok.fresh (Nat.le_of_lt ha), Nat.ne_of_gt ha, ?_, hgd⟩
    intro z
    rcases List.mem_cons.mp (I.stkSub a z) with z | z
    · have := I.lt
      rw [← z] at this
      exact absurd (Nat.lt_trans this ha) (Nat.lt_irrefl _)
    · exact I.nofs (Nat.le_of_lt ha) z
  · show (none :: caps σ pick).length = (x :: cs).length
    unfold caps
    rw [List.length_cons, List.length_cons, List.length_map, G.len]
end
end Ov

set_option Elab.async false
set_option linter.all false
set_option maxRecDepth 100000
set_option maxHeartbeats 4000000
namespace Ov
open PySem PySem.Spec PyProof.Rows L2 GxR
/-- the reading of a turn for all: the element's answer b; true: on; false: the answer -/
def turnAll (J : It) (te : TE) (W : Nat → Nat → Hp → Prop) (caps : L2.St) (Q : VK) : Prop := ∀ i m H, W i m H →
  (J.stop i H ∧ Q (.bl true) H) ∨ (J.go i H ∧ ∀ x H', J.yld i H x H' → te (some x :: caps) H' fun y H'' => ∃ b, y = .bl b ∧ if b = true then ∃ m', m' < m ∧ W (i + 1) m' H'' else Q (.bl false) H'')
section
variable {X : Cx} {σ : L2.St} {H : Hp} {s : Shared}
/-- the context's own: nothing is raised, the generator's object is pinned -/
structure Gen (G : Cx) (A : Around) (a : Addr) (g : Nat) (x : Str) (go : Obj) : Prop where
  over : G.A = A.deeper G.env
  calm : G.calm = true
  xe : G.xe = fun _ _ => False
  nd : G.N.Nodup
  at0 : G.N[0]? = some x
  loc : G.env.scope.names.lookup x = some .local
  co : G.env.scope.isCoroutine = false
  pn : G.pn = [(a, go)]
  gen : ∀ h : Heap, h.get? a = some go → h.IsGen a g
theorem seg_all {G : Cx} {A : Around} {a : Addr} {g : Nat} {x : Str} {go : Obj} (S : Gen G A a g x go) {elt iter : Expr} {px pos : Pos} {scope : Scope} {te : TE} {J : It} {fp : List Addr} {it : Addr} {tn : Nat → Heap → Prop} {W : Nat → Nat → Hp → Prop} {cp : L2.St} {Q : VK} {Dn : Bool → Shared → Prop}
    (T : Turn G.prog G.w G.K (.Name x px) J fp it tn) (he : PE G elt te) (turn : turnAll J te W cp Q) (hex : G.ex = fp) (hfa : ∀ b ∈ fp, a ≠ b)
    (hD : ∀ b H' s' v, Inv G [] (v :: cp) H' s' → Q (.bl b) H' → Dn b s') :
    ∀ (n i m : Nat) (s₀ s : Shared) (v : Option V) (H : Hp), m < n → Inv G [] (v :: cp) H s → tn i s.heap → (∀ b ∈ fp, H b = none) → W i m H →
      Seg (model G.prog G.w) A (RB false Dn) (YB a g false Dn) n s₀ (.compLoop (.GeneratorExp elt [⟨.Name x px, iter, [], 0⟩] scope pos) 0 (.ref it) .none G.env)
        ((model G.prog G.w).den (.compLoop (.GeneratorExp elt [⟨.Name x px, iter, [], 0⟩] scope pos) 0 (.ref it) .none G.env)) [] s := by
  have stat : ∀ {σ' : L2.St} {H' : Hp} {s' : Shared}, Inv G [] σ' H' s' → (∀ b ∈ fp, H' b = none) → ∀ b ∈ fp, FpOk G [] H' b := fun {σ' H' s'} I' hn b hb => by
    have hb' : b ∈ G.ex := by rw [hex]; exact hb
    refine ⟨hn b hb, (I'.ok.exf b hb').1, I'.ok.exfs b hb', .inl hb', fun x c e => (I'.ok.exf b hb').2 x c e, fun p hp z => ?_⟩
    have hp' : p ∈ G.pn := by simpa using hp
    rw [S.pn] at hp'
    rw [List.mem_singleton.mp hp'] at z
    exact hfa b hb z
  intro n
  induction n with
  | zero => intro i m s₀ s v H hm; exact absurd hm (Nat.not_lt_zero _)
  | succ n ih =>
    intro i m s₀ s v H hm I st hf w
    show Seg _ A _ _ _ s₀ _ ((compTurn (.GeneratorExp elt [⟨.Name x px, iter, [], 0⟩] scope pos) 0 (.ref it) .none G.env).onRaise (leaving G.env)) [] s
    rw [compTurn_gen, Sem.onRaise_eq_wrap]
    have ov : A.over (.compLoop (.GeneratorExp elt [⟨.Name x px, iter, [], 0⟩] scope pos) 0 (.ref it) .none G.env) [] = G.A := by rw [S.over]; rfl
    refine seg_bind_wrap (wpAny_standAt ?_)
    rcases turn i m H w with ⟨stop, q⟩ | ⟨go', step⟩
    · refine seg_bind_wrap ?_
      rw [ov]
      refine wpAny_mono (T.done G rfl rfl rfl S.calm i [] s (v :: cp) H (fun _ _ => False) I (stat I hf) st stop) (fun r s1 hr => ?_) fun _ _ z => z.elim
      obtain ⟨rfl, I1⟩ := hr
      refine seg_end (.ok .next) ⟨rfl, I1.bare, fun h' gs hk hb => ?_⟩
      exact hD true H _ v (I1.call' (ch := []) rfl (Un.kept hk) (I1.hok.kept hk) hb fun b z => by simp at z) q
    · refine seg_bind_wrap ?_
      rw [ov]
      refine wpAny_mono (T.item G rfl rfl rfl S.calm i [] s (v :: cp) H (fun _ _ => False) I (stat I hf) st go') (fun r s1 hr => ?_) fun _ _ z => z.elim
      obtain ⟨u, rfl, h1⟩ := hr
      refine seg_bind_wrap ?_
      rw [ov]
      refine wpAny_mono h1 (fun _ s2 h2 => ?_) fun _ _ z => z.elim
      obtain ⟨y, H2, I2, r2, y2, st2, n2⟩ := h2
      have I2' := I2.pinned (stat I2 n2) (T.obj _ _ st2)
      refine seg_bind_wrap ?_
      rw [ov]
      refine wpAny_mono ((pg_name (X := G) (i := 0) (pos := px) S.nd S.at0 (.inl S.loc) (.inr S.loc)).run _ s2 (v :: cp) H2 y u (fun σ' H' => σ' = some y :: cp ∧ H' = H2) I2' r2 ⟨rfl, rfl⟩) (fun _ s3 h3 => ?_) fun _ _ z => by rw [S.xe] at z; exact z.elim
      obtain ⟨σ3, H3, I3, rfl, rfl⟩ := h3
      refine seg_bind_wrap ?_
      simp only [List.forIn_nil]
      refine wpAny_pure ?_
      simp only [if_true]
      have hy : ∀ v, yieldOut G.env v = yieldValue v := fun v => by simp only [yieldOut, S.co, Bool.false_eq_true, if_false]
      simp only [hy]
      rw [Sem.bind_eq_wrap', Sem.bind_eq_wrap', Sem.wrap_wrap, Sem.wrap_wrap]
      refine seg_wrap ?_
      rw [ov]
      refine wpAny_mono (he.run _ s3 (some y :: cp) H3 _ I3 (step y H3 y2)) (fun z s4 h4 => ?_) fun _ _ z => by rw [S.xe] at z; exact z.elim
      obtain ⟨zv, H4, I4, r4, b, rfl, q4⟩ := h4
      have ez : z = Value.bool b := r4
      subst ez
      have pin' : ∀ c ∈ fp, ∀ o, s2.heap.get? c = some o → s4.heap.get? c = some o ∧ H4 c = none := fun c hc o e =>
        let z := I4.pin (c, o) (List.mem_append_right _ (List.mem_append_right _ (mem_pinsAt hc e)))
        ⟨z.1, z.2.1⟩
      have st4 : tn (i + 1) s4.heap := T.keep _ _ _ st2 fun c hc o e => (pin' c hc o e).1
      have f4 : ∀ c ∈ fp, H4 c = none := fun c hc => by
        obtain ⟨o, e, _⟩ := T.obj _ _ st2 c hc
        exact (pin' c hc o e).2
      have I5 : Inv G [] (some y :: cp) H4 s4 := I4.unpinned (pins := [])
      have hgo : s4.heap.get? a = some go := (I5.pin (a, go) (by rw [S.pn]; simp)).1
      refine seg_at (seg_yield rfl rfl rfl ⟨b, rfl, I5.nolimit, S.gen _ hgo, I5.bare, fun eb gs hb => ?_, fun nb gs hb => ?_⟩)
      · subst eb
        exact hD false H4 _ (some y) (I5.call' (ch := []) rfl Un.refl I5.hok hb fun b z => by simp at z) q4
      · have eb : b = true := by cases b with
          | true => rfl
          | false => exact absurd rfl nb
        subst eb
        obtain ⟨m', hm', w'⟩ := (if_pos rfl : (if true = true then _ else _) = _) ▸ q4
        refine seg_again rfl (ih (i + 1) m' _ _ (some y) H4 (by omega) (I5.call' (ch := []) rfl Un.refl I5.hok hb fun b z => by simp at z) st4 f4 w')

theorem seg_allStart {G : Cx} {A : Around} {a : Addr} {g : Nat} {x : Str} {go : Obj} (S : Gen G A a g x go) {elt iter : Expr} {px pos : Pos} {scope : Scope} {te : TE} {J : It} {fp : List Addr} {it : Addr} {tn : Nat → Heap → Prop} {W : Nat → Nat → Hp → Prop} {cp : L2.St} {Q : VK} {Dn : Bool → Shared → Prop}
    (T : Turn G.prog G.w G.K (.Name x px) J fp it tn) (he : PE G elt te) (turn : turnAll J te W cp Q) (hex : G.ex = fp) (hfa : ∀ b ∈ fp, a ≠ b)
    (hD : ∀ b H' s' v, Inv G [] (v :: cp) H' s' → Q (.bl b) H' → Dn b s') (n m : Nat) (s₀ s : Shared) (v : Option V) (H : Hp) (hm : m < n) (I : Inv G [] (v :: cp) H s) (st : tn 0 s.heap) (hf : ∀ b ∈ fp, H b = none) (w : W 0 m H) :
      Seg (model G.prog G.w) A (RB false Dn) (YB a g false Dn) n s₀ (.compStart (.GeneratorExp elt [⟨.Name x px, iter, [], 0⟩] scope pos) 0 (.ref it) .none G.env)
        ((model G.prog G.w).den (.compStart (.GeneratorExp elt [⟨.Name x px, iter, [], 0⟩] scope pos) 0 (.ref it) .none G.env)) [] s := by
  have loop := seg_all (iter := iter) (pos := pos) (scope := scope) S T he turn hex hfa hD n 0 m s₀ s v H hm I st hf w
  show Seg _ A _ _ _ s₀ _ ((compStart (.GeneratorExp elt [⟨.Name x px, iter, [], 0⟩] scope pos) 0 (.ref it) .none G.env).onRaise (leaving G.env)) [] s
  unfold compStart
  rw [Sem.onRaise_eq_wrap]
  show Seg _ A _ _ _ s₀ _ ((ask >>= _).wrap _ _ _ _) [] s
  refine seg_bind_wrap (wpAny_askSetting ?_)
  split
  · exact seg_again rfl loop
  · first
      | exact seg_bind_wrap (wpAny_rule (seg_bind_wrap (wpAny_standAt (seg_bind_wrap (T.self _ 0 s _ _ st (seg_again rfl loop))))))
      | (refine seg_bind_wrap (wpAny_rule ?_); show Seg _ A _ _ _ s₀ _ ((standAt iter.pos >>= _).wrap _ _ _ _) [] s; exact seg_bind_wrap (wpAny_standAt (seg_bind_wrap (T.self _ 0 s _ _ st (seg_again rfl loop)))))

/-- all(elt for x in iter): J walks; W by the turn and a measure -/
def tAllG (P : Addr) (wi : TI) (pick : List Nat) (te : TE) : TE := fun σ H Q => wi σ H fun J H1 => TabG H1 P ∧ ∀ H2, Tabbed P H1 H2 → ∃ W : Nat → Nat → Hp → Prop, (∃ m, W 0 m H2) ∧ turnAll J te W (caps σ pick) Q

theorem fpOk_tab {pins : List (Addr × Obj)} {H1 H2 : Hp} {P b : Addr} {ps : Array Value} (hP : H1 P = some (.tbl ps)) (hT : ∀ b, b ≠ P → H2 b = H1 b) (f : FpOk X pins H1 b) : FpOk X pins H2 b := by
  refine ⟨?_, f.2⟩
  rw [hT b (fun z => by have := f.1; rw [z, hP] at this; cases this)]
  exact f.1

theorem pe_allG {c P : Addr} {elt iter : Expr} {x : Str} {px p pos gpos : Pos} {scope : Scope} {cs : List Str} {pick : List Nat} {wi : TI} {te : TE} {k : Nat}
    (hc : X.calm = true) (hr : Room (k + 1) X.A) (hg : Gl X "all") (hm : X.mg "all" = none) (hb : bootBuiltins "all" = some (.builtin "all")) (TB : TabB X.base X.mg c P) (hcode : X.env.code = .ref c) (S : GenN X scope x cs pick)
    (hi : PI X (.Name x px) iter wi)
    (he : ∀ (s : Shared) (H : Hp) (code : Value) (C : Addr) (A : Around) (fp : List Addr) (pn : List (Addr × Obj)), Room k A → PE (cxG X s H (x :: cs) (genEnv scope (cloFrom X.env.cells scope.names []) C code builtinsNs X.env) A fp pn) elt te)
    (hs : ∀ v, genFold iter X.env v = pure v := by intro _; rfl)
    (hst : starEach [.GeneratorExp elt [⟨.Name x px, iter, [], 0⟩] scope gpos] X.env = (false, eval (.GeneratorExp elt [⟨.Name x px, iter, [], 0⟩] scope gpos) X.env) :: starEach [] X.env := by rfl) :
    PE X (.Call (.Name "all" p) [.GeneratorExp elt [⟨.Name x px, iter, [], 0⟩] scope gpos] [] pos) (tAllG P wi pick te) := by
  refine ⟨fun pins s σ H Q I h => ?_⟩
  refine wpAny_Call_Name_kw (ld_blt I hg hm hb ?_)
  refine PyProof.Rows.callWith_builtin1 ?_ hst (by rfl)
  rw [hst]
  show wpAny _ _ (spliced ((false, eval (.GeneratorExp elt [⟨.Name x px, iter, [], 0⟩] scope gpos) X.env) :: backTo pos (starEach [] X.env))) _ _ s
  refine Calls.spliced_cons ?_
  refine wpAny_GeneratorExp_make S.gen.co (closure_ok S.gen.free) S.gen.cell S.gen.dot S.gen.kind (by have := hr.dp; omega) ?_ hs
  refine thn (hi.run pins s σ H _ I h) fun xv s1 h1 => thn h1 fun itv s2 h2 => ?_
  obtain ⟨it, fp, tn, J, H2, rfl, I2, T, st2, f2, ⟨ps, hP, ht⟩, hW⟩ := h2
  refine ⟨I2.nolimit, ?_⟩
  have hPs : s2.heap.get? P = some { cls := .none, data := .fields ps } := I2.hok P _ hP
  have hPlt : P < s2.heap.objs.size := Heap.lt_size hPs
  have cd : PySem.W.CodeHd s2.heap c P := TB.code.keeps fun b u e => I2.bk b u e
  -- behind the code object
  have cont : ∀ (code : Value) (h3 : Heap) (tk : Nat) (ps' : Array Value), Heap.ExtBut P s2.heap h3 → h3.get? P = some { cls := .none, data := .fields ps' } → (∃ more, ps' = ps ++ more) → TriplesOk ps'.toList →
      wpAny (model X.prog X.w) X.A (builtinsFor X.env.globals X.env.builtins) (fun bi s₄ =>
        ∀ h', h'.Ns s₄.heap.objs.size (fun y => if y = ".0" then some (.ref it) else none) → Heap.SameBut s₄.heap.objs.size (s₄.heap.push { cls := .type "frame", data := .dict #[] }) h' →
          wpAny (model X.prog X.w) X.A (spliced (backTo pos (starEach [] X.env))) (fun us s' => wpAny (model X.prog X.w) X.A (call (.builtin "all") (.ref h'.objs.size :: us)) (EP X pins σ Q) X.xe s') X.xe { s₄ with
            gens := s₄.gens.push (.fresh (.compStart (.GeneratorExp elt [⟨.Name x px, iter, [], 0⟩] scope gpos) 0 (.ref it) .none (genEnv scope (cloFrom X.env.cells scope.names []) s₄.heap.objs.size code bi X.env))),
            toks := s₄.toks + 1 + 1 + 1,
            heap := h'.push { cls := .type "generator", data := .fields #[.int s₄.gens.size 0, .str "<genexpr>" (s₄.toks + 1), .str (X.env.qual ++ "<genexpr>") (s₄.toks + 1 + 1)] } }) X.xe { s2 with heap := h3, toks := tk } := by
    intro code h3 tk ps' hx hP3 hmore ht3
    obtain ⟨more, em⟩ := hmore
    subst em
    obtain ⟨bm, ob, e1, e2, e3, e4, e5, e6, e7, e8⟩ := TB.bm
    have keep3 : ∀ b u, b ≠ P → s2.heap.get? b = some u → h3.get? b = some u := fun b u hb e => hx b u hb e
    refine wpAny_builtinsFor (m := X.mg) (by rw [I2.ok.glob]; exact (I2.mod.glob.keeps I2.bk).extBut hx TB.gP) e1 e2 (keep3 _ _ e4 (I2.bk _ _ e5)) e6 e7 e8 ?_
    intro h' hn' hs'
    have I3 : Inv X pins σ (upd H2 P (.tbl (ps ++ more))) { s2 with heap := h3, toks := tk } := inv_tab (more := more) (h' := h3) (g' := s2.gens) (d' := s2.drawn) (t' := tk) I2 hP keep3 hP3 I2.bare
    generalize hs3 : ({ s2 with heap := h3, toks := tk } : Shared) = s3 at I3 ⊢
    have hh3 : s3.heap = h3 := by rw [← hs3]
    have hg3 : s3.gens = s2.gens := by rw [← hs3]
    have hn' : h'.Ns s3.heap.objs.size (fun y => if y = ".0" then some (.ref it) else none) := hh3.symm ▸ hn'
    have hs' : Heap.SameBut s3.heap.objs.size (s3.heap.push { cls := .type "frame", data := .dict #[] }) h' := hh3.symm ▸ hs'
    have hsz : h'.objs.size = s3.heap.objs.size + 1 := by rw [hs'.1, Heap.size_push]
    have keep' : ∀ b o, s3.heap.get? b = some o → h'.get? b = some o := fun b o e => hs'.extBut b o (Nat.ne_of_lt (Heap.lt_size e)) (Heap.get?_push_of_some _ e)
    have hT23 : Tabbed P H2 (upd H2 P (.tbl (ps ++ more))) := ⟨⟨_, upd_same, ht3⟩, fun b hb => upd_ne hb⟩
    obtain ⟨W, ⟨m0, w0⟩, turn⟩ := hW _ hT23
    generalize hH3 : upd H2 P (.tbl (ps ++ more)) = H3 at I3 w0 hT23
    have nfpP : ∀ b ∈ fp, b ≠ P := fun b hb z => by have := (f2 b hb).1; rw [z, hP] at this; cases this
    have st3 : tn 0 s3.heap := T.keep _ _ _ st2 fun b hb o e => by rw [hh3]; exact keep3 b o (nfpP b hb) e
    have f3 : ∀ b ∈ fp, FpOk X pins H3 b ∧ b < s3.heap.objs.size := fun b hb => by
      refine ⟨fpOk_tab hP hT23.2 (f2 b hb), ?_⟩
      obtain ⟨o, e, _⟩ := T.obj _ _ st3 b hb
      exact Heap.lt_size e
    generalize hgo : ({ cls := .type "generator", data := .fields #[.int s3.gens.size 0, .str "<genexpr>" (s3.toks + 1), .str (X.env.qual ++ "<genexpr>") (s3.toks + 1 + 1)] } : Obj) = go
    generalize hcenv : genEnv scope (cloFrom X.env.cells scope.names []) s3.heap.objs.size code builtinsNs X.env = cenv
    have keep5 : ∀ b o, s3.heap.get? b = some o → (h'.push go).get? b = some o := fun b o e => Heap.get?_push_of_some _ (keep' b o e)
    have hga : (h'.push go).get? h'.objs.size = some go := Heap.get?_push_size _ (by subst hgo; rfl)
    have hgd : ∀ v, go.data ≠ .cell v := fun v => by rw [← hgo]; exact fun z => by cases z
    have hgen : ∀ h : Heap, h.get? h'.objs.size = some go → h.IsGen h'.objs.size s3.gens.size := fun h e => ⟨go, _, _, e, by subst hgo; rfl, by subst hgo; rfl, by subst hgo; rfl⟩
    have bareG : AllBare (s3.gens.push (.fresh (.compStart (.GeneratorExp elt [⟨.Name x px, iter, [], 0⟩] scope gpos) 0 (.ref it) .none cenv))) := I3.bare.push rfl
    refine Calls.spliced_nil ?_
    refine call_function_tree F.kind_all F.plain_all F.entry_all (F.args_all1 _) ?_
    unfold Builtin.«all»
    refine wpAny_bind (m := oneArg "all" _) (wpAny_pure ?_)
    refine wpAny_bind (wpAny_pyIter_gen (hgen _ hga) ?_)
    refine wpAny_pure ⟨plainId_quiet F.plain_all_loop _, ?_⟩
    have hA : X.A.in1.in1.handled = none := hr.hd
    have hfr : (X.A.in1.in1.deeper cenv).frames = some (cenv :: X.stack) := Around.frames_deeper (A := X.A.in1.in1) I3.ok.frames
    have start : ∀ gs : Array GenState, AllBare gs → Inv (cxG X s3 H3 (x :: cs) cenv (X.A.in1.in1.deeper cenv) fp [(h'.objs.size, go)]) [] (none :: caps σ pick) H3 { s3 with heap := h'.push go, gens := gs, toks := s3.toks + 1 + 1 + 1 } := fun gs hb => by
      subst hcenv
      exact gen_start I3 S hA hfr f3 (hn'.push _) keep5 (by omega) hga hgd hb
    have rm : Room k (X.A.in1.in1.deeper cenv) := ⟨hr.hd, by have := hr.dp; show X.A.depth + 1 + 3 * k + 5 < _; omega, by have := hr.un; show X.A.units + 1 + 1 + 3 + 16 * k + 200 < _; omega⟩
    have hel : PE (cxG X s3 H3 (x :: cs) cenv (X.A.in1.in1.deeper cenv) fp [(h'.objs.size, go)]) elt te := by
      subst hcenv
      exact he s3 H3 code s3.heap.objs.size _ fp _ rm
    refine all_drain (P := X.prog) (w := X.w) (A := X.A) (Dn := fun b s' => EP X pins σ Q (.bool b) s') hr.hd (by have := hr.dp; omega) (fun b s' hb => hb) (m0 + 1) _ (hgen _ hga) (I3.nolimit.keeps keep5) bareG ⟨_, Array.getElem?_push_size .., rfl, ?_⟩
    have GG : Gen (cxG X s3 H3 (x :: cs) cenv (X.A.in1.in1.deeper cenv) fp [(h'.objs.size, go)]) X.A.in1.in1 h'.objs.size s3.gens.size x go := by
      refine ⟨rfl, rfl, rfl, S.nd, rfl, ?_, ?_, rfl, hgen⟩
      · subst hcenv; exact S.gen.loc
      · subst hcenv; exact S.gen.co
    refine seg_allStart (iter := iter) (pos := gpos) (scope := scope) GG T hel turn rfl (fun b hb z => ?_) (fun b H' s' v I' q => ?_) (m0 + 1) m0 _ _ none H3 (Nat.lt_succ_self _) (start _ (bare_set bareG rfl)) (T.keep _ _ _ st3 fun b hb o e => keep5 b o e) (fun b hb => (f3 b hb).1.1) w0
    · have z1 : h'.objs.size < s3.heap.objs.size := by
        rw [show h'.objs.size = b from z]
        exact (f3 b hb).2
      have z2 : (h'.objs.size : Nat) = s3.heap.objs.size + 1 := hsz
      omega
    · exact ⟨.bl b, H', I3.call' (ch := fp) I'.os I'.base I'.hok I'.bare fun b hb => ⟨(f3 b hb).1.2.2.2.1, (f3 b hb).1.2.1, (f3 b hb).1.2.2.2.2.1, (f3 b hb).1.2.2.2.2.2⟩, rfl, q⟩
  cases hf : codeAmong gpos ps.toList with
  | none =>
    refine wpAny_genexprCodeX hcode (cd.code hPs ht) (cd.tab hPs) hf fun c' h' tk hx hge hlt hco' _ htab' _ => ?_
    obtain ⟨o1, vs, f1, tf, fl, tg, inF, tx, tt, op, _, _, _, _, _, _, _, _, _, htr, _⟩ := hco'
    exact cont _ h' tk _ hx htab'.2 ⟨_, rfl⟩ htr
  | some cv =>
    refine wpAny_genexprCode_hit hcode (cd.code hPs ht) hf ?_
    exact cont cv s2.heap s2.toks ps (Heap.ExtBut.refl _ _) hPs ⟨#[], by simp⟩ ht
end
end Ov

set_option Elab.async false
set_option linter.all false
set_option maxRecDepth 100000
set_option maxHeartbeats 4000000
/-! rules that the layer lacks: powers of great ints, <= of texts, text * int, == of own instances by identity, an own __add__, an own __len__, C(*xs), repr of a list of texts -/
namespace Ov
open PySem PySem.Spec PyProof.Rows L2
/-! ### == by identity -/
section
variable {prog : Program} {w : World} {A : Around} {E : Value → Shared → Prop} {s : Shared} {K : PySem.W.Frag} {x y C : Addr} {ox oy : Obj} {od od' : Option Obj}
theorem call_objEq {Q : Value → Shared → Prop} (X : K.In s.heap) (I : PySem.W.InstAt s.heap x ox C od) (J : PySem.W.InstAt s.heap y oy C od') (hsub : PySem.W.subIn K (.ref C) (.type "object") = some true)
    (h : Q (if x = y then .bool true else .notImplemented) s) : wpAny (model prog w) A (call (.builtin "object.__eq__") [.ref x, .ref y]) Q E s := by
  refine wpAny_call (codeAny_call_builtin F.cmp_object.eq.plain F.cmpEntry_eq ?_)
  have fin : wpAny (model prog w) A.in1 (Builtin.«object.__eq__» ⟨[.ref x, .ref y], []⟩) (fun fin s' => match fin with | .done f => (wants Q E) (.ok f) s' | .again c' => c'.quiet = true ∧ codeAny (model prog w) A c' (wants Q E) s') (fun e s' => (wants Q E) (.error e) s') s := by
    by_cases hxy : x = y
    · subst hxy
      exact objEq_entry_same (by rw [if_pos rfl] at h; exact h)
    · refine objEq_entry_other hxy I.at_ J.at_ ?_ (by rw [if_neg hxy] at h; exact h)
      rw [I.cls]
      intro z; cases z
  simp only [checkBuiltinCall, F.cmpKind_eq, F.cmpSplit_eq]
  refine wpAny_bind ?_
  unfold isInstance
  refine wpAny_bind (I.type.here ?_)
  refine (PySem.W.looks_subIn X hsub).here ?_
  cases hsig : Manifest.signature? "object.__eq__" with
  | none => exact wpAny_pure fin
  | some sig =>
    have ha := F.cmpArgs_eq (.ref x) (.ref y)
    simp only [argsOk, hsig] at ha
    have h2 : Bind.checkArgs "object.__eq__" sig ⟨[.ref x, .ref y], []⟩ = pure () := ha
    show wpAny _ A.in1 (Bind.checkArgs "object.__eq__" sig ⟨[.ref x, .ref y], []⟩) _ _ _
    rw [h2]; exact wpAny_pure fin
theorem special_eq {Q : Option Value → Shared → Prop} (X : K.In s.heap) (I : PySem.W.InstAt s.heap x ox C od) (J : PySem.W.InstAt s.heap y oy C od') (hs : PySem.W.findIn K (.ref C) "__eq__" = some (some (.builtin "object.__eq__"))) (hsub : PySem.W.subIn K (.ref C) (.type "object") = some true)
    (h : Q (some (if x = y then .bool true else .notImplemented)) s) : wpAny (model prog w) A (callSpecialIfBound? (.ref x) "__eq__" [.ref y]) Q E s := by
  simp only [callSpecialIfBound?, bindSpecialIfBound?]
  refine wpAny_holding (wpAny_bind (wpAny_bind (wpAny_bind (I.type.here ((PySem.W.looks_findIn X hs).here ?_)))))
  have fin : wpAny (model prog w) A (call (.builtin "object.__eq__") ([.ref x] ++ [.ref y]) >>= fun v => pure (some v)) Q E s := wpAny_bind (call_objEq X I J hsub (wpAny_pure h))
  simp only [F.cmp_object.eq.bind]
  refine wpAny_bind (wpAny_askSetting (wpAny_ite ?_))
  split
  · exact wpAny_bind (wpAny_pure (wpAny_pure fin))
  · exact wpAny_tryCatch (wpAny_bind (wpAny_pure (wpAny_pure fin)))
theorem try_eq {Q : Option Value → Shared → Prop} (X : K.In s.heap) (I : PySem.W.InstAt s.heap x ox C od) (J : PySem.W.InstAt s.heap y oy C od') (hs : PySem.W.findIn K (.ref C) "__eq__" = some (some (.builtin "object.__eq__"))) (hsub : PySem.W.subIn K (.ref C) (.type "object") = some true)
    (h : Q (if x = y then some (.bool true) else none) s) : wpAny (model prog w) A (tryCompare (.ref x) "__eq__" (.ref y)) Q E s := by
  unfold tryCompare
  refine wpAny_bind (special_eq X I J hs hsub ?_)
  by_cases hxy : x = y
  · rw [if_pos hxy] at h ⊢
    exact wpAny_pure h
  · rw [if_neg hxy] at h ⊢
    exact wpAny_pure h
theorem eq_id {Q : Value → Shared → Prop} (hu : A.units < cLine) (X : K.In s.heap) (I : PySem.W.InstAt s.heap x ox C od) (J : PySem.W.InstAt s.heap y oy C od') (hs : PySem.W.findIn K (.ref C) "__eq__" = some (some (.builtin "object.__eq__"))) (hsub : PySem.W.subIn K (.ref C) (.type "object") = some true)
    (h : Q (.bool (decide (x = y))) s) : wpAny (model prog w) A (compareOp .Eq (.ref x) (.ref y)) Q E s := by
  show wpAny _ _ (richCompare .Eq (.ref x) (.ref y)) _ _ _
  unfold richCompare
  simp only [oneThing_ref, cmpInfo_Eq]
  refine wpAny_holding (wpAny_bind (wpAny_cRoomFor hu ?_))
  refine wpAny_bind (I.type.here (wpAny_bind (J.type.here ?_)))
  rw [if_neg (by simp)]
  refine wpAny_bind (wpAny_pure ?_)
  simp only [Bool.false_eq_true, if_false]
  refine wpAny_bind (try_eq X I J hs hsub ?_)
  by_cases hxy : x = y
  · rw [if_pos hxy]
    subst hxy
    exact wpAny_pure (by simpa using h)
  · rw [if_neg hxy]
    have hyx : ¬ y = x := fun z => hxy z.symm
    simp only [Bool.not_false, if_true]
    refine wpAny_bind (try_eq X J I hs hsub ?_)
    rw [if_neg hyx]
    refine wpAny_bind (wpAny_rule ?_)
    refine wpAny_bind (wpAny_isSame_ref_other hxy I.at_ J.at_ (by rw [I.cls]; intro z; cases z) ?_)
    exact wpAny_pure (by simpa [hxy] using h)
end

/-! ### the same over the layer; powers; texts -/
section
variable {X : Cx}
/-- the class has no == of its own -/
structure NoEq (K : PySem.W.Frag) (C : Addr) : Prop where
  eq : PySem.W.findIn K (.ref C) "__eq__" = some (some (.builtin "object.__eq__"))
  sub : PySem.W.subIn K (.ref C) (.type "object") = some true
theorem op_eqId {C : Addr} (hu : X.A.units < cLine) (n : NoEq X.K C) : OpR X (compareOp .Eq) (fun x y H Q => ∃ a b dx dy fs gs, x = .ref a ∧ y = .ref b ∧ H a = some (.ins C dx fs) ∧ H b = some (.ins C dy gs) ∧ Q (.bl (decide (a = b))) H) := by
  intro pins s σ H x y v u Q I rx ry h
  obtain ⟨a, b, dx, dy, fs, gs, rfl, rfl, ha, hb, q⟩ := h
  obtain rfl : v = Value.ref a := rx
  obtain rfl : u = Value.ref b := ry
  obtain ⟨mA, O, _⟩ := ins_get I.hok ha
  obtain ⟨od, J, _⟩ := O.look
  obtain ⟨mB, O', _⟩ := ins_get I.hok hb
  obtain ⟨od', J', _⟩ := O'.look
  exact eq_id hu I.kIn J J' n.eq n.sub ⟨.bl _, H, I, rfl, q⟩
/-- a power of a great number -/
def CPowW (i j : Int) : Prop := 0 ≤ j ∧ (Builtin.Int.intBits i : Int) * j ≤ 2 ^ 27
theorem op_powW : OpR X (binaryOp .Pow) (rI CPowW fun i j => .int (i ^ j.toNat)) := opI fun _ _ _ _ _ _ _ hc q => pow_int hc.1 hc.2 q
theorem bits_le {i : Int} {b : Nat} (h : i.natAbs < 2 ^ b) (h0 : 0 < b) : Builtin.Int.intBits i ≤ b := by
  have x := PySem.Flt.log2_lt_of h0 h
  unfold Builtin.Int.intBits
  split <;> omega
theorem op_le_str : OpR X (compareOp .LtE) (fun x y H Q => ∃ i j, x = .str i ∧ y = .str j ∧ Q (.bl (!decide (j.cps.toList < i.cps.toList))) H) := by
  intro pins s σ H x y v u Q I rx ry h
  obtain ⟨i, j, rfl, rfl, q⟩ := h
  obtain ⟨t, rfl⟩ := rx
  obtain ⟨t', rfl⟩ := ry
  exact PySem.P.le_str ⟨.bl _, H, I, rfl, q⟩
end
/-! ### C(*xs) -/
def tMakeS (X : Cx) (C : Addr) (sp : Sp) (E : XK) (tc te : TE) : TE := fun σ H Q => tc σ H fun c H0 => c = .ref C ∧ te σ H0 fun y H1 => ∃ a xs, y = V.ref a ∧ (SqT X.K H1 a xs ∨ SqL X.K H1 a xs) ∧
  ∀ x dx, H1 x = none → H1 dx = none → dx ≠ x → sp (V.ref x :: xs) (upd (upd H1 dx (.own x)) x (.ins C dx [])) (fun v H2 => v = .non ∧ Q (.ref x) H2) E
section
variable {X : Cx} {CX : CXT} {k : Nat} {f C : Addr} {sp : Sp} {E : XK} {x : Str} {e : Expr} {tc te : TE} {p pos sp_ : Pos}
/-- c(*xs), c a name whose value is the class -/
theorem pe_makeS (M : Mk X.K C f) (F : FnR X.prog X.w X.K X.mg X.base CX k f sp) (hr : Room (k + 1) X.A) (hx : Passes CX X E) (hn : PE X (.Name x p) tc) (he : PE X e te)
    (hst : starEach [.Starred e sp_] X.env = [(true, eval e X.env)] := by rfl) : PE X (.Call (.Name x p) [.Starred e sp_] [] pos) (tMakeS X C sp E tc te) := by
  refine ⟨fun pins s σ H Q I h => ?_⟩
  refine wpAny_Call_Name_kw (thn (hn.run pins s σ H _ I h) fun c s0 ⟨cv, H0, I0, rc, ec, h⟩ => ?_)
  subst ec
  obtain rfl : c = Value.ref C := rc
  refine PySem.W.callWith_S (h₀ := X.base) I0.ok.mod.kin M.kp (thn (he.run pins s0 σ H0 _ I0 h) fun v s1 ⟨y, H1, I1, ry, a, xs, ey, hxs, q⟩ => ?_) hst
  subst ey
  obtain rfl : v = Value.ref a := ry
  exact StX.star_any I1 hxs fun us s2 I2 rv => ⟨I2.kIn, StX.run_makeR M F hr hx I2 rv q⟩
end
end Ov

set_option Elab.async false
set_option linter.all false
set_option maxRecDepth 100000
set_option maxHeartbeats 4000000
/-! len(set(xs)), xs a tuple of any number of texts (below 4000) -/
namespace Ov
open PySem PySem.Spec PyProof.Rows L2
/-- the texts without those that were there before -/
def addS (z : List Str) (v : Str) : List Str := if z.any (· == v) = true then z else z ++ [v]
def once (xs : List Str) : List Str := xs.foldl addS []
theorem addS_len (z : List Str) (v : Str) : (addS z v).length = if z.any (· == v) = true then z.length else z.length + 1 := by
  unfold addS; split <;> simp
theorem addS_any (z : List Str) (v k : Str) : (addS z v).any (· == k) = (z.any (· == k) || decide (k = v)) := by
  unfold addS
  by_cases h : z.any (· == v) = true
  · rw [if_pos h]
    by_cases e : k = v
    · subst e; rw [h]; simp
    · simp [e]
  · rw [if_neg h, List.any_append]
    by_cases e : k = v
    · subst e; simp
    · have hb : (v == k) = false := by simpa [beq_iff_eq] using (fun h' : v = k => e h'.symm)
      simp [hb, e]
theorem once_take {xs : List Str} {i : Nat} (h : i < xs.length) : once (xs.take (i + 1)) = addS (once (xs.take i)) (xs.getD i Str.empty) := by
  unfold once
  rw [List.take_succ, List.foldl_append, List.getElem?_eq_getElem h]
  simp [List.getD, List.getElem?_eq_getElem h]
theorem once_le (xs : List Str) : (once xs).length ≤ xs.length := by
  have key : ∀ (l z : List Str), (l.foldl addS z).length ≤ z.length + l.length := by
    intro l
    induction l with
    | nil => intro z; simp
    | cons a l ih =>
      intro z
      rw [List.foldl_cons, List.length_cons]
      refine Nat.le_trans (ih _) ?_
      rw [addS_len]
      split <;> omega
  have := key xs []
  simpa [once] using this
/-- as many as there are, exactly if no two are alike -/
theorem once_nodup (xs : List Str) : (once xs).length = xs.length ↔ xs.Nodup := by
  have key : ∀ (l z : List Str), ((l.foldl addS z).length = z.length + l.length ↔ (l.Nodup ∧ ∀ a ∈ l, ¬ z.any (· == a) = true)) := by
    intro l
    induction l with
    | nil => intro z; simp
    | cons a l ih =>
      intro z
      rw [List.foldl_cons, List.length_cons, List.nodup_cons]
      have bound : ∀ (l z : List Str), (l.foldl addS z).length ≤ z.length + l.length := by
        intro l
        induction l with
        | nil => intro z; simp
        | cons a l ih =>
          intro z
          rw [List.foldl_cons, List.length_cons]
          refine Nat.le_trans (ih _) ?_
          rw [addS_len]
          split <;> omega
      by_cases h : z.any (· == a) = true
      · have e : addS z a = z := if_pos h
        rw [e]
        have := bound l z
        constructor
        · intro q; omega
        · rintro ⟨_, q⟩; exact absurd h (q a List.mem_cons_self)
      · have e : addS z a = z ++ [a] := if_neg h
        rw [e]
        have ih' := ih (z ++ [a])
        rw [List.length_append, List.length_singleton] at ih'
        rw [show z.length + (l.length + 1) = z.length + 1 + l.length by omega, ih']
        constructor
        · rintro ⟨h1, h2⟩
          refine ⟨⟨fun hm => ?_, h1⟩, fun b hb => ?_⟩
          · have := h2 a hm
            rw [List.any_append] at this
            simp at this
          · rcases List.mem_cons.mp hb with e | hb
            · rw [e]; exact h
            · have := h2 b hb
              rw [List.any_append] at this
              intro q
              rw [q] at this
              simp at this
        · rintro ⟨⟨h1, h2⟩, h3⟩
          refine ⟨h2, fun b hb => ?_⟩
          rw [List.any_append]
          have q := h3 b (List.mem_cons_of_mem _ hb)
          have nb : (a == b) = false := by
            rw [beq_eq_false_iff_ne]
            intro e
            exact h1 (e ▸ hb)
          simp only [Bool.not_eq_true] at q ⊢
          rw [q]
          simp [nb]
  have := key xs []
  simpa [once] using this

section
variable {prog : Program} {w : World} {A : Around} {R : Result → Shared → Prop} {I : Addr} {fp wr : List Addr} {G : Array GenState → Array GenState → Prop} {n : Nat} {P : Nat → Value → Prop} {St : Nat → Shared → Prop}
theorem set_loop (W : WalksS prog w A.in1 I fp wr G n P St) (S : Addr) (hSf : S ∉ fp) (xs : List Str) (hsz : xs.length = n) (hn : n + 1 < scanBound)
    (hval : ∀ i v, P i v → ∃ t, v = .str (xs.getD i Str.empty) t) :
    ∀ (k i : Nat) (s : Shared), n - i = k → i ≤ n → St i s →
      s.heap.SetOf (PySem.strKind prog w) S (fun k' => (once (xs.take i)).any (· == k')) (once (xs.take i)).length →
      (∀ s', Moved (S :: wr) G s s' → s'.heap.SetOf (PySem.strKind prog w) S (fun k' => (once xs).any (· == k')) (once xs).length → R (.ok (.ret .none)) s') →
      codeAny (model prog w) A (.builtin "set.update.loop" ⟨[.ref S, .ref I], []⟩) R s := by
  have hSw : S ∉ wr := fun h => hSf (W.sub _ h)
  have hsub : ∀ b ∈ wr, b ∈ S :: wr := fun b hb => List.mem_cons_of_mem _ hb
  intro k
  induction k with
  | zero =>
    intro i s hk hi hst hS hR
    have hin : i = n := by omega
    subst hin
    refine codeAny_builtin PyProof.Rows.F.entry_set_update_loop ?_
    rw [Around.under_plainId PyProof.Rows.F.plain_set_update_loop _]
    show wpAny _ A.in1 (pyNext (.ref I) >>= _) _ _ s
    refine wpAny_bind (W.done s _ _ hst fun s' hm => ?_)
    show wpAny _ A.in1 (ret Value.none) _ _ s'
    rw [← hsz, List.take_length] at hS
    exact wpAny_pure (hR s' (hm.mono hsub) (by
      obtain ⟨o, es, ep, t, ho, rest⟩ := hS
      exact ⟨o, es, ep, t, hm.heap S _ hSw ho, rest⟩))
  | succ k ih =>
    intro i s hk hi hst hS hR
    have hlt : i < n := by omega
    refine codeAny_builtin PyProof.Rows.F.entry_set_update_loop ?_
    rw [Around.under_plainId PyProof.Rows.F.plain_set_update_loop _]
    show wpAny _ A.in1 (pyNext (.ref I) >>= _) _ _ s
    refine wpAny_bind (W.item i s _ _ hlt hst fun v s' hP hst' hm => ?_)
    obtain ⟨t, rfl⟩ := hval i v hP
    have hS' : s'.heap.SetOf (PySem.strKind prog w) S (fun k' => (once (xs.take i)).any (· == k')) (once (xs.take i)).length := by
      obtain ⟨o, es, ep, tb, ho, rest⟩ := hS
      exact ⟨o, es, ep, tb, hm.heap S _ hSw ho, rest⟩
    have hle : (once (xs.take i)).length ≤ i := Nat.le_trans (once_le _) (by rw [List.length_take]; omega)
    show wpAny _ A.in1 (holding [Value.str (xs.getD i Str.empty) t] (setAdd S (.str (xs.getD i Str.empty) t)) >>= _) _ _ s'
    refine wpAny_bind (wpAny_holding ?_)
    unfold setAdd
    refine wpAny_holding ?_
    refine wpAny_bind ((PySem.strKind prog w).pyHash (k := xs.getD i Str.empty) (strKind_is _ _ _ _) ?_)
    refine wpAny_setAddHashed_of (knd := PySem.strKind prog w) (s := { s' with toks := s'.toks + 1 }) (strKind_is _ _ _ _) rfl hS' (by omega) fun h' hsb hS2 => ?_
    have hSi : h'.SetOf (PySem.strKind prog w) S (fun k' => (once (xs.take (i + 1))).any (· == k')) (once (xs.take (i + 1))).length := by
      rw [once_take (by omega)]
      exact SetOf_congr hS2 (fun k' => by rw [addS_any]) (by rw [addS_len])
    refine wpAny_pure ⟨plainId_quiet PyProof.Rows.F.plain_set_update_loop _, ih (i + 1) _ (by omega) hlt (W.frame _ s' _ _ hst' (Nat.le_succ _) fun b hb o e => ?_) hSi fun s'' hm'' hS'' => ?_⟩
    · rw [hsb.2 b (fun h : b = S => hSf (by rw [← h]; exact hb))]; exact e
    · refine hR s'' (Moved.trans W.gtrans ((hm.mono hsub).then_heap (Nat.le_succ _) fun b o hb e => ?_) hm'') hS''
      rw [hsb.2 b (fun h : b = S => hb (by rw [h]; exact List.mem_cons_self))]; exact e
end
section
variable {prog : Program} {w : World} {A : Around} {E : Value → Shared → Prop} {s : Shared}
theorem set_of_tuple {l : Addr} {items : Array Value} {xs : List Str} {Q : Value → Shared → Prop}
    (hh : A.handled = none) (hl : s.heap.IsTuple l items) (hi : PyProof.Rows.StrsAre items.toList xs) (hn1 : xs.length + 1 < scanBound)
    (h : ∀ (h' : Heap) (tk : Nat), h'.SetOf (PySem.strKind prog w) s.heap.objs.size (fun k' => (once xs).any (· == k')) (once xs).length →
      (∀ b o, b < s.heap.objs.size → s.heap.get? b = some o → h'.get? b = some o) → Q (.ref s.heap.objs.size) { s with heap := h', toks := tk }) :
    wpAny (model prog w) A (call (.type "set") [.ref l]) Q E s := by
  obtain ⟨c, tl, hmro⟩ := PySem.F.called_set.mro
  have hmade := PySem.F.called_set.made
  have hsub := PySem.F.called_set.sub
  have h1 := PySem.F.called_set.notType
  have h2 := PySem.F.called_set.canCreate
  have hct := PySem.F.typeCall_set_1 (.ref l)
  refine wpAny_call (codeAny_of_tree ?_)
  show wpAny _ _ (callAny (.type "set") _) _ _ _
  refine wpAny_pure ⟨Code.quiet_builtin _ (by decide +kernel), codeAny_builtin PySem.F.entry_type_call ?_⟩
  rw [Around.under_plain (weight_type_call_type "set" [.ref l] []) rfl]
  repeat (any_goals (first | assumption | wp_step))
  refine codeAny_mono (code_set_new_1 (.ref l) (E := E) (Q₁ := fun obj s₁ => ∃ led : Bool, obj = .ref s.heap.objs.size ∧ s₁ = { s with heap := s.heap.push { cls := .type "set", dict := none, data := .set #[] 0 (.fresh 0 0 led) } }) fun led => ⟨led, rfl, rfl⟩) fun r s₁ hr => ?_
  cases r with
  | error e => exact hr
  | ok fl =>
    cases fl with
    | ret obj =>
      obtain ⟨led, rfl, rfl⟩ := hr
      have hS : (s.heap.push { cls := .type "set", dict := none, data := .set #[] 0 (.fresh 0 0 led) }).get? s.heap.objs.size = some { cls := .type "set", dict := none, data := .set #[] 0 (.fresh 0 0 led) } := Heap.get?_push_size _ rfl
      have hT : Shared.TypeIs { s with heap := s.heap.push { cls := .type "set", dict := none, data := .set #[] 0 (.fresh 0 0 led) } } (.ref s.heap.objs.size) "set" := ⟨_, hS, rfl⟩
      have hli := PySem.F.called_set.init.lookup
      have hbi := PySem.F.called_set.init.bind (.ref s.heap.objs.size)
      repeat (any_goals (first | assumption | wp_step))
      refine codeAny_mono (codeAny_call_builtin (R := wants (fun r s₂ => r = .none ∧ ∃ h' tk, s₂ = { s with heap := h', toks := tk } ∧
          h'.SetOf (PySem.strKind prog w) s.heap.objs.size (fun k' => (once xs).any (· == k')) (once xs).length ∧
          (∀ b o, b < s.heap.objs.size → s.heap.get? b = some o → h'.get? b = some o)) E) PySem.F.called_set.init.plain PySem.F.entry_set_init (check_set_init_1 hT ?_)) fun r₂ s₂ hr₂ => ?_
      · obtain ⟨ol, hol, hcl, nl, hdl⟩ := hl
        obtain ⟨ocls, odict, odata, oslots⟩ := ol
        simp only at hcl hdl
        subst hcl; subst hdl
        have hol' : (s.heap.push { cls := .type "set", dict := none, data := .set #[] 0 (.fresh 0 0 led) }).get? l = some { cls := .type "tuple", dict := odict, data := .seq items nl, slots := oslots } := Heap.get?_push_of_some _ hol
        have hsls := PySem.F.sub_tuple_set
        have hslf := PySem.F.sub_tuple_frozenset
        have hne : (Value.type "tuple" == Value.type "dict") = false := by decide
        have hl1 : (s.heap.push { cls := .type "set", dict := none, data := .set #[] 0 (.fresh 0 0 led) }).IsTuple l items := ⟨_, hol', rfl, nl, rfl⟩
        unfold Builtin.«set.__init__» noKeywords Builtin.Frozenset.updateFrom
        generalize hPI : pyIter = PI
        wp_walk
        subst hPI
        refine wpAny_pyIter_tuple hl1 ?_
        refine wpAny_bind (wpAny_runValue ?_)
        have hlS : l < s.heap.objs.size := Heap.lt_size hol
        have hh3 : A.in1.in1.in1.handled = none := by simp [hh]
        have hneI : l ≠ (s.heap.push { cls := .type "set", dict := none, data := .set #[] 0 (.fresh 0 0 led) }).objs.size := by
          rw [Heap.size_push]; exact Nat.ne_of_lt (Nat.lt_succ_of_lt hlS)
        have hSf : s.heap.objs.size ∉ [(s.heap.push { cls := .type "set", dict := none, data := .set #[] 0 (.fresh 0 0 led) }).objs.size, l] := by
          rw [Heap.size_push]; simp only [List.mem_cons, List.mem_singleton, List.not_mem_nil, or_false, not_or]
          exact ⟨Nat.ne_of_lt (Nat.lt_succ_self _), Nat.ne_of_gt hlS⟩
        have hsz : xs.length = items.size := by rw [← StrsAre.len_eq hi, Array.length_toList]
        have hval : ∀ (i : Nat) (v : Value), items[i]? = some v → ∃ t, v = .str (xs.getD i Str.empty) t := fun i v hv => SS.strs_at hi i v (by rw [Array.getElem?_toList]; exact hv)
        refine set_loop ((Walks.tuple hh3 _ l hneI items).toS) s.heap.objs.size
          hSf xs hsz (by rw [← hsz]; exact hn1) hval (items.size - 0) 0 _ (by omega) (Nat.zero_le _)
          ⟨⟨_, Heap.get?_push_size _ rfl, rfl, rfl⟩, (hl1.push _)⟩ ?hS0 ?hR
        case hS0 =>
          have hget : ((s.heap.push { cls := .type "set", dict := none, data := .set #[] 0 (.fresh 0 0 led) }).push { cls := .type "tuple_iterator", data := .fields #[.ref l, .int 0 0] }).get? s.heap.objs.size
              = some { cls := .type "set", dict := none, data := .set #[] 0 (.fresh 0 0 led) } := Heap.get?_push_of_some _ hS
          exact PyProof.Rows.SetOf_congr ((PyProof.Rows.setObjOf_fresh (knd := PySem.strKind prog w) led).setOf hget (by unfold scanBound; omega)) (fun _ => rfl) rfl
        case hR =>
          intro s' hm hS'
          obtain ⟨h', g', d', tk', os'⟩ := s'
          have eg : g' = s.gens := hm.gens
          have ed : d' = s.drawn := hm.drawn
          have eo : os' = s.os := hm.os
          subst eg; subst ed; subst eo
          show wpAny _ _ _ _ _ _
          refine wpAny_pure ?_
          show wpAny _ _ (ret Value.none) _ _ _
          refine wpAny_pure ⟨rfl, h', tk', rfl, hS', fun b o hb e => ?_⟩
          have hb1 : b ≠ s.heap.objs.size := Nat.ne_of_lt hb
          have hb2 : b ≠ (s.heap.push { cls := .type "set", dict := none, data := .set #[] 0 (.fresh 0 0 led) }).objs.size := by
            rw [Heap.size_push]; exact Nat.ne_of_lt (Nat.lt_succ_of_lt hb)
          exact hm.heap b o (by simp only [List.mem_cons, List.mem_singleton, List.not_mem_nil, or_false, not_or]; exact ⟨hb1, hb2⟩) (Heap.get?_push_of_some _ (Heap.get?_push_of_some _ e))
      · cases r₂ with
        | error e => exact hr₂
        | ok fl₂ =>
          cases fl₂ with
          | ret r =>
            obtain ⟨rfl, h', tk, rfl, hS', hk'⟩ := hr₂
            repeat (any_goals (first | assumption | wp_step))
            exact h _ _ hS' hk'
          | _ => exact hr₂.elim
    | _ => exact hr.elim
end
/-- len(set(xs)), xs a tuple of texts -/
def tLenOnce (K : PySem.W.Frag) (ta : TE) : TE := fun σ H Q => ta σ H fun x H1 => ∃ (l : Addr) (xs : List Str), x = .ref l ∧ SqT K H1 l (xs.map V.str) ∧ xs.length ≤ 4000 ∧ Q (.int ((once xs).length : Nat)) H1
theorem pe_lenOnce {X : Cx} {a : Expr} {ta : TE} {p p2 q pos : Pos} (hc : X.calm = true) (hg : Gl X "len") (hm : X.mg "len" = none) (hg2 : Gl X "set") (hm2 : X.mg "set" = none) (ha : PE X a ta)
    (na : starEach [a] X.env = (false, eval a X.env) :: starEach [] X.env := by rfl) : PE X (.Call (.Name "len" p) [.Call (.Name "set" p2) [a] [] q] [] pos) (tLenOnce X.K ta) := by
  refine ⟨fun pins s σ H Q I h => ?_⟩
  refine Call_ (ld_blt I hg hm boot_len ?_)
  refine PyProof.Rows.callWith_builtin1 (PyProof.Rows.args_cons ?_ rfl) rfl rfl
  refine Call_ (ld_blt I hg2 hm2 boot_set ?_)
  refine PyProof.Rows.callWith_type1 (PyProof.Rows.args_cons (thn (ha.run pins s σ H _ I h) fun v s1 ⟨x, H1, I1, r1, q1⟩ => PyProof.Rows.args_nil ?_) na) na rfl
  obtain ⟨l, xs, rfl, hq, h1, q1⟩ := q1
  cases r1
  obtain ⟨its, r, pl, hz⟩ := I1.tuple hq
  refine set_of_tuple (I1.ok.hd hc) pl (by simpa using strsAre_of r) (by unfold scanBound; omega) fun h' tk hS hk => ?_
  refine PyProof.Rows.args_nil ?_
  have hle := once_le xs
  obtain ⟨o, es, ep, t, ho, hex, hd, _, _, _, hf, hn⟩ := hS
  have I2 : Inv X pins σ H1 { s1 with heap := h', toks := tk } := I1.kept fun b o e => hk b o (Heap.lt_size e) e
  exact call_len_set ho hex hd hf (by rw [hn] <;> omega) ⟨.int (once xs).length, H1, I2.tok _, ⟨_, by rw [hn]⟩, q1⟩
end Ov

set_option Elab.async false
set_option linter.all false
set_option maxRecDepth 100000
set_option maxHeartbeats 4000000
namespace Ov
open PySem PySem.Spec PyProof.Rows L2 GxR
/-! ### all, by its items -/
theorem all_str {x : Str} {te : TE} {cp : L2.St} {Q : VK} {H2 : Hp} (f : Nat → Bool) (he : ∀ c, ∀ R : VK, R (.bl (f c)) H2 → te (some (.str ⟨#[c]⟩) :: cp) H2 R) (q : Q (.bl (x.cps.toList.all f)) H2) :
    ∃ W : Nat → Nat → Hp → Prop, (∃ m, W 0 m H2) ∧ turnAll (Its x) te W cp Q := by
  refine ⟨fun i m H => H = H2 ∧ m = x.cps.size - i ∧ i ≤ x.cps.size ∧ (x.cps.toList.take i).all f = true, ⟨x.cps.size, rfl, by simp, Nat.zero_le _, rfl⟩, ?_⟩
  rintro i m H ⟨rfl, rfl, hi, ha⟩
  by_cases hlt : i < x.cps.size
  · refine .inr ⟨hlt, fun v H' hy => ?_⟩
    obtain ⟨rfl, c, hc, rfl⟩ := hy
    refine he c _ ⟨f c, rfl, ?_⟩
    have hcl : x.cps.toList[i]? = some c := by rw [Array.getElem?_toList]; exact hc
    cases hf : f c with
    | true =>
      refine iteT ⟨x.cps.size - (i + 1), by omega, rfl, rfl, hlt, ?_⟩
      rw [List.take_succ, hcl, List.all_append, ha]
      simp [hf]
    | false =>
      refine iteF ?_
      have e : x.cps.toList.all f = false := by
        rw [List.all_eq_false]
        exact ⟨c, List.mem_of_getElem? hcl, by simp [hf]⟩
      rw [← e]; exact q
  · have e : i = x.cps.size := by omega
    subst e
    refine .inl ⟨Nat.le_refl _, ?_⟩
    have e2 : x.cps.toList.take x.cps.size = x.cps.toList := by rw [List.take_of_length_le (by simp)]
    rw [e2] at ha
    rw [ha] at q
    exact q
theorem all_tup {K : PySem.W.Frag} {a : Addr} {xs : List V} {te : TE} {cp : L2.St} {Q : VK} {H2 : Hp} (f : V → Bool) (Pv : Hp → Prop) (h0 : Pv H2) (hs : ∀ H, Pv H → SqT K H a xs)
    (he : ∀ x ∈ xs, ∀ H, Pv H → ∀ R : VK, (∀ H', Pv H' → R (.bl (f x)) H') → te (some x :: cp) H R) (q : ∀ H, Pv H → Q (.bl (xs.all f)) H) :
    ∃ W : Nat → Nat → Hp → Prop, (∃ m, W 0 m H2) ∧ turnAll (Itt K a) te W cp Q := by
  refine ⟨fun i m H => Pv H ∧ m = xs.length - i ∧ i ≤ xs.length ∧ (xs.take i).all f = true, ⟨xs.length, h0, by simp, Nat.zero_le _, rfl⟩, ?_⟩
  rintro i m H ⟨hp, rfl, hi, ha⟩
  by_cases hlt : i < xs.length
  · refine .inr ⟨⟨xs, xs[i], hs H hp, List.getElem?_eq_getElem hlt⟩, fun v H' hy => ?_⟩
    obtain ⟨rfl, hy⟩ := hy
    have hv := hy xs (hs _ hp)
    refine he v (List.mem_of_getElem? hv) _ hp _ fun H'' hp'' => ⟨f v, rfl, ?_⟩
    cases hf : f v with
    | true =>
      refine iteT ⟨xs.length - (i + 1), by omega, hp'', rfl, hlt, ?_⟩
      rw [List.take_succ, hv, List.all_append, ha]
      simp [hf]
    | false =>
      refine iteF ?_
      have e : xs.all f = false := by
        rw [List.all_eq_false]
        exact ⟨v, List.mem_of_getElem? hv, by simp [hf]⟩
      rw [← e]; exact q _ hp''
  · have e : i = xs.length := by omega
    subst e
    refine .inl ⟨⟨xs, hs _ hp, Nat.le_refl _⟩, ?_⟩
    rw [List.take_length] at ha
    rw [← ha]
    exact q _ hp
/-! ### a def whose code object is known -/
structure FunC (K : PySem.W.Frag) (x qual : Str) (st : Stmt) (f : Addr) (fd : FuncData) (c : Addr) : Prop where
  ex : ∃ (oc : Value) (od : Option Addr) (kV doc pm : Value) (an : Option Addr) (ct : Value) (osl : Array (Option Value)),
    fd = PySem.W.fnOf x qual (defArgs st) (defBody st) (defScope st) .none kV doc pm an (.ref c) ct ∧ K.lookup f = some ⟨oc, od, .func fd, osl⟩ ∧ PySem.W.codeIn K (.ref c) qual = true
  kp : PySem.W.keepIn K (.ref f) = true
section
variable {P : Program} {w : World} {K : PySem.W.Frag} {mg : Str → Option Value} {base : Heap}
theorem FunC.ok {x qual : Str} {st : Stmt} {f c : Addr} {fd : FuncData} {N ps : List Str} {k : Nat} {sp : Sp} (F : FunC K x qual st f fd c) (S : FnScope N ps (defScope st)) (len : ∀ vs H Q E, sp vs H Q E → vs.length = ps.length)
    (hbody : ∀ (A : Around) (outer : List Env) (s : Shared) (H : Hp) (vs : List V) (Q : VK) (E : XK), Room k (A.deeper (envOfC qual (defScope st) s.heap.objs.size f (.ref c))) → sp vs H Q E →
      ∃ t, PSs (cxOf CX0 P w K mg base N qual (defScope st) f (.ref c) A outer s H E).nox (defBody st) t ∧ t { nx := fun _ H' => Q .non H', rt := Q } (start N vs) H) : FnOk P w K mg base CX0 (k + 1) f fd ps sp := by
  obtain ⟨oc, od, kV, doc, pm, an, ct, osl, rfl, lk, hcd⟩ := F.ex
  refine fn_of lk hcd S len fun A outer s H vs Q E hr hsp => ?_
  obtain ⟨t, h, q⟩ := hbody A outer s H vs Q E hr hsp
  exact ⟨t, h.nox, q⟩
theorem FunC.toFun {x qual : Str} {st : Stmt} {f c : Addr} {fd : FuncData} (F : FunC K x qual st f fd c) : Fun K x qual st f fd := by
  obtain ⟨oc, od, kV, doc, pm, an, ct, osl, e, lk, hcd⟩ := F.ex
  exact ⟨⟨oc, od, kV, doc, pm, an, _, ct, osl, e, lk, hcd⟩, F.kp⟩
theorem funC_mk {x qual : Str} {st : Stmt} {f c : Addr} {oc : Value} {od an : Option Addr} {osl : Array (Option Value)} {kV doc pm ct : Value} (l : K.lookup f = some ⟨oc, od, .func (PySem.W.fnOf x qual (defArgs st) (defBody st) (defScope st) .none kV doc pm an (.ref c) ct), osl⟩)
    (hc : PySem.W.codeIn K (.ref c) qual = true) (k : PySem.W.keepIn K (.ref f) = true) : FunC K x qual st f (PySem.W.fnOf x qual (defArgs st) (defBody st) (defScope st) .none kV doc pm an (.ref c) ct) c := ⟨⟨oc, od, kV, doc, pm, an, ct, osl, rfl, l, hc⟩, k⟩
end
/-! ### heaps that differ in the tables of the defs alone -/
/-- the tables at T may grow; nothing else has changed -/
def Tbs (T : List Addr) (H H' : Hp) : Prop := (∀ P ∈ T, TabG H' P) ∧ ∀ b, b ∉ T → H' b = H b
/-- .. what stood stands -/
def Kep (T : List Addr) (H H' : Hp) : Prop := (∀ P ∈ T, TabG H' P) ∧ ∀ b o, b ∉ T → H b = some o → H' b = some o
theorem Tbs.refl {T : List Addr} {H : Hp} (h : ∀ P ∈ T, TabG H P) : Tbs T H H := ⟨h, fun _ _ => rfl⟩
theorem Tbs.trans {T : List Addr} {H H1 H2 : Hp} (a : Tbs T H H1) (b : Tbs T H1 H2) : Tbs T H H2 := ⟨b.1, fun c hc => (b.2 c hc).trans (a.2 c hc)⟩
theorem Tbs.kep {T : List Addr} {H H' : Hp} (a : Tbs T H H') : Kep T H H' := ⟨a.1, fun b o hb e => (a.2 b hb).trans e⟩
theorem Kep.refl {T : List Addr} {H : Hp} (h : ∀ P ∈ T, TabG H P) : Kep T H H := ⟨h, fun _ _ _ e => e⟩
theorem Kep.trans {T : List Addr} {H H1 H2 : Hp} (a : Kep T H H1) (b : Kep T H1 H2) : Kep T H H2 := ⟨b.1, fun c o hc e => b.2 c o hc (a.2 c o hc e)⟩
theorem Tbs.of1 {T : List Addr} {H H' : Hp} {P : Addr} (h : ∀ p ∈ T, TabG H p) (hP : P ∈ T) (t : Tabbed P H H') : Tbs T H H' := by
  refine ⟨fun p hp => ?_, fun b hb => t.2 b fun z => hb (by rw [z]; exact hP)⟩
  by_cases e : p = P
  · rw [e]; exact t.1
  · obtain ⟨ps, h1, h2⟩ := h p hp
    exact ⟨ps, (t.2 p e).trans h1, h2⟩
/-- a tracked thing of another kind is no table -/
theorem not_tab {T : List Addr} {H : Hp} {b : Addr} {o : HO} (h : ∀ p ∈ T, TabG H p) (e : H b = some o) (n : ∀ ps, o ≠ .tbl ps) : b ∉ T := fun z => by
  obtain ⟨ps, h1, _⟩ := h b z
  rw [e] at h1
  exact n ps (Option.some.inj h1)
theorem free_tab {T : List Addr} {H : Hp} {b : Addr} (h : ∀ p ∈ T, TabG H p) (e : H b = none) : b ∉ T := fun z => by
  obtain ⟨ps, h1, _⟩ := h b z
  rw [e] at h1
  cases h1
theorem Kep.at {T : List Addr} {H H' : Hp} {b : Addr} {o : HO} (a : Kep T H H') (h : ∀ p ∈ T, TabG H p) (e : H b = some o) (n : ∀ ps, o ≠ .tbl ps) : H' b = some o := a.2 b o (not_tab h e n) e
/-- a new thing -/
theorem Kep.new {T : List Addr} {H : Hp} {p : Addr} {o : HO} (h : ∀ q ∈ T, TabG H q) (e : H p = none) : Kep T H (upd H p o) := by
  refine ⟨fun q hq => ?_, fun b u _ hb => ?_⟩
  · obtain ⟨ps, h1, h2⟩ := h q hq
    exact ⟨ps, (upd_ne (ne_of_none h1 e)).trans h1, h2⟩
  · exact (upd_ne (ne_of_none hb e)).trans hb
/-- a list that was not there at H may be written -/
theorem Kep.put {T : List Addr} {H H1 : Hp} {p : Addr} {o : HO} (a : Kep T H H1) (e : H p = none) (n : p ∉ T) : Kep T H (upd H1 p o) := by
  refine ⟨fun q hq => ?_, fun b u hb hu => ?_⟩
  · obtain ⟨ps, h1, h2⟩ := a.1 q hq
    exact ⟨ps, (upd_ne (fun z => n (by rw [← z]; exact hq))).trans h1, h2⟩
  · exact (upd_ne (ne_of_none hu e)).trans (a.2 b u hb hu)
theorem Kep.seqL {T : List Addr} {K : PySem.W.Frag} {H H' : Hp} {a : Addr} {xs : List V} (k : Kep T H H') (h : ∀ p ∈ T, TabG H p) (e : SqL K H a xs) : SqL K H' a xs := by
  rcases e with (e | ⟨o, e⟩) | e
  · exact .inl (.inl (k.at h e fun _ z => by cases z))
  · exact .inl (.inr ⟨o, k.at h e fun _ z => by cases z⟩)
  · exact .inr e
theorem Kep.seqT {T : List Addr} {K : PySem.W.Frag} {H H' : Hp} {a : Addr} {xs : List V} (k : Kep T H H') (h : ∀ p ∈ T, TabG H p) (e : SqT K H a xs) : SqT K H' a xs := by
  rcases e with (e | ⟨o, e⟩) | e
  · exact .inl (.inl (k.at h e fun _ z => by cases z))
  · exact .inl (.inr ⟨o, k.at h e fun _ z => by cases z⟩)
  · exact .inr e
theorem Kep.free {T : List Addr} {H H' : Hp} {b : Addr} (k : Kep T H H') (h : ∀ p ∈ T, TabG H p) (e : H' b = none) : H b = none := by
  cases q : H b with
  | none => rfl
  | some o =>
    by_cases hb : b ∈ T
    · obtain ⟨ps, h1, _⟩ := k.1 b hb
      rw [h1] at e; cases e
    · rw [k.2 b o hb q] at e; cases e
end Ov
namespace Ov
open PySem PySem.Spec PyProof.Rows L2 GxR
theorem one_lt (a b : Nat) : ([a] < [b]) ↔ a < b := by
  rw [List.cons_lt_cons_iff]
  constructor
  · rintro (h | ⟨_, h⟩)
    · exact h
    · exact absurd h (by simp)
  · exact .inl
/-! ### a generator's names, by a check -/
def genC (N : List Str) (sc scope : Scope) (x : Str) (cs : List Str) (pick : List Nat) : Bool :=
  (scope.kind == .function) && (scope.isCoroutine == false) && (scope.names.all fun y => y.2 != .cell) && (scope.names.lookup (".0" : Str) == some NameKind.local) && (scope.names.lookup x == some NameKind.local) &&
  (scope.names.all fun y => y.2 != .free || (sc.names.lookup y.1 == some NameKind.cell)) && (scope.names.all fun y => scope.names.lookup y.1 == some y.2) && decide ((x :: cs).Nodup) && (cs.length == pick.length) &&
  ((cs.zip pick).all fun p => (scope.names.lookup p.1 == some NameKind.free) && (sc.names.lookup p.1 == some NameKind.cell) && (N[p.2]? == some p.1))
theorem genN_by {X : Cx} {N : List Str} {sc scope : Scope} {x : Str} {cs : List Str} {pick : List Nat} (hN : X.N = N) (hs : X.env.scope = sc) (hc : ∀ y, sc.names.lookup y = some .cell → ∃ c, X.env.cells.lookup y = some c) (h : genC N sc scope x cs pick = true) : GenN X scope x cs pick := by
  unfold genC at h
  simp only [Bool.and_eq_true, beq_iff_eq, decide_eq_true_eq] at h
  obtain ⟨⟨⟨⟨⟨⟨⟨⟨⟨h1, h2⟩, h3⟩, h4⟩, h5⟩, h6⟩, h7⟩, h8⟩, h9⟩, h10⟩ := h
  refine ⟨⟨h1, h2, fun y hy e => ?_, h4, h5, fun y hy e => ?_⟩, fun y hy => ?_, h8, h9, fun i y hi => ?_⟩
  · have := List.all_eq_true.mp h3 y hy
    rw [e] at this
    exact absurd this (by decide)
  · have := List.all_eq_true.mp h6 y hy
    rw [e] at this
    simp only [bne_self_eq_false, Bool.false_or, beq_iff_eq] at this
    exact hc y.1 this
  · exact beq_iff_eq.mp (List.all_eq_true.mp h7 y hy)
  · obtain ⟨j, hj⟩ : ∃ j, pick[i]? = some j := by
      have : i < pick.length := by rw [← h9]; exact (List.getElem?_eq_some_iff.mp hi).1
      exact ⟨_, List.getElem?_eq_getElem this⟩
    have hz : (cs.zip pick)[i]? = some (y, j) := by
      rw [List.getElem?_zip_eq_some]
      exact ⟨hi, hj⟩
    have := List.all_eq_true.mp h10 (y, j) (List.mem_of_getElem? hz)
    simp only [Bool.and_eq_true, beq_iff_eq] at this
    obtain ⟨⟨q1, q2⟩, q3⟩ := this
    exact ⟨q1, .inl (by rw [hs]; exact q2), j, hj, by rw [hN]; exact q3⟩
end Ov

set_option Elab.async false
set_option linter.all false
set_option maxRecDepth 100000
set_option maxHeartbeats 4000000
/-! == and != of instances of own classes without == of their own, of two classes -/
namespace Ov
open PySem PySem.Spec PyProof.Rows L2
section
variable {prog : Program} {w : World} {A : Around} {E : Value → Shared → Prop} {s : Shared} {K : PySem.W.Frag} {x y C D : Addr} {ox oy : Obj} {od od' : Option Obj}
/-- no == and no != of their own -/
structure NoEq2 (K : PySem.W.Frag) (C : Addr) : Prop where
  eq : PySem.W.findIn K (.ref C) "__eq__" = some (some (.builtin "object.__eq__"))
  ne : PySem.W.findIn K (.ref C) "__ne__" = some (some (.builtin "object.__ne__"))
  sub : PySem.W.subIn K (.ref C) (.type "object") = some true
theorem chk2 {id n : String} (hk : builtinKind id = some .slot) (hsp : splitId id = some ("object", n)) (ha : argsOk id ⟨[.ref x, .ref y], []⟩) {Q : Unit → Shared → Prop} (X : K.In s.heap) (I : PySem.W.InstAt s.heap x ox C od) (hsub : PySem.W.subIn K (.ref C) (.type "object") = some true) (fin : Q () s) :
    wpAny (model prog w) A (checkBuiltinCall id ⟨[.ref x, .ref y], []⟩) Q E s := by
  simp only [checkBuiltinCall, hk, hsp]
  refine wpAny_bind ?_
  unfold isInstance
  refine wpAny_bind (I.type.here ?_)
  refine (PySem.W.looks_subIn X hsub).here ?_
  cases hsig : Manifest.signature? id with
  | none => exact wpAny_pure fin
  | some sig =>
    simp only [argsOk, hsig] at ha
    have h2 : Bind.checkArgs id sig ⟨[.ref x, .ref y], []⟩ = pure () := ha
    show wpAny _ A (Bind.checkArgs id sig ⟨[.ref x, .ref y], []⟩) _ _ _
    rw [h2]; exact wpAny_pure fin
theorem call_objEq2 {Q : Value → Shared → Prop} (X : K.In s.heap) (I : PySem.W.InstAt s.heap x ox C od) (J : PySem.W.InstAt s.heap y oy D od') (n : NoEq2 K C)
    (h : Q (if x = y then .bool true else .notImplemented) s) : wpAny (model prog w) A (call (.builtin "object.__eq__") [.ref x, .ref y]) Q E s := by
  refine wpAny_call (codeAny_call_builtin F.cmp_object.eq.plain F.cmpEntry_eq (chk2 F.cmpKind_eq F.cmpSplit_eq (F.cmpArgs_eq _ _) X I n.sub ?_))
  by_cases hxy : x = y
  · subst hxy
    exact objEq_entry_same (by rw [if_pos rfl] at h; exact h)
  · refine objEq_entry_other hxy I.at_ J.at_ ?_ (by rw [if_neg hxy] at h; exact h)
    rw [I.cls]
    intro z; cases z
theorem special2 {f : String} {name : Str} (hs : PySem.W.findIn K (.ref C) name = some (some (.builtin f))) (hbind : ∀ self : Value, bindSpecial (.builtin f) self = pure (.builtin f, [self])) {Q : Option Value → Shared → Prop} (X : K.In s.heap) (I : PySem.W.InstAt s.heap x ox C od)
    (h : wpAny (model prog w) A (call (.builtin f) [.ref x, .ref y]) (fun v s' => Q (some v) s') E s) : wpAny (model prog w) A (callSpecialIfBound? (.ref x) name [.ref y]) Q E s := by
  simp only [callSpecialIfBound?, bindSpecialIfBound?]
  refine wpAny_holding (wpAny_bind (wpAny_bind (wpAny_bind (I.type.here ((PySem.W.looks_findIn X hs).here ?_)))))
  have fin : wpAny (model prog w) A (call (.builtin f) ([.ref x] ++ [.ref y]) >>= fun v => pure (some v)) Q E s := wpAny_bind (wpAny_mono h (fun v s' hq => wpAny_pure hq) fun _ _ e => e)
  simp only [hbind]
  refine wpAny_bind (wpAny_askSetting (wpAny_ite ?_))
  split
  · exact wpAny_bind (wpAny_pure (wpAny_pure fin))
  · exact wpAny_tryCatch (wpAny_bind (wpAny_pure (wpAny_pure fin)))
theorem try_eq2 {Q : Option Value → Shared → Prop} (X : K.In s.heap) (I : PySem.W.InstAt s.heap x ox C od) (J : PySem.W.InstAt s.heap y oy D od') (n : NoEq2 K C)
    (h : Q (if x = y then some (.bool true) else none) s) : wpAny (model prog w) A (tryCompare (.ref x) "__eq__" (.ref y)) Q E s := by
  unfold tryCompare
  refine wpAny_bind (special2 n.eq F.cmp_object.eq.bind X I (call_objEq2 X I J n ?_))
  by_cases hxy : x = y
  · rw [if_pos hxy] at h ⊢
    exact wpAny_pure h
  · rw [if_neg hxy] at h ⊢
    exact wpAny_pure h
theorem special_t {Q : Option Value → Shared → Prop} (hxy : x = y) (X : K.In s.heap) (I : PySem.W.InstAt s.heap x ox C od) (J : PySem.W.InstAt s.heap y oy D od') (n : NoEq2 K C) (h : Q (some (.bool true)) s) : wpAny (model prog w) A (callSpecialIfBound? (.ref x) "__eq__" [.ref y]) Q E s :=
  special2 n.eq F.cmp_object.eq.bind X I (call_objEq2 X I J n (by rw [if_pos hxy]; exact h))
theorem special_f {Q : Option Value → Shared → Prop} (hxy : x ≠ y) (X : K.In s.heap) (I : PySem.W.InstAt s.heap x ox C od) (J : PySem.W.InstAt s.heap y oy D od') (n : NoEq2 K C) (h : Q (some .notImplemented) s) : wpAny (model prog w) A (callSpecialIfBound? (.ref x) "__eq__" [.ref y]) Q E s :=
  special2 n.eq F.cmp_object.eq.bind X I (call_objEq2 X I J n (by rw [if_neg hxy]; exact h))
theorem objNe_entry2 {Q : Fin → Shared → Prop} (hu : A.units < cLine) (X : K.In s.heap) (I : PySem.W.InstAt s.heap x ox C od) (J : PySem.W.InstAt s.heap y oy D od') (n : NoEq2 K C)
    (h : Q (.done (.ret (if x = y then .bool false else .notImplemented))) s) : wpAny (model prog w) A (Builtin.«object.__ne__» ⟨[.ref x, .ref y], []⟩) Q E s := by
  unfold Builtin.«object.__ne__»
  by_cases hxy : x = y
  · rw [if_pos hxy] at h
    repeat (first | with_reducible refine wpAny_cRoomFor hu ?_ | with_reducible refine special_t hxy X I J n ?_ | wp_step)
    exact h
  · rw [if_neg hxy] at h
    repeat (first | with_reducible refine wpAny_cRoomFor hu ?_ | with_reducible refine special_f hxy X I J n ?_ | wp_step)
    exact h
theorem try_ne2 {Q : Option Value → Shared → Prop} (hu : A.units + 1 < cLine) (X : K.In s.heap) (I : PySem.W.InstAt s.heap x ox C od) (J : PySem.W.InstAt s.heap y oy D od') (n : NoEq2 K C)
    (h : Q (if x = y then some (.bool false) else none) s) : wpAny (model prog w) A (tryCompare (.ref x) "__ne__" (.ref y)) Q E s := by
  unfold tryCompare
  refine wpAny_bind (special2 n.ne F.cmp_object.ne.bind X I (wpAny_call (codeAny_call_builtin F.cmp_object.ne.plain F.cmpEntry_ne (chk2 F.cmpKind_ne F.cmpSplit_ne (F.cmpArgs_ne _ _) X I n.sub (objNe_entry2 (A := A.in1) hu X I J n ?_)))))
  by_cases hxy : x = y
  · rw [if_pos hxy] at h ⊢
    exact wpAny_pure h
  · rw [if_neg hxy] at h ⊢
    exact wpAny_pure h
theorem eq_id2 {Q : Value → Shared → Prop} {b : Bool} (hu : A.units < cLine) (X : K.In s.heap) (I : PySem.W.InstAt s.heap x ox C od) (J : PySem.W.InstAt s.heap y oy D od') (n : NoEq2 K C) (m : NoEq2 K D) (hsub : C ≠ D → PySem.W.subIn K (.ref D) (.ref C) = some b)
    (h : Q (.bool (decide (x = y))) s) : wpAny (model prog w) A (compareOp .Eq (.ref x) (.ref y)) Q E s := by
  show wpAny _ _ (richCompare .Eq (.ref x) (.ref y)) _ _ _
  unfold richCompare
  simp only [oneThing_ref, cmpInfo_Eq]
  refine wpAny_holding (wpAny_bind (wpAny_cRoomFor hu ?_))
  refine wpAny_bind (I.type.here (wpAny_bind (J.type.here ?_)))
  by_cases hCD : C = D
  · subst hCD
    rw [if_neg (by simp)]
    refine wpAny_bind (wpAny_pure ?_)
    simp only [Bool.false_eq_true, if_false]
    refine wpAny_bind (try_eq2 X I J n ?_)
    by_cases hxy : x = y
    · rw [if_pos hxy]
      subst hxy
      exact wpAny_pure (by simpa using h)
    · rw [if_neg hxy]
      have hyx : ¬ y = x := fun z => hxy z.symm
      simp only [Bool.not_false, if_true]
      refine wpAny_bind (try_eq2 X J I n ?_)
      rw [if_neg hyx]
      refine wpAny_bind (wpAny_rule ?_)
      refine wpAny_bind (wpAny_isSame_ref_other hxy I.at_ J.at_ (by rw [I.cls]; intro z; cases z) ?_)
      exact wpAny_pure (by simpa [hxy] using h)
  · have hxy : ¬ x = y := fun z => by
      subst z
      have e1 := I.at_.symm.trans J.at_
      cases e1
      have e2 := I.cls.symm.trans J.cls
      cases e2
      exact hCD rfl
    have hyx : ¬ y = x := fun z => hxy z.symm
    rw [if_pos (by simp [hCD])]
    refine wpAny_bind ((PySem.W.looks_subIn X (hsub hCD)).here ?_)
    cases b with
    | true =>
      simp only [if_true]
      refine wpAny_bind (try_eq2 X J I m ?_)
      rw [if_neg hyx]
      refine wpAny_bind (try_eq2 X I J n ?_)
      rw [if_neg hxy]
      simp only [Bool.not_true, Bool.false_eq_true, if_false]
      refine wpAny_bind (wpAny_rule ?_)
      refine wpAny_bind (wpAny_isSame_ref_other hxy I.at_ J.at_ (by rw [I.cls]; intro z; cases z) ?_)
      exact wpAny_pure (by simpa [hxy] using h)
    | false =>
      simp only [Bool.false_eq_true, if_false]
      refine wpAny_bind (try_eq2 X I J n ?_)
      rw [if_neg hxy]
      simp only [Bool.not_false, if_true]
      refine wpAny_bind (try_eq2 X J I m ?_)
      rw [if_neg hyx]
      refine wpAny_bind (wpAny_rule ?_)
      refine wpAny_bind (wpAny_isSame_ref_other hxy I.at_ J.at_ (by rw [I.cls]; intro z; cases z) ?_)
      exact wpAny_pure (by simpa [hxy] using h)
theorem ne_id2 {Q : Value → Shared → Prop} {b : Bool} (hu : A.units + 1 < cLine) (X : K.In s.heap) (I : PySem.W.InstAt s.heap x ox C od) (J : PySem.W.InstAt s.heap y oy D od') (n : NoEq2 K C) (m : NoEq2 K D) (hsub : C ≠ D → PySem.W.subIn K (.ref D) (.ref C) = some b)
    (h : Q (.bool (!decide (x = y))) s) : wpAny (model prog w) A (compareOp .NotEq (.ref x) (.ref y)) Q E s := by
  show wpAny _ _ (richCompare .NotEq (.ref x) (.ref y)) _ _ _
  unfold richCompare
  simp only [oneThing_ref, cmpInfo_NotEq]
  refine wpAny_holding (wpAny_bind (wpAny_cRoomFor (Nat.lt_of_succ_lt hu) ?_))
  refine wpAny_bind (I.type.here (wpAny_bind (J.type.here ?_)))
  by_cases hCD : C = D
  · subst hCD
    rw [if_neg (by simp)]
    refine wpAny_bind (wpAny_pure ?_)
    simp only [Bool.false_eq_true, if_false]
    refine wpAny_bind (try_ne2 hu X I J n ?_)
    by_cases hxy : x = y
    · rw [if_pos hxy]
      subst hxy
      exact wpAny_pure (by simpa using h)
    · rw [if_neg hxy]
      have hyx : ¬ y = x := fun z => hxy z.symm
      simp only [Bool.not_false, if_true]
      refine wpAny_bind (try_ne2 hu X J I n ?_)
      rw [if_neg hyx]
      refine wpAny_bind (wpAny_rule ?_)
      refine wpAny_bind (wpAny_isSame_ref_other hxy I.at_ J.at_ (by rw [I.cls]; intro z; cases z) ?_)
      exact wpAny_pure (by simpa [hxy] using h)
  · have hxy : ¬ x = y := fun z => by
      subst z
      have e1 := I.at_.symm.trans J.at_
      cases e1
      have e2 := I.cls.symm.trans J.cls
      cases e2
      exact hCD rfl
    have hyx : ¬ y = x := fun z => hxy z.symm
    rw [if_pos (by simp [hCD])]
    refine wpAny_bind ((PySem.W.looks_subIn X (hsub hCD)).here ?_)
    cases b with
    | true =>
      simp only [if_true]
      refine wpAny_bind (try_ne2 hu X J I m ?_)
      rw [if_neg hyx]
      refine wpAny_bind (try_ne2 hu X I J n ?_)
      rw [if_neg hxy]
      simp only [Bool.not_true, Bool.false_eq_true, if_false]
      refine wpAny_bind (wpAny_rule ?_)
      refine wpAny_bind (wpAny_isSame_ref_other hxy I.at_ J.at_ (by rw [I.cls]; intro z; cases z) ?_)
      exact wpAny_pure (by simpa [hxy] using h)
    | false =>
      simp only [Bool.false_eq_true, if_false]
      refine wpAny_bind (try_ne2 hu X I J n ?_)
      rw [if_neg hxy]
      simp only [Bool.not_false, if_true]
      refine wpAny_bind (try_ne2 hu X J I m ?_)
      rw [if_neg hyx]
      refine wpAny_bind (wpAny_rule ?_)
      refine wpAny_bind (wpAny_isSame_ref_other hxy I.at_ J.at_ (by rw [I.cls]; intro z; cases z) ?_)
      exact wpAny_pure (by simpa [hxy] using h)

end
/-! ### over the layer -/
section
variable {X : Cx}
/-- == of instances of two such classes -/
def rEqId (C D : Addr) (f : Bool → Bool) : R2 := fun x y H Q => ∃ a b dx dy fs gs, x = .ref a ∧ y = .ref b ∧ H a = some (.ins C dx fs) ∧ H b = some (.ins D dy gs) ∧ Q (.bl (f (decide (a = b)))) H
structure Pair2 (K : PySem.W.Frag) (C D : Addr) : Prop where
  l : NoEq2 K C
  r : NoEq2 K D
  sub : C ≠ D → ∃ b, PySem.W.subIn K (.ref D) (.ref C) = some b
/-- .. of classes that a test tells -/
def rEqS (K : PySem.W.Frag) (f : Bool → Bool) : R2 := fun x y H Q => ∃ C D, Pair2 K C D ∧ rEqId C D f x y H Q
theorem op_eqS (hu : X.A.units < cLine) : OpR X (compareOp .Eq) (rEqS X.K id) := by
  intro pins s σ H x y v u Q I rx ry h
  obtain ⟨C, D, p, a, b, dx, dy, fs, gs, rfl, rfl, ha, hb, q⟩ := h
  obtain rfl : v = Value.ref a := rx
  obtain rfl : u = Value.ref b := ry
  obtain ⟨mA, O, _⟩ := ins_get I.hok ha
  obtain ⟨od, J, _⟩ := O.look
  obtain ⟨mB, O', _⟩ := ins_get I.hok hb
  obtain ⟨od', J', _⟩ := O'.look
  by_cases hCD : C = D
  · exact eq_id2 (b := true) hu I.kIn J J' p.l p.r (fun z => absurd hCD z) ⟨.bl _, H, I, rfl, q⟩
  · obtain ⟨b, hb⟩ := p.sub hCD
    exact eq_id2 hu I.kIn J J' p.l p.r (fun _ => hb) ⟨.bl _, H, I, rfl, q⟩
theorem op_neS (hu : X.A.units + 1 < cLine) : OpR X (compareOp .NotEq) (rEqS X.K (!·)) := by
  intro pins s σ H x y v u Q I rx ry h
  obtain ⟨C, D, p, a, b, dx, dy, fs, gs, rfl, rfl, ha, hb, q⟩ := h
  obtain rfl : v = Value.ref a := rx
  obtain rfl : u = Value.ref b := ry
  obtain ⟨mA, O, _⟩ := ins_get I.hok ha
  obtain ⟨od, J, _⟩ := O.look
  obtain ⟨mB, O', _⟩ := ins_get I.hok hb
  obtain ⟨od', J', _⟩ := O'.look
  by_cases hCD : C = D
  · exact ne_id2 (b := true) hu I.kIn J J' p.l p.r (fun z => absurd hCD z) ⟨.bl _, H, I, rfl, q⟩
  · obtain ⟨b, hb⟩ := p.sub hCD
    exact ne_id2 hu I.kIn J J' p.l p.r (fun _ => hb) ⟨.bl _, H, I, rfl, q⟩
end
end Ov

set_option Elab.async false
set_option linter.all false
set_option maxRecDepth 100000
set_option maxHeartbeats 4000000
/-! calls with keywords alone: C(k = v), C.m(k = v) with a classmethod m -/
namespace Ov
open PySem PySem.Spec PyProof.Rows L2 GxR ClX
section
variable {X : Cx} {CX : CXT} {k n : Nat} {f C : Addr} {fd : FuncData} {ps ks : List Str} {sp : Sp} {E : XK} {x : Str} {p pos : Pos} {e : Expr} {es : List Expr} {kws : List Keyword} {t tk : TA} {g : List Value → List Value → List Value} {gV : List V → List V → List V}
def tMake0K (C : Addr) (m : Nat) (sp : Sp) (gV : List V → List V → List V) (E : XK) (tk : TA) : TE := fun σ H Q => tk σ H fun zs H2 => zs.length = m ∧
  ∀ x dx, H2 x = none → H2 dx = none → dx ≠ x → sp (gV [V.ref x] zs) (upd (upd H2 dx (.own x)) x (.ins C dx [])) (fun v H3 => v = .non ∧ Q (.ref x) H3) E
theorem pe_make0K (M : Mk X.K C f) (F : FnOk X.prog X.w X.K X.mg X.base CX k f fd ps sp) (hr : Room (k + 1) X.A) (hg : Gl X x) (hm : X.mg x = some (.ref C)) (hb : KBn X.K fd ps 1 ks g gV) (hx : Passes CX X E)
    (hkw : PK X kws tk) (hall : (backToKw pos (keywordEach kws X.env)).all (·.1.isSome) = true := by rfl) (hks : (backToKw pos (keywordEach kws X.env)).filterMap (·.1) = ks := by rfl)
    (hdb : (x == ("__debug__" : Str)) = false := by decide)
    (hpl : ((backTo pos (starEach [] X.env)).any (·.1) || (backToKw pos (keywordEach kws X.env)).any (·.1.isNone)) = false := by rfl) :
    PE X (.Call (.Name x p) [] kws pos) (tMake0K C ks.length sp gV E tk) := by
  refine ⟨fun pins s σ H Q I h => ?_⟩
  refine wpAny_Call_Name_kw (ld_glob I hg hm ?_ hdb)
  refine PySem.W.callWith_KW0 (h₀ := X.base) I.ok.mod.kin M.kp hall ?_ hpl
  refine thn (hkw.run pos pins s σ H _ I h) fun ws s2 ⟨zs, H2, I2, rz, l2, q2⟩ => ⟨I2.kIn, ?_⟩
  rw [hks]
  exact run_makeN M F hr hb hx I2 .nil rz rfl l2 q2
def tCMethK (C : Addr) (m : Nat) (sp : Sp) (gV : List V → List V → List V) (E : XK) (ta : TE) (tk : TA) : TE := fun σ H Q => ta σ H fun x H1 => x = .ref C ∧ tk σ H1 fun zs H2 => zs.length = m ∧ sp (gV [V.ref C] zs) H2 Q E
theorem run_cmK {pins : List (Addr × Obj)} {σ : L2.St} {H : Hp} {s : Shared} {q c : Addr} {Q : VK} {ws : List Value} {zs : List V} (F : FnOk X.prog X.w X.K X.mg X.base CX k c fd ps sp) (hr : Room k X.A) (hb : KBn X.K fd ps 1 ks g gV) (hx : Passes CX X E) (I : Inv X ((q, PySem.W.methodObj (.ref c) (.ref C)) :: pins) σ H s)
    (r : Vals zs ws) (l2 : zs.length = ks.length) (h : sp (gV [V.ref C] zs) H Q E) : wpAny (model X.prog X.w) X.A (call (.ref q) [] (ks.zip ws)) (EP X pins σ Q) X.xe s := by
  have z : wpAny (model X.prog X.w) X.A (call (.ref q) [] (ks.zip ws)) (EP X ((q, PySem.W.methodObj (.ref c) (.ref C)) :: pins) σ Q) X.xe s := by
    refine wpAny_call (PySem.W.method_call (pin_at I) (codeAny_mono (F.run X.A X.stack s H ⟨.ref C :: [], ks.zip ws⟩ (g [.ref C] ws) (gV [V.ref C] zs) Q E hr I.env0 (hb.to s [.ref C] ws I.kIn rfl (r.length.symm.trans l2)) (hb.rel (.cons rfl .nil) r) h) fun r s' hq => ?_))
    cases r with
    | error e => exact hx _ σ H s e s' I hq
    | ok fl =>
      cases fl with
      | ret u => exact I.after hq
      | next => exact False.elim hq
      | brk => exact False.elim hq
      | cont => exact False.elim hq
  exact thn z fun _ _ y => unpinE y
theorem pe_cmethK {mc : Value} {m : Str} {q c : Addr} {o : Expr} {apos : Pos} {ta : TE} {pl : Sem Bool} (he : PE X o ta) (r : CRead X.K C mc) (cm : CMet X.K C mc m q c) (F : FnOk X.prog X.w X.K X.mg X.base CX k c fd ps sp) (hr : Room k X.A) (hb : KBn X.K fd ps 1 ks g gV) (hx : Passes CX X E)
    (hkw : PK X kws tk) (hall : (backToKw pos (keywordEach kws X.env)).all (·.1.isSome) = true := by rfl) (hks : (backToKw pos (keywordEach kws X.env)).filterMap (·.1) = ks := by rfl)
    (hpl : ((backTo pos (starEach [] X.env)).any (·.1) || (backToKw pos (keywordEach kws X.env)).any (·.1.isNone)) = false := by rfl)
    (ht : eval (.Call (.Attribute o m apos) [] kws pos) X.env = (do
      let ov ← eval o X.env
      standAt apos.atName
      let (f, first) ← holding [ov] (getMethod ov m pl)
      callWith pos f first (backTo pos (starEach [] X.env)) (backToKw pos (keywordEach kws X.env))) := by rfl) :
    PE X (.Call (.Attribute o m apos) [] kws pos) (tCMethK C ks.length sp gV E ta tk) := by
  refine ⟨fun pins s σ H Q I h => ?_⟩
  refine PySem.W.methodCall_KW (pl := pl) (thn (he.run pins s σ H _ I h) fun u s1 ⟨x, H1, I1, rx, ex, q⟩ => ?_) ht
  subst ex
  obtain rfl : u = Value.ref C := rx
  refine getmethcm_ok I1 r cm fun s2 I2 => ?_
  refine PySem.W.callWith_of hpl (P := PySem.W.MethP X.K s1.heap.objs.size c (.ref C)) (PySem.W.keeps_M cm.fi) ?_
  refine evalArgs_kw2_nil hall ?_
  refine thn (hkw.run pos _ s2 σ H1 _ I2 q) fun ws s3 ⟨zs, H2, I3, rz, l2, q2⟩ => ⟨⟨pin_at I3, I3.kIn⟩, ?_⟩
  rw [hks]
  exact run_cmK F hr hb hx I3 rz l2 q2
end
/-! ### .. in the body of a try: what is wished of an error may speak of the slots -/
section
variable {X : Cx} {CX : CXT} {k n : Nat} {f C : Addr} {fd : FuncData} {ps ks : List Str} {sp : Sp} {E : L2.St → XK} {x : Str} {p pos : Pos} {e : Expr} {es : List Expr} {kws : List Keyword} {t tk : TA} {g : List Value → List Value → List Value} {gV : List V → List V → List V}
def tCMethS (C : Addr) (sp : Sp) (E : L2.St → XK) (ta : TE) (t : TA) : TE := fun σ H Q => ta σ H fun x H1 => x = .ref C ∧ t σ H1 fun vs H2 => sp (.ref C :: vs) H2 Q (E σ)
theorem pe_cmethS {mc : Value} {m : Str} {q c : Addr} {o : Expr} {apos : Pos} {ta : TE} {pl : Sem Bool} (he : PE X o ta) (r : CRead X.K C mc) (cm : CMet X.K C mc m q c) (F : FnR X.prog X.w X.K X.mg X.base CX k c sp) (hr : Room k X.A) (hx : ∀ σ, PassesAt CX X σ (E σ)) (ha : PA X (e :: es) t)
    (hst : starEach (e :: es) X.env = (false, eval e X.env) :: starEach es X.env := by rfl) (hpl : (backTo pos (starEach es X.env)).any (·.1) = false := by rfl)
    (ht : eval (.Call (.Attribute o m apos) (e :: es) [] pos) X.env = (do
      let ov ← eval o X.env
      standAt apos.atName
      let (f, first) ← holding [ov] (getMethod ov m pl)
      callWith pos f first (backTo pos (starEach (e :: es) X.env)) (backToKw pos (keywordEach [] X.env))) := by rfl) :
    PE X (.Call (.Attribute o m apos) (e :: es) [] pos) (tCMethS C sp E ta t) := by
  refine ⟨fun pins s σ H Q I h => ?_⟩
  refine PySem.W.methodCall_KW (pl := pl) (thn (he.run pins s σ H _ I h) fun u s1 ⟨x, H1, I1, rx, ex, q0⟩ => ?_) ht
  subst ex
  obtain rfl : u = Value.ref C := rx
  refine getmethcm_ok I1 r cm fun s2 I2 => ?_
  refine callwith_cm I2 (base_none I1 (Nat.le_refl _)) cm.fi (thn (ha.run pos _ s2 σ H1 _ I2 q0) fun us s3 ⟨vs, H2, I3, rv, q2⟩ => ⟨⟨pin_at I3, I3.kIn⟩, ?_⟩) hst hpl
  have z : wpAny (model X.prog X.w) X.A (call (.ref s1.heap.objs.size) ([] ++ us)) (EP X ((s1.heap.objs.size, PySem.W.methodObj (.ref c) (.ref C)) :: pins) σ Q) X.xe s3 := by
    refine wpAny_call (PySem.W.method_call (pin_at I3) (codeAny_mono (F X.A X.stack s3 H2 (.ref C :: us) (V.ref C :: vs) Q (E σ) hr I3.env0 (.cons rfl rv) q2) fun r s' hq => ?_))
    cases r with
    | error e => exact hx σ _ H2 s3 e s' I3 hq
    | ok fl =>
      cases fl with
      | ret u => exact I3.after hq
      | next => exact False.elim hq
      | brk => exact False.elim hq
      | cont => exact False.elim hq
  exact thn z fun _ _ y => unpinE y
def tCMethKS (C : Addr) (m : Nat) (sp : Sp) (gV : List V → List V → List V) (E : L2.St → XK) (ta : TE) (tk : TA) : TE := fun σ H Q => ta σ H fun x H1 => x = .ref C ∧ tk σ H1 fun zs H2 => zs.length = m ∧ sp (gV [V.ref C] zs) H2 Q (E σ)
theorem pe_cmethKS {mc : Value} {m : Str} {q c : Addr} {o : Expr} {apos : Pos} {ta : TE} {pl : Sem Bool} (he : PE X o ta) (r : CRead X.K C mc) (cm : CMet X.K C mc m q c) (F : FnOk X.prog X.w X.K X.mg X.base CX k c fd ps sp) (hr : Room k X.A) (hb : KBn X.K fd ps 1 ks g gV) (hx : ∀ σ, PassesAt CX X σ (E σ))
    (hkw : PK X kws tk) (hall : (backToKw pos (keywordEach kws X.env)).all (·.1.isSome) = true := by rfl) (hks : (backToKw pos (keywordEach kws X.env)).filterMap (·.1) = ks := by rfl)
    (hpl : ((backTo pos (starEach [] X.env)).any (·.1) || (backToKw pos (keywordEach kws X.env)).any (·.1.isNone)) = false := by rfl)
    (ht : eval (.Call (.Attribute o m apos) [] kws pos) X.env = (do
      let ov ← eval o X.env
      standAt apos.atName
      let (f, first) ← holding [ov] (getMethod ov m pl)
      callWith pos f first (backTo pos (starEach [] X.env)) (backToKw pos (keywordEach kws X.env))) := by rfl) :
    PE X (.Call (.Attribute o m apos) [] kws pos) (tCMethKS C ks.length sp gV E ta tk) := by
  refine ⟨fun pins s σ H Q I h => ?_⟩
  refine PySem.W.methodCall_KW (pl := pl) (thn (he.run pins s σ H _ I h) fun u s1 ⟨x, H1, I1, rx, ex, q0⟩ => ?_) ht
  subst ex
  obtain rfl : u = Value.ref C := rx
  refine getmethcm_ok I1 r cm fun s2 I2 => ?_
  refine PySem.W.callWith_of hpl (P := PySem.W.MethP X.K s1.heap.objs.size c (.ref C)) (PySem.W.keeps_M cm.fi) ?_
  refine evalArgs_kw2_nil hall ?_
  refine thn (hkw.run pos _ s2 σ H1 _ I2 q0) fun ws s3 ⟨zs, H2, I3, rz, l2, q2⟩ => ⟨⟨pin_at I3, I3.kIn⟩, ?_⟩
  rw [hks]
  have z : wpAny (model X.prog X.w) X.A (call (.ref s1.heap.objs.size) [] (ks.zip ws)) (EP X ((s1.heap.objs.size, PySem.W.methodObj (.ref c) (.ref C)) :: pins) σ Q) X.xe s3 := by
    refine wpAny_call (PySem.W.method_call (pin_at I3) (codeAny_mono (F.run X.A X.stack s3 H2 ⟨.ref C :: [], ks.zip ws⟩ (g [.ref C] ws) (gV [V.ref C] zs) Q (E σ) hr I3.env0 (hb.to s3 [.ref C] ws I3.kIn rfl (rz.length.symm.trans l2)) (hb.rel (.cons rfl .nil) rz) q2) fun r s' hq => ?_))
    cases r with
    | error e => exact hx σ _ H2 s3 e s' I3 hq
    | ok fl =>
      cases fl with
      | ret u => exact I3.after hq
      | next => exact False.elim hq
      | brk => exact False.elim hq
      | cont => exact False.elim hq
  exact thn z fun _ _ y => unpinE y
end
theorem valsGet : ∀ {vs : List V} {us : List Value} (_ : Vals vs us) (i : Nat), RelV (vs.getD i .non) (us.getD i .none)
  | _, _, .nil, i => by simp; rfl
  | _, _, .cons r t, 0 => by simpa using r
  | _, _, .cons r t, i + 1 => by simpa using valsGet t i
end Ov

set_option Elab.async false
set_option linter.all false
set_option maxRecDepth 100000
set_option maxHeartbeats 4000000
/-! isinstance of a caught error: one class, a tuple of classes; its class is told where the reading is -/
namespace Ov
open PySem PySem.Spec PyProof.Rows L2 GxR
def rIsEX (K : PySem.W.Frag) (cls : Value) (d : Option Addr) (a : Addr) : List V → Hp → VK → Prop := fun xs H Q => ∃ D, cls = .ref D ∧ d = none ∧ ExcC K D ∧
  ((∃ (c : V) (cv : Value) (b : Bool), xs = [.ref a, c] ∧ ClsV c cv ∧ PySem.W.kitOne K (.ref D) cv = some b ∧ Q (.bl b) H) ∨
   (∃ (tp : Addr) (cs : List V) (us : List Value) (b : Bool), xs = [.ref a, .ref tp] ∧ H tp = some (.tup cs) ∧ Paired ClsV cs us ∧ PySem.W.kitAny K (.ref D) us = some b ∧ Q (.bl b) H))
theorem call_isEX {X : Cx} {a : Addr} {cls : Value} {d : Option Addr} {oe : Obj} {pn : List (Addr × Obj)} (hz : Zc cls d oe) (hf : ∃ vs, oe.data = .fields vs) : CallR (X.suite a ((a, oe) :: pn)) (.builtin "isinstance") (rIsEX X.K cls d a) := by
  intro pins s σ H xs us Q I r h
  obtain ⟨D, rfl, rfl, C, h⟩ := h
  obtain ⟨hget, _⟩ := I.pin (a, oe) (List.mem_append.mpr (.inl List.mem_cons_self))
  obtain ⟨vs, hv⟩ := hf
  have J : PySem.W.InstAt s.heap a oe D none := by
    obtain ⟨oc, od, oda, osl⟩ := oe
    obtain ⟨h1, h2⟩ := hz
    dsimp only at h1 h2 hv
    subst h1 h2 hv
    exact ⟨hget, rfl, rfl, trivial⟩
  have Z : PySem.W.KitX X.K (.ref a) (.ref D) (fun h => PySem.W.InstAt h a oe D none) := PySem.W.handS_kitx_exc C.hg C.hk C.hs C.hd C.ha C.hn C.ht C.hm
  rcases h with ⟨c, cv, b, rfl, hcv, e, q⟩ | ⟨tp, cs, ts, b, rfl, hT, k, e, q⟩
  · obtain ⟨u1, u2, rfl, r1, r2⟩ := vals2 r
    obtain rfl : u1 = Value.ref a := r1
    have ec := hcv.eq r2
    subst ec
    exact PySem.W.kia_one Z I.kIn J e (fun z => nomatch z) fun tk => ⟨.bl b, H, I.kept (t' := tk) fun _ _ z => z, rfl, q⟩
  · obtain ⟨u1, u2, rfl, r1, r2⟩ := vals2 r
    obtain rfl : u1 = Value.ref a := r1
    cases (show u2 = Value.ref tp from r2)
    obtain ⟨_, its, rv, o, h1, h2, n, h3⟩ := (show ObjOk X.prog X.w H s.heap tp (.tup cs) from I.hok tp _ hT)
    have e3 := ClsV.all k rv
    subst e3
    obtain ⟨oc, od, dt, sl⟩ := o
    simp only at h2 h3
    subst h2 h3
    exact PySem.W.kia_tup Z I.kIn J h1 e (fun z => nomatch z) fun tk => ⟨.bl b, H, I.kept (t' := tk) fun _ _ z => z, rfl, q⟩
end Ov

set_option Elab.async false
set_option linter.all false
set_option maxRecDepth 100000
set_option maxHeartbeats 4000000
/-! a walk over enumerate; a property of an object whose class the reading tells; lists of bools -/
namespace Ov
open PySem PySem.Spec PyProof.Rows L2 GxR
theorem for_enumL {K : PySem.W.Frag} {a : Addr} {xs : List V} {g : TG} {tb : TS} {D : Ends} {σ : L2.St} {H : Hp} (Pv : Nat → L2.St → Hp → Prop) (h0 : Pv 0 σ H) (hl : ∀ i σ H, i ≤ xs.length → Pv i σ H → SqL K H a xs)
    (hs : ∀ i x σ H T, xs[i]? = some x → Pv i σ H → H T = none → g (.ref T) σ (upd H T (.tup [.int (i : Nat), x])) fun σ2 H2 => tb { D with nx := Pv (i + 1), ct := Pv (i + 1), bk := D.nx } σ2 H2) (hd : ∀ σ H, Pv xs.length σ H → D.nx σ H) :
    ∃ W : Nat → Nat → L2.St → Hp → Prop, (∃ m, W 0 m σ H) ∧ ∀ i m σ H, W i m σ H →
      ((Ite K a).stop i H ∧ D.nx σ H) ∨ ((Ite K a).go i H ∧ ∃ N : L2.St → Hp → Prop, (∀ σ' H', N σ' H' → ∃ m', m' < m ∧ W (i + 1) m' σ' H') ∧ ∀ x H', (Ite K a).yld i H x H' → g x σ H' fun σ2 H2 => tb { D with nx := N, ct := N, bk := D.nx } σ2 H2) := by
  refine ⟨fun i m σ H => m = xs.length - i ∧ i ≤ xs.length ∧ Pv i σ H, ⟨xs.length, by simp, Nat.zero_le _, h0⟩, ?_⟩
  rintro i m σ H ⟨rfl, hi, p⟩
  have q := hl i σ H hi p
  by_cases hlt : i < xs.length
  · refine .inr ⟨⟨xs, xs[i], q, by simp [hlt]⟩, Pv (i + 1), fun σ' H' p' => ⟨xs.length - (i + 1), by omega, rfl, hlt, p'⟩, fun x H' y => ?_⟩
    obtain ⟨T, x', e, hT, e2, y⟩ := y
    subst e e2
    exact hs i x' σ H T (y xs q) p hT
  · have e : i = xs.length := by omega
    subst e
    exact .inl ⟨⟨xs, q, Nat.le_refl _⟩, hd σ H p⟩
def tPropX (K : PySem.W.Frag) (f : Str) (p g : Addr) (sp : Sp) (dvs : List V) (E : XK) (ta : TE) : TE := fun σ H Q => ta σ H fun x H1 => ∃ a C dx fs, x = .ref a ∧ Cls K C ∧ PropOf K C f p g ∧ H1 a = some (.ins C dx fs) ∧ sp (.ref a :: dvs) H1 Q E
theorem pe_propX {X : Cx} {CX : CXT} {k : Nat} {p g : Addr} {f : Str} {fd : FuncData} {ps : List Str} {sp : Sp} {dvs : List V} {ds : List Value} {E : XK} {e : Expr} {pos : Pos} {ta : TE} (he : PE X e ta) (F : FnOk X.prog X.w X.K X.mg X.base CX k g fd ps sp) (hr : Room (k + 1) X.A) (hb : Binds X.K fd ps ds) (hd : Vals dvs ds) (hx : Passes CX X.nox E)
    (hab : attributeBase e f X.env (eval e X.env) = eval e X.env := by rfl) : PE X (.Attribute e f pos) (tPropX X.K f p g sp dvs E ta) := by
  refine ⟨fun pins s σ H Q I h => ?_⟩
  refine attr_of hab (thn (he.run pins s σ H _ I h) fun u s1 ⟨x, H1, I1, rx, a, C, dx, fs, ex, c, hp, ea, q⟩ => ?_)
  subst ex
  obtain rfl : u = Value.ref a := rx
  exact getprop_ok I1 ea c hp F hr hb hd hx q
/-- a list of bools as data -/
theorem dp_bools {K : PySem.W.Frag} {H : Hp} : ∀ bs : List Bool, DpAll K H (bs.map V.bl) (bs.map PyData.bool)
  | [] => .nil
  | b :: r => .cons (.bl b) (dp_bools r)
theorem eqv_4 (a b c d : Bool) : PyData.eqv (.list ([a, b, c, d].map PyData.bool)) (.list ([a, b, c, d].map PyData.bool)) = true := by
  cases a <;> cases b <;> cases c <;> cases d <;> decide
theorem shaped_4 (a b c d : Bool) : SeqAt.shaped (.list ([a, b, c, d].map PyData.bool)) = true := by
  cases a <;> cases b <;> cases c <;> cases d <;> decide
theorem same_new {H : Hp} {p : Addr} {o : HO} (e : H p = none) : L2.Same H (upd H p o) := fun b u hb => (upd_ne (ne_of_none hb e)).trans hb
end Ov

set_option Elab.async false
set_option linter.all false
set_option maxRecDepth 100000
set_option maxHeartbeats 4000000
/-! enumerate over a text, list of a text, list of a range, text * int -/
namespace Ov
open PySem PySem.Spec PyProof.Rows L2 GxR
/-- a text of small signs, each one with its place in a new pair -/
def Ites (x : Str) : It :=
  ⟨fun i _ => i < x.cps.size, fun i H v H' => ∃ T c, v = .ref T ∧ H T = none ∧ H' = upd H T (.tup [.int (i : Nat), .str ⟨#[c]⟩]) ∧ x.cps[i]? = some c, fun i _ => i = x.cps.size⟩
theorem turn_enumS {P : Program} {w : World} {K : PySem.W.Frag} {es : List Expr} {j : Nat} {tp : Pos} (x : Str) (t : Tok) (e it : Addr) :
    Turn P w K (.Tuple es j tp) (Ites x) [e, it] e (fun i h => (∃ old, IsEnum h e it ((i : Nat) : Int) old) ∧ h.IsStrIter it "str_ascii_iterator" x t i ∧ e ≠ it) where
  mem := by simp
  obj := fun i h st b hb => by
    obtain ⟨⟨old, he⟩, ⟨o, ho, hc, hd⟩, _⟩ := st
    rcases (by simpa using hb : b = e ∨ b = it) with z | z
    · subst z; exact ⟨_, he, fun v q => nomatch q⟩
    · subst z; exact ⟨o, ho, fun v q => by rw [hd] at q; cases q⟩
  keep := fun i h h' st k => by
    obtain ⟨⟨old, he⟩, ⟨o, ho, hc, hd⟩, hne⟩ := st
    exact ⟨⟨old, k e (by simp) _ he⟩, ⟨o, k it (by simp) _ ho, hc, hd⟩, hne⟩
  item := by
    intro X hP hw hK hcalm i pins s σ H E I hf st hg
    subst hP; subst hw; subst hK
    obtain ⟨⟨old, he⟩, hit, hne⟩ := st
    have lt_e : e < s.heap.objs.size := Heap.lt_size he
    have lt_i : it < s.heap.objs.size := by
      obtain ⟨_, q, _⟩ := hit
      exact Heap.lt_size q
    have hand : X.A.in1.handled = none := I.ok.hd hcalm
    refine wpAny_pyNext_enum_itemD (Draws.strAscii hand it x t) he hit hg hne (by simpa using hne) fun y h' tk py out st' pair size kept => ?_
    obtain ⟨c, u, hcx, rfl⟩ := py
    refine ⟨_, rfl, wpAny_letOwnedTupleGo_enum (s := { s with heap := h', toks := tk + 1 }) out fun h2 he2 sb => ?_⟩
    have pair2 := (sb.2 _ (Nat.ne_of_gt lt_e)).trans pair
    have fresh : ObjOk X.prog X.w (upd H s.heap.objs.size (.tup [.int (i : Nat), .str ⟨#[c]⟩])) h2 s.heap.objs.size (.tup [.int (i : Nat), .str ⟨#[c]⟩]) :=
      ⟨(by decide : 2 ≤ sizeLine), [.int i _, .str ⟨#[c]⟩ u], .cons ⟨_, rfl⟩ (.cons ⟨_, rfl⟩ .nil), ⟨_, pair2, rfl, _, rfl⟩⟩
    have J : Inv X pins σ (upd H s.heap.objs.size (.tup [.int (i : Nat), .str ⟨#[c]⟩])) { s with heap := h2, toks := tk + 1 } :=
      I.turnedNew (ch := [e, it]) (fun b ob hb q => (sb.2 b fun z => hb (by simp [z])).trans (kept b ob (fun z => hb (by simp [z])) (fun z => hb (by simp [z])) q)) hf (Nat.le_refl _) fresh
    obtain ⟨o2, ho2, hc2, hd2⟩ := st'
    refine ⟨.ref s.heap.objs.size, _, J, rfl, ⟨_, c, rfl, I.hok.fresh (Nat.le_refl _), rfl, hcx⟩, ⟨⟨.str ⟨#[c]⟩ u, ?_⟩, ⟨o2, (sb.2 it (Ne.symm hne)).trans ho2, hc2, hd2⟩, hne⟩, fun b hb => ?_⟩
    · rw [show ((i + 1 : Nat) : Int) = (i : Int) + 1 by omega]; exact he2
    · have lt_b : b < s.heap.objs.size := by
        rcases (by simpa using hb : b = e ∨ b = it) with z | z
        · subst z; exact lt_e
        · subst z; exact lt_i
      exact (upd_ne (Nat.ne_of_lt lt_b)).trans (hf b hb).1
  done := by
    intro X hP hw hK hcalm i pins s σ H E I hf st hg
    subst hP; subst hw; subst hK
    obtain ⟨⟨old, he⟩, hit, hne⟩ := st
    obtain ⟨z0, z1, z2, z3, z4, z5⟩ := hf it (by simp)
    have hand : X.A.in1.handled = none := I.ok.hd hcalm
    have hit' : s.heap.IsStrIter it "str_ascii_iterator" x t x.cps.size := by
      have hg' : i = x.cps.size := hg
      rw [← hg']; exact hit
    exact wpAny_pyNext_enum_endD (Draws.strAscii hand it x t) he hit' fun h' eb => ⟨rfl, I.turned (t' := s.toks) (fun b o hb q => eb b o hb q) z0 z1 z3 z4 z5⟩
  self := fun A i s Q E st h => by
    obtain ⟨⟨_, he⟩, _⟩ := st
    exact wpAny_pyIter_enum he h
def iEnumS (ta : TA) : TI := fun σ H R => ta σ H fun vs H1 => ∃ x : Str, vs = [.str x] ∧ x.cps.all (· < 128) = true ∧ R (Ites x) H1
theorem pi_enumS {X : Cx} {e : Expr} {ta : TA} {p pos tp : Pos} {es : List Expr} {j : Nat} (hg : Gl X "enumerate") (hm : X.mg "enumerate" = none) (ha : PA X [e] ta) (hs : starEach [e] X.env = [(false, eval e X.env)] := by rfl) :
    PI X (.Tuple es j tp) (.Call (.Name "enumerate" p) [e] [] pos) (iEnumS ta) := by
  refine ⟨fun pins s σ H R I h => ?_⟩
  refine Call_ (ld_blt I hg hm boot_enumerate (PyProof.Rows.callWith_type1 (thn (ha.run pos pins s σ H _ I h) fun us s1 ⟨vs, H1, I1, r1, q1⟩ => ?_) hs rfl))
  obtain ⟨x, rfl, asc, q⟩ := q1
  obtain ⟨u, rfl, t, rfl⟩ := vals1 r1
  refine call_enumerate_str fun h' he hit size kept => wpAny_pyIter_enum he ?_
  have hit' : h'.IsStrIter s1.heap.objs.size "str_ascii_iterator" x t 0 := by simpa [strIterType, asc] using hit
  have J : Inv X pins σ H1 { s1 with heap := h' } := I1.kept (t' := s1.toks) kept
  refine ⟨s1.heap.objs.size + 1, [s1.heap.objs.size + 1, s1.heap.objs.size], _, _, H1, rfl, J, turn_enumS x t (s1.heap.objs.size + 1) s1.heap.objs.size, ⟨⟨.none, he⟩, hit', Nat.succ_ne_self _⟩, fun b hb => ?_, q⟩
  have le_b : s1.heap.objs.size ≤ b := by
    rcases (by simpa using hb : b = s1.heap.objs.size + 1 ∨ b = s1.heap.objs.size) with z | z
    · subst z; exact Nat.le_succ _
    · subst z; exact Nat.le_refl _
  exact I1.fpOk le_b (I1.hok.fresh le_b)
theorem for_enumS {x : Str} {g : TG} {tb : TS} {D : Ends} {σ : L2.St} {H : Hp} (Pv : Nat → L2.St → Hp → Prop) (h0 : Pv 0 σ H)
    (hs : ∀ i c σ H T, x.cps[i]? = some c → Pv i σ H → H T = none → g (.ref T) σ (upd H T (.tup [.int (i : Nat), .str ⟨#[c]⟩])) fun σ2 H2 => tb { D with nx := Pv (i + 1), ct := Pv (i + 1), bk := D.nx } σ2 H2) (hd : ∀ σ H, Pv x.cps.size σ H → D.nx σ H) :
    ∃ W : Nat → Nat → L2.St → Hp → Prop, (∃ m, W 0 m σ H) ∧ ∀ i m σ H, W i m σ H →
      ((Ites x).stop i H ∧ D.nx σ H) ∨ ((Ites x).go i H ∧ ∃ N : L2.St → Hp → Prop, (∀ σ' H', N σ' H' → ∃ m', m' < m ∧ W (i + 1) m' σ' H') ∧ ∀ x' H', (Ites x).yld i H x' H' → g x' σ H' fun σ2 H2 => tb { D with nx := N, ct := N, bk := D.nx } σ2 H2) := by
  refine ⟨fun i m σ H => m = x.cps.size - i ∧ i ≤ x.cps.size ∧ Pv i σ H, ⟨x.cps.size, by simp, Nat.zero_le _, h0⟩, ?_⟩
  rintro i m σ H ⟨rfl, hi, p⟩
  by_cases hlt : i < x.cps.size
  · refine .inr ⟨hlt, Pv (i + 1), fun σ' H' p' => ⟨x.cps.size - (i + 1), by omega, rfl, hlt, p'⟩, fun y H' yy => ?_⟩
    obtain ⟨T, c, rfl, hT, rfl, hc⟩ := yy
    exact hs i c σ H T hc p hT
  · have e : i = x.cps.size := by omega
    subst e
    exact .inl ⟨rfl, hd σ H p⟩
theorem vals_ext : ∀ {xs : List V} {us : List Value}, xs.length = us.length → (∀ (i : Nat) (x : V) (u : Value), xs[i]? = some x → us[i]? = some u → RelV x u) → Vals xs us
  | [], [], _, _ => .nil
  | x :: xs, u :: us, h, k => .cons (k 0 x u rfl rfl) (vals_ext (by simpa using h) fun i y w h1 h2 => k (i + 1) y w (by simpa using h1) (by simpa using h2))
/-- list(text) -/
theorem call_listS {X : Cx} (hc : X.calm = true) : CallR X (.type "list") (fun xs H Q => ∃ z : Str, xs = [.str z] ∧ z.length ≤ sizeLine ∧ ∀ l, H l = none → Q (.ref l) (upd H l (.lst (z.cps.toList.map fun c => V.str ⟨#[c]⟩)))) := by
  intro pins s σ H xs us Q I r h
  obtain ⟨z, rfl, hz, q⟩ := h
  obtain ⟨u, rfl, t, rfl⟩ := vals1 r
  refine call_list_str (I.ok.hd hc) z t (hn := hz) fun h' tk acc' c' hk hS' hacc => ?_
  have lz : z.cps.toList.length = z.length := by simp [Str.length]
  have rel : Vals (z.cps.toList.map fun c => V.str ⟨#[c]⟩) acc'.toList := by
    refine vals_ext (by rw [List.length_map, lz, Array.length_toList, hacc.1]; rfl) fun i y w h1 h2 => ?_
    obtain ⟨c, u, e1, rfl⟩ := hacc.2 i w (by simpa using h2)
    rw [List.getElem?_map, Array.getElem?_toList, e1] at h1
    cases h1
    exact ⟨_, rfl⟩
  refine ⟨.ref s.heap.objs.size, _, I.laid (t' := tk) hk (Nat.le_refl _) ?_, rfl, q _ (I.hok.fresh (Nat.le_refl _))⟩
  exact ⟨by rw [List.length_map, lz]; exact hz, acc'.toList, c', rel, by simpa using hS'⟩
/-- text * int -/
theorem op_mulS {X : Cx} : OpR X (binaryOp .Mult) (fun x y H Q => ∃ (z : Str) (n : Int), x = .str z ∧ y = .int n ∧ 0 ≤ n ∧ n ≤ 1000 ∧ z.length ≤ 1000 ∧ Q (.str ⟨(List.replicate n.toNat z.cps.toList).flatten.toArray⟩) H) := by
  intro pins s σ H x y v u Q I rx ry h
  obtain ⟨z, n, rfl, rfl, h0, h1', hz, q⟩ := h
  obtain ⟨t, rfl⟩ := rx
  obtain ⟨t', rfl⟩ := ry
  have hn : ¬ n < -(2 ^ 63 : Int) := by omega
  refine PySem.P.mul_str (by simp; omega) (fun h1 h2 => ?_) (fun h1 h2 => ?_) ?_
  · refine Int.not_lt.mpr (Int.le_ediv_of_mul_le (by omega) ?_)
    have : (z.length : Int) * n ≤ 1000 * 1000 := Int.mul_le_mul (by omega) h1' h0 (by decide)
    omega
  · unfold Builtin.Str.tooLong
    have : z.length * n.toNat ≤ 1000 * 1000 := Nat.mul_le_mul hz (by omega)
    exact decide_eq_false (by rw [sizeLine_eq]; omega)
  · have e1 : n < 1 → (⟨(List.replicate n.toNat z.cps.toList).flatten.toArray⟩ : Str) = Str.empty := fun h => by
      have : n.toNat = 0 := by omega
      rw [this]; rfl
    have e2 : (n == 1 || z.length == 0) = true → (⟨(List.replicate n.toNat z.cps.toList).flatten.toArray⟩ : Str) = z := fun h => by
      rw [Bool.or_eq_true, beq_iff_eq, beq_iff_eq] at h
      rcases h with rfl | h
      · simp
      · have e : z.cps = #[] := Array.eq_empty_of_size_eq_zero h
        rw [show z = ⟨#[]⟩ from by cases z; simp_all]
        simp
    have e3 : ∀ (k : Nat) (acc : Array Nat), (List.replicate k z.cps).foldl (· ++ ·) acc = acc ++ (List.replicate k z.cps.toList).flatten.toArray := fun k => by
      induction k with
      | zero => intro acc; simp
      | succ k ih =>
        intro acc
        rw [List.replicate_succ, List.foldl_cons, ih, List.replicate_succ, List.flatten_cons]
        apply Array.ext'
        simp
    split
    · rename_i hlt
      rw [e1 hlt] at q
      exact ⟨by decide, .str _, H, I.tok _, ⟨_, rfl⟩, q⟩
    · split
      · rename_i hb
        rw [e2 hb] at q
        exact ⟨.str z, H, I, ⟨_, rfl⟩, q⟩
      · rw [e3 n.toNat #[]]
        have hl : ∀ k : Nat, ((List.replicate k z.cps.toList).flatten).length = z.length * k := fun k => by
          simp [Str.length, Nat.mul_comm]
        refine ⟨?_, .str _, H, I.tok _, ⟨_, rfl⟩, by simpa using q⟩
        have : z.length * n.toNat ≤ 1000 * 1000 := Nat.mul_le_mul hz (by omega)
        show (#[] ++ (List.replicate n.toNat z.cps.toList).flatten.toArray : Array Nat).size ≤ sizeLine
        have e5 : (#[] ++ (List.replicate n.toNat z.cps.toList).flatten.toArray : Array Nat).size = z.length * n.toNat := by
          rw [← hl n.toNat, Array.size_append, List.size_toArray, List.size_toArray]
          simp
        rw [e5, sizeLine_eq]
        omega
/-- list(a range object) -/
def rListR : List V → Hp → VK → Prop := fun xs H Q => ∃ (r : Addr) (lo hi : Int), xs = [.ref r] ∧ H r = some (.rng lo hi) ∧ -(2 ^ 40) ≤ lo ∧ lo ≤ 2 ^ 40 ∧ -(2 ^ 40) ≤ hi ∧ hi ≤ 2 ^ 40 ∧ hi - lo ≤ 100000 ∧
  ∀ l, H l = none → Q (.ref l) (upd H l (.lst ((List.range (hi - lo).toNat).map fun i => V.int (lo + (i : Nat)))))
theorem call_listR {X : Cx} (hc : X.calm = true) : CallR X (.type "list") rListR := by
  intro pins s σ H xs us Q I r h
  obtain ⟨a, lo, hi, rfl, ha, l1, l2, l3, l4, l5, q⟩ := h
  obtain ⟨u0, rfl, ru⟩ := vals1 r
  obtain rfl : u0 = Value.ref a := ru
  obtain ⟨t, u, v, hr⟩ := (show ObjOk X.prog X.w H s.heap a (.rng lo hi) from I.hok a _ ha)
  have sz : Builtin.Range.rangeSize lo hi 1 = ((hi - lo).toNat : Int) := by
    rw [rangeSize_one]
    split <;> omega
  have sm : Builtin.Range.small lo hi 1 = true := by
    unfold Builtin.Range.small Builtin.Range.rangeFitsLong
    simp only [sz]
    simp
    omega
  refine call_list_range (I.ok.hd hc) hr sm sz (by omega) fun h' tk acc' c' hk hS' hacc => ?_
  have rel : Vals ((List.range (hi - lo).toNat).map fun i => V.int (lo + (i : Nat))) acc'.toList := by
    refine vals_ext (by rw [List.length_map, List.length_range, Array.length_toList, hacc.1]) fun i y w h1 h2 => ?_
    obtain ⟨tt, rfl⟩ := hacc.2 i w (by simpa using h2)
    obtain ⟨hj, e⟩ := List.getElem?_eq_some_iff.mp h1
    simp at e
    subst e
    exact ⟨tt, by simp⟩
  refine ⟨.ref s.heap.objs.size, _, I.laid (t' := tk) hk (Nat.le_refl _) ?_, rfl, q _ (I.hok.fresh (Nat.le_refl _))⟩
  exact ⟨by rw [List.length_map, List.length_range, sizeLine_eq]; omega, acc'.toList, c', rel, by simpa using hS'⟩
end Ov

set_option Elab.async false
set_option linter.all false
set_option maxRecDepth 100000
set_option maxHeartbeats 4000000
/-! calls of an instance: in a try's body, by keywords -/
namespace Ov
open PySem PySem.Spec PyProof.Rows L2 GxR
theorem callI_of {M : Model} {A : Around} {Ex : Value → Shared → Prop} {s : Shared} {x : Addr} {ps : Pos} {Q : Value → Shared → Prop} {as : List (Bool × Sem Value)} {ks : List (Option Str × Sem Value)} (no : (as.any (·.1) || ks.any (·.1.isNone)) = false)
    (h : wpAny M A (evalArgs (.ref x) true as ks) (fun z t => (∃ C o od, PySem.W.InstAt t.heap x o C od ∧ o.data = .plain) ∧ wpAny M A (call (.ref x) ([] ++ z.pos) z.kw) Q Ex t) Ex s) : wpAny M A (callWith ps (.ref x) [] as ks) Q Ex s := by
  unfold callWith
  refine wpAny_bind (wpAny_holding (wpAny_mono h (fun z t ht => ?_) fun _ _ y => y))
  obtain ⟨⟨C, o, od, J, plain⟩, hc⟩ := ht
  refine wpAny_bind (wpAny_standAt ?_)
  simp only [no]
  refine wpAny_bind ((PySem.W.kco_keeper (M := M) J plain).here ?_)
  exact wpAny_bind (wpAny_mono (wpAny_operateT hc) (fun r u hu => wpAny_bind (wpAny_holding (wpAny_point (wpAny_pure hu)))) fun _ _ y => y)
section
variable {X : Cx} {CX : CXT} {k : Nat} {C g : Addr} {fd : FuncData} {ps ks : List Str} {sp : Sp} {E : L2.St → XK} {fe e : Expr} {es : List Expr} {kws : List Keyword} {tf : TE} {t tk : TA} {pos : Pos} {gL : List Value → List Value → List Value} {gV : List V → List V → List V}
/-- f(e, ..), f an instance of C with __call__ -/
def tCallI (C : Addr) (sp : Sp) (E : L2.St → XK) (tf : TE) (t : TA) : TE := fun σ H Q => tf σ H fun y H1 => ∃ a, y = V.ref a ∧ t σ H1 fun vs H2 => (∃ dx fs, H2 a = some (.ins C dx fs)) ∧ sp (V.ref a :: vs) H2 Q (E σ)
theorem inst_at {pins : List (Addr × Obj)} {σ : L2.St} {H : Hp} {s : Shared} {a dx : Addr} {fs : List (Str × V)} (I : Inv X pins σ H s) (h : H a = some (.ins C dx fs)) : ∃ o od, PySem.W.InstAt s.heap a o C od ∧ o.data = .plain := by
  obtain ⟨m, O, _⟩ := ins_get I.hok h
  obtain ⟨od, J, _⟩ := O.look
  exact ⟨_, _, J, rfl⟩
theorem pe_callI (hf : PE X fe tf) (c : StX.CallO X.K C g) (F : FnR X.prog X.w X.K X.mg X.base CX k g sp) (hr : Room k X.A) (hx : ∀ σ, PassesAt CX X σ (E σ)) (ha : PA X (e :: es) t)
    (ht : eval (.Call fe (e :: es) [] pos) X.env = (do callWith pos (← eval fe X.env) [] (backTo pos (starEach (e :: es) X.env)) (backToKw pos (keywordEach [] X.env))) := by rfl)
    (he : starEach (e :: es) X.env = (false, eval e X.env) :: starEach es X.env := by rfl) (hpl : (backTo pos (starEach es X.env)).any (·.1) = false := by rfl) : PE X (.Call fe (e :: es) [] pos) (tCallI C sp E tf t) := by
  refine ⟨fun pins s σ H Q I h => ?_⟩
  refine Call_ (thn (hf.run pins s σ H _ I h) fun u s1 ⟨y, H1, I1, ry, a, ey, q⟩ => ?_) ht
  subst ey
  obtain rfl : u = Value.ref a := ry
  refine StX.callO_with (thn (ha.run pos pins s1 σ H1 _ I1 q) fun us s2 ⟨vs, H2, I2, r, ⟨dx, fs, hi⟩, q2⟩ => ?_) he hpl
  obtain ⟨o, od, J, plain⟩ := inst_at I2 hi
  refine ⟨⟨C, o, od, J, plain⟩, wpAny_call (PySem.W.kco_code I2.kIn J plain c.at_ c.fn c.fi (codeAny_mono (F X.A X.stack s2 H2 (.ref a :: us) (V.ref a :: vs) Q (E σ) hr I2.env0 (.cons rfl r) q2) fun r s' hq => ?_))⟩
  cases r with
  | error e => exact hx σ _ H2 s2 e s' I2 hq
  | ok fl =>
    cases fl with
    | ret u => exact I2.after hq
    | next => exact False.elim hq
    | brk => exact False.elim hq
    | cont => exact False.elim hq
def tCallIK (C : Addr) (m : Nat) (sp : Sp) (gV : List V → List V → List V) (E : L2.St → XK) (tf : TE) (tk : TA) : TE := fun σ H Q => tf σ H fun y H1 => ∃ a, y = V.ref a ∧ tk σ H1 fun zs H2 => (∃ dx fs, H2 a = some (.ins C dx fs)) ∧ zs.length = m ∧ sp (gV [V.ref a] zs) H2 Q (E σ)
theorem pe_callIK (hf : PE X fe tf) (c : StX.CallO X.K C g) (F : FnOk X.prog X.w X.K X.mg X.base CX k g fd ps sp) (hr : Room k X.A) (hb : KBn X.K fd ps 1 ks gL gV) (hx : ∀ σ, PassesAt CX X σ (E σ)) (hkw : PK X kws tk)
    (hall : (backToKw pos (keywordEach kws X.env)).all (·.1.isSome) = true := by rfl) (hks : (backToKw pos (keywordEach kws X.env)).filterMap (·.1) = ks := by rfl)
    (hpl : ((backTo pos (starEach [] X.env)).any (·.1) || (backToKw pos (keywordEach kws X.env)).any (·.1.isNone)) = false := by rfl)
    (ht : eval (.Call fe [] kws pos) X.env = (do callWith pos (← eval fe X.env) [] (backTo pos (starEach [] X.env)) (backToKw pos (keywordEach kws X.env))) := by rfl) : PE X (.Call fe [] kws pos) (tCallIK C ks.length sp gV E tf tk) := by
  refine ⟨fun pins s σ H Q I h => ?_⟩
  show wpAny _ _ (eval (.Call fe [] kws pos) X.env) _ _ _
  rw [ht]
  refine wpAny_bind (thn (hf.run pins s σ H _ I h) fun u s1 ⟨y, H1, I1, ry, a, ey, q⟩ => ?_)
  subst ey
  obtain rfl : u = Value.ref a := ry
  refine callI_of hpl (evalArgs_kw2_nil hall ?_)
  refine thn (hkw.run pos pins s1 σ H1 _ I1 q) fun ws s2 ⟨zs, H2, I2, rz, ⟨dx, fs, hi⟩, l2, q2⟩ => ?_
  rw [hks]
  obtain ⟨o, od, J, plain⟩ := inst_at I2 hi
  refine ⟨⟨C, o, od, J, plain⟩, wpAny_call (PySem.W.kco_code I2.kIn J plain c.at_ c.fn c.fi (codeAny_mono (F.run X.A X.stack s2 H2 ⟨[.ref a], ks.zip ws⟩ (gL [.ref a] ws) (gV [V.ref a] zs) Q (E σ) hr I2.env0 (hb.to s2 [.ref a] ws I2.kIn rfl (rz.length.symm.trans l2)) (hb.rel (.cons rfl .nil) rz) q2) fun r s' hq => ?_))⟩
  cases r with
  | error e => exact hx σ _ H2 s2 e s' I2 hq
  | ok fl =>
    cases fl with
    | ret u => exact I2.after hq
    | next => exact False.elim hq
    | brk => exact False.elim hq
    | cont => exact False.elim hq
end
end Ov

set_option Elab.async false
set_option linter.all false
set_option maxRecDepth 100000
set_option maxHeartbeats 4000000
/-! x.replace('.', '') in a def's last test -/
namespace Ov
open PySem PySem.Spec PyProof.Rows L2 GxR CwR
section
variable {X : Cx} {a b e : Expr} {rest : List Expr} {ta tb te : TE} {pos p : Pos}
theorem pet_one {op : BoolOp} (h : PET X e te) : PET X (.BoolOp op [e] pos) te := fun pins s σ H Q h0 I q => BoolOp_one (h pins s σ H Q h0 I q)
theorem pet_and (ha : PE X a ta) (hb : PET X (.BoolOp .And (b :: rest) pos) tb) : PET X (.BoolOp .And (a :: b :: rest) pos) (tAndV ta tb) := by
  intro pins s σ H Q h0 I h
  refine BoolOp_and (wpAny_mono (PySem.wpAny_toks (ha.run pins s σ H _ I h)) (fun v s1 z => ?_) fun _ _ z => z.2)
  obtain ⟨hk, x, H1, I1, r1, c, rfl, q1⟩ := z
  cases r1
  refine wpAny_truthy_bool ?_
  cases c with
  | false => exact ⟨.bl false, H1, I1, rfl, q1⟩
  | true => exact hb pins s1 σ H1 Q (Nat.le_trans h0 hk) I1 q1
theorem pet_call1 {CX : CXT} {k : Nat} {f : Addr} {fd : FuncData} {ps : List Str} {sp : Sp} {E : XK} {x : Str} (F : FnOk X.prog X.w X.K X.mg X.base CX k f fd ps sp) (hr : Room k X.A) (hg : Gl X x) (hm : X.mg x = some (.ref f)) (hk : PySem.W.keepIn X.K (.ref f) = true) (hb : Binds X.K fd ps []) (hx : Passes CX X E) (he : PET X e te)
    (hdb : (x == ("__debug__" : Str)) = false := by decide) (hst : starEach [e] X.env = [(false, eval e X.env)] := by rfl) : PET X (.Call (.Name x p) [e] [] pos) (tCall sp [] E (tCons te tNil)) := by
  intro pins s σ H Q h0 I h
  refine wpAny_Call_Name_kw (ld_glob I hg hm ?_ hdb)
  have hst' : starEach [e] X.env = (false, eval e X.env) :: starEach [] X.env := hst
  refine PySem.W.callWith_K (h₀ := X.base) I.ok.mod.kin hk ?_ hst' (by rfl)
  refine PyProof.Rows.args_cons (thn (he pins s σ H _ h0 I h) fun v s1 ⟨y, H1, I1, r1, q1⟩ => PyProof.Rows.args_nil ?_) hst'
  exact ⟨I1.kIn, run_fn F hr hb .nil hx I1 (.cons r1 .nil) q1⟩
end
end Ov

set_option Elab.async false
set_option linter.all false
set_option maxRecDepth 100000
set_option maxHeartbeats 4000000
/-! defs that run where no printing is under way: what repr wants to know -/
namespace Ov
open PySem PySem.Spec PyProof.Rows L2 GxR
/-- a def's promise at the places where no repr is under way -/
structure FnG (P : Program) (w : World) (K : PySem.W.Frag) (mg : Str → Option Value) (base : Heap) (CX : CXT) (k : Nat) (f : Addr) (fd : FuncData) (ps : List Str) (sp : Sp) : Prop where
  len : ∀ vs H Q E, sp vs H Q E → vs.length = ps.length
  run : ∀ (A : Around) (fr : List Env) (s : Shared) (H : Hp) (args : Args) (us : List Value) (vs : List V) (Q : VK) (E : XK), A.guards = some [] → Room k A → Env0 P w K mg base A fr s H → BindsTo s fd args (ps.zip us) → Vals vs us → sp vs H Q E →
    codeAny (model P w) A (.call (.ref f) args) (CR CX fr P w H s Q E) s
theorem FnOk.toG {P : Program} {w : World} {K : PySem.W.Frag} {mg : Str → Option Value} {base : Heap} {CX : CXT} {k : Nat} {f : Addr} {fd : FuncData} {ps : List Str} {sp : Sp} (F : FnOk P w K mg base CX k f fd ps sp) : FnG P w K mg base CX k f fd ps sp :=
  ⟨F.len, fun A fr s H args us vs Q E _ => F.run A fr s H args us vs Q E⟩
section
variable {P : Program} {w : World} {K : PySem.W.Frag} {mg : Str → Option Value} {base : Heap}
/-- as Fun.ok; the body knows the guards -/
theorem fun_okG {x qual : Str} {st : Stmt} {f : Addr} {fd : FuncData} {N ps : List Str} {k : Nat} {sp : Sp} (F : L2.Fun K x qual st f fd) (S : FnScope N ps (defScope st)) (len : ∀ vs H Q E, sp vs H Q E → vs.length = ps.length)
    (body : ∀ (cdv : Value) (A : Around) (fr : List Env) (s : Shared) (H : Hp) (vs : List V) (Q : VK) (E : XK), (A.deeper (envOfC qual (defScope st) s.heap.objs.size f cdv)).guards = some [] → Room k (A.deeper (envOfC qual (defScope st) s.heap.objs.size f cdv)) → sp vs H Q E →
      ∃ t, PSs (cxOf CX0 P w K mg base N qual (defScope st) f cdv A fr s H E).nox (defBody st) t ∧ t { nx := fun _ H' => Q .non H', rt := Q } (start N vs) H) : FnG P w K mg base CX0 (k + 1) f fd ps sp := by
  obtain ⟨oc, od, kV, doc, pm, an, cdv, ct, osl, rfl, lk, hcd⟩ := F.ex
  refine ⟨len, fun A fr s H args us vs Q E hg hr e0 hb rv hs => ?_⟩
  refine LamX.run_ofS lk hcd S hr e0 hb rv (len _ _ _ _ hs) fun hr' => ?_
  obtain ⟨t, h, q⟩ := body cdv A fr s H vs Q E (by simpa [Around.deeper] using hg) hr' hs
  exact ⟨t, h.nox, q⟩
end
section
variable {X : Cx} {CX : CXT} {k : Nat} {f : Addr} {fd : FuncData} {ps : List Str} {sp : Sp} {E : XK} {x : Str} {p pos : Pos} {e : Expr} {es : List Expr} {t : TA}
/-- f(..) where the guards are known -/
theorem pe_callG (F : FnG X.prog X.w X.K X.mg X.base CX k f fd ps sp) (hg0 : X.A.guards = some []) (hr : Room k X.A) (hg : Gl X x) (hm : X.mg x = some (.ref f)) (hk : PySem.W.keepIn X.K (.ref f) = true) (hb : Binds X.K fd ps []) (hx : Passes CX X E) (ha : PA X (e :: es) t)
    (hdb : (x == ("__debug__" : Str)) = false := by decide) (he : starEach (e :: es) X.env = (false, eval e X.env) :: starEach es X.env := by rfl) (hpl : (backTo pos (starEach es X.env)).any (·.1) = false := by rfl) :
    PE X (.Call (.Name x p) (e :: es) [] pos) (tCall sp [] E t) := by
  refine ⟨fun pins s σ H Q I h => ?_⟩
  refine wpAny_Call_Name_kw (ld_glob I hg hm ?_ hdb)
  refine PySem.W.callWith_K (h₀ := X.base) I.ok.mod.kin hk (thn (ha.run pos pins s σ H _ I h) fun us s1 ⟨vs, H1, I1, r, q⟩ => ⟨I1.kIn, ?_⟩) he hpl
  have q : sp vs H1 Q E := by
    have z : sp (vs ++ []) H1 Q E := q
    rwa [List.append_nil] at z
  have hl : us.length = ps.length := by rw [← r.length]; exact F.len _ _ _ _ q
  have b := hb s1 us I1.kIn (by rw [List.append_nil]; exact hl)
  rw [List.append_nil] at b
  refine wpAny_call (codeAny_mono (F.run X.A X.stack s1 H1 ⟨us, []⟩ us vs Q E hg0 hr I1.env0 b r q) fun rr s' hq => ?_)
  cases rr with
  | error er => exact hx pins σ H1 s1 er s' I1 hq
  | ok fl =>
    cases fl with
    | ret u => exact I1.after hq
    | next => exact False.elim hq
    | brk => exact False.elim hq
    | cont => exact False.elim hq
end
/-! ### the end -/
/-- the script at a (as o has it) and the empty tables are tracked, nothing else -/
def trackH (cs : List (Addr × Addr)) (a : Addr) (o : Option HO) : Hp := fun b => if b = a then o else if b ∈ cs.map (·.2) then some (.tbl #[]) else none
theorem law_callG {P : Program} {w : World} {K : PySem.W.Frag} {mg mb : Str → Option Value} {fa a : Addr} {cs : List (Addr × Addr)} {s₁ : Shared} {vs : List Value} {ns : List Int}
    (KX : K.In s₁.heap) (gl : s₁.heap.Ns mainGlobals mg) (bl : s₁.heap.Ns builtinsNs mb) (bb : ∀ x : Str, x ≠ "__name__" → mb x = bootBuiltins x) (lim : s₁.heap.NoLimit) (nog : s₁.gens = #[])
    (tabs : ∀ p ∈ cs, s₁.heap.get? p.2 = some { cls := .none, data := .fields #[] }) (nT : ∀ p ∈ cs, K.lookup p.2 = none) (Cd : ∀ p ∈ cs, PySem.W.CodeHd s₁.heap p.1 p.2)
    (bmod : ∃ (bm : Addr) (ob : Obj), mg "__builtins__" = some (.ref bm) ∧ bm ≠ builtinsNs ∧ s₁.heap.get? bm = some ob ∧ ob.cls = .type "module" ∧ ob.dict = some builtinsNs ∧ ob.data = .plain)
    (ha : s₁.heap.get? a = some { cls := .type "list", data := .seq vs.toArray }) (hi : IntsAre vs ns) (hl : ns.length ≤ sizeLine)
    (F : ∀ (base : Heap) (H : Hp), K.In base → base.Ns mainGlobals mg → (∀ p ∈ cs, LamX.TabB base mg p.1 p.2) → Env0 P w K mg base callerA [] s₁ H → (∀ p ∈ cs, H p.2 = some (.tbl #[])) → SqL K H a (ns.map V.int) →
      codeAny (model P w) callerA (.call (.ref fa) ⟨[.ref a], []⟩) (CR CX0 [] P w H s₁ (fun v _ => v = .bl true) fun _ _ _ => False) s₁) :
    codeAny (model P w) callerA (.call (.ref fa) ⟨[.ref a], []⟩) (fun r s' => r = .ok (.ret (.bool true)) ∧ OldK s₁.heap s'.heap ∧ s'.os = s₁.os ∧ AllBare s'.gens) s₁ := by
  have rel := vals_ints hi
  have nl : ns.length = vs.length := hi.length.symm
  have memT : ∀ p ∈ cs, p.2 ∈ cs.map (·.2) := fun p hp => List.mem_map.mpr ⟨p, hp, rfl⟩
  have tabT : ∀ b ∈ cs.map (·.2), s₁.heap.get? b = some { cls := .none, data := .fields #[] } := fun b hb => by
    obtain ⟨p, hp, rfl⟩ := List.mem_map.mp hb
    exact tabs p hp
  have aT : a ∉ cs.map (·.2) := fun z => by
    have q := (tabT a z).symm.trans ha
    cases q
  -- the way, once the script's place is chosen
  have go : ∀ o : Option HO, SqL K (trackH cs a o) a (ns.map V.int) → (∀ u, o = some u → ObjOk P w (trackH cs a o) s₁.heap a u ∧ K.lookup a = none ∧ ∃ ob xs, u = .frz ob (.lst xs)) →
      codeAny (model P w) callerA (.call (.ref fa) ⟨[.ref a], []⟩) (fun r s' => r = .ok (.ret (.bool true)) ∧ OldK s₁.heap s'.heap ∧ s'.os = s₁.os ∧ AllBare s'.gens) s₁ := by
    intro o seq hob
    generalize hH : trackH cs a o = H at seq hob
    have Ha : H a = o := by rw [← hH]; exact if_pos rfl
    have HT : ∀ b ∈ cs.map (·.2), H b = some (.tbl #[]) := fun b hb => by
      have ne : b ≠ a := fun z => aT (z ▸ hb)
      rw [← hH]
      exact (if_neg ne).trans (if_pos hb)
    have HN : ∀ b, b ≠ a → b ∉ cs.map (·.2) → H b = none := fun b h1 h2 => by
      rw [← hH]
      exact (if_neg h1).trans (if_neg h2)
    -- what is neither the script nor a table is not tracked
    have un1 : ∀ {b : Addr} {u : Obj}, s₁.heap.get? b = some u → (∀ k n, u.data ≠ .seq k n) → u.data ≠ .fields #[] → H b = none := fun {b u} e n1 n2 => by
      refine HN b (fun z => ?_) fun z => ?_
      · subst z
        rw [ha] at e
        exact n1 _ _ (by rw [← Option.some.inj e])
      · rw [tabT b z] at e
        exact n2 (by rw [← Option.some.inj e])
    have hok : HOk P w H s₁.heap := fun b u e => by
      by_cases h1 : b = a
      · subst h1
        rw [Ha] at e
        exact (hob u e).1
      · by_cases h2 : b ∈ cs.map (·.2)
        · rw [HT b h2] at e
          cases e
          exact tabT b h2
        · rw [HN b h1 h2] at e
          cases e
    have ns1 : ∀ {b : Addr} {m : Str → Option Value}, s₁.heap.Ns b m → (hidT s₁.heap H).Ns b m := fun {b m} ⟨u, es, ep, e, d, r⟩ =>
      ⟨u, es, ep, hidT_get e (un1 e (fun k n z => by rw [d] at z; cases z) fun z => by rw [d] at z; cases z), d, r⟩
    have kb : K.In (hidT s₁.heap H) := fun b u e => by
      refine hidT_get (KX b u e) ?_
      by_cases h1 : b = a
      · subst h1
        rw [Ha]
        cases ho : o with
        | none => rfl
        | some u' =>
          have z := (hob u' ho).2.1
          rw [e] at z
          cases z
      · refine HN b h1 fun z => ?_
        obtain ⟨p, hp, rfl⟩ := List.mem_map.mp z
        rw [nT p hp] at e
        cases e
    have md : L2.Mod K mg (hidT s₁.heap H) := ⟨kb, ns1 gl, ⟨mb, ns1 bl, bb⟩, by
      obtain ⟨mc, q1, q2⟩ := lim
      exact ⟨mc, ns1 q1, q2⟩⟩
    have TB : ∀ p ∈ cs, LamX.TabB (hidT s₁.heap H) mg p.1 p.2 := fun p hp => by
      have tp := tabs p hp
      refine ⟨?_, ?_, fun z => ?_⟩
      · obtain ⟨u, us, fl, tf, fg, tg, inF, tx, tt, c1, c2, c3, c4, c5, c6, c7, c8, c9, cne⟩ := Cd p hp
        exact ⟨u, us, fl, tf, fg, tg, inF, tx, tt, hidT_get c1 (un1 c1 (fun k n z => by rw [c3] at z; cases z) fun z => by rw [c3] at z; cases z; simp at c4), c2, c3, c4, c5, c6, c7, c8, c9, cne⟩
      · obtain ⟨bm, ob, m1, m2, m3, m4, m5, m6⟩ := bmod
        refine ⟨bm, ob, m1, m2, fun q => ?_, fun q => ?_, hidT_get m3 (un1 m3 (fun k n z => by rw [m6] at z; cases z) fun z => by rw [m6] at z; cases z), m4, m5, m6⟩
        · obtain ⟨u, es, ep, e, hd, _⟩ := gl
          rw [q, e] at m3
          cases m3
          rw [hd] at m6
          cases m6
        · rw [q, tp] at m3
          cases m3
          cases m6
      · obtain ⟨u, es, ep, e, hd, _⟩ := gl
        rw [z, tp] at e
        cases e
        cases hd
    have env : Env0 P w K mg (hidT s₁.heap H) callerA [] s₁ H := ⟨rfl, md, fun b u e => of_hidT e, Nat.le_of_eq (hidT_size _ _), trivial, fun b hb => (by cases hb), hok, .of_eq nog⟩
    refine codeAny_mono (F _ H kb (ns1 gl) TB env (fun p hp => HT _ (memT p hp)) seq) fun r s' h => ?_
    cases r with
    | error e => exact False.elim h
    | ok f =>
      cases f with
      | next => exact False.elim h
      | brk => exact False.elim h
      | cont => exact False.elim h
      | ret u =>
        obtain ⟨v, H', os, bare, un, hok', rv, q⟩ := h
        have qv : v = .bl true := q
        subst qv
        obtain rfl : u = Value.bool true := rv
        have stays : ∀ b u, b ∉ cs.map (·.2) → s₁.heap.get? b = some u → s'.heap.get? b = some u := fun b u nb e => by
          by_cases h1 : b = a
          · subst h1
            cases ho : o with
            | none =>
              have hn : H b = none := Ha.trans ho
              exact un.keep b u e hn (by intro z; cases z) (by simp)
            | some u' =>
              obtain ⟨ok1, _, ob, xs, rfl⟩ := hob u' ho
              have z1 : H b = some (.frz ob (.lst xs)) := Ha.trans ho
              have z2 := un.frzs b ob _ z1
              have e1 := (hok b _ z1).1
              have e2 := (hok' b _ z2).1
              rw [e] at e1
              cases e1
              exact e2
          · exact un.keep b u e (HN b h1 nb) (by intro z; cases z) (by simp)
        have grow : ∀ p ∈ cs, ∃ more : Array Value, s'.heap.get? p.2 = some { cls := .none, data := .fields more } := fun p hp => by
          obtain ⟨more, z⟩ := un.tbls p.2 #[] (HT _ (memT p hp))
          exact ⟨_, hok' p.2 _ z⟩
        refine ⟨rfl, ⟨fun b u e => ?_, fun b u e => ?_⟩, os, bare⟩
        · by_cases hb : b ∈ cs.map (·.2)
          · obtain ⟨p, hp, rfl⟩ := List.mem_map.mp hb
            obtain ⟨more, hm⟩ := grow p hp
            have eu := (tabs p hp).symm.trans e
            cases eu
            exact .inr (.inl ⟨((Cd p hp).tab (tabs p hp)).isCodeTable, rfl, #[], more, rfl, by rw [Array.empty_append]; exact hm⟩)
          · exact .inl (stays b u hb e)
        · by_cases hb : b ∈ cs.map (·.2)
          · obtain ⟨p, hp, rfl⟩ := List.mem_map.mp hb
            obtain ⟨more, hm⟩ := grow p hp
            exact ⟨_, hm⟩
          · exact ⟨u, stays b u hb e⟩
  cases hk : K.lookup a with
  | some u =>
    have e := (KX a u hk).symm.trans ha
    cases e
    exact go none (.inr ⟨_, vs.toArray, _, hk, rfl, rfl, rfl, by rw [List.size_toArray, ← nl]; exact hl, by simpa using rel⟩) fun u z => by cases z
  | none =>
    refine go (some (.frz { cls := .type "list", data := .seq vs.toArray } (.lst (ns.map V.int)))) (.inl (.inr ⟨_, if_pos rfl⟩)) fun u z => ?_
    cases z
    exact ⟨⟨ha, by rw [List.length_map]; exact hl, vs, _, rel, ha⟩, hk, _, _, rfl⟩
end Ov

set_option Elab.async false
set_option linter.all false
set_option maxRecDepth 100000
set_option maxHeartbeats 4000000
namespace Ov
open PySem PySem.Spec PyProof.Rows L2 GxR
/-- repr of a list of data -/
def rReprL (K : PySem.W.Frag) : List V → Hp → VK → Prop := fun xs H Q => ∃ (a : Addr) (d : PyData), xs = [V.ref a] ∧ Dp K H (.ref a) d ∧ d.showable = true ∧ d.hasDict = false ∧ d.depth ≤ 60 ∧ d.shown.length ≤ sizeLine ∧ Q (.str d.shown) H
theorem call_reprL {X : Cx} (hg : X.A.guards = some []) (hu : X.A.units + 64 < cLine) : CallR X (.builtin "repr") (rReprL X.K) := by
  intro pins s σ H xs us Q I r h
  obtain ⟨a, d, rfl, hd, hs, hdict, dep, hsz, q⟩ := h
  obtain ⟨u, rfl, ru⟩ := vals1 r
  obtain rfl : u = Value.ref a := ru
  obtain ⟨as, rd⟩ := Dp.reads I d _ _ hd rfl
  refine repr_of_reads' rd hs (fun z => by rw [hdict] at z; cases z) hg (by omega) (fun b o e => e) (fun h' u tk hk => ?_) hsz
  exact ⟨.str d.shown, H, I.kept (t' := tk) hk, ⟨u, rfl⟩, q⟩
end Ov

set_option Elab.async false
set_option linter.all false
set_option maxRecDepth 100000
set_option maxHeartbeats 4000000
/-! own __len__ and __add__ of instances -/
namespace Ov
open PySem PySem.Spec PyProof.Rows L2 GxR
theorem insAt {X : Cx} {pins : List (Addr × Obj)} {σ : L2.St} {H : Hp} {s : Shared} {a C dx : Addr} {fs : List (Str × V)} (I : Inv X pins σ H s) (h : H a = some (.ins C dx fs)) : ∃ o od, PySem.W.InstAt s.heap a o C od ∧ o.data = .plain := by
  obtain ⟨m, O, _⟩ := ins_get I.hok h
  obtain ⟨od, J, _⟩ := O.look
  exact ⟨_, _, J, rfl⟩
theorem frOf {X : Cx} {pins : List (Addr × Obj)} {σ : L2.St} {H : Hp} {s : Shared} (I : Inv X pins σ H s) : ∃ m, Fr X.base X.env.locals s.heap m := by
  obtain ⟨m, hm, _⟩ := I.loc
  exact ⟨m, hm, fun b o e => (I.bs b o e).1, Nat.le_trans I.ok.bsz I.ok.above⟩
/-- len of an instance of C -/
def rLenI (C : Addr) (sp : Sp) : List V → Hp → VK → Prop := fun xs H Q => ∃ a dx fs, xs = [V.ref a] ∧ H a = some (.ins C dx fs) ∧ sp [.ref a] H (fun v H2 => ∃ n : Nat, v = .int (n : Nat) ∧ n < 2 ^ 62 ∧ Q (.int (n : Nat)) H2) E0
theorem call_lenI {X : Cx} {k : Nat} {C f : Addr} {sp : Sp} (hs : PySem.W.findIn X.K (.ref C) "__len__" = some (some (.ref f))) (hf : PySem.W.isFn X.K (.ref f) = true) (F : FnR X.prog X.w X.K X.mg X.base CX0 k f sp) (hr : Room (k + 1) X.A) : CallR X (.builtin "len") (rLenI C sp) := by
  intro pins s σ H xs us Q I r h
  obtain ⟨a, dx, fs, rfl, ha, q⟩ := h
  obtain ⟨u, rfl, ru⟩ := vals1 r
  obtain rfl : u = Value.ref a := ru
  obtain ⟨o, od, J, _⟩ := insAt I ha
  obtain ⟨m, Fm⟩ := frOf I
  refine PySem.W.len_K Fm I.ok.mod.kin J hs hf ?_
  refine wpAny_call (codeAny_mono (F X.A.in1 X.stack s H [.ref a] [V.ref a] _ E0 hr.in1 I.env0.in1 (.cons rfl .nil) q) fun rr s' hq => ?_)
  cases rr with
  | error e => exact False.elim hq
  | ok fl =>
    cases fl with
    | ret u =>
      obtain ⟨v, H2, I2, rv, n, rfl, hn, q2⟩ := I.after hq
      obtain ⟨t, rfl⟩ := rv
      exact ⟨⟨by omega, by omega⟩, .int (n : Nat), H2, I2.tok _, ⟨_, rfl⟩, q2⟩
    | next => exact False.elim hq
    | brk => exact False.elim hq
    | cont => exact False.elim hq
/-- x + y, instances of C with __add__; in a try's body too -/
def tAddI (C : Addr) (sp : Sp) (E : L2.St → XK) (ta tb : TE) : TE := fun σ H Q => ta σ H fun x H1 => tb σ H1 fun y H2 => ∃ a b dx fs dy gs, x = V.ref a ∧ y = V.ref b ∧ H2 a = some (.ins C dx fs) ∧ H2 b = some (.ins C dy gs) ∧ sp [.ref a, .ref b] H2 (fun v H3 => (∃ p, v = .ref p) ∧ Q v H3) (E σ)
theorem pe_addI {X : Cx} {CX : CXT} {k : Nat} {C f : Addr} {sp : Sp} {E : L2.St → XK} {e1 e2 : Expr} {ta tb : TE} {pos : Pos} (hs : PySem.W.findIn X.K (.ref C) "__add__" = some (some (.ref f))) (hf : PySem.W.isFn X.K (.ref f) = true) (hc : PySem.W.selfFirst X.K C = true)
    (F : FnR X.prog X.w X.K X.mg X.base CX k f sp) (hr : Room k X.A) (hx : ∀ σ, PassesAt CX X σ (E σ)) (h1 : PE X e1 ta) (h2 : PE X e2 tb) : PE X (.BinOp e1 .Add e2 pos) (tAddI C sp E ta tb) := by
  refine ⟨fun pins s σ H Q I h => ?_⟩
  refine wpAny_BinOp (thn (h1.run pins s σ H _ I h) fun v s1 ⟨x, H1, I1, r1, q1⟩ => thn (h2.run pins s1 σ H1 _ I1 q1) fun u s2 ⟨y, H2, I2, r2, q2⟩ => ?_)
  obtain ⟨a, b, dx, fs, dy, gs, rfl, rfl, ha, hb, q⟩ := q2
  obtain rfl : v = Value.ref a := r1
  obtain rfl : u = Value.ref b := r2
  obtain ⟨o, od, J, _⟩ := insAt I2 ha
  obtain ⟨o', od', J', _⟩ := insAt I2 hb
  obtain ⟨m, Fm⟩ := frOf I2
  refine PySem.W.binop_K (op := .Add) Fm I2.ok.mod.kin J J'.type hc hs hf ?_
  refine wpAny_call (codeAny_mono (F X.A X.stack s2 H2 [.ref a, .ref b] [V.ref a, V.ref b] _ (E σ) hr I2.env0 (.cons rfl (.cons rfl .nil)) q) fun rr s' hq => ?_)
  cases rr with
  | error e => exact hx σ _ H2 s2 e s' I2 hq
  | ok fl =>
    cases fl with
    | ret u =>
      obtain ⟨v, H3, I3, rv, ⟨p, rfl⟩, q3⟩ := I2.after hq
      obtain rfl : u = Value.ref p := rv
      exact ⟨.ref p, H3, I3, rfl, q3⟩
    | next => exact False.elim hq
    | brk => exact False.elim hq
    | cont => exact False.elim hq
end Ov

set_option Elab.async false
set_option linter.all false
set_option maxRecDepth 100000
set_option maxHeartbeats 4000000
/-! the end of a law with the tables of defs at the top -/
namespace Ov
open PySem PySem.Spec PyProof.Rows L2 GxR
def TabsT (q : Program) (K : PySem.W.Frag) (h : Heap) : Prop := ∀ (x : Str) (c P : Addr), ((recsOf q).find? (fun e => e.name == x)).isSome = true → PySem.W.tabIn K x = some (c, P) → PySem.W.CodeHd h c P ∧ h.get? P = some { cls := .none, data := .fields #[] }
theorem walk_T {l : PySem.W.OpenLaw} {n k : Nat} {q : Program} {loose : List Str} {XP : (Str → Option Value) → Heap → Prop} {YP : World → Heap → Prop} {d : DefRec} {K : Params → PySem.W.Frag} {x : Str}
    (hn : l.most = some n) (hn2 : n ≤ sizeLine) (hdf : d.params.defaults = []) (hr : Room k callerA) (hY : ∀ (w : World) (h : Heap), YP w h → (K w.params).In h)
    (F : ∀ (w : World) (mg : Str → Option Value) (fa : Addr) (h : Heap), YP w h → (K w.params).In h → h.Ns mainGlobals mg → mg d.name = some (.ref fa) → TabsT q (K w.params) h → LamX.LawAtS l w (K w.params) CX0 k n x mg fa h) :
    PySem.W.WalkO q loose XP YP l.row.toRowW d [] (fun f vs => PySem.call f vs) := by
  refine Att.attach_callB hn hdf fun w s₀ s₁ mg mb fa o pm cd doc a vs ns G Y ho hd hcd hmg hobj hints hlen hbits hg => ?_
  have KX := hY w _ Y
  have tabs : TabsT q (K w.params) s₁.heap := fun x c P h1 h2 => by
    obtain ⟨d', hd'⟩ := Option.isSome_iff_exists.mp h1
    exact PySem.W.tab_of G.T KX hd' h2
  obtain ⟨fd, cs, sp, hT, nT, C, hb, hsp, hF⟩ := F w mg fa _ Y KX G.T.g hmg tabs
  exact LamX.law_callTs KX G.T.g G.T.b G.T.builtins G.T.nolimit hg hT nT C G.T.bmain hobj hints (Nat.le_trans hlen hn2) hr hF hb (fun H hH hS => hsp H a ns hlen hbits hH hS) fun H e s' z => z
end Ov

set_option Elab.async false
set_option linter.all false
set_option maxRecDepth 100000
set_option maxHeartbeats 4000000
/-! the end of a law whose defs know the guards -/
namespace Ov
open PySem PySem.Spec PyProof.Rows L2 GxR
/-- as the library's for defs alone, with FnG -/
def LawAtG (l : PySem.W.OpenLaw) (w : World) (K : PySem.W.Frag) (k n : Nat) (x : Str) (mg : Str → Option Value) (fa : Addr) (h : Heap) : Prop :=
  ∃ (fd : FuncData) (cs : List (Addr × Addr)) (sp : Sp), (∀ p ∈ cs, h.get? p.2 = some { cls := .none, data := .fields #[] }) ∧ (∀ p ∈ cs, K.lookup p.2 = none) ∧ (∀ p ∈ cs, PySem.W.CodeHd h p.1 p.2) ∧ (∀ (s : Shared) (u : Value), BindsTo s fd ⟨[u], []⟩ [(x, u)]) ∧
    (∀ (H : Hp) (a : Addr) (ns : List Int), ns.length ≤ n → (∀ p ∈ cs, H p.2 = some (.tbl #[])) → SqL K H a (ns.map V.int) → sp [.ref a] H (fun v _ => v = .bl true) fun _ _ _ => False) ∧
    ∀ base : Heap, K.In base → base.Ns mainGlobals mg → (∀ p ∈ cs, LamX.TabB base mg p.1 p.2) → FnG l.prog w K mg base CX0 k fa fd [x] sp
theorem walk_TG {l : PySem.W.OpenLaw} {n k : Nat} {q : Program} {loose : List Str} {XP : (Str → Option Value) → Heap → Prop} {YP : World → Heap → Prop} {d : DefRec} {K : Params → PySem.W.Frag} {x : Str}
    (hn : l.most = some n) (hn2 : n ≤ sizeLine) (hdf : d.params.defaults = []) (hr : Room k callerA) (hY : ∀ (w : World) (h : Heap), YP w h → (K w.params).In h)
    (F : ∀ (w : World) (mg : Str → Option Value) (fa : Addr) (h : Heap), YP w h → (K w.params).In h → h.Ns mainGlobals mg → mg d.name = some (.ref fa) → TabsT q (K w.params) h → LawAtG l w (K w.params) k n x mg fa h) :
    PySem.W.WalkO q loose XP YP l.row.toRowW d [] (fun f vs => PySem.call f vs) := by
  refine Att.attach_callB hn hdf fun w s₀ s₁ mg mb fa o pm cd doc a vs ns G Y ho hd hcd hmg hobj hints hlen hbits hg => ?_
  have KX := hY w _ Y
  have tabs : TabsT q (K w.params) s₁.heap := fun x c P h1 h2 => by
    obtain ⟨d', hd'⟩ := Option.isSome_iff_exists.mp h1
    exact PySem.W.tab_of G.T KX hd' h2
  obtain ⟨fd, cs, sp, hT, nT, C, hb, hsp, hF⟩ := F w mg fa _ Y KX G.T.g hmg tabs
  exact law_callG KX G.T.g G.T.b G.T.builtins G.T.nolimit hg hT nT C G.T.bmain hobj hints (Nat.le_trans hlen hn2) fun base H KB GB TB env hH hS =>
    (hF base KB GB TB).run callerA [] s₁ H ⟨[.ref a], []⟩ [.ref a] [V.ref a] _ _ rfl hr env (hb s₁ (.ref a)) (.cons rfl .nil) (hsp H a ns hlen hH hS)
end Ov

set_option Elab.async false
set_option linter.all false
set_option maxRecDepth 100000
set_option maxHeartbeats 4000000
namespace Ov
open PySem PySem.Spec PyProof.Rows L2 GxR
theorem iteT' {b : Bool} {A B : Prop} (e : b = true) (h : A) : if b = true then A else B := by rw [if_pos e]; exact h
theorem iteF' {b : Bool} {A B : Prop} (e : b = false) (h : B) : if b = true then A else B := by rw [if_neg (by rw [e]; decide)]; exact h
def top (i : Nat) : Stmt := PySem.Challenge.pw_overstamps_k02_stamps_added.main.body.getD i (.Pass ⟨0, 0, 0, 0⟩)
abbrev sLow : Stmt := top 9
abbrev sText : Stmt := top 10
abbrev sAre : Stmt := top 12
abbrev sInit : Stmt := inClass (top 14) 1
abbrev sOf : Stmt := inClass (top 14) 2
abbrev sTape : Stmt := top 16
abbrev sNext : Stmt := top 17
abbrev sInks : Stmt := top 18
/-! ### what the top has left -/
structure Txt (K : PySem.W.Frag) (mg : Str → Option Value) (C fLow fText fAre fTape fNext fInks : Addr) : Prop where
  all : mg "all" = none
  len : mg "len" = none
  isi : mg "isinstance" = none
  str : mg "str" = none
  lst : mg "list" = none
  set : mg "set" = none
  abs : mg "abs" = none
  max : mg "max" = none
  min : mg "min" = none
  rng : mg "range" = none
  gTape : mg "_law_tape" = some (.ref fTape)
  kTape : PySem.W.keepIn K (.ref fTape) = true
  gNext : mg "_law_next" = some (.ref fNext)
  kNext : PySem.W.keepIn K (.ref fNext) = true
  gInks : mg "_law_inks" = some (.ref fInks)
  kInks : PySem.W.keepIn K (.ref fInks) = true
  gLow : mg "is_lowercase" = some (.ref fLow)
  kLow : PySem.W.keepIn K (.ref fLow) = true
  gText : mg "is_text" = some (.ref fText)
  kText : PySem.W.keepIn K (.ref fText) = true
  gAre : mg "are_stamps" = some (.ref fAre)
  kAre : PySem.W.keepIn K (.ref fAre) = true
  gC : mg "Stamps" = some (.ref C)
  widest : ∃ t, mg "WIDEST" = some (.int 8 t)
  letters : ∃ t, mg "MOST_LETTERS" = some (.int 36 t)
  rd : ClX.CRead K C (.type "type")
  most : ∃ t, ClX.CVal K C (.type "type") "MOST" (.int 6) (.int 6 t)
/-- where the tables stand -/
structure Tab (base : Heap) (mg : Str → Option Value) (T : List Addr) (cLow PLow cAre PAre : Addr) : Prop where
  low : TabB base mg cLow PLow
  are : TabB base mg cAre PAre
  lowT : PLow ∈ T
  areT : PAre ∈ T
def lowB (z : Str) : Bool := z.cps.toList.all fun c => decide (97 ≤ c) && decide (c ≤ 122)
section
variable {P : Program} {w : World} {K : PySem.W.Frag} {mg : Str → Option Value} {base : Heap} {T : List Addr} {C fLow fText fAre fTape fNext fInks cLow PLow cAre PAre : Addr}
/-! ### is_lowercase -/
def spLow (T : List Addr) : Sp := fun vs H Q _ => ∃ z : Str, vs = [.str z] ∧ (∀ p ∈ T, TabG H p) ∧ ∀ H2, Tbs T H H2 → Q (.bl (lowB z)) H2
theorem scLow : FnScope ["text"] ["text"] (defScope sLow) := ⟨rfl, rfl, rfl, by decide +kernel, rfl, by decide +kernel, by decide +kernel⟩
theorem sign_le (c : Nat) : (!decide (([c] : List Nat) < ("a" : Str).cps.toList)) = decide (97 ≤ c) := by
  have e : ("a" : Str).cps.toList = [97] := by rfl
  rw [e]
  have h := one_lt c 97
  by_cases q : 97 ≤ c
  · have : ¬ ([c] < [97]) := fun z => by have := h.mp z; omega
    simp [q, this]
  · have : [c] < [97] := h.mpr (by omega)
    simp [q, this]
theorem sign_ge (c : Nat) : (!decide (("z" : Str).cps.toList < ([c] : List Nat))) = decide (c ≤ 122) := by
  have e : ("z" : Str).cps.toList = [122] := by rfl
  rw [e]
  have h := one_lt 122 c
  by_cases q : c ≤ 122
  · have : ¬ ([122] < [c]) := fun z => by have := h.mp z; omega
    simp [q, this]
  · have : [122] < [c] := h.mpr (by omega)
    simp [q, this]
theorem ok_low {f : Addr} {fd : FuncData} (F : FunC K "is_lowercase" "is_lowercase" sLow f fd cLow) (X : Txt K mg C fLow fText fAre fTape fNext fInks) (B : Tab base mg T cLow PLow cAre PAre) : FnOk P w K mg base CX0 2 f fd ["text"] (spLow T) := by
  refine F.ok scLow (fun vs H Q E h => ?_) (fun A outer s H vs Q E hr h => ?_)
  · obtain ⟨z, rfl, _⟩ := h
    rfl
  · obtain ⟨z, rfl, hT, k⟩ := h
    refine ⟨_, pss_one (ps_ret (pe_allG (k := 0) (cs := []) (pick := []) rfl hr (by rfl) X.all (by decide +kernel) B.low rfl (genN_by (sc := defScope sLow) (N := ["text"]) rfl rfl (fun y h => cell_has h) (by decide +kernel))
      (pi_str (pv 0)) (fun s H code C A fp pn hr => pe_chain op_le_str op_le_str pe_str (pv 0) pe_str))), ?_⟩
    refine ⟨_, rfl, z, rfl, hT _ B.lowT, fun H2 h2 => ?_⟩
    refine all_str (fun c => decide (97 ≤ c) && decide (c ≤ 122)) (fun c R hR => ?_) (k _ (Tbs.of1 hT B.lowT h2))
    refine ⟨_, rfl, _, _, rfl, rfl, _, rfl, ?_⟩
    have e1 := sign_le c
    have e2 := sign_ge c
    by_cases h1 : 97 ≤ c
    · refine iteT' (by rw [e1]; simpa using h1) ?_
      refine ⟨_, _, rfl, rfl, ?_⟩
      rw [e2]
      simpa [h1] using hR
    · refine iteF' (by rw [e1]; simpa using h1) ?_
      simpa [h1] using hR
/-! ### is_text -/
def textB (z : Str) (m : Int) : Bool := decide (1 ≤ (z.length : Int)) && decide ((z.length : Int) ≤ m) && lowB z
def spText (K : PySem.W.Frag) (T : List Addr) : Sp := fun vs H Q _ => ∃ (x : V) (m : Int), vs = [x, .int m] ∧ (∀ p ∈ T, TabG H p) ∧
  ((∃ z : Str, x = .str z ∧ z.length ≤ sizeLine ∧ ∀ H2, Tbs T H H2 → Q (.bl (textB z m)) H2) ∨ (∃ t, TyX K H x t ∧ PySem.W.kitOne K t (.type "str") = some false ∧ Q (.bl false) H))
theorem scText : FnScope ["thing", "most"] ["thing", "most"] (defScope sText) := ⟨rfl, rfl, rfl, by decide +kernel, rfl, by decide +kernel, by decide +kernel⟩
theorem ok_text {f : Addr} {fd fdL : FuncData} (F : L2.Fun K "is_text" "is_text" sText f fd) (FL : FunC K "is_lowercase" "is_lowercase" sLow fLow fdL cLow) (X : Txt K mg C fLow fText fAre fTape fNext fInks) (B : Tab base mg T cLow PLow cAre PAre) : FnOk P w K mg base CX0 3 f fd ["thing", "most"] (spText K T) := by
  refine F.ok scText (fun vs H Q E h => ?_) (fun cdv A outer s H vs Q E hr h => ?_)
  · obtain ⟨x, m, rfl, _⟩ := h
    rfl
  · obtain ⟨x, m, rfl, hT, k⟩ := h
    refine ⟨_, pss_one (ps_ret (pe_and (pe_callB call_isi (by rfl) X.isi boot_isinstance (pa_cons (pv 0) (pa_cons (pe_bltn (v := .ty "str") (by rfl) X.str PySem.Pv.boot_str rfl) pa_nil)))
      (pe_and (pe_chain op_le op_le pe_int (pe_callB call_len_str (by rfl) X.len boot_len (pa_cons (pv 0) pa_nil)) (pv 1))
        (pe_one (pe_call (ok_low FL X B) hr (by rfl) X.gLow X.kLow (FL.toFun.binds fun _ _ _ _ _ _ us hl => match us, hl with | [_], _ => rfl) .nil L2.pass0 (pa_cons (pv 0) pa_nil)))))), ?_⟩
    rcases k with ⟨z, rfl, hz, k⟩ | ⟨t, ht, hk, k⟩
    · refine ⟨_, rfl, _, _, _, _, _, rfl, .ty _, .base (.str _), kit_ty (r := true) (by decide +kernel), true, rfl, ?_⟩
      refine iteT ?_
      refine ⟨_, rfl, z, rfl, hz, _, _, rfl, rfl, _, rfl, ?_⟩
      by_cases h1 : 1 ≤ (z.length : Int)
      · refine iteT' (by simpa using h1) ?_
        refine ⟨_, rfl, _, _, rfl, rfl, _, rfl, ?_⟩
        by_cases h2 : (z.length : Int) ≤ m
        · refine iteT' (by simpa using h2) ?_
          refine ⟨_, rfl, z, rfl, hT, fun H2 q => ?_⟩
          have := k H2 q
          unfold textB at this
          simpa [h1, h2] using this
        · refine iteF' (by simpa using h2) ?_
          have := k H (.refl hT)
          unfold textB at this
          simpa [h1, h2] using this
      · refine iteF' (by simpa using h1) ?_
        refine ⟨_, rfl, ?_⟩
        refine iteF ?_
        have := k H (.refl hT)
        unfold textB at this
        simpa [h1] using this
    · refine ⟨_, rfl, _, _, _, _, _, rfl, .ty _, ht, hk, false, rfl, ?_⟩
      exact iteF k
/-! ### are_stamps -/
def isTextV : V → Bool
  | .str z => textB z 8
  | _ => false
def strV : V → Str
  | .str z => z
  | _ => Str.empty
/-- the words, once each of them is a text -/
def tailB (ws : List Str) : Bool := ws.all (fun z => decide (z.length = (ws.headD Str.empty).length)) && (decide ((once ws).length = ws.length) && decide ((ws.headD Str.empty).length * ws.length ≤ 36))
def stampsV (xs : List V) : Bool := decide (1 ≤ xs.length) && (decide (xs.length ≤ 6) && (xs.all isTextV && tailB (xs.map strV)))
theorem isTextV_str {x : V} (h : isTextV x = true) : x = .str (strV x) ∧ (strV x).length ≤ 8 := by
  cases x with
  | str z =>
    refine ⟨rfl, ?_⟩
    unfold isTextV textB at h
    simp only [Bool.and_eq_true, decide_eq_true_eq] at h
    show z.length ≤ 8
    omega
  | _ => cases h
theorem all_str_eq {xs : List V} (h : xs.all isTextV = true) : xs = (xs.map strV).map V.str ∧ ∀ z ∈ xs.map strV, z.length ≤ 8 := by
  rw [List.all_eq_true] at h
  refine ⟨?_, fun z hz => ?_⟩
  · rw [List.map_map]
    conv => lhs; rw [← List.map_id xs]
    exact List.map_congr_left fun x hx => (isTextV_str (h x hx)).1
  · obtain ⟨x, hx, rfl⟩ := List.mem_map.mp hz
    exact (isTextV_str (h x hx)).2
def spAre (K : PySem.W.Frag) (T : List Addr) : Sp := fun vs H Q _ => ∃ (a : Addr) (xs : List V), vs = [.ref a] ∧ (∀ p ∈ T, TabG H p) ∧ SqT K H a xs ∧ xs.length ≤ 4000 ∧
  (∀ x ∈ xs, (∃ z : Str, x = .str z ∧ z.length ≤ sizeLine) ∨ (isTextV x = false ∧ ∃ t, PySem.W.kitOne K t (.type "str") = some false ∧ ∀ H2, Tbs T H H2 → TyX K H2 x t)) ∧ ∀ H2, Tbs T H H2 → Q (.bl (stampsV xs)) H2
theorem scAre : FnScope ["words", "width"] ["words"] (defScope sAre) := ⟨rfl, rfl, rfl, by decide +kernel, rfl, by decide +kernel, by decide +kernel⟩
theorem ok_are {f : Addr} {fd fdT fdL : FuncData} (F : FunC K "are_stamps" "are_stamps" sAre f fd cAre) (FT : L2.Fun K "is_text" "is_text" sText fText fdT) (FL : FunC K "is_lowercase" "is_lowercase" sLow fLow fdL cLow) (X : Txt K mg C fLow fText fAre fTape fNext fInks) (B : Tab base mg T cLow PLow cAre PAre) : FnOk P w K mg base CX0 5 f fd ["words"] (spAre K T) := by
  refine F.ok scAre (fun vs H Q E h => ?_) (fun A outer s H vs Q E hr h => ?_)
  · obtain ⟨a, xs, rfl, _⟩ := h
    rfl
  · obtain ⟨a, xs, rfl, hT, hs, hn, hx, k⟩ := h
    obtain ⟨t8, g8⟩ := X.widest
    obtain ⟨t36, g36⟩ := X.letters
    refine ⟨_, pss_cons (ps_if (pt_not (pt_chain op_le op_le pe_int (pe_callB call_len_seq (by rfl) X.len boot_len (pa_cons (pv 0) pa_nil)) (ClX.pe_cval (pe_glob (v := .ref C) (by rfl) X.gC rfl)))) (pss_one (ps_ret pe_bl)) pss_nil)
      (pss_cons (ps_if (pt_not (pt_val (pe_allG (k := 3) (cs := []) (pick := []) rfl hr (by rfl) X.all (by decide +kernel) B.are rfl (genN_by (sc := defScope sAre) (N := ["words", "width"]) rfl rfl (fun y h => cell_has h) (by decide +kernel))
        (pi_tup (pv 0)) (fun s H code C A fp pn hr => pe_call (ok_text FT FL X B) hr (by rfl) X.gText X.kText (FT.binds fun _ _ _ _ _ _ us hl => match us, hl with | [_, _], _ => rfl) .nil L2.pass0 (pa_cons (pv 0) (pa_cons (pe_glob (v := .int 8) (by rfl) g8 ⟨_, rfl⟩) pa_nil)))))) (pss_one (ps_ret pe_bl)) pss_nil)
      (pss_cons (ps_set (i := 1) scAre.nd rfl (.inr rfl) (pe_callB call_len_str (by rfl) X.len boot_len (pa_cons (pe_ix ix_seq (pv 0) pe_int fun _ _ => rfl) pa_nil)))
      (pss_cons (ps_if (pt_not (pt_val (pe_allG (k := 3) (cs := ["width"]) (pick := [1]) rfl hr (by rfl) X.all (by decide +kernel) B.are rfl (genN_by (sc := defScope sAre) (N := ["words", "width"]) rfl rfl (fun y h => cell_has h) (by decide +kernel))
        (pi_tup (pv 0)) (fun s H code C A fp pn hr => pe_cmpR op_eq (pe_callB call_len_str (by rfl) X.len boot_len (pa_cons (pv 0) pa_nil)) (pv 1) (by rfl))))) (pss_one (ps_ret pe_bl)) pss_nil)
      (pss_one (ps_ret (pe_and (pe_cmpR op_eq (pe_lenOnce rfl (by rfl) X.len (by rfl) X.set (pv 0)) (pe_callB call_len_seq (by rfl) X.len boot_len (pa_cons (pv 0) pa_nil)) (by rfl))
        (pe_one (pe_cmpR op_le (pe_op op_mul (pv 1) (pe_callB call_len_seq (by rfl) X.len boot_len (pa_cons (pv 0) pa_nil))) (pe_glob (v := .int 36) (by rfl) g36 ⟨_, rfl⟩) (by rfl))))))))), ?_⟩
    obtain ⟨tm, hm⟩ := X.most
    refine ⟨_, rfl, a, xs, rfl, .inr hs, _, _, rfl, rfl, _, rfl, ?_⟩
    by_cases h1 : 1 ≤ xs.length
    case neg =>
      refine iteF' (by simp; omega) ⟨_, rfl, iteT ?_⟩
      have := k H (.refl hT)
      unfold stampsV at this
      rw [decide_eq_false h1, Bool.false_and] at this
      exact this
    refine iteT' (by simp; omega) ⟨C, _, _, _, rfl, X.rd, hm, _, _, rfl, rfl, _, rfl, ?_⟩
    by_cases h2 : xs.length ≤ 6
    case neg =>
      refine iteT' (by simp; omega) ?_
      have := k H (.refl hT)
      unfold stampsV at this
      rw [decide_eq_false h2, Bool.false_and, Bool.and_false] at this
      exact this
    refine iteF' (by simp; omega) ?_
    refine ⟨_, rfl, a, rfl, ⟨xs, hs⟩, hT _ B.areT, fun H2 h2' => ?_⟩
    refine all_tup isTextV (Tbs T H) (Tbs.of1 hT B.areT h2') (fun H1 q => q.kep.seqT hT hs) (fun x hxm H1 q R hR => ?_) (fun H1 q => ?_)
    · refine ⟨x, rfl, x, 8, rfl, q.1, ?_⟩
      rcases hx x hxm with ⟨z, rfl, hz⟩ | ⟨hf, t, hk, ht⟩
      · exact .inl ⟨z, rfl, hz, fun H3 q3 => hR H3 (q.trans q3)⟩
      · refine .inr ⟨t, ht H1 q, hk, ?_⟩
        rw [hf] at hR
        exact hR H1 q
    refine ⟨_, rfl, ?_⟩
    cases hall : xs.all isTextV with
    | false =>
      refine iteT ?_
      have := k H1 q
      unfold stampsV at this
      rw [hall, Bool.false_and, Bool.and_false, Bool.and_false] at this
      exact this
    | true =>
    refine iteF ?_
    obtain ⟨hws, hle⟩ := all_str_eq hall
    generalize hw : xs.map strV = ws at hws hle
    have hl : ws.length = xs.length := by rw [← hw, List.length_map]
    have hb : stampsV xs = tailB ws := by
      unfold stampsV
      rw [decide_eq_true h1, decide_eq_true h2, hall, hw]; rfl
    rw [hb] at k
    subst hws
    clear hall hb hx
    obtain ⟨z0, zs, rfl⟩ : ∃ z0 zs, ws = z0 :: zs := by
      cases ws with
      | nil => simp at h1
      | cons z0 zs => exact ⟨z0, zs, rfl⟩
    have hz0 : z0.length ≤ 8 := hle z0 List.mem_cons_self
    have hs1 : SqT K H1 a ((z0 :: zs).map V.str) := q.kep.seqT hT hs
    have h8 : (8 : Nat) ≤ sizeLine := by decide
    have hsz : ∀ z ∈ z0 :: zs, z.length ≤ sizeLine := fun z hz => Nat.le_trans (hle z hz) h8
    refine ⟨_, rfl, .inr (.inl ⟨a, _, 0, .str z0, rfl, rfl, hs1, by simp [atI, ixN], z0, rfl, hsz z0 List.mem_cons_self, ?_⟩)⟩
    refine ⟨_, rfl, a, rfl, ⟨_, hs1⟩, q.1 _ B.areT, fun H3 h3 => ?_⟩
    refine all_tup (fun x => decide ((strV x).length = z0.length)) (Tbs T H) (q.trans (Tbs.of1 q.1 B.areT h3)) (fun H1 q => q.kep.seqT hT hs) (fun x hxm H1 q R hR => ?_) (fun H4 q4 => ?_)
    · obtain ⟨z, hz, rfl⟩ := List.mem_map.mp hxm
      refine ⟨_, rfl, z, rfl, hsz z hz, _, rfl, rfl, ?_⟩
      have := hR H1 q
      have e : decide (V.int (z.length : Nat) = V.int (z0.length : Nat)) = decide ((strV (V.str z)).length = z0.length) := by
        show _ = decide (z.length = z0.length)
        rw [Bool.eq_iff_iff]
        simp
        omega
      rw [← e] at this
      exact this
    refine ⟨_, rfl, ?_⟩
    have e1 : ((z0 :: zs).map V.str).all (fun x => decide ((strV x).length = z0.length)) = (z0 :: zs).all (fun z => decide (z.length = z0.length)) := by
      rw [List.all_map]; rfl
    have hs4 : SqT K H4 a ((z0 :: zs).map V.str) := q4.kep.seqT hT hs
    have k4 : Q (.bl ((z0 :: zs).all (fun z => decide (z.length = z0.length)) && (decide ((once (z0 :: zs)).length = (z0 :: zs).length) && decide (z0.length * (z0 :: zs).length ≤ 36)))) H4 := k H4 q4
    rw [e1]
    cases hal : (z0 :: zs).all (fun z => decide (z.length = z0.length)) with
    | false =>
      refine iteT ?_
      rw [hal, Bool.false_and] at k4
      exact k4
    | true =>
      rw [hal, Bool.true_and] at k4
      refine iteF ?_
      have hln : ((z0 :: zs).map V.str).length = (z0 :: zs).length := List.length_map ..
      refine ⟨_, rfl, a, z0 :: zs, rfl, hs4, by rw [← hln]; exact hn, _, rfl, a, _, rfl, .inr hs4, rfl, _, rfl, ?_⟩
      have e2 : decide (V.int ((once (z0 :: zs)).length : Nat) = V.int (((z0 :: zs).map V.str).length : Nat)) = decide ((once (z0 :: zs)).length = (z0 :: zs).length) := by
        rw [hln, Bool.eq_iff_iff]
        simp
        omega
      rw [e2]
      by_cases h5 : (once (z0 :: zs)).length = (z0 :: zs).length
      case neg =>
        refine iteF' (decide_eq_false h5) ?_
        rw [decide_eq_false h5, Bool.false_and] at k4
        exact k4
      refine iteT' (decide_eq_true h5) ?_
      rw [decide_eq_true h5, Bool.true_and] at k4
      refine ⟨_, rfl, _, rfl, a, _, rfl, .inr hs4, _, _, rfl, rfl, .inl ⟨by omega, by omega⟩, _, _, rfl, rfl, ?_⟩
      have e3 : decide ((z0.length : Int) * (((z0 :: zs).map V.str).length : Nat) ≤ 36) = decide (z0.length * (z0 :: zs).length ≤ 36) := by
        rw [hln, Bool.eq_iff_iff]
        simp only [decide_eq_true_eq]
        constructor <;> intro h
        · exact_mod_cast h
        · exact_mod_cast h
      rw [← e3] at k4
      exact k4
end
/-! ### Stamps -/
structure ErrC (K : PySem.W.Frag) (mg : Str → Option Value) (x : Str) (D : Addr) : Prop where
  e : PySem.W.excIn K D [.type "ValueError", .type "Exception", .type "BaseException", .type "object"] "ValueError.__new__" = true
  g : mg x = some (.ref D)
  k : PySem.W.keepIn K (.ref D) = true
  b : PySem.W.subIn K (.ref D) (.type "BaseException") = some true
  t : PySem.W.typeIn K (.ref D) = some (.type "type")
/-- what stood stands, but for the tables and the object at a -/
def KepX (T : List Addr) (a : Addr) (H H' : Hp) : Prop := (∀ P ∈ T, TabG H' P) ∧ ∀ b o, b ∉ T → b ≠ a → H b = some o → H' b = some o
/-- an object of the program: a text, or something else -/
def Wd (K : PySem.W.Frag) (T : List Addr) (H : Hp) (x : V) : Prop := (∃ z : Str, x = .str z ∧ z.length ≤ sizeLine) ∨ (isTextV x = false ∧ ∃ t, PySem.W.kitOne K t (.type "str") = some false ∧ ∀ H2, Kep T H H2 → TyX K H2 x t)
/-- stamps stand at a: their list at l -/
def Stp (H : Hp) (C a l dx : Addr) (xs : List V) : Prop := H a = some (.ins C dx [("_words", .ref l)]) ∧ H l = some (.lst xs)
def spInit (K : PySem.W.Frag) (T : List Addr) (C D : Addr) : Sp := fun vs H Q E => ∃ (a dx : Addr) (xs : List V), vs = V.ref a :: xs ∧ H a = some (.ins C dx []) ∧ (∀ p ∈ T, TabG H p) ∧ xs.length ≤ 4000 ∧ (∀ x ∈ xs, Wd K T H x) ∧
  (stampsV xs = true → ∀ H3 l, H l = none → l ∉ T → l ≠ a → Stp H3 C a l dx xs → KepX T a H H3 → Q .non H3) ∧ (stampsV xs = false → ∀ H3, Kep T H H3 → E (.ref D) none H3)
theorem scInit : FnScope ["self", "words"] ((["self"] : List Str) ++ (["words"] : List Str)) (defScope sInit) := ⟨rfl, rfl, rfl, by decide +kernel, rfl, by decide +kernel, by decide +kernel⟩
structure Own (K : PySem.W.Frag) (C : Addr) : Prop where
  cls : Cls K C
  noW : NoAttr K C "_words"
section
variable {P : Program} {w : World} {K : PySem.W.Frag} {mg : Str → Option Value} {base : Heap} {T : List Addr} {C D fLow fText fAre fTape fNext fInks fInit cLow PLow cAre PAre : Addr}
theorem Kep.ty {H H1 H2 : Hp} (h : Kep T H H1) (h2 : Tbs T H1 H2) : Kep T H H2 := h.trans h2.kep
theorem ok_init {fd fdA fdT fdL : FuncData} (F : L2.Fun K "__init__" "Stamps.__init__" sInit fInit fd) (FA : FunC K "are_stamps" "are_stamps" sAre fAre fdA cAre) (FT : L2.Fun K "is_text" "is_text" sText fText fdT) (FL : FunC K "is_lowercase" "is_lowercase" sLow fLow fdL cLow) (X : Txt K mg C fLow fText fAre fTape fNext fInks) (B : Tab base mg T cLow PLow cAre PAre) (O : Own K C) (Er : ErrC K mg "InvalidStamps" D) :
    FnR P w K mg base (L2.CX P w) 6 fInit (spInit K T C D) := by
  obtain ⟨oc, od, kV, doc, pm, an, cdv, ct, osl, rfl, lk, hcd⟩ := F.ex
  have R := StX.fn_star (CX := L2.CX P w) (P := P) (w := w) (mg := mg) (base := base) (ps := ["self"]) (pv := "words") (N := ["self", "words"]) (k := 5)
    (sp := fun vs H Q E => ∃ (a p dx : Addr) (xs : List V), vs = [.ref a, .ref p] ∧ H p = some (.tup xs) ∧ H a = some (.ins C dx []) ∧ p ∉ T ∧ (∀ p ∈ T, TabG H p) ∧ xs.length ≤ 4000 ∧ (∀ x ∈ xs, Wd K T H x) ∧
      (stampsV xs = true → ∀ H3 l, H l = none → l ∉ T → l ≠ a → Stp H3 C a l dx xs → KepX T a H H3 → Q .non H3) ∧ (stampsV xs = false → ∀ H3, Kep T H H3 → E (.ref D) none H3))
    lk hcd scInit StX.cxUp (StX.bind_star1 (B := fun us => bindArgs _ ⟨us, []⟩) (fun _ => rfl) (fun _ _ _ => rfl)) (fun A outer s H vs Q E hr h => ?_)
  · intro A outer s H us vs Q E hr e0 r h
    refine R A outer s H us vs Q E hr e0 r ?_
    obtain ⟨a, dx, xs, rfl, ha, hT, hn, hx, k1, k2⟩ := h
    have hz : xs.length ≤ sizeLine := Nat.le_trans hn (by decide)
    refine ⟨[.ref a], xs, rfl, rfl, hz, fun p hp => ?_⟩
    have hpT : p ∉ T := free_tab hT hp
    have kn : Kep T H (upd H p (.tup xs)) := Kep.new hT hp
    have hpa : a ≠ p := ne_of_none ha hp
    refine ⟨a, p, dx, xs, rfl, upd_same, (upd_ne hpa).trans ha, hpT, kn.1, hn, fun x hx' => ?_, fun hv H3 l hl hlT hla st kx => ?_, fun hv H3 k => k2 hv H3 (kn.trans k)⟩
    · rcases hx x hx' with z | ⟨z1, t, z2, z3⟩
      · exact .inl z
      · exact .inr ⟨z1, t, z2, fun H2 q => z3 H2 (kn.trans q)⟩
    · have hl' : H l = none := kn.free hT hl
      exact k1 hv H3 l hl' hlT hla st ⟨kx.1, fun b o hb hba e => kx.2 b o hb hba (kn.2 b o hb e)⟩
  · obtain ⟨a, p, dx, xs, rfl, hp, ha, hpT, hT, hn, hx, k1, k2⟩ := h
    refine ⟨_, pss_cons (ps_if (pt_not (pt_val (pe_call (ok_are FA FT FL X B) hr (by rfl) X.gAre X.kAre (FA.toFun.binds fun _ _ _ _ _ _ us hl => match us, hl with | [_], _ => rfl) .nil L2.pass0 (pa_cons (pv 1) pa_nil))))
      (pss_one (ps_raise rfl (takes_of rfl rfl rfl rfl) (pmk_own PySem.F.excBase_ValueError Er.e Er.g Er.k (raises_own Er.b Er.t) (by rfl)))) pss_nil)
      (pss_one (ps_fld (pv 0) (pe_callTy call_list_of (by rfl) X.lst (by decide +kernel) (pa_cons (pv 1) pa_nil)) (by rfl))), ?_⟩
    refine ⟨_, rfl, p, xs, rfl, hT, .inl (.inl hp), hn, fun x hx' => ?_, fun H2 h2 => ⟨_, rfl, ?_⟩⟩
    · rcases hx x hx' with z | ⟨z1, t, z2, z3⟩
      · exact .inl z
      · exact .inr ⟨z1, t, z2, fun H2 q => z3 H2 q.kep⟩
    have hp2 : H2 p = some (.tup xs) := h2.kep.at hT hp fun _ z => by cases z
    have ha2 : H2 a = some (.ins C dx []) := h2.kep.at hT ha fun _ z => by cases z
    cases hv : stampsV xs with
    | false => exact iteT (k2 hv H2 h2.kep)
    | true =>
      refine iteF ?_
      refine ⟨_, rfl, p, xs, rfl, .inr (.inl (.inl hp2)), fun l hl => ⟨_, rfl, a, C, dx, [], rfl, ?_, O.cls, O.noW, by decide, ?_⟩⟩
      · exact (upd_ne (ne_of_none ha2 hl)).trans ha2
      · have hla : l ≠ a := fun z => by rw [z, ha2] at hl; cases hl
        have hlT : l ∉ T := free_tab h2.1 hl
        have haT : a ∉ T := not_tab hT ha fun _ z => by cases z
        refine k1 hv _ l (h2.kep.free hT hl) hlT hla ⟨upd_same, (upd_ne hla).trans upd_same⟩ ⟨fun q hq => ?_, fun b o hb hba e => ?_⟩
        · obtain ⟨ps, h1, h2'⟩ := h2.1 q hq
          exact ⟨ps, (upd_ne (show q ≠ a from fun z => haT (z ▸ hq))).trans ((upd_ne (show q ≠ l from fun z => hlT (z ▸ hq))).trans h1), h2'⟩
        · have e2 := h2.kep.2 b o hb e
          exact (upd_ne hba).trans ((upd_ne (ne_of_none e2 hl)).trans e2)
theorem KepX.kep {H H1 H3 : Hp} {a : Addr} (k : Kep T H H1) (ha : H a = none) (x : KepX T a H1 H3) : Kep T H H3 := ⟨x.1, fun b o hb e => x.2 b o hb (ne_of_none e ha) (k.2 b o hb e)⟩
theorem Wd.kep {H H1 : Hp} {x : V} (k : Kep T H H1) (h : Wd K T H x) : Wd K T H1 x := by
  rcases h with z | ⟨z1, t, z2, z3⟩
  · exact .inl z
  · exact .inr ⟨z1, t, z2, fun H2 q => z3 H2 (k.trans q)⟩
/-- a new object with its dict -/
theorem Kep.made {H : Hp} {x dx C : Addr} (hT : ∀ p ∈ T, TabG H p) (hx : H x = none) (hdx : H dx = none) (hne : dx ≠ x) : Kep T H (upd (upd H dx (.own x)) x (.ins C dx [])) :=
  (Kep.new hT hdx).trans (Kep.new (Kep.new hT hdx).1 ((upd_ne hne.symm).trans hx))
/-- C(*xs) for stamps: what it asks -/
def Makes (K : PySem.W.Frag) (T : List Addr) (C D : Addr) (H : Hp) (xs : List V) (Q : VK) (E : XK) : Prop := (∀ p ∈ T, TabG H p) ∧ xs.length ≤ 4000 ∧ (∀ x ∈ xs, Wd K T H x) ∧
  (stampsV xs = true → ∀ H3 a l dx, H a = none → H l = none → H dx = none → a ∉ T → l ∉ T → Stp H3 C a l dx xs → Kep T H H3 → Q (.ref a) H3) ∧ (stampsV xs = false → ∀ H3, Kep T H H3 → E (.ref D) none H3)
theorem Makes.init {H : Hp} {xs : List V} {Q : VK} {E : XK} (m : Makes K T C D H xs Q E) {x dx : Addr} (hx : H x = none) (hdx : H dx = none) (hne : dx ≠ x) :
    spInit K T C D (V.ref x :: xs) (upd (upd H dx (.own x)) x (.ins C dx [])) (fun v H2 => v = .non ∧ Q (.ref x) H2) E := by
  obtain ⟨hT, hn, hw, k1, k2⟩ := m
  have kn : Kep T H (upd (upd H dx (.own x)) x (.ins C dx [])) := Kep.made hT hx hdx hne
  exact ⟨x, dx, xs, rfl, upd_same, kn.1, hn, fun y hy => (hw y hy).kep kn, fun hv H3 l hl hlT hla st kx => ⟨rfl, k1 hv H3 x l dx hx (kn.free hT hl) hdx (free_tab hT hx) hlT st (KepX.kep kn hx kx)⟩, fun hv H3 k => k2 hv H3 (kn.trans k)⟩
def spOf (K : PySem.W.Frag) (T : List Addr) (C D : Addr) : Sp := fun vs H Q E => ∃ y, vs = [V.ref C, y] ∧
  ((∃ p xs, y = V.ref p ∧ H p = some (.lst xs) ∧ Makes K T C D H xs Q E) ∨ (∃ t, TyX K H y t ∧ PySem.W.kitOne K t (.type "list") = some false ∧ E (.ref D) none H))
theorem scOf : FnScope ["cls", "words"] ["cls", "words"] (defScope sOf) := ⟨rfl, rfl, rfl, by decide +kernel, rfl, by decide +kernel, by decide +kernel⟩
theorem ok_of {f : Addr} {fd : FuncData} (F : L2.Fun K "of" "Stamps.of" sOf f fd) (FI : FnR P w K mg base (L2.CX P w) 6 fInit (spInit K T C D)) (M : Mk K C fInit) (X : Txt K mg C fLow fText fAre fTape fNext fInks) (Er : ErrC K mg "InvalidStamps" D) :
    FnOk P w K mg base (L2.CX P w) 8 f fd ["cls", "words"] (spOf K T C D) := by
  refine F.okX scOf (fun vs H Q E h => ?_) (fun cdv A outer s H vs Q E hr h => ?_)
  · obtain ⟨y, rfl, _⟩ := h
    rfl
  · obtain ⟨y, rfl, h⟩ := h
    refine ⟨_, pss_cons (ps_if (pt_not (pt_val (pe_callB call_isi (by rfl) X.isi boot_isinstance (pa_cons (pv 1) (pa_cons (pe_bltn (v := .ty "list") (by rfl) X.lst (by decide +kernel) rfl) pa_nil)))))
      (pss_one (ps_raise rfl (takes_of rfl rfl rfl rfl) (pmk_own PySem.F.excBase_ValueError Er.e Er.g Er.k (raises_own Er.b Er.t) (by rfl)))) pss_nil)
      (pss_one (ps_ret (pe_makeS M FI hr (passes_call (E := E) (takes_of rfl rfl rfl rfl) (fun _ _ _ _ h => h)) (pv 0) (pv 1)))), ?_⟩
    rcases h with ⟨p, xs, rfl, hp, m⟩ | ⟨t, ht, hk, he⟩
    · refine ⟨_, rfl, _, _, _, _, _, rfl, .ty _, .base (.lst hp), kit_ty (r := true) (by decide +kernel), true, rfl, iteF ?_⟩
      refine ⟨_, rfl, rfl, _, rfl, p, xs, rfl, .inr (.inl (.inl hp)), fun x dx hx hdx hne => m.init hx hdx hne⟩
    · refine ⟨_, rfl, _, _, _, _, _, rfl, .ty _, ht, hk, false, rfl, iteT ?_⟩
      exact he
end
/-! ### the law's tape -/
/-- a tape at t that was asked n times at most -/
def Tp (H : Hp) (t : Addr) (n : Nat) : Prop := ∃ a b c : Int, H t = some (.lst [.int a, .int b, .int c]) ∧ 0 ≤ a ∧ 0 ≤ b ∧ b < 10 ^ 40 ∧ 0 ≤ c ∧ c ≤ n
/-- all but the thing at t is as it was -/
def But (t : Addr) (H H' : Hp) : Prop := ∀ b, b ≠ t → H' b = H b
theorem But.put {H : Hp} {t : Addr} {o : HO} : But t H (upd H t o) := fun _ hb => upd_ne hb
theorem But.trans {H H1 H2 : Hp} {t : Addr} (a : But t H H1) (b : But t H1 H2) : But t H H2 := fun c hc => (b c hc).trans (a c hc)
def spTape (K : PySem.W.Frag) : Sp := fun vs H Q _ => ∃ (p : Addr) (ns : List Int) (k : Int), vs = [.ref p, .int k] ∧ SqL K H p (ns.map V.int) ∧ 0 ≤ k ∧ k ≤ 63 ∧ ∀ t H', H t = none → Tp H' t 0 → But t H H' → Q (.ref t) H'
def spNext : Sp := fun vs H Q _ => ∃ (t : Addr) (many : Int) (n : Nat), vs = [.ref t, .int many] ∧ Tp H t n ∧ n < 2 ^ 40 ∧ 0 < many ∧ many < 1000000 ∧ ∀ d H', 0 ≤ d → d < many → Tp H' t (n + 1) → But t H H' → Q (.int d) H'
section
variable {P : Program} {w : World} {K : PySem.W.Frag} {mg : Str → Option Value} {base : Heap} {T : List Addr} {C D fLow fText fAre fTape fNext fInks fInit cLow PLow cAre PAre : Addr}
theorem scTape : FnScope ["script", "k", "cell"] ["script", "k"] (defScope sTape) := ⟨rfl, rfl, rfl, by decide +kernel, rfl, by decide +kernel, by decide +kernel⟩
theorem ok_tape {f : Addr} {fd : FuncData} (F : L2.Fun K "_law_tape" "_law_tape" sTape f fd) (X : Txt K mg C fLow fText fAre fTape fNext fInks) : FnOk P w K mg base CX0 1 f fd ["script", "k"] (spTape K) := by
  refine F.ok scTape (fun vs H Q E h => ?_) (fun cdv A outer s H vs Q E hr h => ?_)
  · obtain ⟨p, ns, k, rfl, _⟩ := h
    rfl
  · obtain ⟨p, ns, k, rfl, hs, h0, h63, q⟩ := h
    refine ⟨_, C8.pss_cut (ps_set (i := 2) scTape.nd rfl (.inl rfl) (pe_ifExp (pt_cmpR op_lt (pv 1) (pe_callB call_len_seq (by rfl) X.len boot_len (pa_cons (pv 0) pa_nil)) (by rfl))
        (pe_callB call_abs (by rfl) X.abs (by decide +kernel) (pa_cons (pe_ix ix_seq (pv 0) (pv 1) fun _ _ => rfl) pa_nil)) pe_int))
      (pss_one (ps_ret (pe_lst (pa_cons (pe_callB (call_max2 rfl) (by rfl) X.max (by decide +kernel) (pa_cons pe_int (pa_cons (pe_op op_sub (pv 2) (pe_op op_pow pe_int pe_int)) pa_nil)))
        (pa_cons (pe_op op_add (pe_op op_mul (pe_op op_mod (pv 2) (pe_op op_add (pe_op op_pow pe_int pe_int) pe_int)) pe_int) (pv 1)) (pa_cons pe_int pa_nil)))))), ?_⟩
    refine ⟨fun σ' H' => H' = H ∧ ∃ cell : Int, 0 ≤ cell ∧ σ' = [some (.ref p), some (.int k), some (.int cell)], ?_, ?_⟩
    · refine ⟨_, rfl, _, rfl, p, _, rfl, .inl hs, _, _, rfl, rfl, _, rfl, ?_⟩
      rw [List.length_map]
      refine ite2 (fun hk => ?_) (fun hk => ?_)
      · have hk : k < (ns.length : Int) := by simpa using hk
        have hi : k.toNat < ns.length := by omega
        refine ⟨_, rfl, _, rfl, .inl ⟨p, _, k, .int ns[k.toNat], rfl, rfl, hs, ?_, _, rfl, rfl, _, ?_, rfl⟩⟩
        · have e : k = (k.toNat : Int) := by omega
          have z : atI (ns.map V.int) (k.toNat : Int) = some (.int ns[k.toNat]) := atI_nat (by rw [List.getElem?_map, List.getElem?_eq_getElem hi]; rfl)
          rw [← e] at z
          exact z
        · split <;> omega
      · exact ⟨rfl, 0, by decide, rfl⟩
    · rintro σ' H' ⟨rfl, cell, hc, rfl⟩
      refine ⟨_, rfl, _, _, rfl, rfl, ⟨by decide, by decide, by decide⟩, _, _, rfl, rfl, _, _, rfl, ?_⟩
      refine ⟨_, rfl, _, _, rfl, rfl, ⟨by decide, by decide, by decide⟩, _, _, rfl, rfl, _, _, rfl, rfl, (by decide : (0 : Int) < 10 ^ Int.toNat 37 + 43), _, _, rfl, rfl, .inr ⟨by decide, by decide⟩, _, rfl, _, _, rfl, rfl, ?_⟩
      refine ⟨(by decide : 3 ≤ sizeLine), fun t ht => q t _ ht ⟨_, _, _, upd_same, ?_, ?_, ?_, by decide, by decide⟩ But.put⟩
      · split <;> omega
      · show 0 ≤ cell % (10 ^ Int.toNat 37 + 43) * 83 + k
        have := Int.emod_nonneg cell (b := 10 ^ Int.toNat 37 + 43) (by decide)
        omega
      · show cell % (10 ^ Int.toNat 37 + 43) * 83 + k < 10 ^ 40
        have h1 := Int.emod_lt_of_pos cell (b := 10 ^ Int.toNat 37 + 43) (by decide)
        have e1 : (10 : Int) ^ Int.toNat 37 + 43 = 10000000000000000000000000000000000043 := by decide
        have e2 : (10 : Int) ^ 40 = 10000000000000000000000000000000000000000 := by decide
        rw [e1] at h1 ⊢
        rw [e2]
        omega
end
end Ov

set_option Elab.async false
set_option linter.all false
set_option maxRecDepth 100000
set_option maxHeartbeats 4000000
namespace Ov
open PySem PySem.Spec PyProof.Rows L2 GxR
section
variable {P : Program} {w : World} {K : PySem.W.Frag} {mg : Str → Option Value} {base : Heap} {T : List Addr} {C D fLow fText fAre fTape fNext fInks fInit cLow PLow cAre PAre : Addr}
theorem scNext : FnScope ["tape", "many", "digit", "mixed"] ["tape", "many"] (defScope sNext) := ⟨rfl, rfl, rfl, by decide +kernel, rfl, by decide +kernel, by decide +kernel⟩
theorem pow3_bits {x : Int} (h0 : 0 ≤ x) (h : x < 2 ^ 140) : CPowW x 3 := by
  refine ⟨by decide, ?_⟩
  have e : (2 : Int) ^ 140 = 1393796574908163946345982392040522594123776 := by decide
  have e2 : (2 : Nat) ^ 140 = 1393796574908163946345982392040522594123776 := by decide
  have hb : Builtin.Int.intBits x ≤ 140 := bits_le (by rw [e2]; omega) (by decide)
  have e3 : (2 : Int) ^ 27 = 134217728 := by decide
  rw [e3]
  omega
theorem ok_next {f : Addr} {fd : FuncData} (F : L2.Fun K "_law_next" "_law_next" sNext f fd) (X : Txt K mg C fLow fText fAre fTape fNext fInks) : FnOk P w K mg base CX0 1 f fd ["tape", "many"] spNext := by
  refine F.ok scNext (fun vs H Q E h => ?_) (fun cdv A outer s H vs Q E hr h => ?_)
  · obtain ⟨t, m, n, rfl, _⟩ := h
    rfl
  · obtain ⟨t, m, n, rfl, ⟨a, b, c, ht, ha, hb, hb2, hc, hcn⟩, hn, hm, hm2, q⟩ := h
    refine ⟨_, pss_cons (ps_if (pt_cmpR op_gt (pe_ix ix_seq (pv 0) pe_int fun _ _ => rfl) pe_int (by rfl))
        (pss_cons (ps_set (i := 2) scNext.nd rfl (.inl rfl) (pe_op op_mod (pe_ix ix_seq (pv 0) pe_int fun _ _ => rfl) (pv 1)))
          (pss_cons (ps_asg (pe_op op_fdiv (pe_ix ix_seq (pv 0) pe_int fun _ _ => rfl) (pv 1)) (pg_sub (pv 0) pe_int set_list)) (pss_one (ps_ret (pv 2))))) pss_nil)
      (pss_cons (ps_asg (pe_op op_add (pe_ix ix_seq (pv 0) pe_int fun _ _ => rfl) pe_int) (pg_sub (pv 0) pe_int set_list))
      (pss_cons (ps_set (i := 3) scNext.nd rfl (.inl rfl) (pe_op op_mod (pe_op op_powW (pe_op op_add (pe_ix ix_seq (pv 0) pe_int fun _ _ => rfl) (pe_op op_mul pe_int (pe_ix ix_seq (pv 0) pe_int fun _ _ => rfl))) pe_int) (pe_op op_add (pe_op op_pow pe_int pe_int) pe_int)))
      (pss_cons (ps_set (i := 3) scNext.nd rfl (.inl rfl) (pe_op op_mod (pe_op op_powW (pe_op op_add (pv 3) (pe_op op_mul pe_int (pe_ix ix_seq (pv 0) pe_int fun _ _ => rfl))) pe_int) (pe_op op_add (pe_op op_pow pe_int pe_int) pe_int)))
      (pss_one (ps_ret (pe_op op_mod (pe_op op_fdiv (pv 3) pe_int) (pv 1))))))), ?_⟩
    have at0 : ∀ {x y z : V}, atI [x, y, z] 0 = some x := fun {x y z} => by simp [atI, ixN]
    have at1 : ∀ {x y z : V}, atI [x, y, z] 1 = some y := fun {x y z} => by simp [atI, ixN]
    have at2 : ∀ {x y z : V}, atI [x, y, z] 2 = some z := fun {x y z} => by simp [atI, ixN]
    refine ⟨_, rfl, .inl ⟨t, _, 0, .int a, rfl, rfl, .inl (.inl ht), at0, _, _, rfl, rfl, _, rfl, ?_⟩⟩
    refine ite2 (fun hk => ?_) (fun hk => ?_)
    · refine ⟨_, rfl, .inl ⟨t, _, 0, .int a, rfl, rfl, .inl (.inl ht), at0, _, rfl, _, _, rfl, rfl, hm, ?_⟩⟩
      refine ⟨_, rfl, .inl ⟨t, _, 0, .int a, rfl, rfl, .inl (.inl ht), at0, _, rfl, _, _, rfl, rfl, ⟨hm, by omega⟩, ?_⟩⟩
      refine ⟨_, rfl, t, _, 0, 0, rfl, rfl, ht, by simp [ixN], _, rfl, ?_⟩
      exact q _ _ (Int.emod_nonneg _ (by omega)) (Int.emod_lt_of_pos _ hm) ⟨_, _, _, upd_same, Int.ediv_nonneg ha (by omega), hb, hb2, hc, by omega⟩ But.put
    · refine ⟨_, rfl, .inl ⟨t, _, 2, .int c, rfl, rfl, .inl (.inl ht), at2, _, _, rfl, rfl, ?_⟩⟩
      refine ⟨_, rfl, t, _, 2, 2, rfl, rfl, ht, by simp [ixN], ?_⟩
      have h2 : upd H t (.lst [.int a, .int b, .int (c + 1)]) t = some (.lst [.int a, .int b, .int (c + 1)]) := upd_same
      have e40 : (10 : Int) ^ 40 = 10000000000000000000000000000000000000000 := by decide
      have e140 : (2 : Int) ^ 140 = 1393796574908163946345982392040522594123776 := by decide
      have en : (2 : Nat) ^ 40 = 1099511627776 := by decide
      rw [en] at hn
      rw [e40] at hb2
      refine ⟨_, rfl, .inl ⟨t, _, 1, .int b, rfl, rfl, .inl (.inl h2), at1, _, rfl, .inl ⟨t, _, 2, .int (c + 1), rfl, rfl, .inl (.inl h2), at2, _, _, rfl, rfl, .inl ⟨by decide, by decide⟩, _, _, rfl, rfl, ?_⟩⟩⟩
      refine ⟨_, _, rfl, rfl, pow3_bits (by omega) (by rw [e140]; omega), _, _, rfl, rfl, ⟨by decide, by decide, by decide⟩, _, _, rfl, rfl, _, _, rfl, rfl, (by decide : (0 : Int) < 10 ^ Int.toNat 40 + 121), ?_⟩
      generalize hm1 : ((b + 32416187567 * (c + 1)) ^ Int.toNat 3) % (10 ^ Int.toNat 40 + 121) = m1
      have m1a : 0 ≤ m1 := by rw [← hm1]; exact Int.emod_nonneg _ (by decide)
      have m1b : m1 < 10000000000000000000000000000000000000121 := by
        rw [← hm1]
        exact Int.emod_lt_of_pos _ (by decide)
      refine ⟨_, rfl, _, rfl, .inl ⟨t, _, 2, .int (c + 1), rfl, rfl, .inl (.inl h2), at2, _, _, rfl, rfl, .inl ⟨by decide, by decide⟩, _, _, rfl, rfl, ?_⟩⟩
      refine ⟨_, _, rfl, rfl, pow3_bits (by omega) (by rw [e140]; omega), _, _, rfl, rfl, ⟨by decide, by decide, by decide⟩, _, _, rfl, rfl, _, _, rfl, rfl, (by decide : (0 : Int) < 10 ^ Int.toNat 39 + 3), ?_⟩
      generalize ((m1 + 27644437 * (c + 1)) ^ Int.toNat 3) % (10 ^ Int.toNat 39 + 3) = m2
      refine ⟨_, rfl, _, _, rfl, rfl, ⟨by decide, by decide⟩, _, rfl, _, _, rfl, rfl, hm, ?_⟩
      exact q _ _ (Int.emod_nonneg _ (by omega)) (Int.emod_lt_of_pos _ hm) ⟨_, _, _, upd_same, ha, hb, by rw [e40]; exact hb2, by omega, by omega⟩ But.put
end
end Ov

set_option Elab.async false
set_option linter.all false
set_option maxRecDepth 100000
set_option maxHeartbeats 4000000
namespace Ov
open PySem PySem.Spec PyProof.Rows L2 GxR
/-- what stood stands, but for the thing at t -/
def Bt (t : Addr) (H H' : Hp) : Prop := ∀ b o, b ≠ t → H b = some o → H' b = some o
theorem Bt.refl {t : Addr} {H : Hp} : Bt t H H := fun _ _ _ h => h
theorem Bt.trans {t : Addr} {H H1 H2 : Hp} (a : Bt t H H1) (b : Bt t H1 H2) : Bt t H H2 := fun c o hc e => b c o hc (a c o hc e)
theorem But.bt {t : Addr} {H H1 : Hp} (a : But t H H1) : Bt t H H1 := fun c o hc e => (a c hc).trans e
theorem Bt.new {t : Addr} {H : Hp} {p : Addr} {o : HO} (e : H p = none) : Bt t H (upd H p o) := fun b u _ hb => (upd_ne (ne_of_none hb e)).trans hb
theorem Bt.put {t : Addr} {H H1 : Hp} {p : Addr} {o : HO} (a : Bt t H H1) (e : H p = none) : Bt t H (upd H1 p o) := fun b u hb hu => (upd_ne (ne_of_none hu e)).trans (a b u hb hu)
theorem Tp.at {t : Addr} {H H' : Hp} {n : Nat} (h : Tp H t n) (e : H' t = H t) : Tp H' t n := by
  obtain ⟨a, b, c, h1, h2⟩ := h
  exact ⟨a, b, c, e.trans h1, h2⟩
theorem Tp.new {t : Addr} {H : Hp} {n : Nat} {p : Addr} {o : HO} (h : Tp H t n) (e : H p = none) : Tp (upd H p o) t n := h.at (by
  obtain ⟨a, b, c, h1, h2⟩ := h
  exact upd_ne (ne_of_none h1 e))
theorem Tp.ne {t : Addr} {H : Hp} {n : Nat} {p : Addr} (h : Tp H t n) (e : H p = none) : t ≠ p := by
  obtain ⟨a, b, c, h1, h2⟩ := h
  exact ne_of_none h1 e
theorem Tp.mono {t : Addr} {H : Hp} {n m : Nat} (h : Tp H t n) (e : n ≤ m) : Tp H t m := by
  obtain ⟨a, b, c, h1, h2, h3, h4, h5, h6⟩ := h
  exact ⟨a, b, c, h1, h2, h3, h4, h5, by omega⟩
theorem Bt.free {t : Addr} {H H1 : Hp} (a : Bt t H H1) {p : Addr} (hp : p ≠ t) (e : H1 p = none) : H p = none := by
  cases q : H p with
  | none => rfl
  | some o => rw [a p o hp q] at e; cases e
def lowL (l : List Nat) : Bool := l.all fun c => decide (97 ≤ c) && decide (c ≤ 122)
theorem join_nil : ∀ ls : List (List Nat), TL.joinL [] ls = ls.flatten
  | [] => rfl
  | [p] => by simp [TL.joinL]
  | p :: q :: r => by
    have := join_nil (q :: r)
    simp only [TL.joinL, List.nil_append, this, List.flatten_cons]
theorem join_cps (e : Str) (he : e.cps.toList = []) (ys : List Str) : (Txt.join e ys).cps.toList = (ys.map fun z => z.cps.toList).flatten := by
  show (Builtin.Str.glued e ys).cps.toList = _
  rw [StrLaws.glued_eq_join]
  have := TL.tl_join e ys
  unfold TL.tl at this
  rw [this, he, join_nil]
/-- one lowercase letter -/
def One (z : Str) : Prop := ∃ c, z.cps.toList = [c] ∧ 97 ≤ c ∧ c ≤ 122
theorem join_ones (e : Str) (he : e.cps.toList = []) : ∀ ys : List Str, (∀ z ∈ ys, One z) → (Txt.join e ys).length = ys.length ∧ lowB (Txt.join e ys) = true := by
  intro ys h
  have key : ((ys.map fun z => z.cps.toList).flatten).length = ys.length ∧ ((ys.map fun z => z.cps.toList).flatten).all (fun c => decide (97 ≤ c) && decide (c ≤ 122)) = true := by
    induction ys with
    | nil => exact ⟨rfl, rfl⟩
    | cons z r ih =>
      obtain ⟨i1, i2⟩ := ih fun y hy => h y (List.mem_cons_of_mem _ hy)
      obtain ⟨c, hc, h1, h2⟩ := h z List.mem_cons_self
      simp only [List.map_cons, List.flatten_cons, hc, List.length_append, List.all_append, i1, i2]
      refine ⟨by simp; omega, by simp [h1, h2]⟩
  rw [← join_cps e he] at key
  refine ⟨?_, key.2⟩
  rw [← key.1]
  simp [Str.length]
def spInks (K : PySem.W.Frag) : Sp := fun vs H Q _ => ∃ (t : Addr) (most : Int) (n : Nat), vs = [.ref t, .int most] ∧ Tp H t n ∧ n + 60 < 2 ^ 40 ∧ 0 < most ∧ most ≤ 8 ∧
  ∀ (l : Addr) (ws : List Str) H', H l = none → H' l = some (.lst (ws.map V.str)) → stampsV (ws.map V.str) = true → Tp H' t (n + 60) → Bt t H H' → Q (.ref l) H'
section
variable {P : Program} {w : World} {K : PySem.W.Frag} {mg : Str → Option Value} {base : Heap} {T : List Addr} {C D fLow fText fAre fTape fNext fInks fInit cLow PLow cAre PAre : Addr}
theorem pool_at (d : Int) (h0 : 0 ≤ d) (h4 : d < 4) : ∃ z : Str, atI [V.str "ab", V.str "abc", V.str "aab", V.str "abcdefghijklmnopqrstuvwxyz"] d = some (.str z) ∧ 1 ≤ z.length ∧ z.length ≤ 26 ∧ lowB z = true := by
  have : d = 0 ∨ d = 1 ∨ d = 2 ∨ d = 3 := by omega
  rcases this with rfl | rfl | rfl | rfl
  · exact ⟨"ab", by simp [atI, ixN], by decide +kernel, by decide +kernel, by decide +kernel⟩
  · exact ⟨"abc", by simp [atI, ixN], by decide +kernel, by decide +kernel, by decide +kernel⟩
  · exact ⟨"aab", by simp [atI, ixN], by decide +kernel, by decide +kernel, by decide +kernel⟩
  · exact ⟨"abcdefghijklmnopqrstuvwxyz", by simp [atI, ixN], by decide +kernel, by decide +kernel, by decide +kernel⟩
theorem pool_ch {z : Str} (hl : lowB z = true) {d : Int} (h0 : 0 ≤ d) (hd : d < z.length) : ∃ c, atI z.cps.toList d = some c ∧ One ⟨#[c]⟩ := by
  have hk : d.toNat < z.cps.toList.length := by
    have : z.cps.toList.length = z.length := by simp [Str.length]
    omega
  have e : d = (d.toNat : Int) := by omega
  have z1 : atI z.cps.toList (d.toNat : Int) = some z.cps.toList[d.toNat] := atI_nat (List.getElem?_eq_getElem hk)
  rw [← e] at z1
  have := List.all_eq_true.mp hl _ (List.getElem_mem hk)
  simp only [Bool.and_eq_true, decide_eq_true_eq] at this
  exact ⟨_, z1, _, rfl, this.1, this.2⟩
/-- the words made so far -/
structure Ws (W : Nat) (i : Nat) (ws : List Str) : Prop where
  len : ws.length ≤ i
  some : 0 < i → 0 < ws.length
  nd : ws.Nodup
  all : ∀ z ∈ ws, z.length = W ∧ lowB z = true
theorem Ws.ok {W i : Nat} {ws : List Str} (h : Ws W i ws) (h1 : 1 ≤ W) (h8 : W ≤ 8) (hi : 0 < i) (hi6 : i ≤ 6) (h36 : W * i ≤ 36) : stampsV (ws.map V.str) = true := by
  have hl := h.some hi
  have hli := h.len
  have e : (ws.map V.str).map strV = ws := by rw [List.map_map]; exact List.map_id ws
  have hd : (ws.headD Str.empty).length = W := by
    cases ws with
    | nil => simp at hl
    | cons z r => exact (h.all z List.mem_cons_self).1
  unfold stampsV
  rw [e, List.length_map, decide_eq_true (by omega : 1 ≤ ws.length), decide_eq_true (by omega : ws.length ≤ 6), Bool.true_and, Bool.true_and, Bool.and_eq_true]
  refine ⟨?_, ?_⟩
  · rw [List.all_eq_true]
    intro x hx
    obtain ⟨z, hz, rfl⟩ := List.mem_map.mp hx
    obtain ⟨q1, q2⟩ := h.all z hz
    show textB z 8 = true
    unfold textB
    rw [q2, q1]
    simp
    omega
  · unfold tailB
    rw [hd, Bool.and_eq_true, Bool.and_eq_true]
    refine ⟨?_, decide_eq_true ((once_nodup ws).mpr h.nd), decide_eq_true ?_⟩
    · rw [List.all_eq_true]
      intro z hz
      exact decide_eq_true (h.all z hz).1
    · exact Nat.le_trans (Nat.mul_le_mul_left W hli) h36
theorem inV_str (z : Str) (ws : List Str) : inV (.str z) (ws.map V.str) = true ↔ z ∈ ws := by
  unfold inV
  rw [List.any_map, List.any_eq_true]
  constructor
  · rintro ⟨y, hy, e⟩
    have : y = z := by simpa [eqV] using e
    exact this ▸ hy
  · intro h
    exact ⟨z, h, by simp [eqV]⟩
abbrev NInks : List Str := ["tape", "most", "width", "pool", "found", "turn", "ink", "spot"]
theorem scInks : FnScope NInks ["tape", "most"] (defScope sInks) := ⟨rfl, rfl, rfl, by decide +kernel, rfl, by decide +kernel, by decide +kernel⟩
theorem pe_next {X : Cx} {f : Addr} {fd : FuncData} (F : FnOk X.prog X.w X.K X.mg X.base CX0 1 f fd ["tape", "many"] spNext) (hb : Binds X.K fd ["tape", "many"] []) (hr : Room 1 X.A) (hg : Gl X "_law_next") (hm : X.mg "_law_next" = some (.ref f)) (hk : PySem.W.keepIn X.K (.ref f) = true)
    {e1 e2 : Expr} {p pos : Pos} {ta : TA} (ha : PA X [e1, e2] ta) (he : starEach [e1, e2] X.env = (false, eval e1 X.env) :: starEach [e2] X.env := by rfl) (hpl : (backTo pos (starEach [e2] X.env)).any (·.1) = false := by rfl) : PE X (.Call (.Name "_law_next" p) [e1, e2] [] pos) (tCall spNext [] E0 ta) :=
  pe_call F hr hg hm hk hb .nil L2.pass0 ha (by decide) he hpl
theorem ok_inks {f : Addr} {fd fdN : FuncData} (F : L2.Fun K "_law_inks" "_law_inks" sInks f fd) (FN : L2.Fun K "_law_next" "_law_next" sNext fNext fdN) (X : Txt K mg C fLow fText fAre fTape fNext fInks) : FnOk P w K mg base CX0 2 f fd ["tape", "most"] (spInks K) := by
  have N1 : FnOk P w K mg base CX0 1 fNext fdN ["tape", "many"] spNext := ok_next FN X
  have bN : Binds K fdN ["tape", "many"] [] := FN.binds fun _ _ _ _ _ _ us hl => match us, hl with | [_, _], _ => rfl
  refine F.ok scInks (fun vs H Q E h => ?_) (fun cdv A outer s H vs Q E hr h => ?_)
  · obtain ⟨t, m, n, rfl, _⟩ := h
    rfl
  · obtain ⟨t, m, n, rfl, ht, hn, hm, hm8, q⟩ := h
    refine ⟨_, pss_cons (ps_set (i := 2) scInks.nd rfl (.inl rfl) (pe_op op_add pe_int (pe_next N1 bN hr (by rfl) X.gNext X.kNext (pa_cons (pv 0) (pa_cons (pv 1) pa_nil)))))
      (pss_cons (ps_set (i := 3) scInks.nd rfl (.inr rfl) (pe_ix ix_seq (pe_lst (pa_cons pe_str (pa_cons pe_str (pa_cons pe_str (pa_cons pe_str pa_nil))))) (pe_next N1 bN hr (by rfl) X.gNext X.kNext (pa_cons (pv 0) (pa_cons pe_int pa_nil))) fun _ _ => rfl))
      (pss_cons (ps_set (i := 4) scInks.nd rfl (.inl rfl) (pe_lst pa_nil))
      (pss_cons (ps_for PassesOwn.never rfl (pi_range1 (by rfl) X.rng (pa_cons (pe_op op_add pe_int (pe_next N1 bN hr (by rfl) X.gNext X.kNext (pa_cons (pv 0) (pa_cons (pe_callB (call_min2 rfl) (by rfl) X.min boot_min (pa_cons pe_int (pa_cons (pe_op op_fdiv pe_int (pv 2)) pa_nil))) pa_nil)))) pa_nil))
          (pg_name (i := 5) scInks.nd rfl (Or.inl rfl))
        (pss_cons (ps_set (i := 6) scInks.nd rfl (.inl rfl) (pe_join pe_str (pe_lc (own := [("spot", 7)]) (g := gName 7) (tt := tYes) (by rfl) scInks.nd (pi_range1 (by rfl) X.rng (pa_cons (pv 2) pa_nil)) (blkOk_by (own := [("spot", 7)]) (N := NInks) (sc := defScope sInks) (by decide +kernel))
            (fun _ _ _ _ _ => pg_name (i := 7) scInks.nd rfl (Or.inl rfl)) (fun _ _ _ _ _ => pts_nil)
            (fun s H C cl fp => pe_ix (show IxR _ (rIx K) from ix_seq) (pv 3) (pe_next N1 bN hr (by rfl) X.gNext X.kNext (pa_cons (pv 0) (pa_cons (pe_callB call_len_str (by rfl) X.len boot_len (pa_cons (pv 3) pa_nil)) pa_nil))) fun _ _ => rfl))))
          (pss_one (ps_if (pt_cmpR op_notIn_seq (pv 6) (pv 4) (by rfl)) (pss_one (ps_expr (pe_bm PySem.F.plainAttrs_list PySem.F.slot_list_append PySem.F.type_list_append mt_append (pv 4) (pa_cons (pv 6) pa_nil)))) pss_nil))))
      (pss_one (ps_ret (pv 4)))))), ?_⟩
    refine ⟨_, rfl, _, rfl, t, m, n, rfl, ht, by omega, hm, by omega, fun d1 H1 d10 d1m t1 b1 => ⟨_, _, rfl, rfl, ?_⟩⟩
    obtain ⟨W, hW⟩ : ∃ W : Nat, 1 + d1 = (W : Int) := ⟨(1 + d1).toNat, by omega⟩
    have W1 : 1 ≤ W := by omega
    have W8 : W ≤ 8 := by omega
    refine ⟨(by decide : 4 ≤ sizeLine), fun pl hpl => ?_⟩
    refine ⟨_, rfl, t, 4, n + 1, rfl, t1.new hpl, by omega, by decide, by decide, fun d2 H2 d20 d24 t2 b2 => ?_⟩
    obtain ⟨z, hz, z1, z26, zl⟩ := pool_at d2 d20 d24
    refine .inl ⟨pl, _, d2, .str z, rfl, rfl, .inl (.inl ((b2 pl (t1.ne hpl).symm).trans upd_same)), hz, ?_⟩
    refine ⟨(by decide : 0 ≤ sizeLine), fun fl hfl => ?_⟩
    have e36 : (36 : Int) / (1 + d1) = ((36 / W : Nat) : Int) := by rw [hW]; first | exact (Int.natCast_ediv 36 W).symm | exact (Int.ofNat_ediv 36 W).symm | rfl
    have w4 : 4 ≤ 36 / W := by
      have : W * 4 ≤ 36 := by omega
      exact (Nat.le_div_iff_mul_le (by omega)).mpr (by omega)
    have w36 : W * (36 / W) ≤ 36 := Nat.mul_div_le 36 W
    have M1 : (0 : Int) < (if (36 : Int) / (1 + d1) < 6 then (36 : Int) / (1 + d1) else 6) := by rw [e36]; split <;> omega
    have M6 : (if (36 : Int) / (1 + d1) < 6 then (36 : Int) / (1 + d1) else 6) ≤ 6 := by rw [e36]; split <;> omega
    have M36 : (if (36 : Int) / (1 + d1) < 6 then (36 : Int) / (1 + d1) else 6) ≤ ((36 / W : Nat) : Int) := by rw [e36]; split <;> omega
    refine ⟨_, rfl, _, rfl, _, _, rfl, rfl, ⟨by omega, by omega⟩, _, _, rfl, t, _, n + 2, rfl, t2.new hfl, by omega, M1, by omega, fun d3 H3 d30 d3m t3 b3 => ?_⟩
    generalize (if (36 : Int) / (1 + d1) < 6 then (36 : Int) / (1 + d1) else 6) = M at M1 M6 M36 d3m
    obtain ⟨R, hR⟩ : ∃ R : Nat, 1 + d3 = (R : Int) := ⟨(1 + d3).toNat, by omega⟩
    have R1 : 0 < R := by omega
    have R6 : R ≤ 6 := by omega
    have R36 : W * R ≤ 36 := Nat.le_trans (Nat.mul_le_mul_left W (by omega : R ≤ 36 / W)) w36
    refine ⟨_, _, rfl, rfl, _, rfl, by omega, by omega, ?_⟩
    have bt3 : Bt t H H3 := b1.bt.trans ((Bt.new hpl).trans (b2.bt.trans ((Bt.new hfl).trans b3.bt)))
    have flt : fl ≠ t := (t2.ne hfl).symm
    have hfl0 : H fl = none := (b1.bt.trans ((Bt.new hpl).trans b2.bt)).free flt hfl
    have zsz : z.length ≤ sizeLine := Nat.le_trans z26 (by decide)
    refine for_range (lo := 0) (n := (1 + d3).toNat) (fun i σ H' => ∃ v5 v6 ws, σ = [some (.ref t), some (.int m), some (.int (1 + d1)), some (.str z), some (.ref fl), v5, v6, none] ∧ H' fl = some (.lst (ws.map V.str)) ∧ Ws W i ws ∧ Tp H' t (n + 3 + i * W) ∧ Bt t H H')
      ⟨none, none, [], rfl, (b3 fl flt).trans upd_same, ⟨Nat.le_refl _, fun z => absurd z (Nat.lt_irrefl _), List.nodup_nil, fun z hz => by simp at hz⟩, t3.mono (by omega), bt3⟩ (fun i σ H4 hi hp => ?_) (fun σ H' hp => ?_)
    · obtain ⟨v5, v6, ws, rfl, hf4, hws, t4, bt4⟩ := hp
      have hiR : i < R := by omega
      have hiW : i * W ≤ 36 := Nat.le_trans (Nat.mul_le_mul_right W (by omega : i ≤ R)) (by rw [Nat.mul_comm]; exact R36)
      refine ⟨⟨_, rfl⟩, _, rfl, 1 + d1, rfl, by omega, by omega, fun D hD => ?_⟩
      have Dt : D ≠ t := (t4.ne hD).symm
      refine lc_range (lo := 0) (n := (1 + d1).toNat) (fun j H5 => ∃ ys : List Str, H5 D = some (.lst (ys.map V.str)) ∧ ys.length = j ∧ (∀ y ∈ ys, One y) ∧ Tp H5 t (n + 3 + i * W + j) ∧ Bt t H4 H5)
        ⟨[], upd_same, rfl, fun y hy => by simp at hy, t4.new hD, Bt.new hD⟩ (fun j H5 hj hp => ?_) (fun H5 hp => ?_)
      · obtain ⟨ys, hD5, hyl, hy1, t5, bt5⟩ := hp
        refine ⟨rfl, ?_⟩
        unfold tYes
        refine iteT' (b := true) rfl ?_
        refine ⟨_, rfl, _, rfl, _, rfl, z, rfl, zsz, t, z.length, n + 3 + i * W + j, rfl, t5, by omega, by omega, by omega, fun d H6 hd0 hdz t6 b6 => ?_⟩
        obtain ⟨c, hc, hone⟩ := pool_ch zl hd0 hdz
        have e6 : H6 D = some (.lst (ys.map V.str)) := (b6 D Dt).trans hD5
        refine .inr (.inr ⟨z, d, c, rfl, rfl, zsz, hc, ys.map V.str, e6, by rw [List.length_map, hyl]; exact Nat.lt_of_lt_of_le (by omega : j < 9) (by decide), ys ++ [⟨#[c]⟩], ?_, by simp [hyl], fun y hy => ?_, ?_, ?_⟩)
        · rw [List.map_append]; exact upd_same
        · rcases List.mem_append.mp hy with h | h
          · exact hy1 y h
          · rw [List.mem_singleton.mp h]; exact hone
        · exact t6.at (upd_ne Dt.symm)
        · exact (bt5.trans b6.bt).put hD
      · obtain ⟨ys, hD5, hyl, hy1, t5, bt5⟩ := hp
        obtain ⟨j1, j2⟩ := join_ones "" rfl ys hy1
        have ysum : ∀ ys : List Str, (∀ y ∈ ys, One y) → (ys.map (·.length)).sum = ys.length := fun ys h => by
          induction ys with
          | nil => rfl
          | cons y r ih =>
            obtain ⟨c, hc, _⟩ := h y List.mem_cons_self
            have e1 : y.length = 1 := by
              have : y.cps.toList.length = 1 := by rw [hc]; rfl
              simpa [Str.length] using this
            rw [List.map_cons, List.sum_cons, ih fun z hz => h z (List.mem_cons_of_mem _ hz), List.length_cons, e1]
            omega
        refine ⟨"", D, ys, rfl, rfl, .inl (.inl (.inl hD5)), ?_, ?_⟩
        · rw [ysum ys hy1]
          show ys.length + ys.length * 0 ≤ 16777216
          omega
        generalize hk : Txt.join ("" : Str) ys = ink at j1 j2
        have ilen : ink.length = W := by omega
        have hf5 : H5 fl = some (.lst (ws.map V.str)) := bt5 fl _ flt hf4
        refine ⟨_, rfl, _, rfl, fl, _, rfl, .inl (.inl (.inl hf5)), rfl, ?_, _, rfl, ?_⟩
        · rw [List.all_map]; exact List.all_eq_true.mpr fun _ _ => rfl
        · by_cases hin : ink ∈ ws
          · refine iteF' (by rw [(inV_str ink ws).mpr hin]; rfl) ?_
            refine ⟨_, _, ws, rfl, hf5, ⟨Nat.le_succ_of_le hws.len, fun _ => List.length_pos_of_mem hin, hws.nd, hws.all⟩, t5.mono ?_, bt4.trans bt5⟩
            rw [Nat.succ_mul]; omega
          · have hnin : inV (.str ink) (ws.map V.str) = false := by
              cases h : inV (.str ink) (ws.map V.str) with
              | false => rfl
              | true => exact absurd ((inV_str ink ws).mp h) hin
            refine iteT' (by rw [hnin]; rfl) ?_
            have wl := hws.len
            refine ⟨_, rfl, .inl ⟨rfl, _, .inl (.inl hf5)⟩, _, rfl, fl, _, _, rfl, rfl, hf5, by rw [List.length_map]; exact Nat.lt_of_lt_of_le (by omega : ws.length < 9) (by decide), ?_⟩
            refine ⟨_, _, ws ++ [ink], rfl, by rw [List.map_append]; exact upd_same, ⟨by rw [List.length_append, List.length_singleton]; omega, fun _ => by rw [List.length_append, List.length_singleton]; omega, ?_, fun y hy => ?_⟩, (t5.at (upd_ne flt.symm)).mono ?_, (bt4.trans bt5).put hfl0⟩
            · rw [List.nodup_append]
              exact ⟨hws.nd, by simp, fun a ha b hb e => hin (by rw [List.mem_singleton.mp hb] at e; exact e ▸ ha)⟩
            · rcases List.mem_append.mp hy with h | h
              · exact hws.all y h
              · rw [List.mem_singleton.mp h]; exact ⟨ilen, j2⟩
            · rw [Nat.succ_mul]; omega
    · obtain ⟨v5, v6, ws, rfl, hf4, hws, t4, bt4⟩ := hp
      refine ⟨_, rfl, ?_⟩
      refine q fl ws H' hfl0 hf4 (hws.ok W1 W8 (by omega) (by omega) ?_) (t4.mono ?_) bt4
      · have : (1 + d3).toNat = R := by omega
        rw [this]; exact R36
      · have : (1 + d3).toNat = R := by omega
        rw [this, Nat.mul_comm]; omega
end
end Ov

set_option Elab.async false
set_option linter.all false
set_option maxRecDepth 100000
set_option maxHeartbeats 4000000
namespace Ov
open PySem PySem.Spec PyProof.Rows L2 GxR
abbrev sStrip : Stmt := top 11
abbrev sOver : Stmt := top 13
abbrev sWords : Stmt := inClass (top 14) 3
abbrev sWidth : Stmt := inClass (top 14) 4
abbrev sCall : Stmt := inClass (top 14) 7
def dotsB (z : Str) : Bool := z.cps.toList.all fun c => c == 46 || (decide (97 ≤ c) && decide (c ≤ 122))
def stripB (z : Str) (m : Int) : Bool := decide (1 ≤ (z.length : Int)) && decide ((z.length : Int) ≤ m) && dotsB z
theorem low_dots (z : Str) : lowB (Txt.replace z "." "") = dotsB z := by
  have e := replace_strikes z 46
  have e2 : (("." : Str), ("" : Str)) = (⟨#[46]⟩, ⟨#[]⟩) := by decide +kernel
  rw [(Prod.mk.inj e2).1, (Prod.mk.inj e2).2]
  unfold lowB dotsB
  rw [e, List.all_filter]
  congr 1
  funext c
  by_cases h : c = 46
  · subst h; rfl
  · have h1 : (c != 46) = true := by simp [h]
    have h2 : (c == 46) = false := by simp [h]
    rw [h1, h2]; simp
/-- the names that these defs read at the top -/
structure Txt2 (K : PySem.W.Frag) (mg : Str → Option Value) (fStrip fOver : Addr) : Prop where
  gStrip : mg "is_strip" = some (.ref fStrip)
  kStrip : PySem.W.keepIn K (.ref fStrip) = true
  gOver : mg "over" = some (.ref fOver)
  kOver : PySem.W.keepIn K (.ref fOver) = true
  cells : ∃ t, mg "MOST_CELLS" = some (.int 120 t)
section
variable {P : Program} {w : World} {K : PySem.W.Frag} {mg : Str → Option Value} {base : Heap} {T : List Addr} {C D fLow fText fAre fTape fNext fInks fInit cLow PLow cAre PAre fStrip fOver pWi fWi DSp DSg : Addr}
def spStrip (K : PySem.W.Frag) (T : List Addr) : Sp := fun vs H Q _ => ∃ (x : V) (m : Int), vs = [x, .int m] ∧ (∀ p ∈ T, TabG H p) ∧
  ((∃ z : Str, x = .str z ∧ z.length ≤ 4000 ∧ ∀ H2, Tbs T H H2 → Q (.bl (stripB z m)) H2) ∨ (∃ t, TyX K H x t ∧ PySem.W.kitOne K t (.type "str") = some false ∧ Q (.bl false) H))
theorem scStrip : FnScope ["thing", "most"] ["thing", "most"] (defScope sStrip) := ⟨rfl, rfl, rfl, by decide +kernel, rfl, by decide +kernel, by decide +kernel⟩
theorem ok_strip {f : Addr} {fd fdL : FuncData} (F : L2.Fun K "is_strip" "is_strip" sStrip f fd) (FL : FunC K "is_lowercase" "is_lowercase" sLow fLow fdL cLow) (X : Txt K mg C fLow fText fAre fTape fNext fInks) (B : Tab base mg T cLow PLow cAre PAre) : FnOk P w K mg base CX0 3 f fd ["thing", "most"] (spStrip K T) := by
  obtain ⟨oc, od, kV, doc, pm, an, cdv, ct, osl, rfl, lk, hcd⟩ := F.ex
  refine fn_ofT lk hcd scStrip (by decide +kernel) (by decide) (fun vs H Q E h => ?_) (fun A outer s H vs Q E hr h => ?_)
  · obtain ⟨x, m, rfl, _⟩ := h
    rfl
  · obtain ⟨x, m, rfl, hT, k⟩ := h
    refine ⟨_, CwR.psst_one (CwR.pst_ret (pet_and (pe_callB call_isi (by rfl) X.isi boot_isinstance (pa_cons (pv 0) (pa_cons (pe_bltn (v := .ty "str") (by rfl) X.str PySem.Pv.boot_str rfl) pa_nil)))
      (pet_and (pe_chain op_le op_le pe_int (pe_callB call_len_str (by rfl) X.len boot_len (pa_cons (pv 0) pa_nil)) (pv 1))
        (pet_one (pet_call1 (ok_low FL X B) hr (by rfl) X.gLow X.kLow (FL.toFun.binds fun _ _ _ _ _ _ us hl => match us, hl with | [_], _ => rfl) L2.pass0 (CwR.pet_replC (y := ".") (z := "") (pv 0))))))), ?_⟩
    rcases k with ⟨z, rfl, hz, k⟩ | ⟨t, ht, hk, k⟩
    · have hzs : z.length ≤ sizeLine := Nat.le_trans hz (by decide)
      refine ⟨_, rfl, _, _, _, _, _, rfl, .ty _, .base (.str _), kit_ty (r := true) (by decide +kernel), true, rfl, ?_⟩
      refine iteT ?_
      refine ⟨_, rfl, z, rfl, hzs, _, _, rfl, rfl, _, rfl, ?_⟩
      by_cases h1 : 1 ≤ (z.length : Int)
      · refine iteT' (by simpa using h1) ?_
        refine ⟨_, rfl, _, _, rfl, rfl, _, rfl, ?_⟩
        by_cases h2 : (z.length : Int) ≤ m
        · refine iteT' (by simpa using h2) ?_
          refine ⟨_, rfl, z, rfl, ?_, Txt.replace z "." "", rfl, hT, fun H2 q => ?_⟩
          · have : (("" : Str)).length = 0 := rfl
            rw [this]
            omega
          · have := k H2 q
            unfold stripB at this
            rw [low_dots]
            simpa [h1, h2] using this
        · refine iteF' (by simpa using h2) ?_
          have := k H (.refl hT)
          unfold stripB at this
          simpa [h1, h2] using this
      · refine iteF' (by simpa using h1) ?_
        refine ⟨_, rfl, ?_⟩
        refine iteF ?_
        have := k H (.refl hT)
        unfold stripB at this
        simpa [h1] using this
    · refine ⟨_, rfl, _, _, _, _, _, rfl, .ty _, ht, hk, false, rfl, ?_⟩
      exact iteF k
/-- the strip after a stamping at p -/
def overS (z w : Str) (p : Nat) : Str := ⟨(z.cps.toList.take p ++ w.cps.toList ++ z.cps.toList.drop (p + w.length)).toArray⟩
theorem tl_len (z : Str) : z.cps.toList.length = z.length := by simp [Str.length]
theorem over_cut (z w : Str) (p : Nat) (h : p + w.length ≤ z.length) : (cutS z none (some (p : Int)) ++ w) ++ cutS z (some ((p : Int) + w.length)) none = overS z w p := by
  have e1 : cutS z none (some (p : Int)) = ⟨(z.cps.toList.take p).toArray⟩ := by
    unfold cutS
    rw [HT.sIx_none, HT.sIx_nat, Nat.min_eq_left (by omega : p ≤ z.length), List.drop_zero, Nat.sub_zero]
  have e2 : cutS z (some ((p : Int) + w.length)) none = ⟨(z.cps.toList.drop (p + w.length)).toArray⟩ := by
    unfold cutS
    have : ((p : Int) + w.length) = ((p + w.length : Nat) : Int) := by omega
    rw [this, HT.sIx_none, HT.sIx_nat, Nat.min_eq_left h, List.take_of_length_le (by rw [List.length_drop, tl_len]; omega)]
  rw [e1, e2]
  show (⟨((z.cps.toList.take p).toArray ++ w.cps) ++ (z.cps.toList.drop (p + w.length)).toArray⟩ : Str) = overS z w p
  unfold overS
  congr 1
  apply Array.ext'
  simp
theorem overS_len (z w : Str) (p : Nat) (h : p + w.length ≤ z.length) : (overS z w p).length = z.length := by
  show ((z.cps.toList.take p ++ w.cps.toList ++ z.cps.toList.drop (p + w.length)).toArray).size = z.length
  rw [List.size_toArray, List.length_append, List.length_append, List.length_take, List.length_drop, tl_len, tl_len]
  omega
def spOver : Sp := fun vs H Q _ => ∃ (z u : Str) (p : Nat), vs = [.str z, .str u, .int (p : Nat)] ∧ p + u.length ≤ z.length ∧ z.length ≤ 4000 ∧ Q (.str (overS z u p)) H
theorem scOver : FnScope ["strip", "letters", "place"] ["strip", "letters", "place"] (defScope sOver) := ⟨rfl, rfl, rfl, by decide +kernel, rfl, by decide +kernel, by decide +kernel⟩
theorem ok_over {f : Addr} {fd : FuncData} (F : L2.Fun K "over" "over" sOver f fd) (X : Txt K mg C fLow fText fAre fTape fNext fInks) : FnOk P w K mg base CX0 1 f fd ["strip", "letters", "place"] spOver := by
  refine F.ok scOver (fun vs H Q E h => ?_) (fun cdv A outer s H vs Q E hr h => ?_)
  · obtain ⟨z, u, p, rfl, _⟩ := h
    rfl
  · obtain ⟨z, u, p, rfl, hp, hz, q⟩ := h
    have hzs : z.length ≤ sizeLine := Nat.le_trans hz (by decide)
    have hus : u.length ≤ sizeLine := Nat.le_trans (by omega : u.length ≤ z.length) hzs
    refine ⟨_, pss_one (ps_ret (pe_op op_add_str (pe_op op_add_str (pe_slice sl_str (pv 0) po_none (po_some (pv 2))) (pv 1)) (pe_slice sl_str (pv 0) (po_some (pe_op op_add (pv 2) (pe_callB call_len_str (by rfl) X.len boot_len (pa_cons (pv 1) pa_nil)))) po_none))), ?_⟩
    refine ⟨_, rfl, _, rfl, _, rfl, z, rfl, hzs, _, rfl, _, _, rfl, rfl, ?_, _, rfl, _, rfl, _, rfl, u, rfl, hus, _, _, rfl, rfl, _, rfl, z, rfl, hzs, _, _, rfl, rfl, ?_, ?_⟩
    · have := cutS_length z none (some (p : Int))
      rw [sizeLine_eq]; omega
    · have h1 := cutS_length z none (some (p : Int))
      have h2 := cutS_length z (some ((p : Int) + u.length)) none
      have h3 : (cutS z none (some (p : Int)) ++ u).length = (cutS z none (some (p : Int))).length + u.length := by
        show ((cutS z none (some (p : Int))).cps ++ u.cps).size = _
        rw [Array.size_append]; rfl
      rw [sizeLine_eq, h3]
      omega
    · have := over_cut z u p hp
      rw [this]
      exact q
end
end Ov

set_option Elab.async false
set_option linter.all false
set_option maxRecDepth 100000
set_option maxHeartbeats 4000000
namespace Ov
open PySem PySem.Spec PyProof.Rows L2 GxR
/-- words of stamps, their width -/
structure Good (ws : List Str) (W : Nat) : Prop where
  n1 : 1 ≤ ws.length
  n6 : ws.length ≤ 6
  w1 : 1 ≤ W
  w8 : W ≤ 8
  all : ∀ z ∈ ws, z.length = W ∧ lowB z = true
theorem good_of {ws : List Str} (h : stampsV (ws.map V.str) = true) : ∃ W, Good ws W := by
  have e : (ws.map V.str).map strV = ws := by rw [List.map_map]; exact List.map_id ws
  unfold stampsV at h
  rw [e] at h
  simp only [Bool.and_eq_true, decide_eq_true_eq, List.length_map] at h
  obtain ⟨h1, h2, h3, h4⟩ := h
  unfold tailB at h4
  simp only [Bool.and_eq_true] at h4
  have ta : ∀ z ∈ ws, textB z 8 = true := fun z hz => List.all_eq_true.mp h3 (.str z) (List.mem_map.mpr ⟨z, hz, rfl⟩)
  have la := List.all_eq_true.mp h4.1
  have hd : ∃ z, z ∈ ws ∧ ws.headD Str.empty = z := by
    cases ws with
    | nil => simp at h1
    | cons z r => exact ⟨z, List.mem_cons_self, rfl⟩
  obtain ⟨z0, hz0, e0⟩ := hd
  have t0 := ta z0 hz0
  unfold textB at t0
  simp only [Bool.and_eq_true, decide_eq_true_eq] at t0
  refine ⟨z0.length, h1, h2, by omega, by omega, fun z hz => ?_⟩
  have e1 := of_decide_eq_true (la z hz)
  rw [e0] at e1
  have t1 := ta z hz
  unfold textB at t1
  simp only [Bool.and_eq_true, decide_eq_true_eq] at t1
  exact ⟨e1, t1.2⟩
theorem Good.at {ws : List Str} {W : Nat} (g : Good ws W) {i : Nat} (hi : i < ws.length) : ws[i].length = W := (g.all _ (List.getElem_mem hi)).1
section
variable {P : Program} {w : World} {K : PySem.W.Frag} {mg : Str → Option Value} {base : Heap} {T : List Addr} {C D fLow fText fAre fTape fNext fInks fInit cLow PLow cAre PAre fStrip fOver pWi fWi pWo fWo fCl DSp DSg : Addr}
def spWidth (C : Addr) : Sp := fun vs H Q _ => ∃ (a l dx : Addr) (ws : List Str) (W : Nat), vs = [.ref a] ∧ Stp H C a l dx (ws.map V.str) ∧ Good ws W ∧ Q (.int (W : Nat)) H
theorem scSelf1 : FnScope ["self"] ["self"] (defScope sWidth) := ⟨rfl, rfl, rfl, by decide +kernel, rfl, by decide +kernel, by decide +kernel⟩
theorem scSelf2 : FnScope ["self"] ["self"] (defScope sWords) := ⟨rfl, rfl, rfl, by decide +kernel, rfl, by decide +kernel, by decide +kernel⟩
theorem at_0 {ws : List Str} (h : 1 ≤ ws.length) : atI (ws.map V.str) 0 = some (.str ws[0]) := by
  have h0 : (ws.map V.str)[0]? = some (.str ws[0]) := by rw [List.getElem?_map, List.getElem?_eq_getElem (by omega)]; rfl
  exact atI_nat (j := 0) h0
theorem at_i {ws : List Str} {i : Int} (h0 : 0 ≤ i) (h : i < ws.length) : atI (ws.map V.str) i = some (.str (ws.getD i.toNat Str.empty)) := by
  have hi : i.toNat < ws.length := by omega
  have h1 : (ws.map V.str)[i.toNat]? = some (.str (ws.getD i.toNat Str.empty)) := by
    rw [List.getElem?_map, List.getElem?_eq_getElem hi]
    simp [List.getD, hi]
  have e : i = (i.toNat : Int) := by omega
  have := atI_nat (j := i.toNat) h1
  rw [← e] at this
  exact this
theorem Good.get {ws : List Str} {W : Nat} (g : Good ws W) {i : Nat} (hi : i < ws.length) : (ws.getD i Str.empty).length = W ∧ lowB (ws.getD i Str.empty) = true := by
  have e : ws.getD i Str.empty = ws[i] := by simp [List.getD, hi]
  rw [e]
  exact g.all _ (List.getElem_mem hi)
theorem ok_width {f : Addr} {fd : FuncData} (F : L2.Fun K "width" "Stamps.width" sWidth f fd) (X : Txt K mg C fLow fText fAre fTape fNext fInks) (O : Own K C) : FnOk P w K mg base CX0 1 f fd ["self"] (spWidth C) := by
  refine F.ok scSelf1 (fun vs H Q E h => ?_) (fun cdv A outer s H vs Q E hr h => ?_)
  · obtain ⟨a, l, dx, ws, W, rfl, _⟩ := h
    rfl
  · obtain ⟨a, l, dx, ws, W, rfl, st, g, q⟩ := h
    refine ⟨_, pss_one (ps_ret (pe_callB call_len_str (by rfl) X.len boot_len (pa_cons (pe_ix ix_seq (pe_fld (pv 0) (by rfl)) pe_int fun _ _ => rfl) pa_nil))), ?_⟩
    have hl : 0 < ws.length := g.n1
    refine ⟨_, rfl, a, C, dx, _, _, rfl, st.1, O.cls, O.noW, rfl, .inl ⟨l, _, 0, .str ws[0], rfl, rfl, .inl (.inl st.2), at_0 g.n1, ws[0], rfl, ?_, ?_⟩⟩
    · rw [g.at hl]; exact Nat.le_trans g.w8 (by decide)
    · rw [g.at hl]; exact q
def spWords (C : Addr) : Sp := fun vs H Q _ => ∃ (a l dx : Addr) (xs : List V), vs = [.ref a] ∧ Stp H C a l dx xs ∧ ∀ p, H p = none → Q (.ref p) (upd H p (.lst xs))
theorem ok_words {f : Addr} {fd : FuncData} (F : L2.Fun K "words" "Stamps.words" sWords f fd) (X : Txt K mg C fLow fText fAre fTape fNext fInks) (O : Own K C) : FnOk P w K mg base CX0 1 f fd ["self"] (spWords C) := by
  refine F.ok scSelf2 (fun vs H Q E h => ?_) (fun cdv A outer s H vs Q E hr h => ?_)
  · obtain ⟨a, l, dx, xs, rfl, _⟩ := h
    rfl
  · obtain ⟨a, l, dx, xs, rfl, st, q⟩ := h
    refine ⟨_, pss_one (ps_ret (pe_callTy call_list_of (by rfl) X.lst (by decide +kernel) (pa_cons (pe_fld (pv 0) (by rfl)) pa_nil))), ?_⟩
    exact ⟨_, rfl, a, C, dx, _, _, rfl, st.1, O.cls, O.noW, rfl, l, xs, rfl, .inl (.inl (.inl st.2)), q⟩
/-- what a call of stamps gives: a strip, or the class of the error -/
inductive Called where
  | row (z : Str)
  | noStrip
  | noStamping
def calledS (ws : List Str) (W : Nat) (z : Str) (i at_ : Int) : Called :=
  if stripB z 120 = false then .noStrip else if 0 ≤ i ∧ i < ws.length ∧ 0 ≤ at_ ∧ at_ + W ≤ z.length then .row (overS z (ws.getD i.toNat Str.empty) at_.toNat) else .noStamping
def ans (c : Called) (DSp DSg : Addr) (H : Hp) (Q : VK) (E : XK) : Prop := match c with
  | .row z => Q (.str z) H
  | .noStrip => E (.ref DSp) none H
  | .noStamping => E (.ref DSg) none H
def spCall (K : PySem.W.Frag) (T : List Addr) (C DSp DSg : Addr) : Sp := fun vs H Q E => ∃ (a l dx : Addr) (ws : List Str) (W : Nat) (x : V) (i at_ : Int), vs = [.ref a, x, .int i, .int at_] ∧ Stp H C a l dx (ws.map V.str) ∧ Good ws W ∧ (∀ p ∈ T, TabG H p) ∧
  ((∃ z : Str, x = .str z ∧ z.length ≤ 4000 ∧ ∀ H2, Tbs T H H2 → ans (calledS ws W z i at_) DSp DSg H2 Q E) ∨ (∃ t, TyX K H x t ∧ PySem.W.kitOne K t (.type "str") = some false ∧ E (.ref DSp) none H))
theorem scCall : FnScope ["self", "strip", "word", "place"] ["self", "strip", "word", "place"] (defScope sCall) := ⟨rfl, rfl, rfl, by decide +kernel, rfl, by decide +kernel, by decide +kernel⟩
theorem ok_call {f : Addr} {fd fdS fdL fdO fdW : FuncData} (F : L2.Fun K "__call__" "Stamps.__call__" sCall f fd) (FS : L2.Fun K "is_strip" "is_strip" sStrip fStrip fdS) (FL : FunC K "is_lowercase" "is_lowercase" sLow fLow fdL cLow) (FO : L2.Fun K "over" "over" sOver fOver fdO) (FW : L2.Fun K "width" "Stamps.width" sWidth fWi fdW)
    (X : Txt K mg C fLow fText fAre fTape fNext fInks) (X2 : Txt2 K mg fStrip fOver) (B : Tab base mg T cLow PLow cAre PAre) (O : Own K C) (hp : PropOf K C "width" pWi fWi) (E1 : ErrC K mg "InvalidStrip" DSp) (E2 : ErrC K mg "InvalidStamping" DSg) :
    FnOk P w K mg base (L2.CX P w) 4 f fd ["self", "strip", "word", "place"] (spCall K T C DSp DSg) := by
  have SS : FnOk P w K mg base CX0 3 fStrip fdS ["thing", "most"] (spStrip K T) := ok_strip FS FL X B
  have bS : Binds K fdS ["thing", "most"] [] := FS.binds fun _ _ _ _ _ _ us hl => match us, hl with | [_, _], _ => rfl
  have OO : FnOk P w K mg base CX0 1 fOver fdO ["strip", "letters", "place"] spOver := ok_over FO X
  have bO : Binds K fdO ["strip", "letters", "place"] [] := FO.binds fun _ _ _ _ _ _ us hl => match us, hl with | [_, _, _], _ => rfl
  have WW : FnOk P w K mg base CX0 1 fWi fdW ["self"] (spWidth C) := ok_width FW X O
  have bW : Binds K fdW ["self"] [] := FW.binds fun _ _ _ _ _ _ us hl => match us, hl with | [_], _ => rfl
  obtain ⟨t120, g120⟩ := X2.cells
  refine F.okX scCall (fun vs H Q E h => ?_) (fun cdv A outer s H vs Q E hr h => ?_)
  · obtain ⟨a, l, dx, ws, W, x, i, at_, rfl, _⟩ := h
    rfl
  · obtain ⟨a, l, dx, ws, W, x, i, at_, rfl, st, g, hT, k⟩ := h
    refine ⟨_, pss_cons (ps_if (pt_not (pt_val (pe_call SS hr (by rfl) X2.gStrip X2.kStrip bS .nil L2.pass0 (pa_cons (pv 1) (pa_cons (pe_glob (v := .int 120) (by rfl) g120 ⟨_, rfl⟩) pa_nil))))) (pss_one (ps_raise rfl (takes_of rfl rfl rfl rfl) (pmk_own PySem.F.excBase_ValueError E1.e E1.g E1.k (raises_own E1.b E1.t) (by rfl)))) pss_nil)
      (pss_cons (ps_if (pt_not (pt_chain op_le op_lt pe_int (pv 2) (pe_callB call_len_seq (by rfl) X.len boot_len (pa_cons (pe_fld (pv 0) (by rfl)) pa_nil)))) (pss_one (ps_raise rfl (takes_of rfl rfl rfl rfl) (pmk_own PySem.F.excBase_ValueError E2.e E2.g E2.k (raises_own E2.b E2.t) (by rfl)))) pss_nil)
      (pss_cons (ps_if (pt_not (pt_chain op_le op_le pe_int (pv 3) (pe_op op_sub (pe_callB call_len_str (by rfl) X.len boot_len (pa_cons (pv 1) pa_nil)) (pe_propX (p := pWi) (pv 0) WW (hr.mono (by decide)) bW .nil L2.pass0)))) (pss_one (ps_raise rfl (takes_of rfl rfl rfl rfl) (pmk_own PySem.F.excBase_ValueError E2.e E2.g E2.k (raises_own E2.b E2.t) (by rfl)))) pss_nil)
      (pss_one (ps_ret (pe_call OO (hr.mono (by decide)) (by rfl) X2.gOver X2.kOver bO .nil L2.pass0 (pa_cons (pv 1) (pa_cons (pe_ix ix_seq (pe_fld (pv 0) (by rfl)) (pv 2) fun _ _ => rfl) (pa_cons (pv 3) pa_nil)))))))), ?_⟩
    rcases k with ⟨z, rfl, hz, k⟩ | ⟨t, ht, hk, k⟩
    · refine ⟨_, rfl, _, _, rfl, hT, .inl ⟨z, rfl, hz, fun H2 h2 => ⟨_, rfl, ?_⟩⟩⟩
      have kk := k H2 h2
      have st2 : Stp H2 C a l dx (ws.map V.str) := ⟨h2.kep.at hT st.1 fun _ z => (by cases z), h2.kep.at hT st.2 fun _ z => (by cases z)⟩
      unfold calledS at kk
      cases hs : stripB z 120 with
      | false =>
        rw [hs, if_pos rfl] at kk
        exact iteT kk
      | true =>
        rw [hs, if_neg (by decide)] at kk
        refine iteF ?_
        have hzs : z.length ≤ sizeLine := Nat.le_trans hz (by decide)
        have lws : (ws.map V.str).length = ws.length := List.length_map ..
        have no : ∀ {X : Prop}, ¬ (0 ≤ i ∧ i < ws.length ∧ 0 ≤ at_ ∧ at_ + W ≤ z.length) → (E (.ref DSg) none H2 → X) → X := fun h f => by
          rw [if_neg h] at kk
          exact f kk
        refine ⟨_, rfl, _, _, rfl, rfl, _, rfl, ?_⟩
        by_cases c1 : 0 ≤ i
        case neg =>
          refine iteF' (by simpa using c1) ⟨_, rfl, iteT ?_⟩
          exact no (fun h => c1 h.1) id
        refine iteT' (by simpa using c1) ⟨_, rfl, a, C, dx, _, _, rfl, st2.1, O.cls, O.noW, rfl, l, _, rfl, .inl (.inl (.inl st2.2)), _, _, rfl, rfl, _, rfl, ?_⟩
        by_cases c2 : i < ws.length
        case neg =>
          refine iteT' (by rw [lws]; simpa using c2) ?_
          exact no (fun h => c2 h.2.1) id
        refine iteF' (by rw [lws]; simpa using c2) ?_
        refine ⟨_, rfl, _, _, rfl, rfl, _, rfl, ?_⟩
        by_cases c3 : 0 ≤ at_
        case neg =>
          refine iteF' (by simpa using c3) ⟨_, rfl, iteT ?_⟩
          exact no (fun h => c3 h.2.2.1) id
        refine iteT' (by simpa using c3) ⟨_, rfl, z, rfl, hzs, _, rfl, a, C, dx, _, rfl, O.cls, hp, st2.1, ⟨a, l, dx, ws, W, rfl, st2, g, ?_⟩⟩
        refine ⟨_, _, rfl, rfl, _, _, rfl, rfl, _, rfl, ?_⟩
        by_cases c4 : at_ + W ≤ z.length
        case neg =>
          refine iteT' (by simp; omega) ?_
          exact no (fun h => c4 h.2.2.2) id
        refine iteF' (by simp; omega) ?_
        rw [if_pos ⟨c1, c2, c3, c4⟩] at kk
        obtain ⟨gl, _⟩ := g.get (i := i.toNat) (by omega)
        have ea : at_ = (at_.toNat : Int) := by omega
        refine ⟨_, rfl, _, rfl, a, C, dx, _, _, rfl, st2.1, O.cls, O.noW, rfl, _, rfl, .inl ⟨l, _, i, _, rfl, rfl, .inl (.inl st2.2), at_i c1 c2, _, rfl, ?_⟩⟩
        refine ⟨z, _, at_.toNat, by rw [← ea]; rfl, ?_, hz, kk⟩
        rw [gl]; omega
    · refine ⟨_, rfl, _, _, rfl, hT, .inr ⟨t, ht, hk, _, rfl, iteT k⟩⟩
end
end Ov

set_option Elab.async false
set_option linter.all false
set_option maxRecDepth 100000
set_option maxHeartbeats 4000000
namespace Ov
open PySem PySem.Spec PyProof.Rows L2 GxR
abbrev sLenI : Stmt := inClass (top 14) 5
abbrev sAdd : Stmt := inClass (top 14) 6
theorem pe_fldK {X : Cx} {K : PySem.W.Frag} (hK : X.K = K) {e : Expr} {f : Str} {ta : TE} {pos : Pos} (he : PE X e ta) (hb : attributeBase e f X.env (eval e X.env) = eval e X.env) : PE X (.Attribute e f pos) (tFld K ta f) := by subst hK; exact pe_fld he hb
structure InsU (K : PySem.W.Frag) (C : Addr) : Prop where
  ha : PySem.W.findIn K (.ref C) "__class__" = some (some (.builtin "object.__class__"))
  hn : PySem.W.specialIn K (.builtin "object.__class__") "__get__" = some (some (.builtin "getset_descriptor.__get__"))
  htk : PySem.W.takesIn K (.builtin "object.__class__") = some true
  hm : PySem.W.mroIn K C (.type "object") = some true
  kit : PySem.W.kitOne K (.ref C) (.ref C) = some true
def fresh (ws us : List Str) : List Str := us.filter fun z => !inV (.str z) (ws.map V.str)
def sumW (ws us : List Str) : List Str := ws ++ fresh ws us
section
variable {P : Program} {w : World} {K : PySem.W.Frag} {mg : Str → Option Value} {base : Heap} {T : List Addr} {C D fLow fText fAre fTape fNext fInks fInit cLow PLow cAre PAre fStrip fOver pWi fWi pWo fWo fCl DSp DSg : Addr}
def spLenI (C : Addr) : Sp := fun vs H Q _ => ∃ (a l dx : Addr) (xs : List V), vs = [.ref a] ∧ Stp H C a l dx xs ∧ Q (.int (xs.length : Nat)) H
theorem scSelf3 : FnScope ["self"] ["self"] (defScope sLenI) := ⟨rfl, rfl, rfl, by decide +kernel, rfl, by decide +kernel, by decide +kernel⟩
theorem ok_lenI {f : Addr} {fd : FuncData} (F : L2.Fun K "__len__" "Stamps.__len__" sLenI f fd) (X : Txt K mg C fLow fText fAre fTape fNext fInks) (O : Own K C) : FnOk P w K mg base CX0 1 f fd ["self"] (spLenI C) := by
  refine F.ok scSelf3 (fun vs H Q E h => ?_) (fun cdv A outer s H vs Q E hr h => ?_)
  · obtain ⟨a, l, dx, xs, rfl, _⟩ := h
    rfl
  · obtain ⟨a, l, dx, xs, rfl, st, q⟩ := h
    refine ⟨_, pss_one (ps_ret (pe_callB call_len_seq (by rfl) X.len boot_len (pa_cons (pe_fld (pv 0) (by rfl)) pa_nil))), ?_⟩
    exact ⟨_, rfl, a, C, dx, _, _, rfl, st.1, O.cls, O.noW, rfl, l, xs, rfl, .inl (.inl (.inl st.2)), q⟩
/-- one + other of stamps -/
def spAdd (K : PySem.W.Frag) (T : List Addr) (C D : Addr) : Sp := fun vs H Q E => ∃ (a l dx : Addr) (ws : List Str) (b m dy : Addr) (us : List Str), vs = [.ref a, .ref b] ∧ Stp H C a l dx (ws.map V.str) ∧ Stp H C b m dy (us.map V.str) ∧ (∀ p ∈ T, TabG H p) ∧
  ws.length ≤ 36 ∧ us.length ≤ 36 ∧ (∀ z ∈ sumW ws us, z.length ≤ 100) ∧
  (stampsV ((sumW ws us).map V.str) = true → ∀ H3 x k dz, H x = none → H k = none → x ∉ T → k ∉ T → Stp H3 C x k dz ((sumW ws us).map V.str) → Kep T H H3 → Q (.ref x) H3) ∧ (stampsV ((sumW ws us).map V.str) = false → ∀ H3, Kep T H H3 → E (.ref D) none H3)
abbrev NAdd : List Str := ["self", "other", "added", "words", "word"]
theorem scAdd : FnScope NAdd ["self", "other"] (defScope sAdd) := ⟨rfl, rfl, rfl, by decide +kernel, rfl, by decide +kernel, by decide +kernel⟩
theorem fresh_take {ws us : List Str} {j : Nat} {z : Str} (h : us[j]? = some z) : fresh ws (us.take (j + 1)) = if (!inV (.str z) (ws.map V.str)) = true then fresh ws (us.take j) ++ [z] else fresh ws (us.take j) := by
  unfold fresh
  rw [List.take_add_one, h, List.filter_append]
  by_cases c : (!inV (.str z) (ws.map V.str)) = true
  · rw [if_pos c]; simp at c; simp [c]
  · rw [if_neg c]; simp at c; simp [c]
theorem fresh_len (ws us : List Str) : (fresh ws us).length ≤ us.length := List.length_filter_le _ _
theorem flat_strs (ws : List Str) : (ws.map V.str).all flatV = true := by
  rw [List.all_map]; exact List.all_eq_true.mpr fun _ _ => rfl
theorem ok_add {f : Addr} {fd fdW : FuncData} (F : L2.Fun K "__add__" "Stamps.__add__" sAdd f fd) (FI : FnR P w K mg base (L2.CX P w) 6 fInit (spInit K T C D)) (FW : L2.Fun K "words" "Stamps.words" sWords fWo fdW) (M : Mk K C fInit)
    (X : Txt K mg C fLow fText fAre fTape fNext fInks) (O : Own K C) (hp : PropOf K C "words" pWo fWo) (IU : InsU K C) :
    FnOk P w K mg base (L2.CX P w) 8 f fd ["self", "other"] (spAdd K T C D) := by
  have WW : FnOk P w K mg base CX0 1 fWo fdW ["self"] (spWords C) := ok_words FW X O
  have bW : Binds K fdW ["self"] [] := FW.binds fun _ _ _ _ _ _ us hl => match us, hl with | [_], _ => rfl
  refine F.okX scAdd (fun vs H Q E h => ?_) (fun cdv A outer s H vs Q E hr h => ?_)
  · obtain ⟨a, l, dx, ws, b, m, dy, us, rfl, _⟩ := h
    rfl
  · obtain ⟨a, l, dx, ws, b, m, dy, us, rfl, sa, sb, hT, nw, nu, hz, k1, k2⟩ := h
    refine ⟨_, pss_cons (ps_if (pt_not (pt_val (pe_callB call_isi (by rfl) X.isi boot_isinstance (pa_cons (pv 1) (pa_cons (pe_glob (v := .ref C) (by rfl) X.gC rfl) pa_nil))))) pss_never pss_nil)
      (pss_cons (ps_setLc (i := 2) (own := [("word", 4)]) (g := gName 4) rfl scAdd.nd rfl rfl (sw_true rfl rfl rfl (by decide +kernel)) (pi_list (pe_propX (p := pWo) (pv 1) WW (hr.mono (by decide)) bW .nil L2.pass0)) (blkOk_by (own := [("word", 4)]) (N := NAdd) (sc := defScope sAdd) (by decide +kernel))
          (fun _ _ _ _ _ => pg_name (i := 4) scAdd.nd rfl (Or.inl rfl)) (fun _ _ _ _ _ => pts_one (pt_cmpR (show OpR _ _ (rIn K true) from op_notIn_seq) (pv 4) (pe_fldK (K := K) (by rfl) (pv 0) (by rfl)) (by rfl)))
          (fun _ _ _ _ _ => pv 4))
      (pss_cons (ps_set (i := 3) scAdd.nd rfl (.inl rfl) (pe_op op_cat (pe_propX (p := pWo) (pv 0) WW (hr.mono (by decide)) bW .nil L2.pass0) (pv 2)))
      (pss_one (ps_ret (pe_makeS M FI hr (passes_call (E := E) (takes_of rfl rfl rfl rfl) (fun _ _ _ _ h => h)) (pe_glob (v := .ref C) (by rfl) X.gC rfl) (pv 3)))))), ?_⟩
    have lT : l ∉ T := not_tab hT sa.2 fun _ z => by cases z
    have aT : a ∉ T := not_tab hT sa.1 fun _ z => by cases z
    refine ⟨_, rfl, _, _, _, _, _, rfl, .own _, .base (.ins sb.1 O.cls IU.ha IU.hn IU.htk IU.hm), IU.kit, true, rfl, iteF ?_⟩
    refine ⟨_, rfl, b, C, dy, _, rfl, O.cls, hp, sb.1, b, m, dy, us.map V.str, rfl, sb, fun q hq => ?_⟩
    have kq : Kep T H (upd H q (.lst (us.map V.str))) := Kep.new hT hq
    generalize hG : upd H q (.lst (us.map V.str)) = G at kq
    have Gq : G q = some (.lst (us.map V.str)) := by rw [← hG]; exact upd_same
    have qT : q ∉ T := free_tab hT hq
    refine ⟨q, rfl, ⟨_, .inl (.inl Gq)⟩, fun R hR => ?_⟩
    have RT : R ∉ T := free_tab kq.1 hR
    have RH : H R = none := kq.free hT hR
    refine lc_list (xs := us.map V.str) (fun j H5 => H5 R = some (.lst ((fresh ws (us.take j)).map V.str)) ∧ Kep T H H5 ∧ H5 q = some (.lst (us.map V.str))) ⟨upd_same, kq.trans (Kep.new kq.1 hR), (upd_ne (ne_of_none Gq hR)).trans Gq⟩ (fun j H5 _ p => .inl (.inl p.2.2)) (fun j x H5 hj p => ?_) (fun H5 p => ?_)
    · obtain ⟨hR5, k5, hq5⟩ := p
      rw [List.getElem?_map] at hj
      obtain ⟨z, hz5, rfl⟩ := Option.map_eq_some_iff.mp hj
      have ju : j < us.length := (List.getElem?_eq_some_iff.mp hz5).1
      refine ⟨rfl, ?_⟩
      refine ⟨_, rfl, ?_⟩
      refine ⟨_, rfl, a, C, dx, _, _, rfl, k5.at hT sa.1 (fun _ z => by cases z), O.cls, O.noW, rfl, l, _, rfl, .inl (.inl (.inl (k5.at hT sa.2 fun _ z => by cases z))), rfl, flat_strs ws, _, rfl, ?_⟩
      have ft := fresh_take (ws := ws) hz5
      show if (!inV (.str z) (ws.map V.str)) = true then _ else _
      by_cases c : (!inV (.str z) (ws.map V.str)) = true
      · rw [if_pos c] at ft ⊢
        refine ⟨_, rfl, _, hR5, ?_, ?_, Kep.put k5 RH RT, (upd_ne (ne_of_none Gq hR)).trans hq5⟩
        · rw [List.length_map]
          have := fresh_len ws (us.take j)
          rw [List.length_take] at this
          exact Nat.lt_of_lt_of_le (by omega : _ < 37) (by decide)
        · rw [ft, List.map_append]; exact upd_same
      · rw [if_neg c] at ft ⊢
        exact ⟨by rw [ft]; exact hR5, k5, hq5⟩
    · obtain ⟨hR5, k5, _⟩ := p
      rw [List.length_map, List.take_length] at hR5
      have sa5 : Stp H5 C a l dx (ws.map V.str) := ⟨k5.at hT sa.1 fun _ z => (by cases z), k5.at hT sa.2 fun _ z => (by cases z)⟩
      refine ⟨_, rfl, a, C, dx, _, rfl, O.cls, hp, sa5.1, a, l, dx, ws.map V.str, rfl, sa5, fun q2 hq2 => ?_⟩
      have q2R : R ≠ q2 := ne_of_none hR5 hq2
      have k6 : Kep T H (upd H5 q2 (.lst (ws.map V.str))) := k5.trans (Kep.new k5.1 hq2)
      have hR6 : upd H5 q2 (.lst (ws.map V.str)) R = some (.lst ((fresh ws us).map V.str)) := (upd_ne q2R).trans hR5
      have hq6 : upd H5 q2 (.lst (ws.map V.str)) q2 = some (.lst (ws.map V.str)) := upd_same
      generalize upd H5 q2 (.lst (ws.map V.str)) = H6 at k6 hR6 hq6
      have fl := fresh_len ws us
      refine ⟨_, rfl, q2, R, ws.map V.str, (fresh ws us).map V.str, rfl, rfl, hq6, hR6, ?_, fun q3 hq3 => ?_⟩
      · rw [List.length_map, List.length_map]
        exact Nat.le_trans (by omega : _ ≤ 72) (by decide)
      have k7 : Kep T H (upd H6 q3 (.lst (ws.map V.str ++ (fresh ws us).map V.str))) := k6.trans (Kep.new k6.1 hq3)
      have e7 : ws.map V.str ++ (fresh ws us).map V.str = (sumW ws us).map V.str := (List.map_append ..).symm
      rw [e7] at k7 ⊢
      have hq7 : upd H6 q3 (.lst ((sumW ws us).map V.str)) q3 = some (.lst ((sumW ws us).map V.str)) := upd_same
      generalize upd H6 q3 (.lst ((sumW ws us).map V.str)) = H7 at k7 hq7 ⊢
      have mk : Makes K T C D H7 ((sumW ws us).map V.str) Q E := by
        refine ⟨k7.1, ?_, fun x hx => ?_, fun hv H8 x k dz hx hk _ xT kT st k8 => k1 hv H8 x k dz (k7.free hT hx) (k7.free hT hk) xT kT st (k7.trans k8), fun hv H8 k8 => k2 hv H8 (k7.trans k8)⟩
        · rw [List.length_map]
          show (ws ++ fresh ws us).length ≤ 4000
          rw [List.length_append]; omega
        · obtain ⟨z, hz1, rfl⟩ := List.mem_map.mp hx
          exact .inl ⟨z, rfl, Nat.le_trans (hz z hz1) (by decide)⟩
      exact ⟨rfl, _, rfl, q3, _, rfl, .inr (.inl (.inl hq7)), fun x dx hx hdx hne => mk.init hx hdx hne⟩
end
end Ov

set_option Elab.async false
set_option linter.all false
set_option maxRecDepth 100000
set_option maxHeartbeats 4000000
namespace Ov
open PySem PySem.Spec PyProof.Rows L2 GxR
abbrev sDue : Stmt := top 19
/-- a list of strings as data -/
def dStrs (ws : List Str) : PyData := .list (ws.map PyData.str)
theorem lay_strs : ∀ (ws : List Str), (∀ z ∈ ws, PyData.strOk z = true) → PyData.canLayAll0 (ws.map PyData.str) = true
  | [], _ => by rw [List.map_nil]; rfl
  | z :: r, h => by
    rw [List.map_cons]
    show (PyData.strOk z && PyData.canLayAll0 (r.map PyData.str)) = true
    rw [h z List.mem_cons_self, lay_strs r fun y hy => h y (List.mem_cons_of_mem _ hy)]; rfl
theorem depth_strs : ∀ (ws : List Str), PyData.depthAll (ws.map PyData.str) ≤ 1
  | [] => by rw [List.map_nil]; decide
  | z :: r => by
    rw [List.map_cons]
    have h := depth_strs r
    show max (PyData.depth (.str z)) (PyData.depthAll (r.map PyData.str)) ≤ 1
    have : PyData.depth (.str z) ≤ 1 := by simp [PyData.depth]
    omega
theorem shaped_strs {ws : List Str} (h : ∀ z ∈ ws, PyData.strOk z = true) : SeqAt.shaped (dStrs ws) = true := by
  unfold SeqAt.shaped
  have e : PyData.canLay0 (dStrs ws) = true := lay_strs ws h
  rw [e, Bool.true_and]
  refine decide_eq_true ?_
  have := depth_strs ws
  show PyData.depthAll (ws.map PyData.str) + 1 ≤ 64
  omega
theorem dp_strs {K : PySem.W.Frag} {H : Hp} : ∀ (ws : List Str), DpAll K H (ws.map V.str) (ws.map PyData.str)
  | [] => .nil
  | z :: r => .cons (.str z) (dp_strs r)
theorem low_ok {z : Str} (h : lowB z = true) : PyData.strOk z = true := by
  unfold lowB at h
  unfold PyData.strOk
  rw [Array.all_eq_true]
  intro i hi
  have h2 := List.all_eq_true.mp h z.cps[i] (by simp)
  simp only [Bool.and_eq_true, decide_eq_true_eq] at h2 ⊢
  omega
theorem eqv_nil (ws : List Str) : PyData.eqv (dStrs ws) (.list []) = ws.isEmpty := by
  cases ws with
  | nil => rfl
  | cons z r => rfl
def wideB (fs : List Str) : Bool := fs.all fun z => decide (z.length = (fs.headD Str.empty).length)
def dueB (fs : List Str) : Bool := decide (fs.length ≤ 6) && (wideB fs && decide (fs.length * (fs.headD Str.empty).length ≤ 36))
def odd (fs gs : List Str) : List Str := gs.filter fun z => !decide (z.length = (fs.headD Str.empty).length)
section
variable {P : Program} {w : World} {K : PySem.W.Frag} {mg : Str → Option Value} {base : Heap} {T : List Addr} {C D fLow fText fAre fTape fNext fInks fInit cLow PLow cAre PAre : Addr}
def spDue (T : List Addr) : Sp := fun vs H Q _ => ∃ (p q : Addr) (ws us : List Str), vs = [.ref p, .ref q] ∧ H p = some (.lst (ws.map V.str)) ∧ H q = some (.lst (us.map V.str)) ∧ (∀ t ∈ T, TabG H t) ∧ 1 ≤ ws.length ∧ ws.length ≤ 36 ∧ us.length ≤ 36 ∧ (∀ z ∈ sumW ws us, z.length ≤ 100 ∧ lowB z = true) ∧
  (dueB (sumW ws us) = true → ∀ r H3, H r = none → r ∉ T → H3 r = some (.lst ((sumW ws us).map V.str)) → Kep T H H3 → Q (.ref r) H3) ∧ (dueB (sumW ws us) = false → ∀ H3, Kep T H H3 → Q .non H3)
abbrev NDue : List Str := ["first", "second", "found", "ink"]
theorem scDue : FnScope NDue ["first", "second"] (defScope sDue) := ⟨rfl, rfl, rfl, by decide +kernel, rfl, by decide +kernel, by decide +kernel⟩
theorem filt_take {α : Type} {f : α → Bool} {us : List α} {j : Nat} {z : α} (h : us[j]? = some z) : (us.take (j + 1)).filter f = if f z = true then (us.take j).filter f ++ [z] else (us.take j).filter f := by
  rw [List.take_add_one, h, List.filter_append]
  by_cases c : f z = true
  · rw [if_pos c]; simp [c]
  · rw [if_neg c]; simp at c; simp [c]
theorem odd_none {fs : List Str} : (odd fs fs).isEmpty = wideB fs := by
  unfold odd wideB
  generalize (fs.headD Str.empty).length = n
  induction fs with
  | nil => rfl
  | cons z r ih =>
    rw [List.filter_cons, List.all_cons, ← ih]
    by_cases c : z.length = n
    · simp [c]
    · simp [c]
theorem ok_due {f : Addr} {fd : FuncData} (F : L2.Fun K "_law_due" "_law_due" sDue f fd) (X : Txt K mg C fLow fText fAre fTape fNext fInks) : FnOk P w K mg base CX0 1 f fd ["first", "second"] (spDue T) := by
  refine F.ok scDue (fun vs H Q E h => ?_) (fun cdv A outer s H vs Q E hr h => ?_)
  · obtain ⟨p, q, ws, us, rfl, _⟩ := h
    rfl
  · obtain ⟨p, q, ws, us, rfl, hp, hq, hT, n1, nw, nu, hz, k1, k2⟩ := h
    have hu := hr.units
    refine ⟨_, pss_cons (ps_set (i := 2) scDue.nd rfl (.inr rfl) (pe_op op_cat (pv 0) (pe_lc (own := [("ink", 3)]) (g := gName 3) (by rfl) scDue.nd (pi_list (pv 1)) (blkOk_by (own := [("ink", 3)]) (N := NDue) (sc := defScope sDue) (by decide +kernel))
          (fun _ _ _ _ _ => pg_name (i := 3) scDue.nd rfl (Or.inl rfl)) (fun _ _ _ _ _ => pts_one (pt_cmpR (show OpR _ _ (rIn K true) from op_notIn_seq) (pv 3) (pv 0) (by rfl))) (fun _ _ _ _ _ => pv 3))))
      (pss_cons (ps_if (pw_or (pt_cmpR op_gt (pe_callB call_len_seq (by rfl) X.len boot_len (pa_cons (pv 2) pa_nil)) pe_int (by rfl))
          (pw_or1 (pt_cmpR (op_neD hu) (pe_lc (own := [("ink", 3)]) (g := gName 3) (by rfl) scDue.nd (pi_list (pv 2)) (blkOk_by (own := [("ink", 3)]) (N := NDue) (sc := defScope sDue) (by decide +kernel))
            (fun _ _ _ _ _ => pg_name (i := 3) scDue.nd rfl (Or.inl rfl))
            (fun _ _ _ _ _ => pts_one (pt_cmpR op_ne (pe_callB call_len_str (by rfl) X.len boot_len (pa_cons (pv 3) pa_nil)) (pe_callB call_len_str (by rfl) X.len boot_len (pa_cons (pe_ix (show IxR _ (rIx K) from ix_seq) (pv 2) pe_int fun _ _ => rfl) pa_nil)) (by rfl))) (fun _ _ _ _ _ => pv 3)) (pe_lst pa_nil) (by rfl)))).pt
          (pss_one (ps_ret pe_non)) pss_nil)
      (pss_one (ps_ret (pe_ifExp (pt_cmpR op_le (pe_op op_mul (pe_callB call_len_seq (by rfl) X.len boot_len (pa_cons (pv 2) pa_nil)) (pe_callB call_len_str (by rfl) X.len boot_len (pa_cons (pe_ix ix_seq (pv 2) pe_int fun _ _ => rfl) pa_nil))) pe_int (by rfl)) (pv 2) pe_non)))), ?_⟩
    have pT : p ∉ T := not_tab hT hp fun _ z => by cases z
    have qT : q ∉ T := not_tab hT hq fun _ z => by cases z
    refine ⟨_, rfl, _, rfl, q, rfl, ⟨_, .inl (.inl hq)⟩, fun R hR => ?_⟩
    have RT : R ∉ T := free_tab hT hR
    refine lc_list (xs := us.map V.str) (fun j H5 => H5 R = some (.lst ((fresh ws (us.take j)).map V.str)) ∧ Kep T H H5) ⟨upd_same, Kep.new hT hR⟩ (fun j H5 _ k => .inl (.inl (k.2.2 q _ qT hq))) (fun j x H5 hj k => ?_) (fun H5 k => ?_)
    · obtain ⟨hR5, k5⟩ := k
      rw [List.getElem?_map] at hj
      obtain ⟨z, hz5, rfl⟩ := Option.map_eq_some_iff.mp hj
      have ju : j < us.length := (List.getElem?_eq_some_iff.mp hz5).1
      refine ⟨rfl, ?_⟩
      refine ⟨_, rfl, ?_⟩
      refine ⟨_, rfl, p, _, rfl, .inl (.inl (.inl (k5.2 p _ pT hp))), rfl, flat_strs ws, _, rfl, ?_⟩
      have ft := fresh_take (ws := ws) hz5
      show if (!inV (.str z) (ws.map V.str)) = true then _ else _
      by_cases c : (!inV (.str z) (ws.map V.str)) = true
      · rw [if_pos c] at ft ⊢
        refine ⟨_, rfl, _, hR5, ?_, ?_, Kep.put k5 hR RT⟩
        · rw [List.length_map]
          have := fresh_len ws (us.take j)
          rw [List.length_take] at this
          exact Nat.lt_of_lt_of_le (by omega : _ < 37) (by decide)
        · rw [ft, List.map_append]; exact upd_same
      · rw [if_neg c] at ft ⊢
        exact ⟨by rw [ft]; exact hR5, k5⟩
    · obtain ⟨hR5, k5⟩ := k
      rw [List.length_map, List.take_length] at hR5
      have fl := fresh_len ws us
      refine ⟨p, R, ws.map V.str, (fresh ws us).map V.str, rfl, rfl, k5.2 p _ pT hp, hR5, ?_, fun r hr5 => ?_⟩
      · rw [List.length_map, List.length_map]
        exact Nat.le_trans (by omega : _ ≤ 72) (by decide)
      have k7 : Kep T H (upd H5 r (.lst (ws.map V.str ++ (fresh ws us).map V.str))) := k5.trans (Kep.new k5.1 hr5)
      have e7 : ws.map V.str ++ (fresh ws us).map V.str = (sumW ws us).map V.str := (List.map_append ..).symm
      have rT : r ∉ T := free_tab k5.1 hr5
      have rH : H r = none := k5.free hT hr5
      rw [e7] at k7 ⊢
      have hr7 : upd H5 r (.lst ((sumW ws us).map V.str)) r = some (.lst ((sumW ws us).map V.str)) := upd_same
      have sl : (sumW ws us).length ≤ 72 := by
        show (ws ++ fresh ws us).length ≤ 72
        rw [List.length_append]; omega
      have s1 : 1 ≤ (sumW ws us).length := by
        show 1 ≤ (ws ++ fresh ws us).length
        rw [List.length_append]; omega
      generalize upd H5 r (.lst ((sumW ws us).map V.str)) = H7 at k7 hr7 ⊢
      generalize hfs : sumW ws us = fs at *
      have h0 : fs.headD Str.empty = fs[0] := by
        cases fs with
        | nil => simp at s1
        | cons z r => rfl
      have w0 : (fs.headD Str.empty).length ≤ 100 := by rw [h0]; exact (hz _ (List.getElem_mem _)).1
      have no6 : ¬ fs.length ≤ 6 → dueB fs = false := fun c => by unfold dueB; simp [c]
      have noW : wideB fs = false → dueB fs = false := fun c => by unfold dueB; simp [c]
      have z0 : fs[0].length ≤ sizeLine := by rw [← h0]; exact Nat.le_trans w0 (by decide)
      refine ⟨_, rfl, r, _, rfl, .inl (.inl (.inl hr7)), _, _, rfl, rfl, _, rfl, ?_⟩
      rw [List.length_map]
      by_cases c6 : fs.length ≤ 6
      case neg => exact iteT' (by simp; omega) (iteT (k2 (no6 c6) H7 k7))
      refine iteF' (by simp; omega) ?_
      refine ⟨_, rfl, r, rfl, ⟨_, .inl (.inl hr7)⟩, fun R2 hR2 => ?_⟩
      have R2T : R2 ∉ T := free_tab k7.1 hR2
      have R2H : H R2 = none := k7.free hT hR2
      refine lc_list (xs := fs.map V.str) (fun j H8 => H8 R2 = some (.lst ((odd fs (fs.take j)).map V.str)) ∧ Kep T H H8 ∧ H8 r = some (.lst (fs.map V.str))) ⟨upd_same, k7.trans (Kep.new k7.1 hR2), (upd_ne (ne_of_none hr7 hR2)).trans hr7⟩ (fun j H8 _ p => .inl (.inl p.2.2)) (fun j x H8 hj p => ?_) (fun H8 p => ?_)
      · obtain ⟨hR8, k8, hr8⟩ := p
        rw [List.getElem?_map] at hj
        obtain ⟨z, hz8, rfl⟩ := Option.map_eq_some_iff.mp hj
        have ju : j < fs.length := (List.getElem?_eq_some_iff.mp hz8).1
        have zm : z ∈ fs := List.mem_of_getElem? hz8
        refine ⟨rfl, ?_⟩
        refine ⟨_, rfl, ?_⟩
        refine ⟨z, rfl, Nat.le_trans (hz z zm).1 (by decide), ?_⟩
        refine ⟨_, rfl, .inl ⟨r, _, 0, .str fs[0], rfl, rfl, .inl (.inl hr8), at_0 s1, fs[0], rfl, z0, ?_⟩⟩
        refine ⟨rfl, _, rfl, ?_⟩
        have e : (!decide (V.int (z.length : Nat) = V.int (fs[0].length : Nat))) = !decide (z.length = (fs.headD Str.empty).length) := by
          rw [h0]
          congr 1
          exact decide_eq_decide.mpr ⟨fun h => by injection h with h; omega, fun h => by rw [h]⟩
        rw [e]
        have ft : odd fs (fs.take (j + 1)) = if (!decide (z.length = (fs.headD Str.empty).length)) = true then odd fs (fs.take j) ++ [z] else odd fs (fs.take j) := filt_take hz8
        show if (!decide (z.length = (fs.headD Str.empty).length)) = true then _ else _
        by_cases c : (!decide (z.length = (fs.headD Str.empty).length)) = true
        · rw [if_pos c] at ft ⊢
          refine ⟨_, rfl, _, hR8, ?_, ?_, Kep.put k8 R2H R2T, (upd_ne (ne_of_none hr7 hR2)).trans hr8⟩
          · rw [List.length_map]
            have h1 : (odd fs (fs.take j)).length ≤ (fs.take j).length := List.length_filter_le _ _
            rw [List.length_take] at h1
            exact Nat.lt_of_lt_of_le (by omega : _ < 37) (by decide)
          · rw [ft, List.map_append]; exact upd_same
        · rw [if_neg c] at ft ⊢
          exact ⟨by rw [ft]; exact hR8, k8, hr8⟩
      · obtain ⟨hR8, k8, hr8⟩ := p
        rw [List.length_map, List.take_length] at hR8
        refine ⟨(by decide : 0 ≤ sizeLine), fun e he => ?_⟩
        have nR : R2 ≠ e := ne_of_none hR8 he
        have k9 := k8.trans (Kep.new (o := .lst []) k8.1 he)
        have so : ∀ z ∈ odd fs fs, PyData.strOk z = true := fun z h => low_ok (hz z (List.mem_filter.mp h).1).2
        refine ⟨dStrs (odd fs fs), .list [], .lst (.inl (.inl ((upd_ne nR).trans hR8))) (dp_strs _), .lst (.inl (.inl upd_same)) .nil, shaped_strs so, shaped_strs (ws := []) (fun _ h => nomatch h), _, rfl, ?_⟩
        rw [eqv_nil, odd_none]
        have hr9 : upd H8 e (.lst []) r = some (.lst (fs.map V.str)) := (upd_ne (ne_of_none hr8 he)).trans hr8
        generalize upd H8 e (.lst []) = H9 at k9 hr9 ⊢
        cases cw : wideB fs with
        | false => exact iteT' rfl (k2 (noW cw) H9 k9)
        | true =>
          refine iteF' rfl ?_
          refine ⟨_, rfl, r, _, rfl, .inl (.inl (.inl hr9)), ?_⟩
          refine ⟨_, rfl, .inl ⟨r, _, 0, .str fs[0], rfl, rfl, .inl (.inl hr9), at_0 s1, fs[0], rfl, z0, ?_⟩⟩
          refine ⟨_, _, rfl, rfl, ?_, _, _, rfl, rfl, _, rfl, ?_⟩
          · rw [List.length_map]; exact .inl ⟨by omega, by omega⟩
          · rw [List.length_map]
            by_cases c36 : fs.length * (fs.headD Str.empty).length ≤ 36
            · refine iteT' (by rw [h0] at c36; simp; exact_mod_cast c36) ?_
              exact ⟨_, rfl, k1 (by unfold dueB; rw [cw, decide_eq_true c6, decide_eq_true c36]; rfl) r H9 rH rT hr9 k9⟩
            · refine iteF' (by rw [h0] at c36; simp; exact_mod_cast (Nat.lt_of_not_le c36)) ?_
              exact k2 (by unfold dueB; rw [decide_eq_false c36, Bool.and_false, Bool.and_false]) H9 k9
end
end Ov

set_option Elab.async false
set_option linter.all false
set_option maxRecDepth 100000
set_option maxHeartbeats 4000000
namespace Ov
open PySem PySem.Spec PyProof.Rows L2 GxR
abbrev sSum : Stmt := top 20
theorem pe_propXK {X : Cx} {K : PySem.W.Frag} (hK : X.K = K) {CX : CXT} {k : Nat} {p g : Addr} {f : Str} {fd : FuncData} {ps : List Str} {sp : Sp} {dvs : List V} {ds : List Value} {E : XK} {e : Expr} {pos : Pos} {ta : TE} (he : PE X e ta) (F : FnOk X.prog X.w X.K X.mg X.base CX k g fd ps sp) (hr : Room (k + 1) X.A) (hb : Binds X.K fd ps ds) (hd : Vals dvs ds) (hx : Passes CX X.nox E)
    (hab : attributeBase e f X.env (eval e X.env) = eval e X.env := by rfl) : PE X (.Attribute e f pos) (tPropX K f p g sp dvs E ta) := by subst hK; exact pe_propX he F hr hb hd hx hab
/-- what the class says of its + and len -/
structure AddO (K : PySem.W.Frag) (C fAdd fLen : Addr) : Prop where
  s : PySem.W.findIn K (.ref C) "__add__" = some (some (.ref fAdd))
  f : PySem.W.isFn K (.ref fAdd) = true
  c : PySem.W.selfFirst K C = true
  ls : PySem.W.findIn K (.ref C) "__len__" = some (some (.ref fLen))
  lf : PySem.W.isFn K (.ref fLen) = true
section
variable {P : Program} {w : World} {K : PySem.W.Frag} {mg : Str → Option Value} {base : Heap} {T : List Addr} {C D fLow fText fAre fTape fNext fInks fInit cLow PLow cAre PAre fAdd fLen pWo fWo : Addr}
def spSum (T : List Addr) (C : Addr) : Sp := fun vs H Q _ => ∃ (a l dx : Addr) (ws : List Str) (b m dy : Addr) (us : List Str), vs = [.ref a, .ref b] ∧ Stp H C a l dx (ws.map V.str) ∧ Stp H C b m dy (us.map V.str) ∧ (∀ p ∈ T, TabG H p) ∧
  ws.length ≤ 36 ∧ us.length ≤ 36 ∧ (∀ z ∈ sumW ws us, z.length ≤ 100) ∧
  (stampsV ((sumW ws us).map V.str) = true → ∀ H3 r, H r = none → r ∉ T → H3 r = some (.lst ((sumW ws us).map V.str)) → Kep T H H3 → Q (.ref r) H3) ∧ (stampsV ((sumW ws us).map V.str) = false → ∀ H3, Kep T H H3 → Q .non H3)
theorem scSum : FnScope ["one", "other"] ["one", "other"] (defScope sSum) := ⟨rfl, rfl, rfl, by decide +kernel, rfl, by decide +kernel, by decide +kernel⟩
theorem ok_sum {f : Addr} {fd fdA fdW : FuncData} (F : L2.Fun K "_law_sum" "_law_sum" sSum f fd) (FA : L2.Fun K "__add__" "Stamps.__add__" sAdd fAdd fdA) (FI : FnR P w K mg base (L2.CX P w) 6 fInit (spInit K T C D)) (FW : L2.Fun K "words" "Stamps.words" sWords fWo fdW) (M : Mk K C fInit)
    (X : Txt K mg C fLow fText fAre fTape fNext fInks) (O : Own K C) (hp : PropOf K C "words" pWo fWo) (IU : InsU K C) (A : AddO K C fAdd fLen) (Er : ErrC K mg "InvalidStamps" D) (ex : PySem.W.exmOne K (.ref D) (.ref D) = some true) :
    FnOk P w K mg base CX0 9 f fd ["one", "other"] (spSum T C) := by
  have F1 : FnOk P w K mg base (L2.CX P w) 8 fAdd fdA ["self", "other"] (spAdd K T C D) := ok_add FA FI FW M X O hp IU
  have FR : FnR P w K mg base (L2.CX P w) 8 fAdd (spAdd K T C D) := (F1.raw (FA.binds fun _ _ _ _ _ _ us hl => match us, hl with | [_, _], _ => rfl) .nil).imp fun vs H Q E h => by rw [List.append_nil]; exact h
  have WW : FnOk P w K mg base CX0 1 fWo fdW ["self"] (spWords C) := ok_words FW X O
  have bW : Binds K fdW ["self"] [] := FW.binds fun _ _ _ _ _ _ us hl => match us, hl with | [_], _ => rfl
  refine F.ok scSum (fun vs H Q E h => ?_) (fun cdv A' outer s H vs Q E hr h => ?_)
  · obtain ⟨a, l, dx, ws, b, m, dy, us, rfl, _⟩ := h
    rfl
  · obtain ⟨a, l, dx, ws, b, m, dy, us, rfl, sa, sb, hT, nw, nu, hz, k1, k2⟩ := h
    refine ⟨_, pss_one (ps_try_only (c := .ref D) rfl rfl ⟨rfl, by decide, .inl Er.g⟩ takes0
      (fun W pn xe tk _ => pss_one (ps_ret (pe_propXK (K := K) (by rfl) (p := pWo) (pe_addI A.s A.f A.c FR hr (fun σ => passAt tk σ) (pv 0) (pv 1)) WW (hr.mono (by decide)) bW .nil L2.pass0)))
      (fun a oe cls d pn hz hf => pss_one (ps_ret pe_non))), ?_⟩
    have aT : a ∉ T := not_tab hT sa.1 fun _ z => by cases z
    have bT : b ∉ T := not_tab hT sb.1 fun _ z => by cases z
    refine ⟨_, rfl, _, rfl, a, b, dx, _, dy, _, rfl, rfl, sa.1, sb.1, ⟨a, l, dx, ws, b, m, dy, us, rfl, sa, sb, hT, nw, nu, hz, fun hv H3 x k dz hx hk xT kT st k3 => ?_, fun hv H3 k3 => ?_⟩⟩
    · refine ⟨⟨_, rfl⟩, x, C, dz, _, rfl, O.cls, hp, st.1, x, k, dz, _, rfl, st, fun r hr3 => ?_⟩
      exact k1 hv _ r (k3.free hT hr3) (free_tab k3.1 hr3) upd_same (k3.trans (Kep.new k3.1 hr3))
    · refine ⟨true, ex, fun _ a' ha => ?_, fun q => nomatch q⟩
      exact k2 hv H3 k3
end
end Ov

set_option Elab.async false
set_option linter.all false
set_option maxRecDepth 100000
set_option maxHeartbeats 4000000
namespace Ov
open PySem PySem.Spec PyProof.Rows L2 GxR
/-! ### sums of words -/
/-- what stamps ask of their words -/
structure Sts (fs : List Str) : Prop where
  n1 : 1 ≤ fs.length
  n6 : fs.length ≤ 6
  nd : fs.Nodup
  tx : ∀ z ∈ fs, 1 ≤ z.length ∧ z.length ≤ 8 ∧ lowB z = true
  wd : ∀ z ∈ fs, z.length = (fs.headD Str.empty).length
  n36 : (fs.headD Str.empty).length * fs.length ≤ 36
theorem strV_map (ws : List Str) : (ws.map V.str).map strV = ws := by rw [List.map_map]; exact List.map_id ws
theorem sts_iff (fs : List Str) : stampsV (fs.map V.str) = true ↔ Sts fs := by
  unfold stampsV tailB
  rw [strV_map]
  simp only [Bool.and_eq_true, decide_eq_true_eq, List.length_map]
  constructor
  · rintro ⟨h1, h6, ha, hw, ho, h36⟩
    refine ⟨h1, h6, (once_nodup fs).mp ho, fun z hz => ?_, fun z hz => of_decide_eq_true (List.all_eq_true.mp hw z hz), h36⟩
    have t : textB z 8 = true := List.all_eq_true.mp ha (.str z) (List.mem_map.mpr ⟨z, hz, rfl⟩)
    unfold textB at t
    simp only [Bool.and_eq_true, decide_eq_true_eq] at t
    exact ⟨by omega, by omega, t.2⟩
  · intro h
    refine ⟨h.n1, h.n6, List.all_eq_true.mpr fun x hx => ?_, List.all_eq_true.mpr fun z hz => decide_eq_true (h.wd z hz), (once_nodup fs).mpr h.nd, h.n36⟩
    obtain ⟨z, hz, rfl⟩ := List.mem_map.mp hx
    obtain ⟨a, b, c⟩ := h.tx z hz
    show textB z 8 = true
    unfold textB
    simp only [Bool.and_eq_true, decide_eq_true_eq]
    exact ⟨⟨by omega, by omega⟩, c⟩
theorem eqV_str (a b : Str) : eqV (.str a) (.str b) = decide (a = b) := by
  show (a == b) = decide (a = b)
  by_cases h : a = b
  · subst h; simp
  · simp [h]
theorem inV_iff {z : Str} {ws : List Str} : inV (.str z) (ws.map V.str) = true ↔ z ∈ ws := by
  unfold inV
  rw [List.any_eq_true]
  constructor
  · rintro ⟨y, hy, e⟩
    obtain ⟨u, hu, rfl⟩ := List.mem_map.mp hy
    rw [eqV_str] at e
    have := of_decide_eq_true e
    rw [← this]; exact hu
  · intro h
    exact ⟨.str z, List.mem_map.mpr ⟨z, h, rfl⟩, by rw [eqV_str]; exact decide_eq_true rfl⟩
theorem mem_fresh {z : Str} {ws us : List Str} : z ∈ fresh ws us ↔ z ∈ us ∧ z ∉ ws := by
  unfold fresh
  rw [List.mem_filter]
  refine and_congr_right fun _ => ?_
  have := inV_iff (z := z) (ws := ws)
  constructor
  · intro h c
    rw [this.mpr c] at h; cases h
  · intro h
    cases c : inV (.str z) (ws.map V.str) with
    | false => rfl
    | true => exact absurd (this.mp c) h
theorem mem_sum {z : Str} {ws us : List Str} : z ∈ sumW ws us ↔ z ∈ ws ∨ z ∈ us := by
  unfold sumW
  rw [List.mem_append, mem_fresh]
  constructor
  · rintro (h | h)
    · exact .inl h
    · exact .inr h.1
  · rintro (h | h)
    · exact .inl h
    · by_cases c : z ∈ ws
      · exact .inl c
      · exact .inr ⟨h, c⟩
theorem sum_nd {ws us : List Str} (hw : ws.Nodup) (hu : us.Nodup) : (sumW ws us).Nodup := by
  unfold sumW
  rw [List.nodup_append]
  refine ⟨hw, ?_, fun a ha b hb e => ?_⟩
  · unfold fresh
    exact hu.filter _
  · subst e
    exact (mem_fresh.mp hb).2 ha
theorem fresh_sub {ws us : List Str} (h : ∀ z ∈ us, z ∈ ws) : fresh ws us = [] := by
  unfold fresh
  rw [List.filter_eq_nil_iff]
  intro z hz c
  rw [inV_iff.mpr (h z hz)] at c
  cases c
theorem sum_sub {ws us : List Str} (h : ∀ z ∈ us, z ∈ ws) : sumW ws us = ws := by
  unfold sumW
  rw [fresh_sub h, List.append_nil]
theorem sum_head {ws us : List Str} (h : 1 ≤ ws.length) : (sumW ws us).headD Str.empty = ws.headD Str.empty := by
  unfold sumW
  cases ws with
  | nil => simp at h
  | cons z r => rfl
theorem wide_iff {fs : List Str} : wideB fs = true ↔ ∀ z ∈ fs, z.length = (fs.headD Str.empty).length := by
  unfold wideB
  rw [List.all_eq_true]
  exact ⟨fun h z hz => of_decide_eq_true (h z hz), fun h z hz => decide_eq_true (h z hz)⟩
/-- the sum of two stamps' words is stamps exactly if it is due -/
theorem due_sts {ws us : List Str} (hw : Sts ws) (hu : Sts us) : stampsV ((sumW ws us).map V.str) = dueB (sumW ws us) := by
  have key : Sts (sumW ws us) ↔ dueB (sumW ws us) = true := by
    unfold dueB
    simp only [Bool.and_eq_true, decide_eq_true_eq]
    rw [wide_iff]
    constructor
    · intro h
      exact ⟨h.n6, h.wd, by rw [Nat.mul_comm]; exact h.n36⟩
    · rintro ⟨h6, hd, h36⟩
      refine ⟨?_, h6, sum_nd hw.nd hu.nd, fun z hz => ?_, hd, by rw [Nat.mul_comm]; exact h36⟩
      · show 1 ≤ (ws ++ fresh ws us).length
        rw [List.length_append]
        have := hw.n1
        omega
      · rcases mem_sum.mp hz with h | h
        · exact hw.tx z h
        · exact hu.tx z h
  have := (sts_iff (sumW ws us)).trans key
  cases a : stampsV ((sumW ws us).map V.str) with
  | true => exact (this.mp a).symm
  | false =>
    cases b : dueB (sumW ws us) with
    | false => rfl
    | true => rw [this.mpr b] at a; cases a
theorem sum_text {ws us : List Str} (hw : Sts ws) (hu : Sts us) {z : Str} (hz : z ∈ sumW ws us) : z.length ≤ 8 ∧ lowB z = true := by
  rcases mem_sum.mp hz with h | h
  · exact (hw.tx z h).2
  · exact (hu.tx z h).2
/-- other + both, both = one + other -/
theorem sts_back {ws us : List Str} (hw : Sts ws) (hu : Sts us) (hs : Sts (sumW ws us)) : Sts (sumW us (sumW ws us)) := by
  have nd := sum_nd hu.nd hs.nd
  have mem : ∀ z, z ∈ sumW us (sumW ws us) ↔ z ∈ sumW ws us := fun z => by
    rw [mem_sum]
    constructor
    · rintro (h | h)
      · exact mem_sum.mpr (.inr h)
      · exact h
    · exact fun h => .inr h
  have len : (sumW us (sumW ws us)).length = (sumW ws us).length := Nat.le_antisymm (nd.length_le_of_subset fun z hz => (mem z).mp hz) (hs.nd.length_le_of_subset fun z hz => (mem z).mpr hz)
  have hd : ((sumW us (sumW ws us)).headD Str.empty).length = ((sumW ws us).headD Str.empty).length := by
    rw [sum_head hu.n1]
    have : us.headD Str.empty ∈ us := by
      have := hu.n1
      cases us with
      | nil => simp at this
      | cons z r => exact List.mem_cons_self
    exact hs.wd _ (mem_sum.mpr (.inr this))
  exact ⟨by rw [len]; exact hs.n1, by rw [len]; exact hs.n6, nd, fun z hz => hs.tx z ((mem z).mp hz), fun z hz => by rw [hd]; exact hs.wd z ((mem z).mp hz), by rw [len, hd]; exact hs.n36⟩
end Ov

set_option Elab.async false
set_option linter.all false
set_option maxRecDepth 100000
set_option maxHeartbeats 4000000
namespace Ov
open PySem PySem.Spec PyProof.Rows L2 GxR
/-! ### repr of words, and of None -/
theorem show_strs : ∀ ws : List Str, PyData.showableAll (ws.map PyData.str) = true
  | [] => rfl
  | z :: r => by
    rw [List.map_cons]
    show (true && PyData.showableAll (r.map PyData.str)) = true
    rw [show_strs r]; rfl
theorem nodict_strs : ∀ ws : List Str, PyData.hasDictAll (ws.map PyData.str) = false
  | [] => rfl
  | z :: r => by
    rw [List.map_cons]
    show (false || PyData.hasDictAll (r.map PyData.str)) = false
    rw [nodict_strs r]; rfl
theorem weight_strs : ∀ ws : List Str, (∀ z ∈ ws, z.length ≤ 100) → PyData.weightAll (ws.map PyData.str) ≤ 101 * ws.length
  | [], _ => by rw [List.map_nil]; exact Nat.le_refl _
  | z :: r, h => by
    rw [List.map_cons]
    have h1 := weight_strs r fun y hy => h y (List.mem_cons_of_mem _ hy)
    have h2 : z.cps.size ≤ 100 := h z List.mem_cons_self
    show z.cps.size + 1 + PyData.weightAll (r.map PyData.str) ≤ 101 * (r.length + 1)
    omega
/-- repr of a list of data, or of None -/
def rReprB (K : PySem.W.Frag) : List V → Hp → VK → Prop := fun xs H Q => rReprL K xs H Q ∨ (xs = [V.non] ∧ Q (.str "None") H)
theorem call_reprB {X : Cx} (hg : X.A.guards = some []) (hu : X.A.units + 64 < cLine) : CallR X (.builtin "repr") (rReprB X.K) := by
  intro pins s σ H xs us Q I r h
  rcases h with h | ⟨rfl, q⟩
  · exact call_reprL hg hu pins s σ H xs us Q I r h
  · obtain ⟨u, rfl, ru⟩ := vals1 r
    obtain rfl : u = Value.none := ru
    exact P.repr_of_none ⟨.str "None", H, I.tok _, ⟨_, rfl⟩, q⟩
theorem low_lt {z : Str} (h : lowB z = true) : (z.cps.toList.all fun c => decide (c < 16 ^ 8)) = true := by
  unfold lowB at h
  refine List.all_eq_true.mpr fun c hc => decide_eq_true ?_
  have := List.all_eq_true.mp h c hc
  simp only [Bool.and_eq_true, decide_eq_true_eq] at this
  exact Nat.lt_of_le_of_lt this.2 (by decide)
theorem short_strs : ∀ ws : List Str, (∀ z ∈ ws, lowB z = true) → PyData.leavesShortAll 8 (ws.map PyData.str) = true
  | [], _ => rfl
  | z :: r, h => by
    rw [List.map_cons]
    show ((z.cps.toList.all fun c => decide (c < 16 ^ 8)) && PyData.leavesShortAll 8 (r.map PyData.str)) = true
    rw [low_lt (h z List.mem_cons_self), short_strs r fun y hy => h y (List.mem_cons_of_mem _ hy)]; rfl
theorem repr_strs {K : PySem.W.Frag} {H : Hp} {a : Addr} {fs : List Str} {Q : VK} (ha : SqL K H a (fs.map V.str)) (hz : ∀ z ∈ fs, z.length ≤ 100 ∧ lowB z = true) (hn : fs.length ≤ 72) (q : Q (.str (dStrs fs).shown) H) : rReprB K [V.ref a] H Q := by
  refine .inl ⟨a, dStrs fs, rfl, .lst ha (dp_strs fs), show_strs fs, nodict_strs fs, ?_, ?_, q⟩
  · have := depth_strs fs
    show PyData.depthAll (fs.map PyData.str) + 1 ≤ 60
    omega
  · have h1 := PyData.shown_le 8 (Nat.le_refl 8) (dStrs fs) (short_strs fs fun z h => (hz z h).2)
    have h2 := weight_strs fs fun z h => (hz z h).1
    have h3 : PyData.weight (dStrs fs) ≤ 101 * fs.length := h2
    refine Nat.le_trans h1 (Nat.le_trans (?_ : _ ≤ 80000) (by decide))
    omega
end Ov

set_option Elab.async false
set_option linter.all false
set_option maxRecDepth 100000
set_option maxHeartbeats 4000000
namespace Ov
open PySem PySem.Spec PyProof.Rows L2 GxR
abbrev sRight : Stmt := top 21
theorem eqv_strs : ∀ ws : List Str, PyData.eqv (dStrs ws) (dStrs ws) = true
  | [] => rfl
  | z :: r => by
    have h := eqv_strs r
    show ((z == z) && PyData.eqv (dStrs r) (dStrs r)) = true
    rw [h]; simp
/-- the names that k02's right reads at the top -/
structure TopU (K : PySem.W.Frag) (mg : Str → Option Value) (fDue fSum fRight : Addr) : Prop where
  rep : mg "repr" = none
  gDue : mg "_law_due" = some (.ref fDue)
  kDue : PySem.W.keepIn K (.ref fDue) = true
  gSum : mg "_law_sum" = some (.ref fSum)
  kSum : PySem.W.keepIn K (.ref fSum) = true
  gRight : mg "_law_right" = some (.ref fRight)
  kRight : PySem.W.keepIn K (.ref fRight) = true
section
variable {P : Program} {w : World} {K : PySem.W.Frag} {mg : Str → Option Value} {base : Heap} {T : List Addr} {C D fLow fText fAre fTape fNext fInks fInit cLow PLow cAre PAre fAdd fLen pWo fWo pWi fWi pO gO fDue fSum fRight : Addr}
def spRightU (T : List Addr) : Sp := fun vs H Q _ => ∃ (p q : Addr) (ws us : List Str), vs = [.ref p, .ref q] ∧ H p = some (.lst (ws.map V.str)) ∧ H q = some (.lst (us.map V.str)) ∧ (∀ t ∈ T, TabG H t) ∧ Sts ws ∧ Sts us ∧ ∀ H3, Kep T H H3 → Q (.bl true) H3
abbrev NRU : List Str := ["first", "second", "one", "other", "due", "both", "again"]
theorem scRightU : FnScope NRU ["first", "second"] (defScope sRight) := ⟨rfl, rfl, rfl, by decide +kernel, rfl, by decide +kernel, by decide +kernel⟩
theorem ok_rightU {f : Addr} {fd fdA fdW fdWi fdD fdS fdO fdLe : FuncData} (F : L2.Fun K "_law_right" "_law_right" sRight f fd) (FD : L2.Fun K "_law_due" "_law_due" sDue fDue fdD) (FS : L2.Fun K "_law_sum" "_law_sum" sSum fSum fdS) (FA : L2.Fun K "__add__" "Stamps.__add__" sAdd fAdd fdA)
    (FLe : L2.Fun K "__len__" "Stamps.__len__" sLenI fLen fdLe) (FO : L2.Fun K "of" "Stamps.of" sOf gO fdO) (FI : FnR P w K mg base (L2.CX P w) 6 fInit (spInit K T C D)) (FW : L2.Fun K "words" "Stamps.words" sWords fWo fdW) (FWi : L2.Fun K "width" "Stamps.width" sWidth fWi fdWi) (M : Mk K C fInit)
    (X : Txt K mg C fLow fText fAre fTape fNext fInks) (XU : TopU K mg fDue fSum fRight) (O : Own K C) (hp : PropOf K C "words" pWo fWo) (hpi : PropOf K C "width" pWi fWi) (IU : InsU K C) (A : AddO K C fAdd fLen) (Er : ErrC K mg "InvalidStamps" D) (ex : PySem.W.exmOne K (.ref D) (.ref D) = some true)
    (co : ClX.CMet K C (.type "type") "of" pO gO) (p2 : Pair2 K C C) :
    FnG P w K mg base CX0 10 f fd ["first", "second"] (spRightU T) := by
  have OO : FnOk P w K mg base (L2.CX P w) 8 gO fdO ["cls", "words"] (spOf K T C D) := ok_of FO FI M X Er
  have OR : FnR P w K mg base (L2.CX P w) 8 gO (spOf K T C D) := (OO.raw (FO.binds fun _ _ _ _ _ _ us hl => match us, hl with | [_, _], _ => rfl) .nil).imp fun vs H Q E h => by rw [List.append_nil]; exact h
  have F1 : FnOk P w K mg base (L2.CX P w) 8 fAdd fdA ["self", "other"] (spAdd K T C D) := ok_add FA FI FW M X O hp IU
  have FR : FnR P w K mg base (L2.CX P w) 8 fAdd (spAdd K T C D) := (F1.raw (FA.binds fun _ _ _ _ _ _ us hl => match us, hl with | [_, _], _ => rfl) .nil).imp fun vs H Q E h => by rw [List.append_nil]; exact h
  have L1 : FnOk P w K mg base CX0 1 fLen fdLe ["self"] (spLenI C) := ok_lenI FLe X O
  have LR : FnR P w K mg base CX0 1 fLen (spLenI C) := (L1.raw (FLe.binds fun _ _ _ _ _ _ us hl => match us, hl with | [_], _ => rfl) .nil).imp fun vs H Q E h => by rw [List.append_nil]; exact h
  have WW : FnOk P w K mg base CX0 1 fWo fdW ["self"] (spWords C) := ok_words FW X O
  have bW : Binds K fdW ["self"] [] := FW.binds fun _ _ _ _ _ _ us hl => match us, hl with | [_], _ => rfl
  have WI : FnOk P w K mg base CX0 1 fWi fdWi ["self"] (spWidth C) := ok_width FWi X O
  have bWi : Binds K fdWi ["self"] [] := FWi.binds fun _ _ _ _ _ _ us hl => match us, hl with | [_], _ => rfl
  have DD : FnOk P w K mg base CX0 1 fDue fdD ["first", "second"] (spDue T) := ok_due FD X
  have bD : Binds K fdD ["first", "second"] [] := FD.binds fun _ _ _ _ _ _ us hl => match us, hl with | [_, _], _ => rfl
  have SS : FnOk P w K mg base CX0 9 fSum fdS ["one", "other"] (spSum T C) := ok_sum FS FA FI FW M X O hp IU A Er ex
  have bS : Binds K fdS ["one", "other"] [] := FS.binds fun _ _ _ _ _ _ us hl => match us, hl with | [_, _], _ => rfl
  refine fun_okG F scRightU (fun vs H Q E h => ?_) (fun cdv A' outer s H vs Q E hg hr h => ?_)
  · obtain ⟨p, q, ws, us, rfl, _⟩ := h
    rfl
  · obtain ⟨p, q, ws, us, rfl, hpw, hqw, hT, Sw, Su, k⟩ := h
    have hu := hr.units
    have hu0 : (A'.deeper (envOfC "_law_right" (defScope sRight) s.heap.objs.size f cdv)).units < cLine := by omega
    refine ⟨_, pss_cons (ps_par3 (i := 2) (j := 3) (l := 4) rfl scRightU.nd rfl rfl rfl (by decide) (by decide) (by decide) rfl rfl rfl
        (pa_cons (ClX.pe_cmeth (pe_glob (v := .ref C) (by rfl) X.gC rfl) X.rd co OR (hr.mono (by decide)) passL (pa_cons (pv 0) pa_nil)) (pa_cons (ClX.pe_cmeth (pe_glob (v := .ref C) (by rfl) X.gC rfl) X.rd co OR (hr.mono (by decide)) passL (pa_cons (pv 1) pa_nil))
          (pa_cons (pe_call DD (hr.mono (by decide)) (by rfl) XU.gDue XU.kDue bD .nil L2.pass0 (pa_cons (pv 0) (pa_cons (pv 1) pa_nil))) pa_nil))) (by rfl))
      (pss_cons (ps_if (pw_or (pt_cmpR op_ne (pe_callB (call_reprB hg hu) (by rfl) XU.rep boot_repr (pa_cons (pe_call SS hr (by rfl) XU.gSum XU.kSum bS .nil L2.pass0 (pa_cons (pv 2) (pa_cons (pv 3) pa_nil))) pa_nil)) (pe_callB (call_reprB hg hu) (by rfl) XU.rep boot_repr (pa_cons (pv 4) pa_nil)) (by rfl))
          (pw_or (pt_cmpR (op_neD hu) (pe_propX (p := pWo) (pv 2) WW (hr.mono (by decide)) bW .nil L2.pass0) (pv 0) (by rfl)) (pw_or1 (pt_cmpR (op_neD hu) (pe_propX (p := pWo) (pv 3) WW (hr.mono (by decide)) bW .nil L2.pass0) (pv 1) (by rfl))))).pt (pss_one (ps_ret pe_bl)) pss_nil)
      (pss_cons (ps_if (pt_cmpR op_isN (pv 4) pe_non (by rfl)) (pss_one (ps_ret pe_bl)) pss_nil)
      (pss_cons (ps_set (i := 5) scRightU.nd rfl (.inl rfl) (pe_addI (E := fun _ => E0) A.s A.f A.c FR (hr.mono (by decide)) (fun σ pins H s e s' I c => passL pins σ H s e s' I c) (pv 2) (pv 3)))
      (pss_cons (ps_if (pw_or (pt_cmpR (op_eqS hu0) (pv 5) (pv 2) (by rfl)) (pw_or (pt_cmpR op_ne (pe_propX (p := pWi) (pv 5) WI (hr.mono (by decide)) bWi .nil L2.pass0) (pe_callB call_len_str (by rfl) X.len boot_len (pa_cons (pe_ix ix_seq (pv 4) pe_int fun _ _ => rfl) pa_nil)) (by rfl))
          (pw_or (pt_cmpR op_ne (pe_callB (call_lenI A.ls A.lf LR (hr.mono (by decide))) (by rfl) X.len boot_len (pa_cons (pv 5) pa_nil)) (pe_callB call_len_seq (by rfl) X.len boot_len (pa_cons (pv 4) pa_nil)) (by rfl))
            (pw_or1 (pt_not (pt_val (pe_callB call_isi (by rfl) X.isi boot_isinstance (pa_cons (pv 5) (pa_cons (pe_glob (v := .ref C) (by rfl) X.gC rfl) pa_nil)))))))) ).pt (pss_one (ps_ret pe_bl)) pss_nil)
      (pss_cons (ps_set (i := 6) scRightU.nd rfl (.inl rfl) (pe_addI (E := fun _ => E0) A.s A.f A.c FR (hr.mono (by decide)) (fun σ pins H s e s' I c => passL pins σ H s e s' I c) (pv 5) (pv 2)))
      (pss_one (ps_ret (pe_and (pe_cmpR (op_eqD hu) (pe_propX (p := pWo) (pv 6) WW (hr.mono (by decide)) bW .nil L2.pass0) (pv 4) (by rfl))
        (pe_and (pe_cmpR (op_eqD hu) (pe_propX (p := pWo) (pe_addI (E := fun _ => E0) A.s A.f A.c FR (hr.mono (by decide)) (fun σ pins H s e s' I c => passL pins σ H s e s' I c) (pv 3) (pv 5)) WW (hr.mono (by decide)) bW .nil L2.pass0) (pe_call DD (hr.mono (by decide)) (by rfl) XU.gDue XU.kDue bD .nil L2.pass0 (pa_cons (pv 1) (pa_cons (pv 4) pa_nil))) (by rfl))
          (pe_one (pe_cmpR (op_eqD hu) (pe_propX (p := pWo) (pe_addI (E := fun _ => E0) A.s A.f A.c FR (hr.mono (by decide)) (fun σ pins H s e s' I c => passL pins σ H s e s' I c) (pv 2) (pv 2)) WW (hr.mono (by decide)) bW .nil L2.pass0) (pv 0) (by rfl)))))))))))), ?_⟩
    have wdw : ∀ (G : Hp) (vs : List Str), Sts vs → ∀ x ∈ vs.map V.str, Wd K T G x := fun G vs S x hx => by
      obtain ⟨z, hz, rfl⟩ := List.mem_map.mp hx
      exact .inl ⟨z, rfl, Nat.le_trans (S.tx z hz).2.1 (by decide)⟩
    have vw := (sts_iff ws).mpr Sw
    have vu := (sts_iff us).mpr Su
    have pT : p ∉ T := not_tab hT hpw fun _ z => by cases z
    have qT : q ∉ T := not_tab hT hqw fun _ z => by cases z
    have w6 := Sw.n6
    have u6 := Su.n6
    refine ⟨rfl, _, rfl, .ref p, rfl, .inl ⟨p, ws.map V.str, rfl, hpw, hT, by rw [List.length_map]; omega, wdw _ _ Sw, fun _ H1 a l dx hca hcl _ aT lT sa k1 => ?_, fun hf => by rw [vw] at hf; cases hf⟩⟩
    refine ⟨rfl, _, rfl, .ref q, rfl, .inl ⟨q, us.map V.str, rfl, k1.2 q _ qT hqw, k1.1, by rw [List.length_map]; omega, wdw _ _ Su, fun _ H2 b m dy hcb hcm _ bT mT sb k2 => ?_, fun hf => by rw [vu] at hf; cases hf⟩⟩
    have k12 := k1.trans k2
    have zz : ∀ z ∈ sumW ws us, z.length ≤ 100 ∧ lowB z = true := fun z hz => ⟨Nat.le_trans (sum_text Sw Su hz).1 (by decide), (sum_text Sw Su hz).2⟩
    have za : ∀ z ∈ sumW ws us, z.length ≤ 100 := fun z hz => (zz z hz).1
    have ds := due_sts Sw Su
    have sa2 : Stp H2 C a l dx (ws.map V.str) := ⟨k2.2 a _ aT sa.1, k2.2 l _ lT sa.2⟩
    have ow : ∀ z ∈ ws, PyData.strOk z = true := fun z h => low_ok (Sw.tx z h).2.2
    have ou : ∀ z ∈ us, PyData.strOk z = true := fun z h => low_ok (Su.tx z h).2.2
    -- what every later heap has
    have At : ∀ {G : Hp}, Kep T H2 G → Stp G C a l dx (ws.map V.str) ∧ Stp G C b m dy (us.map V.str) ∧ G p = some (.lst (ws.map V.str)) ∧ G q = some (.lst (us.map V.str)) := fun kg => ⟨⟨kg.2 a _ aT sa2.1, kg.2 l _ lT sa2.2⟩, ⟨kg.2 b _ bT sb.1, kg.2 m _ mT sb.2⟩, kg.2 p _ pT (k12.2 p _ pT hpw), kg.2 q _ qT (k12.2 q _ qT hqw)⟩
    refine ⟨_, rfl, _, rfl, p, q, ws, us, rfl, k12.2 p _ pT hpw, k12.2 q _ qT hqw, k12.1, Sw.n1, by omega, by omega, zz, fun hd r H3 hcr rT hr3 k3 => ?_, fun hd H3 k3 => ?_⟩
    case refine_2 =>
      rw [hd] at ds
      obtain ⟨sa3, sb3, hp3, hq3⟩ := At k3
      refine ⟨_, _, _, rfl, ?_⟩
      refine ⟨_, rfl, _, rfl, a, l, dx, ws, b, m, dy, us, rfl, sa3, sb3, k3.1, by omega, by omega, za, (fun hf => by rw [ds] at hf; cases hf), fun _ H4 k4 => ?_⟩
      refine .inr ⟨rfl, _, rfl, .inr ⟨rfl, rfl, _, rfl, iteF' (by simp) ?_⟩⟩
      have k34 := k3.trans k4
      obtain ⟨sa4, sb4, hp4, hq4⟩ := At k34
      refine ⟨_, rfl, a, C, dx, _, rfl, O.cls, hp, sa4.1, a, l, dx, ws.map V.str, rfl, sa4, fun e5 he5 => ?_⟩
      have k5 := k34.trans (Kep.new (o := .lst (ws.map V.str)) k34.1 he5)
      have q5 : upd H4 e5 (.lst (ws.map V.str)) e5 = some (.lst (ws.map V.str)) := upd_same
      generalize upd H4 e5 (.lst (ws.map V.str)) = H5 at k5 q5 ⊢
      obtain ⟨sa5, sb5, hp5, hq5⟩ := At k5
      refine ⟨_, rfl, dStrs ws, dStrs ws, .lst (.inl (.inl q5)) (dp_strs _), .lst (.inl (.inl hp5)) (dp_strs _), shaped_strs ow, shaped_strs ow, _, rfl, iteF' (by rw [eqv_strs]; rfl) ?_⟩
      refine ⟨_, rfl, b, C, dy, _, rfl, O.cls, hp, sb5.1, b, m, dy, us.map V.str, rfl, sb5, fun e6 he6 => ?_⟩
      have k6 := k5.trans (Kep.new (o := .lst (us.map V.str)) k5.1 he6)
      have q6 : upd H5 e6 (.lst (us.map V.str)) e6 = some (.lst (us.map V.str)) := upd_same
      generalize upd H5 e6 (.lst (us.map V.str)) = H6 at k6 q6 ⊢
      obtain ⟨sa6, sb6, hp6, hq6⟩ := At k6
      refine ⟨_, rfl, dStrs us, dStrs us, .lst (.inl (.inl q6)) (dp_strs _), .lst (.inl (.inl hq6)) (dp_strs _), shaped_strs ou, shaped_strs ou, _, rfl, iteF' (by rw [eqv_strs]; rfl) ?_⟩
      refine ⟨_, rfl, rfl, _, rfl, iteT' (by simp) ?_⟩
      exact k _ (k12.trans k6)
    obtain ⟨sa3, sb3, hp3, hq3⟩ := At k3
    rw [hd] at ds
    have Sf : Sts (sumW ws us) := (sts_iff _).mp ds
    refine ⟨_, _, _, rfl, ?_⟩
    have f6 := Sf.n6
    refine ⟨_, rfl, _, rfl, a, l, dx, ws, b, m, dy, us, rfl, sa3, sb3, k3.1, by omega, by omega, za, fun _ H4 r4 hc4 r4T hr4 k4 => ?_, fun hf => by rw [ds] at hf; cases hf⟩
    refine repr_strs (.inl (.inl hr4)) zz (by omega) ⟨_, rfl, repr_strs (.inl (.inl (k4.2 r _ rT hr3))) zz (by omega) ⟨rfl, _, rfl, iteF' (by simp) ?_⟩⟩
    have k34 := k3.trans k4
    obtain ⟨sa4, sb4, hp4, hq4⟩ := At k34
    refine ⟨_, rfl, a, C, dx, _, rfl, O.cls, hp, sa4.1, a, l, dx, ws.map V.str, rfl, sa4, fun e5 he5 => ?_⟩
    have k5 := k34.trans (Kep.new (o := .lst (ws.map V.str)) k34.1 he5)
    have q5 : upd H4 e5 (.lst (ws.map V.str)) e5 = some (.lst (ws.map V.str)) := upd_same
    have r5 : upd H4 e5 (.lst (ws.map V.str)) r = some (.lst ((sumW ws us).map V.str)) := (k4.trans (Kep.new k34.1 he5)).2 r _ rT hr3
    generalize upd H4 e5 (.lst (ws.map V.str)) = H5 at k5 q5 r5 ⊢
    obtain ⟨sa5, sb5, hp5, hq5⟩ := At k5
    refine ⟨_, rfl, dStrs ws, dStrs ws, .lst (.inl (.inl q5)) (dp_strs _), .lst (.inl (.inl hp5)) (dp_strs _), shaped_strs ow, shaped_strs ow, _, rfl, iteF' (by rw [eqv_strs]; rfl) ?_⟩
    refine ⟨_, rfl, b, C, dy, _, rfl, O.cls, hp, sb5.1, b, m, dy, us.map V.str, rfl, sb5, fun e6 he6 => ?_⟩
    have k6 := k5.trans (Kep.new (o := .lst (us.map V.str)) k5.1 he6)
    have q6 : upd H5 e6 (.lst (us.map V.str)) e6 = some (.lst (us.map V.str)) := upd_same
    have r6 : upd H5 e6 (.lst (us.map V.str)) r = some (.lst ((sumW ws us).map V.str)) := (upd_ne (ne_of_none r5 he6)).trans r5
    generalize upd H5 e6 (.lst (us.map V.str)) = H6 at k6 q6 r6 ⊢
    obtain ⟨sa6, sb6, hp6, hq6⟩ := At k6
    refine ⟨_, rfl, dStrs us, dStrs us, .lst (.inl (.inl q6)) (dp_strs _), .lst (.inl (.inl hq6)) (dp_strs _), shaped_strs ou, shaped_strs ou, _, rfl, iteF' (by rw [eqv_strs]; rfl) ?_⟩
    refine ⟨_, rfl, rfl, _, rfl, iteF' (by simp) ?_⟩
    refine ⟨_, rfl, _, rfl, a, b, dx, _, dy, _, rfl, rfl, sa6.1, sb6.1, a, l, dx, ws, b, m, dy, us, rfl, sa6, sb6, k6.1, by omega, by omega, za, fun _ H7 x c dz hcx hcc xT cT sx k7 => ?_, fun hf => by rw [ds] at hf; cases hf⟩
    have k67 := k6.trans k7
    have r7 := k7.2 r _ rT r6
    obtain ⟨sa7, sb7, hp7, hq7⟩ := At k67
    have xa : x ≠ a := fun z => by rw [z, sa6.1] at hcx; cases hcx
    refine ⟨⟨_, rfl⟩, ?_⟩
    obtain ⟨W, gd⟩ := good_of ds
    have s1 : 1 ≤ (sumW ws us).length := Sf.n1
    have z0 : ((sumW ws us)[0]'s1).length = W := gd.at s1
    refine ⟨_, rfl, _, rfl, C, C, p2, x, a, dz, dx, _, _, rfl, rfl, sx.1, sa7.1, _, rfl, iteF' (by simpa using xa) ?_⟩
    refine ⟨_, rfl, x, C, dz, _, rfl, O.cls, hpi, sx.1, x, c, dz, sumW ws us, W, rfl, sx, gd, ?_⟩
    refine ⟨_, rfl, .inl ⟨r, _, 0, .str ((sumW ws us)[0]'s1), rfl, rfl, .inl (.inl r7), at_0 s1, _, rfl, by rw [z0]; exact Nat.le_trans gd.w8 (by decide), ?_⟩⟩
    refine ⟨rfl, _, rfl, iteF' (by rw [z0]; simp) ?_⟩
    refine ⟨_, rfl, x, dz, _, rfl, sx.1, x, c, dz, _, rfl, sx, (sumW ws us).length, by rw [List.length_map], by omega, ?_⟩
    refine ⟨_, rfl, r, _, rfl, .inl (.inl (.inl r7)), rfl, _, rfl, iteF' (by rw [List.length_map]; simp) ?_⟩
    refine ⟨_, rfl, _, _, _, _, _, rfl, .own _, .base (.ins sx.1 O.cls IU.ha IU.hn IU.htk IU.hm), IU.kit, true, rfl, iteF ?_⟩
    -- again
    have e1 : sumW (sumW ws us) ws = sumW ws us := sum_sub fun z hz => mem_sum.mpr (.inl hz)
    have of : ∀ z ∈ sumW ws us, PyData.strOk z = true := fun z h => low_ok (zz z h).2
    refine ⟨_, rfl, _, rfl, x, a, dz, _, dx, _, rfl, rfl, sx.1, sa7.1, x, c, dz, sumW ws us, a, l, dx, ws, rfl, sx, sa7, k67.1, by omega, by omega, by rw [e1]; exact za, fun _ H8 y d8 dy8 hcy hcd yT dT sy k8 => ?_, fun hf => by rw [e1, ds] at hf; cases hf⟩
    rw [e1] at sy
    refine ⟨⟨_, rfl⟩, ?_⟩
    have k78 := k67.trans k8
    have r8 := k8.2 r _ rT r7
    refine ⟨_, rfl, y, C, dy8, _, rfl, O.cls, hp, sy.1, y, d8, dy8, _, rfl, sy, fun e9 he9 => ?_⟩
    have k9 := k78.trans (Kep.new (o := .lst ((sumW ws us).map V.str)) k78.1 he9)
    have k89 := k8.trans (Kep.new (o := .lst ((sumW ws us).map V.str)) k78.1 he9)
    have q9 : upd H8 e9 (.lst ((sumW ws us).map V.str)) e9 = some (.lst ((sumW ws us).map V.str)) := upd_same
    have r9 : upd H8 e9 (.lst ((sumW ws us).map V.str)) r = some (.lst ((sumW ws us).map V.str)) := (upd_ne (ne_of_none r8 he9)).trans r8
    generalize upd H8 e9 (.lst ((sumW ws us).map V.str)) = H9 at k9 k89 q9 r9 ⊢
    obtain ⟨sa9, sb9, hp9, hq9⟩ := At k9
    have sx9 : Stp H9 C x c dz ((sumW ws us).map V.str) := ⟨k89.2 x _ xT sx.1, k89.2 c _ cT sx.2⟩
    refine ⟨_, rfl, dStrs (sumW ws us), dStrs (sumW ws us), .lst (.inl (.inl q9)) (dp_strs _), .lst (.inl (.inl r9)) (dp_strs _), shaped_strs of, shaped_strs of, _, rfl, iteT' (eqv_strs _) ?_⟩
    -- other + both
    have Sb := sts_back Sw Su Sf
    have vb := (sts_iff _).mpr Sb
    have zb : ∀ z ∈ sumW us (sumW ws us), z.length ≤ 100 ∧ lowB z = true := fun z hz => by
      rcases mem_sum.mp hz with h | h
      · exact ⟨Nat.le_trans (Su.tx z h).2.1 (by decide), (Su.tx z h).2.2⟩
      · exact zz z h
    have db : dueB (sumW us (sumW ws us)) = true := (due_sts Su Sf).symm.trans vb
    have ob : ∀ z ∈ sumW us (sumW ws us), PyData.strOk z = true := fun z h => low_ok (zb z h).2
    refine ⟨_, rfl, _, rfl, b, x, dy, _, dz, _, rfl, rfl, sb9.1, sx9.1, b, m, dy, us, x, c, dz, sumW ws us, rfl, sb9, sx9, k9.1, by omega, by omega, fun z hz => (zb z hz).1, fun _ Ha g ga gd' hcg hcga gT gaT sg ka => ?_, fun hf => by rw [vb] at hf; cases hf⟩
    refine ⟨⟨_, rfl⟩, g, C, gd', _, rfl, O.cls, hp, sg.1, g, ga, gd', _, rfl, sg, fun eb heb => ?_⟩
    have kb := (k9.trans ka).trans (Kep.new (o := .lst ((sumW us (sumW ws us)).map V.str)) ka.1 heb)
    have k9b := ka.trans (Kep.new (o := .lst ((sumW us (sumW ws us)).map V.str)) ka.1 heb)
    have qb : upd Ha eb (.lst ((sumW us (sumW ws us)).map V.str)) eb = some (.lst ((sumW us (sumW ws us)).map V.str)) := upd_same
    have ebT : eb ∉ T := free_tab ka.1 heb
    generalize upd Ha eb (.lst ((sumW us (sumW ws us)).map V.str)) = Hb at kb k9b qb ⊢
    obtain ⟨sab, sbb, hpb, hqb⟩ := At kb
    refine ⟨_, rfl, _, rfl, q, r, us, sumW ws us, rfl, hqb, k9b.2 r _ rT r9, kb.1, Su.n1, by omega, by omega, zb, fun _ t9 Hc hct tT ht9 kc => ?_, fun hf => by rw [db] at hf; cases hf⟩
    refine ⟨dStrs (sumW us (sumW ws us)), dStrs (sumW us (sumW ws us)), .lst (.inl (.inl (kc.2 eb _ ebT qb))) (dp_strs _), .lst (.inl (.inl ht9)) (dp_strs _), shaped_strs ob, shaped_strs ob, _, rfl, iteT' (eqv_strs _) ?_⟩
    -- one + one
    have kbc := kb.trans kc
    obtain ⟨sac, sbc, hpc, hqc⟩ := At kbc
    have e2 : sumW ws ws = ws := sum_sub fun z hz => hz
    refine ⟨_, rfl, _, rfl, a, a, dx, _, dx, _, rfl, rfl, sac.1, sac.1, a, l, dx, ws, a, l, dx, ws, rfl, sac, sac, kbc.1, by omega, by omega, by rw [e2]; exact fun z hz => Nat.le_trans (Sw.tx z hz).2.1 (by decide), fun _ Hd g2 ga2 gd2 _ _ g2T ga2T sg2 kd => ?_, fun hf => by rw [e2, vw] at hf; cases hf⟩
    rw [e2] at sg2
    refine ⟨⟨_, rfl⟩, g2, C, gd2, _, rfl, O.cls, hp, sg2.1, g2, ga2, gd2, _, rfl, sg2, fun ed hed => ?_⟩
    have ke := (kbc.trans kd).trans (Kep.new (o := .lst (ws.map V.str)) kd.1 hed)
    obtain ⟨sae, sbe, hpe, hqe⟩ := At ke
    refine ⟨_, rfl, dStrs ws, dStrs ws, .lst (.inl (.inl upd_same)) (dp_strs _), .lst (.inl (.inl hpe)) (dp_strs _), shaped_strs ow, shaped_strs ow, ?_⟩
    rw [eqv_strs]
    exact k _ (k12.trans ke)
end
end Ov

set_option Elab.async false
set_option linter.all false
set_option maxRecDepth 100000
set_option maxHeartbeats 4000000
namespace Ov
open PySem PySem.Spec PyProof.Rows L2 GxR
/-! ### each word once; pieces of lists and words -/
theorem any_iff {ws : List Str} {z : Str} : ws.any (· == z) = true ↔ z ∈ ws := by
  rw [List.any_eq_true]
  exact ⟨fun ⟨y, h, e⟩ => (eq_of_beq e) ▸ h, fun h => ⟨z, h, beq_self_eq_true z⟩⟩
theorem mem_addS {z : List Str} {v k : Str} : k ∈ addS z v ↔ k ∈ z ∨ k = v := by
  have h := addS_any z v k
  rw [← any_iff, h, Bool.or_eq_true, any_iff, decide_eq_true_eq]
theorem addS_nd {z : List Str} {v : Str} (h : z.Nodup) : (addS z v).Nodup := by
  unfold addS
  by_cases c : z.any (· == v) = true
  · rw [if_pos c]; exact h
  · rw [if_neg c, List.nodup_append]
    refine ⟨h, by simp, fun a ha b hb e => ?_⟩
    rw [List.mem_singleton] at hb
    subst hb e
    exact c (any_iff.mpr ha)
theorem once_facts (xs : List Str) : (once xs).Nodup ∧ ∀ k, k ∈ once xs ↔ k ∈ xs := by
  have key : ∀ (l z : List Str), z.Nodup → (l.foldl addS z).Nodup ∧ ∀ k, k ∈ l.foldl addS z ↔ k ∈ z ∨ k ∈ l := by
    intro l
    induction l with
    | nil => intro z h; exact ⟨h, fun k => by simp⟩
    | cons a l ih =>
      intro z h
      rw [List.foldl_cons]
      obtain ⟨i1, i2⟩ := ih (addS z a) (addS_nd h)
      refine ⟨i1, fun k => ?_⟩
      rw [i2 k, mem_addS, List.mem_cons, or_assoc]
  obtain ⟨a, b⟩ := key xs [] List.nodup_nil
  exact ⟨a, fun k => by rw [show once xs = xs.foldl addS [] from rfl, b k]; simp⟩
theorem once_step {xs : List Str} {j : Nat} {z : Str} (h : xs[j]? = some z) : once (xs.take (j + 1)) = if (!inV (.str z) ((xs.take j).map V.str)) = true then once (xs.take j) ++ [z] else once (xs.take j) := by
  have hj := (List.getElem?_eq_some_iff.mp h).1
  rw [once_take hj]
  have e : xs.getD j Str.empty = z := by rw [List.getD_eq_getElem?_getD, h]; rfl
  rw [e]
  unfold addS
  have m := (once_facts (xs.take j)).2 z
  by_cases c : z ∈ xs.take j
  · have c1 : inV (.str z) ((xs.take j).map V.str) = true := inV_iff.mpr c
    rw [if_pos (any_iff.mpr (m.mpr c)), c1]; rfl
  · have c1 : inV (.str z) ((xs.take j).map V.str) = false := by
      cases h2 : inV (.str z) ((xs.take j).map V.str) with
      | false => rfl
      | true => exact absurd (inV_iff.mp h2) c
    rw [if_neg (fun h2 => c (m.mp (any_iff.mp h2))), c1]; rfl
theorem cutV_to {l : List Str} {d : Int} (h : 0 ≤ d) : cutV (l.map V.str) none (some d) = (l.take d.toNat).map V.str := by
  unfold cutV
  have e : d = (d.toNat : Int) := by omega
  rw [e, HT.sIx_none, HT.sIx_nat, List.drop_zero, List.length_map, Nat.sub_zero, ← List.map_take]
  congr 1
  have : ((d.toNat : Int)).toNat = d.toNat := by omega
  rw [this]
  by_cases c : d.toNat ≤ l.length
  · rw [Nat.min_eq_left c]
  · rw [Nat.min_eq_right (by omega), List.take_of_length_le (Nat.le_refl _), List.take_of_length_le (by omega)]
/-- (z * 8)[:W] -/
def wideS (z : Str) (W : Nat) : Str := ⟨((List.replicate 8 z.cps.toList).flatten.take W).toArray⟩
theorem flat8 (l : List Nat) : (List.replicate 8 l).flatten.length = 8 * l.length := by
  rw [List.length_flatten, List.map_replicate, List.sum_replicate_nat]
theorem cut_wide {z : Str} {W : Nat} (h : W ≤ 8) (hz : 1 ≤ z.length) : cutS ⟨(List.replicate (8 : Int).toNat z.cps.toList).flatten.toArray⟩ none (some (W : Int)) = wideS z W := by
  unfold cutS wideS
  have e8 : (8 : Int).toNat = 8 := rfl
  have hl : z.cps.toList.length = z.length := rfl
  rw [HT.sIx_none, HT.sIx_nat, List.drop_zero, Nat.sub_zero, e8]
  have el : (⟨(List.replicate 8 z.cps.toList).flatten.toArray⟩ : Str).length = 8 * z.length := by
    show ((List.replicate 8 z.cps.toList).flatten.toArray).size = _
    rw [List.size_toArray, flat8, hl]
  rw [el, Nat.min_eq_left (by omega)]
theorem wide_len {z : Str} {W : Nat} (h : W ≤ 8) (hz : 1 ≤ z.length) : (wideS z W).length = W := by
  show (((List.replicate 8 z.cps.toList).flatten.take W).toArray).size = W
  have hl : z.cps.toList.length = z.length := rfl
  rw [List.size_toArray, List.length_take, flat8, hl]
  omega
theorem wide_low {z : Str} {W : Nat} (h : lowB z = true) : lowB (wideS z W) = true := by
  unfold lowB wideS at *
  rw [List.all_eq_true] at h ⊢
  intro c hc
  have h1 : c ∈ (List.replicate 8 z.cps.toList).flatten := List.mem_of_mem_take (show c ∈ (List.replicate 8 z.cps.toList).flatten.take W from hc)
  obtain ⟨l, hl, hcl⟩ := List.mem_flatten.mp h1
  rw [(List.mem_replicate.mp hl).2] at hcl
  exact h c hcl
theorem sts_end {ws us : List Str} {W d : Nat} (hw : Sts ws) (hu : Sts us) (e : (ws.headD Str.empty).length = W) : Sts ((once (us.map (wideS · W) ++ ws.take d)).take (min 6 (36 / W))) := by
  have hd : ws.headD Str.empty ∈ ws := by
    have := hw.n1
    cases ws with
    | nil => simp at this
    | cons z r => exact List.mem_cons_self
  have W1 : 1 ≤ W := by rw [← e]; exact (hw.tx _ hd).1
  have W8 : W ≤ 8 := by rw [← e]; exact (hw.tx _ hd).2.1
  have w4 : 4 ≤ 36 / W := (Nat.le_div_iff_mul_le (by omega)).mpr (by omega)
  have w36 : W * (36 / W) ≤ 36 := Nat.mul_div_le 36 W
  generalize hxs : us.map (wideS · W) ++ ws.take d = xs
  have fx : ∀ z ∈ xs, z.length = W ∧ lowB z = true := fun z hz => by
    rw [← hxs] at hz
    rcases List.mem_append.mp hz with h | h
    · obtain ⟨y, hy, rfl⟩ := List.mem_map.mp h
      exact ⟨wide_len W8 (hu.tx y hy).1, wide_low (hu.tx y hy).2.2⟩
    · have := List.mem_of_mem_take h
      exact ⟨(hw.wd z this).trans e, (hw.tx z this).2.2⟩
  have nx : 1 ≤ xs.length := by
    rw [← hxs, List.length_append, List.length_map]
    have := hu.n1
    omega
  obtain ⟨nd, mem⟩ := once_facts xs
  have no : 1 ≤ (once xs).length := by
    have h : xs[0] ∈ once xs := (mem _).mpr (List.getElem_mem _)
    cases hq : once xs with
    | nil => rw [hq] at h; cases h
    | cons z r => simp
  generalize hm : min 6 (36 / W) = m
  have m1 : 1 ≤ m := by omega
  have m6 : m ≤ 6 := by omega
  have mW : W * m ≤ 36 := Nat.le_trans (Nat.mul_le_mul_left W (by omega : m ≤ 36 / W)) w36
  have ft : ∀ z ∈ (once xs).take m, z.length = W ∧ lowB z = true := fun z hz => fx z ((mem z).mp (List.mem_of_mem_take hz))
  have ln : ((once xs).take m).length ≤ m := by rw [List.length_take]; omega
  have l1 : 1 ≤ ((once xs).take m).length := by rw [List.length_take]; omega
  have hh : (((once xs).take m).headD Str.empty).length = W := by
    cases hq : (once xs).take m with
    | nil => rw [hq] at l1; simp at l1
    | cons z r => exact (ft z (by rw [hq]; exact List.mem_cons_self)).1
  refine ⟨l1, by omega, nd.sublist (List.take_sublist _ _), fun z hz => ?_, fun z hz => by rw [hh]; exact (ft z hz).1, ?_⟩
  · obtain ⟨a, b⟩ := ft z hz
    exact ⟨by omega, by omega, b⟩
  · rw [hh]; exact Nat.le_trans (Nat.mul_le_mul_left W ln) mW
end Ov

set_option Elab.async false
set_option linter.all false
set_option maxRecDepth 100000
set_option maxHeartbeats 4000000
namespace Ov
open PySem PySem.Spec PyProof.Rows L2 GxR
section
variable {P : Program} {w : World} {K : PySem.W.Frag} {mg : Str → Option Value} {base : Heap} {T : List Addr} {C D fLow fText fAre fTape fNext fInks fInit cLow PLow cAre PAre fStrip fOver pWi fWi pWo fWo fCl DSp DSg DS DNum DTx fInked fRow fCalled fRight pO gO : Addr}
theorem KepX.trans {a : Addr} {H H1 H2 : Hp} (x : KepX T a H H1) (y : KepX T a H1 H2) : KepX T a H H2 := ⟨y.1, fun b o hb hn e => y.2 b o hb hn (x.2 b o hb hn e)⟩
theorem Kep.kx {a : Addr} {H H1 : Hp} (x : Kep T H H1) : KepX T a H H1 := ⟨x.1, fun b o hb _ e => x.2 b o hb e⟩
theorem Bt.kx {a : Addr} {H H1 : Hp} (x : Bt a H H1) (hT : ∀ p ∈ T, TabG H p) (na : a ∉ T) : KepX T a H H1 := ⟨fun p hp => by
  obtain ⟨ps, h1, h2⟩ := hT p hp
  exact ⟨ps, x p _ (fun z => na (z ▸ hp)) h1, h2⟩, fun b o _ hn e => x b o hn e⟩
theorem KepX.new {a : Addr} {H H1 : Hp} {p : Addr} {o : HO} (x : KepX T a H H1) (e : H1 p = none) : KepX T a H (upd H1 p o) := ⟨(Kep.new x.1 e).1, fun b u hb hn q => (Kep.new x.1 e).2 b u hb (x.2 b u hb hn q)⟩
theorem KepX.free {a : Addr} {H H1 : Hp} {p : Addr} (x : KepX T a H H1) (hT : ∀ p ∈ T, TabG H p) (hp : p ≠ a) (e : H1 p = none) : H p = none := by
  cases q : H p with
  | none => rfl
  | some o =>
    by_cases hb : p ∈ T
    · obtain ⟨ps, h1, _⟩ := x.1 p hb
      rw [h1] at e; cases e
    · rw [x.2 p o hb hp q] at e; cases e
theorem KepX.put {a : Addr} {H H1 : Hp} {p : Addr} {o : HO} (x : KepX T a H H1) (e : H p = none) (n : p ∉ T) : KepX T a H (upd H1 p o) := by
  refine ⟨fun q hq => ?_, fun b u hb hn hu => ?_⟩
  · obtain ⟨ps, h1, h2⟩ := x.1 q hq
    exact ⟨ps, (upd_ne fun z => n (by rw [← z]; exact hq)).trans h1, h2⟩
  · exact (upd_ne (ne_of_none hu e)).trans (x.2 b u hb hn hu)
theorem KepX.at {a b : Addr} {H H1 : Hp} {o : HO} (x : KepX T a H H1) (hT : ∀ p ∈ T, TabG H p) (hb : b ≠ a) (e : H b = some o) (n : ∀ ps, o ≠ .tbl ps) : H1 b = some o := x.2 b o (not_tab hT e n) hb e
theorem KepX.refl {a : Addr} {H : Hp} (h : ∀ p ∈ T, TabG H p) : KepX T a H H := ⟨h, fun _ _ _ _ e => e⟩
theorem Bt.kxt {a : Addr} {H H1 H2 : Hp} (k : KepX T a H H1) (na : a ∉ T) (x : Bt a H1 H2) : KepX T a H H2 := k.trans (x.kx k.1 na)
theorem Tp.kx {H H' : Hp} {t : Addr} {n : Nat} (h : Tp H t n) (hT : ∀ p ∈ T, TabG H p) (k : Kep T H H') : Tp H' t n := by
  have nt : t ∉ T := by
    obtain ⟨a, b, c, h1, _⟩ := h
    exact not_tab hT h1 fun _ z => by cases z
  obtain ⟨a, b, c, h1, h2⟩ := h
  exact ⟨a, b, c, k.2 t _ nt h1, h2⟩
theorem Tp.nT {H : Hp} {t : Addr} {n : Nat} (h : Tp H t n) (hT : ∀ p ∈ T, TabG H p) : t ∉ T := by
  obtain ⟨a, b, c, h1, _⟩ := h
  exact not_tab hT h1 fun _ z => by cases z
theorem Kep.btX {t : Addr} {H H1 H2 : Hp} (hT : ∀ p ∈ T, TabG H p) (k : Kep T H H1) (ht : H t = none) (b : Bt t H1 H2) : Kep T H H2 := by
  refine ⟨fun p hp => ?_, fun a o ha e => b a o (ne_of_none e ht) (k.2 a o ha e)⟩
  obtain ⟨ps, h1, h2⟩ := k.1 p hp
  obtain ⟨ps', h1', _⟩ := hT p hp
  exact ⟨ps, b p _ (ne_of_none h1' ht) h1, h2⟩
end
end Ov

set_option Elab.async false
set_option linter.all false
set_option maxRecDepth 100000
set_option maxHeartbeats 4000000
namespace Ov
open PySem PySem.Spec PyProof.Rows L2 GxR
abbrev sLawU : Stmt := top 22
section
variable {P : Program} {w : World} {K : PySem.W.Frag} {mg : Str → Option Value} {base : Heap} {T : List Addr} {C D fLow fText fAre fTape fNext fInks fInit cLow PLow cAre PAre fAdd fLen pWo fWo pWi fWi pO gO fDue fSum fRight : Addr}
def spLawU (K : PySem.W.Frag) (T : List Addr) : Sp := fun vs H Q _ => ∃ (a : Addr) (ns : List Int), vs = [V.ref a] ∧ (∀ p ∈ T, TabG H p) ∧ SqL K H a (ns.map V.int) ∧ ns.length ≤ 63 ∧ ∀ H', Q (.bl true) H'
abbrev NLU : List Str := ["script", "k", "tape", "turn", "first", "second", "wide", "some", "ink", "spot"]
theorem scLawU : FnScope NLU ["script"] (defScope sLawU) := ⟨rfl, rfl, rfl, by decide +kernel, rfl, by decide +kernel, by decide +kernel⟩
abbrev mul6 (z : Str) : Str := ⟨(List.replicate (6 : Int).toNat z.cps.toList).flatten.toArray⟩
abbrev A1 : List Str := ["aaaaaa", mul6 "b", mul6 "c"]
abbrev A2 : List Str := [mul6 "d", mul6 "e", mul6 "f"]
abbrev A3 : List Str := [mul6 "g"]
theorem s1U : stampsV (A1.map V.str) = true := by decide +kernel
theorem s2U : stampsV (A2.map V.str) = true := by decide +kernel
theorem s3U : stampsV (A3.map V.str) = true := by decide +kernel
theorem s12U : stampsV ((sumW A1 A2).map V.str) = true := by decide +kernel
theorem s123U : stampsV ((sumW (sumW A1 A2) A3).map V.str) = false := by decide +kernel
theorem sabU : stampsV ((sumW ["a"] ["ab"]).map V.str) = false := by decide +kernel
theorem ok_lawU {f : Addr} {fd fdA fdW fdWi fdD fdS fdO fdLe fdTp fdNx fdIn fdR : FuncData} (F : L2.Fun K "law" "law" sLawU f fd) (FTp : L2.Fun K "_law_tape" "_law_tape" sTape fTape fdTp) (FNx : L2.Fun K "_law_next" "_law_next" sNext fNext fdNx) (FIn : L2.Fun K "_law_inks" "_law_inks" sInks fInks fdIn)
    (FRi : L2.Fun K "_law_right" "_law_right" sRight fRight fdR) (FD : L2.Fun K "_law_due" "_law_due" sDue fDue fdD) (FS : L2.Fun K "_law_sum" "_law_sum" sSum fSum fdS) (FA : L2.Fun K "__add__" "Stamps.__add__" sAdd fAdd fdA)
    (FLe : L2.Fun K "__len__" "Stamps.__len__" sLenI fLen fdLe) (FO : L2.Fun K "of" "Stamps.of" sOf gO fdO) (FI : FnR P w K mg base (L2.CX P w) 6 fInit (spInit K T C D)) (FW : L2.Fun K "words" "Stamps.words" sWords fWo fdW) (FWi : L2.Fun K "width" "Stamps.width" sWidth fWi fdWi) (M : Mk K C fInit)
    (X : Txt K mg C fLow fText fAre fTape fNext fInks) (XU : TopU K mg fDue fSum fRight) (enu : mg "enumerate" = none) (O : Own K C) (hp : PropOf K C "words" pWo fWo) (hpi : PropOf K C "width" pWi fWi) (IU : InsU K C) (A : AddO K C fAdd fLen) (Er : ErrC K mg "InvalidStamps" D) (ex : PySem.W.exmOne K (.ref D) (.ref D) = some true)
    (co : ClX.CMet K C (.type "type") "of" pO gO) (p2 : Pair2 K C C) :
    FnG P w K mg base CX0 11 f fd ["script"] (spLawU K T) := by
  have TT : FnOk P w K mg base CX0 1 fTape fdTp ["script", "k"] (spTape K) := ok_tape FTp X
  have bT : Binds K fdTp ["script", "k"] [] := FTp.binds fun _ _ _ _ _ _ us hl => match us, hl with | [_, _], _ => rfl
  have N1 : FnOk P w K mg base CX0 1 fNext fdNx ["tape", "many"] spNext := ok_next FNx X
  have bN : Binds K fdNx ["tape", "many"] [] := FNx.binds fun _ _ _ _ _ _ us hl => match us, hl with | [_, _], _ => rfl
  have I1 : FnOk P w K mg base CX0 2 fInks fdIn ["tape", "most"] (spInks K) := ok_inks FIn FNx X
  have bI : Binds K fdIn ["tape", "most"] [] := FIn.binds fun _ _ _ _ _ _ us hl => match us, hl with | [_, _], _ => rfl
  have OO : FnOk P w K mg base (L2.CX P w) 8 gO fdO ["cls", "words"] (spOf K T C D) := ok_of FO FI M X Er
  have OR : FnR P w K mg base (L2.CX P w) 8 gO (spOf K T C D) := (OO.raw (FO.binds fun _ _ _ _ _ _ us hl => match us, hl with | [_, _], _ => rfl) .nil).imp fun vs H Q E h => by rw [List.append_nil]; exact h
  have F1 : FnOk P w K mg base (L2.CX P w) 8 fAdd fdA ["self", "other"] (spAdd K T C D) := ok_add FA FI FW M X O hp IU
  have FR : FnR P w K mg base (L2.CX P w) 8 fAdd (spAdd K T C D) := (F1.raw (FA.binds fun _ _ _ _ _ _ us hl => match us, hl with | [_, _], _ => rfl) .nil).imp fun vs H Q E h => by rw [List.append_nil]; exact h
  have WW : FnOk P w K mg base CX0 1 fWo fdW ["self"] (spWords C) := ok_words FW X O
  have bW : Binds K fdW ["self"] [] := FW.binds fun _ _ _ _ _ _ us hl => match us, hl with | [_], _ => rfl
  have SS : FnOk P w K mg base CX0 9 fSum fdS ["one", "other"] (spSum T C) := ok_sum FS FA FI FW M X O hp IU A Er ex
  have bS : Binds K fdS ["one", "other"] [] := FS.binds fun _ _ _ _ _ _ us hl => match us, hl with | [_, _], _ => rfl
  have RR : FnG P w K mg base CX0 10 fRight fdR ["first", "second"] (spRightU T) := ok_rightU FRi FD FS FA FLe FO FI FW FWi M X XU O hp hpi IU A Er ex co p2
  have bR : Binds K fdR ["first", "second"] [] := FRi.binds fun _ _ _ _ _ _ us hl => match us, hl with | [_, _], _ => rfl
  refine fun_okG F scLawU (fun vs H Q E h => ?_) (fun cdv A' outer s H vs Q E hg hr h => ?_)
  · obtain ⟨a, ns, rfl, _⟩ := h
    rfl
  · obtain ⟨a, ns, rfl, hT, hs, hn, q⟩ := h
    have hu := hr.units
    refine ⟨_, pss_cons (ps_for PassesOwn.never rfl (pi_range1 (by rfl) X.rng (pa_cons (pe_callB (call_max2 rfl) (by rfl) X.max boot_max (pa_cons pe_int (pa_cons (pe_callB (call_min2 rfl) (by rfl) X.min boot_min (pa_cons pe_int (pa_cons (pe_callB call_len_seq (by rfl) X.len boot_len (pa_cons (pv 0) pa_nil)) pa_nil))) pa_nil))) pa_nil)) (pg_name (i := 1) scLawU.nd rfl (Or.inl rfl))
        (pss_cons (ps_set (i := 2) scLawU.nd rfl (.inl rfl) (pe_call TT (hr.mono (by decide)) (by rfl) X.gTape X.kTape bT .nil L2.pass0 (pa_cons (pv 0) (pa_cons (pv 1) pa_nil))))
        (pss_one (ps_for PassesOwn.never rfl (pi_range1 (by rfl) X.rng (pa_cons pe_int pa_nil)) (pg_name (i := 3) scLawU.nd rfl (Or.inl rfl))
          (pss_cons (ps_asg (pe_tup (pa_cons (pe_call I1 (hr.mono (by decide)) (by rfl) X.gInks X.kInks bI .nil L2.pass0 (pa_cons (pv 2) (pa_cons pe_int pa_nil))) (pa_cons (pe_call I1 (hr.mono (by decide)) (by rfl) X.gInks X.kInks bI .nil L2.pass0 (pa_cons (pv 2) (pa_cons pe_int pa_nil))) pa_nil)))
              (pg_tup rfl (pgs_cons (pg_name (i := 4) scLawU.nd rfl (Or.inl rfl)) (pgs_cons (pg_name (i := 5) scLawU.nd rfl (Or.inr rfl)) pgs_nil))))
          (C8.pss_cut (ps_if (pt_cmpR op_gt (pe_next N1 bN (hr.mono (by decide)) (by rfl) X.gNext X.kNext (pa_cons (pv 2) (pa_cons pe_int pa_nil))) pe_int (by rfl))
            (pss_cons (ps_set (i := 6) scLawU.nd rfl (.inr rfl) (pe_callB call_len_str (by rfl) X.len boot_len (pa_cons (pe_ix ix_seq (pv 4) pe_int fun _ _ => rfl) pa_nil)))
            (pss_cons (ps_set (i := 5) scLawU.nd rfl (.inr rfl) (pe_op op_cat (pe_lc (own := [("ink", 8)]) (g := gName 8) (tt := tYes) (by rfl) scLawU.nd (pi_list (pv 5)) (blkOk_by (own := [("ink", 8)]) (N := NLU) (sc := defScope sLawU) (by decide +kernel))
                (fun _ _ _ _ _ => pg_name (i := 8) scLawU.nd rfl (Or.inl rfl)) (fun _ _ _ _ _ => pts_nil) (fun _ _ _ _ _ => pe_slice sl_str (pe_op op_mulS (pv 8) pe_int) po_none (po_some (pv 6))))
              (pe_slice sl_list (pv 4) po_none (po_some (pe_next N1 bN (hr.mono (by decide)) (by rfl) X.gNext X.kNext (pa_cons (pv 2) (pa_cons pe_int pa_nil)))))))
            (pss_cons (ps_set (i := 5) scLawU.nd rfl (.inr rfl) (pe_lc (own := [("ink", 8), ("spot", 9)]) (g := gTup K 2 (gCons (gName 9) (gCons (gName 8) gNil))) (by rfl) scLawU.nd (pi_enum (by rfl) enu (pa_cons (pv 5) pa_nil)) (blkOk_by (own := [("ink", 8), ("spot", 9)]) (N := NLU) (sc := defScope sLawU) (by decide +kernel))
                (fun _ _ _ _ _ => pg_tup rfl (pgs_cons (pg_name (i := 9) scLawU.nd rfl (Or.inl rfl)) (pgs_cons (pg_name (i := 8) scLawU.nd rfl (Or.inl rfl)) pgs_nil)))
                (fun _ _ _ _ _ => pts_one (pt_cmpR (show OpR _ _ (rIn K true) from op_notIn_seq) (pv 8) (pe_slice (show SlR _ (rSlL K) from sl_list) (pv 5) po_none (po_some (pv 9))) (by rfl))) (fun _ _ _ _ _ => pv 8)))
            (pss_one (ps_set (i := 5) scLawU.nd rfl (.inr rfl) (pe_slice sl_list (pv 5) po_none (po_some (pe_callB (call_min2 rfl) (by rfl) X.min boot_min (pa_cons pe_int (pa_cons (pe_op op_fdiv pe_int (pv 6)) pa_nil))))))))))
            pss_nil)
          (pss_one (ps_if (pw_or (pt_not (pt_val (pe_callG RR hg hr (by rfl) XU.gRight XU.kRight bR L2.pass0 (pa_cons (pv 4) (pa_cons (pv 5) pa_nil))))) (pw_or1 (pt_not (pt_val (pe_callG RR hg hr (by rfl) XU.gRight XU.kRight bR L2.pass0 (pa_cons (pv 5) (pa_cons (pv 4) pa_nil))))))).pt (pss_one (ps_ret pe_bl)) pss_nil))))))))
      (pss_cons (ps_set (i := 7) scLawU.nd rfl (.inl rfl) (pe_lst (pa_cons (ClX.pe_cmeth (pe_glob (v := .ref C) (by rfl) X.gC rfl) X.rd co OR (hr.mono (by decide)) passL (pa_cons (pe_lst (pa_cons pe_str (pa_cons (pe_op op_mulS pe_str pe_int) (pa_cons (pe_op op_mulS pe_str pe_int) pa_nil)))) pa_nil)) (pa_cons (ClX.pe_cmeth (pe_glob (v := .ref C) (by rfl) X.gC rfl) X.rd co OR (hr.mono (by decide)) passL (pa_cons (pe_lst (pa_cons (pe_op op_mulS pe_str pe_int) (pa_cons (pe_op op_mulS pe_str pe_int) (pa_cons (pe_op op_mulS pe_str pe_int) pa_nil)))) pa_nil)) (pa_cons (StX.pe_makeR M FI (hr.mono (by decide)) (by rfl) X.gC passL (pa_cons (pe_op op_mulS pe_str pe_int) pa_nil)) pa_nil)))))
      (pss_cons (ps_if (pt_cmpR (op_neD hu) (pe_propX (p := pWo) (pe_addI (E := fun _ => E0) A.s A.f A.c FR (hr.mono (by decide)) (fun σ pins H s e s' I c => passL pins σ H s e s' I c) (pe_ix ix_seq (pv 7) pe_int fun _ _ => rfl) (pe_ix ix_seq (pv 7) pe_int fun _ _ => rfl)) WW (hr.mono (by decide)) bW .nil L2.pass0) (pe_lst (pa_cons pe_str (pa_cons (pe_op op_mulS pe_str pe_int) (pa_cons (pe_op op_mulS pe_str pe_int) (pa_cons (pe_op op_mulS pe_str pe_int) (pa_cons (pe_op op_mulS pe_str pe_int) (pa_cons (pe_op op_mulS pe_str pe_int) pa_nil))))))) (by rfl)) (pss_one (ps_ret pe_bl)) pss_nil)
      (pss_one (ps_ret (pe_and (pe_cmpR op_isN (pe_call SS (hr.mono (by decide)) (by rfl) XU.gSum XU.kSum bS .nil L2.pass0 (pa_cons (pe_addI (E := fun _ => E0) A.s A.f A.c FR (hr.mono (by decide)) (fun σ pins H s e s' I c => passL pins σ H s e s' I c) (pe_ix ix_seq (pv 7) pe_int fun _ _ => rfl) (pe_ix ix_seq (pv 7) pe_int fun _ _ => rfl)) (pa_cons (pe_ix ix_seq (pv 7) pe_int fun _ _ => rfl) pa_nil))) pe_non (by rfl)) (pe_one (pe_cmpR op_isN (pe_call SS (hr.mono (by decide)) (by rfl) XU.gSum XU.kSum bS .nil L2.pass0 (pa_cons (StX.pe_makeR M FI (hr.mono (by decide)) (by rfl) X.gC passL (pa_cons pe_str pa_nil)) (pa_cons (StX.pe_makeR M FI (hr.mono (by decide)) (by rfl) X.gC passL (pa_cons pe_str pa_nil)) pa_nil))) pe_non (by rfl)))))))), ?_⟩
    refine ⟨_, rfl, a, _, rfl, .inl hs, _, _, rfl, _, _, rfl, _, rfl, ?_, ?_, ?_⟩
    · rw [List.length_map]; split <;> omega
    · rw [List.length_map]; split <;> (try split) <;> omega
    rw [List.length_map]
    generalize hN : (if (if (ns.length : Int) < 4 then (ns.length : Int) else 4) > 1 then (if (ns.length : Int) < 4 then (ns.length : Int) else 4) else 1) = N
    have N4 : N ≤ 4 := by rw [← hN]; split <;> (try split) <;> omega
    refine for_range (lo := 0) (n := N.toNat) (fun k σ H' => (∃ v1 v2 v3 v4 v5 v6, σ = [some (.ref a), v1, v2, v3, v4, v5, v6, none, none, none]) ∧ Kep T H H') ⟨⟨_, _, _, _, _, _, rfl⟩, .refl hT⟩ (fun k σ H' hk p => ?_) (fun σ H' p => ?_)
    · obtain ⟨⟨v1, v2, v3, v4, v5, v6, rfl⟩, kH⟩ := p
      refine ⟨_, rfl, _, rfl, a, ns, _, rfl, kH.seqL hT hs, by omega, by omega, fun t H1 ht tp1 but1 => ?_⟩
      have kB : Kep T H' H1 := Kep.btX kH.1 (.refl kH.1) ht but1.bt
      refine ⟨12, rfl, by decide, by decide, for_range (lo := 0) (n := 12) (fun j σ Hs => (∃ v3 v4 v5 v6, σ = [some (.ref a), some (.int (0 + (k : Nat))), some (.ref t), v3, v4, v5, v6, none, none, none]) ∧ Kep T H' Hs ∧ Tp Hs t (200 * j)) ⟨⟨_, _, _, _, rfl⟩, kB, tp1⟩ (fun j σ Hs hj p => ?_) (fun σ Hs p => ?_)⟩
      · obtain ⟨⟨v3, v4, v5, v6, rfl⟩, kHs, tps⟩ := p
        have hTs := kHs.1
        have nt : t ∉ T := tps.nT hTs
        have tT : H' t = none := ht
        refine ⟨_, rfl, t, 8, 200 * j, rfl, tps, by omega, by decide, by decide, fun li ws H2 hli0 hli sv tp2 bt2 => ?_⟩
        have x2 : KepX T t Hs H2 := bt2.kx hTs nt
        have lit : li ≠ t := (tps.ne hli0).symm
        refine ⟨_, rfl, t, 8, 200 * j + 60, rfl, tp2, by omega, by decide, by decide, fun lj us H3 hlj0 hlj su tp3 bt3 => ?_⟩
        have x3 : KepX T t Hs H3 := x2.trans (bt3.kx x2.1 nt)
        have ljt : lj ≠ t := (tp2.ne hlj0).symm
        have Sw := (sts_iff ws).mp sv
        have Su := (sts_iff us).mp su
        have hli3 : H3 li = some (.lst (ws.map V.str)) := (bt3.kx x2.1 nt).at x2.1 lit hli fun _ z => by cases z
        refine ⟨(by decide : 2 ≤ sizeLine), fun tu htu => ?_⟩
        have x4 : KepX T t Hs (upd H3 tu (.tup [.ref li, .ref lj])) := x3.new htu
        have q4 : upd H3 tu (.tup [.ref li, .ref lj]) tu = some (.tup [.ref li, .ref lj]) := upd_same
        have li4 : upd H3 tu (.tup [.ref li, .ref lj]) li = some (.lst (ws.map V.str)) := (upd_ne (ne_of_none hli3 htu)).trans hli3
        have lj4 : upd H3 tu (.tup [.ref li, .ref lj]) lj = some (.lst (us.map V.str)) := (upd_ne (ne_of_none hlj htu)).trans hlj
        have tp4 : Tp (upd H3 tu (.tup [.ref li, .ref lj])) t (200 * j + 60 + 60) := tp3.new htu
        generalize upd H3 tu (.tup [.ref li, .ref lj]) = H4 at x4 q4 li4 lj4 tp4 ⊢
        refine ⟨tu, _, rfl, .inl (.inl q4), rfl, _, _, rfl, _, _, rfl, rfl, ?_⟩
        refine ⟨fun σ' Hx => ∃ lj' us' v6', σ' = [some (.ref a), some (.int (0 + (k : Nat))), some (.ref t), some (.int (0 + (j : Nat))), some (.ref li), some (.ref lj'), v6', none, none, none] ∧ Hx li = some (.lst (ws.map V.str)) ∧ Hx lj' = some (.lst (us'.map V.str)) ∧ Sts us' ∧ KepX T t Hs Hx ∧ Tp Hx t (200 * j + 190), ?_, ?_⟩
        · refine ⟨_, rfl, t, 3, 200 * j + 60 + 60, rfl, tp4, by omega, by decide, by decide, fun d H5 d0 d3 tp5 b5 => ⟨_, _, rfl, rfl, _, rfl, ?_⟩⟩
          have x5 : KepX T t Hs H5 := x4.trans (b5.bt.kx x4.1 nt)
          have li5 : H5 li = some (.lst (ws.map V.str)) := (b5 li lit).trans li4
          have lj5 : H5 lj = some (.lst (us.map V.str)) := (b5 lj ljt).trans lj4
          by_cases c : 0 < d
          case neg => exact iteF' (by simpa using c) ⟨lj, us, _, rfl, li5, lj5, Su, x5, tp5.mono (by omega)⟩
          refine iteT' (by simpa using c) ?_
          have s1 : 1 ≤ ws.length := Sw.n1
          obtain ⟨W, hW⟩ : ∃ W : Nat, (ws[0]'s1).length = W := ⟨_, rfl⟩
          have hh : (ws.headD Str.empty).length = W := by
            rw [← hW]
            cases ws with
            | nil => simp at s1
            | cons z r => rfl
          have tw := Sw.tx _ (List.getElem_mem s1)
          have W8 : W ≤ 8 := by omega
          have W1 : 1 ≤ W := by omega
          refine ⟨_, rfl, .inl ⟨li, _, 0, .str (ws[0]'s1), rfl, rfl, .inl (.inl li5), at_0 s1, _, rfl, Nat.le_trans tw.2.1 (by decide), ?_⟩⟩
          rw [hW]
          have ljT : lj ∉ T := not_tab x5.1 lj5 fun _ z => by cases z
          have liT : li ∉ T := not_tab x5.1 li5 fun _ z => by cases z
          refine ⟨_, rfl, lj, rfl, ⟨_, .inl (.inl lj5)⟩, fun D hD => ?_⟩
          have DT : D ∉ T := free_tab x5.1 hD
          refine lc_list (xs := us.map V.str) (fun i Hx => Hx D = some (.lst (((us.take i).map (wideS · W)).map V.str)) ∧ Kep T H5 Hx) ⟨upd_same, Kep.new x5.1 hD⟩ (fun i Hx _ p => .inl (.inl (p.2.2 lj _ ljT lj5))) (fun i x Hx hi p => ?_) (fun Hx p => ?_)
          · obtain ⟨hDx, kx⟩ := p
            rw [List.getElem?_map] at hi
            obtain ⟨z, hz5, rfl⟩ := Option.map_eq_some_iff.mp hi
            have ju : i < us.length := (List.getElem?_eq_some_iff.mp hz5).1
            have tz := Su.tx z (List.mem_of_getElem? hz5)
            have u6 := Su.n6
            refine ⟨rfl, ?_⟩
            unfold tYes
            refine iteT' (b := true) rfl ?_
            refine ⟨_, rfl, z, 8, rfl, rfl, by decide, by decide, by omega, _, rfl, _, rfl, _, rfl, ?_, ?_⟩
            · show (List.replicate (8 : Int).toNat z.cps.toList).flatten.toArray.size ≤ sizeLine
              rw [List.size_toArray]
              have e8 : (8 : Int).toNat = 8 := rfl
              rw [e8, flat8]
              have : z.cps.toList.length = z.length := rfl
              exact Nat.le_trans (by omega : _ ≤ 64) (by decide)
            · rw [cut_wide W8 tz.1]
              refine ⟨_, hDx, ?_, ?_, Kep.put kx hD DT⟩
              · rw [List.length_map, List.length_map, List.length_take]
                exact Nat.lt_of_lt_of_le (by omega : _ < 7) (by decide)
              · rw [List.take_add_one, hz5, List.map_append, List.map_append]; exact upd_same
          · obtain ⟨hDx, kx⟩ := p
            rw [List.length_map, List.take_length] at hDx
            have w6 := Sw.n6
            have u6 := Su.n6
            have Dt : D ≠ t := (tp5.ne hD).symm
            refine ⟨_, rfl, _, rfl, t, 3, _, rfl, tp5.kx x5.1 kx, by omega, by decide, by decide, fun d2 H7 e0 e3 tp7 b7 => ⟨d2, rfl, li, _, rfl, .inl (.inl ((b7 li lit).trans (kx.2 li _ liT li5))), fun p8 hp8 => ?_⟩⟩
            rw [cutV_to e0]
            have x7 : KepX T t Hs H7 := (x5.trans kx.kx).trans (b7.bt.kx kx.1 nt)
            have D7 : H7 D = some (.lst ((us.map (wideS · W)).map V.str)) := (b7 D Dt).trans hDx
            have li7 : H7 li = some (.lst (ws.map V.str)) := (b7 li lit).trans (kx.2 li _ liT li5)
            have x8 := x7.new (o := .lst ((ws.take d2.toNat).map V.str)) hp8
            have li8 := (upd_ne (o := .lst ((ws.take d2.toNat).map V.str)) (ne_of_none li7 hp8)).trans li7
            have D8 := (upd_ne (o := .lst ((ws.take d2.toNat).map V.str)) (ne_of_none D7 hp8)).trans D7
            have q8 : upd H7 p8 (.lst ((ws.take d2.toNat).map V.str)) p8 = some (.lst ((ws.take d2.toNat).map V.str)) := upd_same
            have tp8 := tp7.new (o := .lst ((ws.take d2.toNat).map V.str)) hp8
            generalize upd H7 p8 (.lst ((ws.take d2.toNat).map V.str)) = H8 at x8 li8 D8 q8 tp8 ⊢
            have tl : (ws.take d2.toNat).length ≤ 6 := by rw [List.length_take]; omega
            refine ⟨D, p8, _, _, rfl, rfl, D8, q8, ?_, fun p9 hp9 => ?_⟩
            · rw [List.length_map, List.length_map, List.length_map]
              exact Nat.le_trans (by omega : _ ≤ 12) (by decide)
            have e9 : (us.map (wideS · W)).map V.str ++ (ws.take d2.toNat).map V.str = (us.map (wideS · W) ++ ws.take d2.toNat).map V.str := (List.map_append ..).symm
            rw [e9]
            have Se := sts_end (d := d2.toNat) Sw Su hh
            have xl : (us.map (wideS · W) ++ ws.take d2.toNat).length ≤ 12 := by rw [List.length_append, List.length_map]; omega
            generalize us.map (wideS · W) ++ ws.take d2.toNat = xs at Se xl ⊢
            have x9 := x8.new (o := .lst (xs.map V.str)) hp9
            have li9 := (upd_ne (o := .lst (xs.map V.str)) (ne_of_none li8 hp9)).trans li8
            have q9 : upd H8 p9 (.lst (xs.map V.str)) p9 = some (.lst (xs.map V.str)) := upd_same
            have tp9 := tp8.new (o := .lst (xs.map V.str)) hp9
            have p9T : p9 ∉ T := free_tab x8.1 hp9
            generalize upd H8 p9 (.lst (xs.map V.str)) = H9 at x9 li9 q9 tp9 ⊢
            refine ⟨_, rfl, p9, _, rfl, .inl (.inl q9), fun D2 hD2 => ?_⟩
            have D2T : D2 ∉ T := free_tab x9.1 hD2
            refine lc_it (walk_enum (xs := xs.map V.str)) (fun i Hx => Hx D2 = some (.lst ((once (xs.take i)).map V.str)) ∧ Kep T H9 Hx) ⟨upd_same, Kep.new x9.1 hD2⟩ (fun i Hx _ p => .inl (.inl (p.2.2 p9 _ p9T q9))) (fun i x Hx Hy hi p y => ?_) (fun Hx p => ?_)
            · obtain ⟨h2, kx2⟩ := p
              obtain ⟨T', x', y', rfl, hT', rfl, e1, e2⟩ := y
              cases e1
              have e2 : (xs.map V.str)[i]? = some y' := e2
              rw [List.getElem?_map] at e2
              obtain ⟨z, hz5, rfl⟩ := Option.map_eq_some_iff.mp e2
              have kt := kx2.trans (Kep.new (o := .tup [.int (i : Nat), .str z]) kx2.1 hT')
              have q2 := (upd_ne (o := .tup [.int (i : Nat), .str z]) (ne_of_none h2 hT')).trans h2
              refine ⟨T', _, rfl, .inl (.inl upd_same), rfl, _, _, rfl, _, _, rfl, rfl, rfl, ?_⟩
              generalize upd Hx T' (.tup [.int (i : Nat), .str z]) = Ht at kt q2 ⊢
              refine ⟨_, rfl, _, rfl, _, rfl, _, rfl, p9, _, rfl, .inl (.inl (kt.2 p9 _ p9T q9)), fun p5 hp5 => ?_⟩
              rw [cutV_to (by omega : (0 : Int) ≤ ((i : Nat) : Int))]
              have ei : ((i : Nat) : Int).toNat = i := by omega
              rw [ei]
              have k5 := kt.trans (Kep.new (o := .lst ((xs.take i).map V.str)) kt.1 hp5)
              have q5 := (upd_ne (o := .lst ((xs.take i).map V.str)) (ne_of_none q2 hp5)).trans q2
              refine ⟨p5, _, rfl, .inl (.inl (.inl upd_same)), rfl, flat_strs _, _, rfl, ?_⟩
              have st := once_step hz5
              show if (!inV (.str z) ((xs.take i).map V.str)) = true then _ else _
              by_cases c : (!inV (.str z) ((xs.take i).map V.str)) = true
              · rw [if_pos c] at st ⊢
                refine ⟨_, rfl, _, q5, ?_, ?_, Kep.put k5 hD2 D2T⟩
                · rw [List.length_map]
                  have := once_le (xs.take i)
                  rw [List.length_take] at this
                  exact Nat.lt_of_lt_of_le (by omega : _ < 13) (by decide)
                · rw [st, List.map_append]; exact upd_same
              · rw [if_neg c] at st ⊢
                exact ⟨by rw [st]; exact q5, k5⟩
            · obtain ⟨h2, kx2⟩ := p
              rw [List.length_map, List.take_length] at h2
              have li' : li ∉ T := liT
              have e36 : (36 : Int) / (W : Int) = ((36 / W : Nat) : Int) := by first | exact (Int.natCast_ediv 36 W).symm | exact (Int.ofNat_ediv 36 W).symm | rfl
              refine ⟨_, rfl, _, rfl, _, _, rfl, rfl, ⟨by omega, by omega⟩, _, _, rfl, _, rfl, D2, _, rfl, .inl (.inl h2), fun pf hpf => ?_⟩
              have M0 : (0 : Int) ≤ (if (36 : Int) / (W : Int) < 6 then (36 : Int) / (W : Int) else 6) := by rw [e36]; generalize 36 / W = q; split <;> omega
              have Me : (if (36 : Int) / (W : Int) < 6 then (36 : Int) / (W : Int) else 6).toNat = min 6 (36 / W) := by rw [e36]; generalize 36 / W = q; split <;> omega
              rw [cutV_to M0, Me]
              have kf := kx2.trans (Kep.new (o := .lst (((once xs).take (min 6 (36 / W))).map V.str)) kx2.1 hpf)
              exact ⟨pf, _, _, rfl, kf.2 li _ liT li9, upd_same, Se, x9.trans kf.kx, (tp9.kx x9.1 kf).mono (by omega)⟩
        · rintro σ' Hx ⟨lj', us', v6', rfl, hlx, hljx, Su', xx, tpx⟩
          refine ⟨_, rfl, _, rfl, li, lj', ws, us', rfl, hlx, hljx, xx.1, Sw, Su', fun H5 k5 => ⟨_, rfl, iteF ?_⟩⟩
          have hl5 : H5 li = some (.lst (ws.map V.str)) := k5.at xx.1 hlx fun _ z => by cases z
          have hj5 : H5 lj' = some (.lst (us'.map V.str)) := k5.at xx.1 hljx fun _ z => by cases z
          refine ⟨_, rfl, _, rfl, lj', li, us', ws, rfl, hj5, hl5, k5.1, Su', Sw, fun H6 k6 => ⟨_, rfl, iteF ?_⟩⟩
          have x6 : KepX T t Hs H6 := (xx.trans k5.kx).trans k6.kx
          refine ⟨⟨_, _, _, _, rfl⟩, ?_, ?_⟩
          · exact KepX.kep kHs ht x6
          · exact (((tpx.kx xx.1 k5).kx k5.1 k6).mono (by omega))
      · obtain ⟨⟨v3, v4, v5, v6, rfl⟩, kHs, tps⟩ := p
        exact ⟨⟨_, _, _, _, _, _, rfl⟩, kH.trans kHs⟩
    · obtain ⟨⟨v1, v2, v3, v4, v5, v6, rfl⟩, kH⟩ := p
      have hT' := kH.1
      have wdw : ∀ (G : Hp) (vs : List Str), stampsV (vs.map V.str) = true → ∀ x ∈ vs.map V.str, Wd K T G x := fun G vs S x hx => by
        obtain ⟨z, hz, rfl⟩ := List.mem_map.mp hx
        exact .inl ⟨z, rfl, Nat.le_trans (((sts_iff vs).mp S).tx z hz).2.1 (by decide)⟩
      refine ⟨rfl, _, 6, rfl, rfl, by decide, by decide, by decide +kernel, _, 6, rfl, rfl, by decide, by decide, by decide +kernel, (by decide : 3 ≤ sizeLine), fun l1 hl1 => ?_⟩
      have k1 := kH.trans (Kep.new (o := .lst (A1.map V.str)) hT' hl1)
      refine ⟨.ref l1, rfl, .inl ⟨l1, A1.map V.str, rfl, upd_same, k1.1, by decide, wdw _ _ s1U, fun _ H1 a1 m1 x1 _ _ _ a1T m1T st1 kk1 => ?_, fun hf => by rw [s1U] at hf; cases hf⟩⟩
      have k2 := k1.trans kk1
      refine ⟨rfl, _, 6, rfl, rfl, by decide, by decide, by decide +kernel, _, 6, rfl, rfl, by decide, by decide, by decide +kernel, _, 6, rfl, rfl, by decide, by decide, by decide +kernel, (by decide : 3 ≤ sizeLine), fun l2 hl2 => ?_⟩
      have k3 := k2.trans (Kep.new (o := .lst (A2.map V.str)) k2.1 hl2)
      refine ⟨.ref l2, rfl, .inl ⟨l2, A2.map V.str, rfl, upd_same, k3.1, by decide, wdw _ _ s2U, fun _ H3 a2 m2 x2 _ _ _ a2T m2T st2 kk2 => ?_, fun hf => by rw [s2U] at hf; cases hf⟩⟩
      have k4 := k3.trans kk2
      have st1' : Stp H3 C a1 m1 x1 (A1.map V.str) := ⟨(((Kep.new k2.1 hl2).trans kk2).2 a1 _ a1T st1.1), (((Kep.new k2.1 hl2).trans kk2).2 m1 _ m1T st1.2)⟩
      refine ⟨_, 6, rfl, rfl, by decide, by decide, by decide +kernel, fun a3 x3 ha3 hx3 hne3 => ?_⟩
      have kn3 : Kep T H3 (upd (upd H3 x3 (.own a3)) a3 (.ins C x3 [])) := Kep.made k4.1 ha3 hx3 hne3
      refine ⟨a3, x3, A3.map V.str, rfl, upd_same, kn3.1, by decide, wdw _ _ s3U, fun _ H5 m3 hm3 m3T hla3 st3 kx3 => ⟨rfl, ?_⟩, fun hf => by rw [s3U] at hf; cases hf⟩
      have kk3 : Kep T H3 H5 := KepX.kep kn3 ha3 kx3
      have a3T : a3 ∉ T := free_tab k4.1 ha3
      refine ⟨(by decide : 3 ≤ sizeLine), fun ls hls => ?_⟩
      have k5 := k4.trans kk3
      have k56 := Kep.new (o := .lst [.ref a1, .ref a2, .ref a3]) k5.1 hls
      have k36 := kk3.trans k56
      have q6 : upd H5 ls (.lst [.ref a1, .ref a2, .ref a3]) ls = some (.lst [.ref a1, .ref a2, .ref a3]) := upd_same
      have lsT : ls ∉ T := free_tab k5.1 hls
      generalize upd H5 ls (.lst [.ref a1, .ref a2, .ref a3]) = H6 at k56 k36 q6 ⊢
      have At : ∀ {G : Hp}, Kep T H6 G → Stp G C a1 m1 x1 (A1.map V.str) ∧ Stp G C a2 m2 x2 (A2.map V.str) ∧ Stp G C a3 m3 x3 (A3.map V.str) ∧ G ls = some (.lst [.ref a1, .ref a2, .ref a3]) := fun kg =>
        ⟨⟨kg.2 a1 _ a1T (k36.2 a1 _ a1T st1'.1), kg.2 m1 _ m1T (k36.2 m1 _ m1T st1'.2)⟩, ⟨kg.2 a2 _ a2T (k36.2 a2 _ a2T st2.1), kg.2 m2 _ m2T (k36.2 m2 _ m2T st2.2)⟩, ⟨kg.2 a3 _ a3T (k56.2 a3 _ a3T st3.1), kg.2 m3 _ m3T (k56.2 m3 _ m3T st3.2)⟩, kg.2 ls _ lsT q6⟩
      obtain ⟨t1, t2, t3, _⟩ := At (.refl k56.1)
      refine ⟨_, rfl, .inl ⟨ls, _, 0, .ref a1, rfl, rfl, .inl (.inl q6), rfl, ?_⟩⟩
      refine ⟨_, rfl, .inl ⟨ls, _, 1, .ref a2, rfl, rfl, .inl (.inl q6), rfl, ?_⟩⟩
      have b12 : ∀ z ∈ sumW A1 A2, z.length ≤ 100 := by decide +kernel
      have e12 : sumW A1 A2 = A1 ++ A2 := by decide +kernel
      refine ⟨a1, a2, x1, _, x2, _, rfl, rfl, t1.1, t2.1, ⟨a1, m1, x1, A1, a2, m2, x2, A2, rfl, t1, t2, k56.1, by decide, by decide, b12, fun _ H7 g gm gx _ _ gT gmT sg k7 => ?_, fun hf => by rw [s12U] at hf; cases hf⟩⟩
      refine ⟨⟨_, rfl⟩, g, C, gx, _, rfl, O.cls, hp, sg.1, g, gm, gx, _, rfl, sg, fun ew hew => ?_⟩
      have k7w := k7.trans (Kep.new (o := .lst ((sumW A1 A2).map V.str)) k7.1 hew)
      have qw : upd H7 ew (.lst ((sumW A1 A2).map V.str)) ew = some (.lst ((sumW A1 A2).map V.str)) := upd_same
      generalize upd H7 ew (.lst ((sumW A1 A2).map V.str)) = Hw at k7w qw ⊢
      refine ⟨_, 6, rfl, rfl, by decide, by decide, by decide +kernel, _, 6, rfl, rfl, by decide, by decide, by decide +kernel, _, 6, rfl, rfl, by decide, by decide, by decide +kernel, _, 6, rfl, rfl, by decide, by decide, by decide +kernel, _, 6, rfl, rfl, by decide, by decide, by decide +kernel, (by decide : 6 ≤ sizeLine), fun el hel => ?_⟩
      have k8 := k7w.trans (Kep.new (o := .lst ((A1 ++ A2).map V.str)) k7w.1 hel)
      have o12 : ∀ z ∈ A1 ++ A2, PyData.strOk z = true := by decide +kernel
      refine ⟨dStrs (sumW A1 A2), dStrs (A1 ++ A2), .lst (.inl (.inl ((upd_ne (ne_of_none qw hel)).trans qw))) (dp_strs _), .lst (.inl (.inl upd_same)) (dp_strs (A1 ++ A2)), by rw [e12]; exact shaped_strs o12, shaped_strs o12, _, rfl, iteF' (by rw [e12, eqv_strs]; rfl) ?_⟩
      obtain ⟨t1, t2, t3, q8⟩ := At k8
      refine ⟨_, rfl, .inl ⟨ls, _, 0, .ref a1, rfl, rfl, .inl (.inl q8), rfl, ?_⟩⟩
      refine ⟨_, rfl, .inl ⟨ls, _, 1, .ref a2, rfl, rfl, .inl (.inl q8), rfl, ?_⟩⟩
      refine ⟨a1, a2, x1, _, x2, _, rfl, rfl, t1.1, t2.1, ⟨a1, m1, x1, A1, a2, m2, x2, A2, rfl, t1, t2, k8.1, by decide, by decide, b12, fun _ H9 g9 gm9 gx9 _ _ g9T gm9T sg9 k9 => ?_, fun hf => by rw [s12U] at hf; cases hf⟩⟩
      obtain ⟨t1, t2, t3, q9⟩ := At (k8.trans k9)
      have b123 : ∀ z ∈ sumW (sumW A1 A2) A3, z.length ≤ 100 := by decide +kernel
      refine ⟨⟨_, rfl⟩, _, rfl, .inl ⟨ls, _, 2, .ref a3, rfl, rfl, .inl (.inl q9), rfl, ?_⟩⟩
      refine ⟨g9, gm9, gx9, sumW A1 A2, a3, m3, x3, A3, rfl, sg9, t3, k9.1, by rw [e12]; decide, by decide, b123, (fun hf => by rw [s123U] at hf; cases hf), fun _ Ha ka => ?_⟩
      refine ⟨rfl, _, rfl, iteT' (by simp) ?_⟩
      have ska : stampsV ((["a"] : List Str).map V.str) = true := by decide +kernel
      have skb : stampsV ((["ab"] : List Str).map V.str) = true := by decide +kernel
      refine fun ya xa hya hxa hnea => ?_
      have kna : Kep T Ha (upd (upd Ha xa (.own ya)) ya (.ins C xa [])) := Kep.made ka.1 hya hxa hnea
      refine ⟨ya, xa, (["a"] : List Str).map V.str, rfl, upd_same, kna.1, by decide, wdw _ _ ska, fun _ Hb la _ laT _ sta kxa => ⟨rfl, ?_⟩, fun hf => by rw [ska] at hf; cases hf⟩
      have kab : Kep T Ha Hb := KepX.kep kna hya kxa
      have yaT : ya ∉ T := free_tab ka.1 hya
      refine fun yb xb hyb hxb hneb => ?_
      have knb : Kep T Hb (upd (upd Hb xb (.own yb)) yb (.ins C xb [])) := Kep.made kab.1 hyb hxb hneb
      refine ⟨yb, xb, (["ab"] : List Str).map V.str, rfl, upd_same, knb.1, by decide, wdw _ _ skb, fun _ Hc lb _ lbT _ stb kxb => ⟨rfl, ?_⟩, fun hf => by rw [skb] at hf; cases hf⟩
      have kbc : Kep T Hb Hc := KepX.kep knb hyb kxb
      have bab : ∀ z ∈ sumW ["a"] ["ab"], z.length ≤ 100 := by decide +kernel
      refine ⟨ya, la, xa, ["a"], yb, lb, xb, ["ab"], rfl, ⟨kbc.2 ya _ yaT sta.1, kbc.2 la _ laT sta.2⟩, stb, kbc.1, by decide, by decide, bab, (fun hf => by rw [sabU] at hf; cases hf), fun _ Hd _ => ?_⟩
      refine ⟨rfl, ?_⟩
      have e : decide (V.non = V.non) = true := by simp
      rw [e]
      exact q _
end
end Ov

set_option Elab.async false
set_option linter.all false
set_option maxRecDepth 100000
set_option maxHeartbeats 4000000
namespace Ov
open PySem PySem.Spec PyProof.Rows L2 GxR
theorem kit_ref {K : PySem.W.Frag} {D C : Addr} {b : Bool} (hi : PySem.W.isClsIn K C = true) (ht : PySem.W.typeIn K (.ref C) = some (.type "type")) (hs : PySem.W.subIn K (.ref D) (.ref C) = some b) (hself : PySem.W.subIn K (.ref C) (.ref C) = some true) : PySem.W.kitOne K (.ref D) (.ref C) = some b := by
  unfold PySem.W.kitOne
  by_cases h : D = C
  · subst h
    rw [hs] at hself
    rw [if_pos (by simp), Option.some.inj hself]
  · rw [if_neg (by simp [h])]
    unfold PySem.W.kitCls
    have hi' : (PySem.W.clsIn K C).isSome = true := hi
    show (if ((PySem.W.clsIn K C).isSome && PySem.W.typeIn K (.ref C) == some (.type "type")) = true then PySem.W.subIn K (.ref D) (.ref C) else none) = some b
    rw [hi', ht, if_pos (by rfl)]
    exact hs
theorem kit_typ {K : PySem.W.Frag} {D : Addr} {T : String} {b : Bool} (hm : PySem.W.kitMeta T = true) (hs : PySem.W.subIn K (.ref D) (.type T) = some b) : PySem.W.kitOne K (.ref D) (.type T) = some b := by
  unfold PySem.W.kitOne
  rw [if_neg (by simp)]
  show (if PySem.W.kitMeta T = true then PySem.W.subIn K (.ref D) (.type T) else none) = some b
  rw [if_pos hm]
  exact hs
theorem tab_mk {K : PySem.W.Frag} {x : Str} {f c P : Addr} {o1 o2 : Value} {d1 d2 : Option Addr} {s1 s2 : Array (Option Value)} {fd : FuncData} {vs : Array Value} (a : PySem.W.nsIn K mainGlobals x = some (some (.ref f))) (l : K.lookup f = some ⟨o1, d1, .func fd, s1⟩) (e : fd.code = .ref c)
    (lc : K.lookup c = some ⟨o2, d2, .fields vs, s2⟩) (v : (vs[11]? : Option Value) = some (.ref P)) : PySem.W.tabIn K x = some (c, P) := by
  unfold PySem.W.tabIn
  simp only [a, l, e, lc, v]
theorem all_mk {P : Program} {w : World} {K : PySem.W.Frag} {h : Heap} {mg : Str → Option Value} {fa fLow cLow PLow fText fAre cAre PAre fTape fNext fInks fDue fSum fRight fLaw C fInit pO gO pWi fWi pWo fWo fAdd fLen D : Addr} {ocLow kVLow dcLow pmLow ctLow oqLow ocText kVText dcText pmText ctText cdText ocAre kVAre dcAre pmAre ctAre oqAre ocTape kVTape dcTape pmTape ctTape cdTape ocNext kVNext dcNext pmNext ctNext cdNext ocInks kVInks dcInks pmInks ctInks cdInks ocDue kVDue dcDue pmDue ctDue cdDue ocSum kVSum dcSum pmSum ctSum cdSum ocRight kVRight dcRight pmRight ctRight cdRight ocLaw kVLaw dcLaw pmLaw ctLaw cdLaw ocInit kVInit dcInit pmInit ctInit cdInit ocOf kVOf dcOf pmOf ctOf cdOf ocWi kVWi dcWi pmWi ctWi cdWi ocWo kVWo dcWo pmWo ctWo cdWo ocAdd kVAdd dcAdd pmAdd ctAdd cdAdd ocLen kVLen dcLen pmLen ctLen cdLen : Value} {odLow anLow oeLow odText anText odAre anAre oeAre odTape anTape odNext anNext odInks anInks odDue anDue odSum anSum odRight anRight odLaw anLaw odInit anInit odOf anOf odWi anWi odWo anWo odAdd anAdd odLen anLen : Option Addr} {slLow sqLow slText slAre sqAre slTape slNext slInks slDue slSum slRight slLaw slInit slOf slWi slWo slAdd slLen : Array (Option Value)} {tW tM tMost : Tok} {restO restwidth restwords : List Value} {vqLow vqAre : Array Value}
    (X : K.In h) (G : h.Ns mainGlobals mg) (hfa : mg "law" = some (.ref fa)) (q : Program) (tabs : TabsT q K h) (r1 : ((recsOf q).find? (fun e => e.name == ("is_lowercase" : Str))).isSome = true) (r2 : ((recsOf q).find? (fun e => e.name == ("are_stamps" : Str))).isSome = true)
    (aLow : PySem.W.nsIn K mainGlobals "is_lowercase" = some (some (.ref fLow)))
    (lLow : K.lookup fLow = some ⟨ocLow, odLow, .func (PySem.W.fnOf "is_lowercase" "is_lowercase" (defArgs sLow) (defBody sLow) (defScope sLow) .none kVLow dcLow pmLow anLow (.ref cLow) ctLow), slLow⟩)
    (cLow_ : PySem.W.codeIn K (.ref cLow) "is_lowercase" = true)
    (kLow : PySem.W.keepIn K (.ref fLow) = true)
    (tLow : K.lookup cLow = some ⟨oqLow, oeLow, .fields vqLow, sqLow⟩)
    (wLow : (vqLow[11]? : Option Value) = some (.ref PLow))
    (nLow : K.lookup PLow = none)
    (aText : PySem.W.nsIn K mainGlobals "is_text" = some (some (.ref fText)))
    (lText : K.lookup fText = some ⟨ocText, odText, .func (PySem.W.fnOf "is_text" "is_text" (defArgs sText) (defBody sText) (defScope sText) .none kVText dcText pmText anText cdText ctText), slText⟩)
    (cText : PySem.W.codeIn K cdText "is_text" = true)
    (kText : PySem.W.keepIn K (.ref fText) = true)
    (aAre : PySem.W.nsIn K mainGlobals "are_stamps" = some (some (.ref fAre)))
    (lAre : K.lookup fAre = some ⟨ocAre, odAre, .func (PySem.W.fnOf "are_stamps" "are_stamps" (defArgs sAre) (defBody sAre) (defScope sAre) .none kVAre dcAre pmAre anAre (.ref cAre) ctAre), slAre⟩)
    (cAre_ : PySem.W.codeIn K (.ref cAre) "are_stamps" = true)
    (kAre : PySem.W.keepIn K (.ref fAre) = true)
    (tAre : K.lookup cAre = some ⟨oqAre, oeAre, .fields vqAre, sqAre⟩)
    (wAre : (vqAre[11]? : Option Value) = some (.ref PAre))
    (nAre : K.lookup PAre = none)
    (aTape : PySem.W.nsIn K mainGlobals "_law_tape" = some (some (.ref fTape)))
    (lTape : K.lookup fTape = some ⟨ocTape, odTape, .func (PySem.W.fnOf "_law_tape" "_law_tape" (defArgs sTape) (defBody sTape) (defScope sTape) .none kVTape dcTape pmTape anTape cdTape ctTape), slTape⟩)
    (cTape : PySem.W.codeIn K cdTape "_law_tape" = true)
    (kTape : PySem.W.keepIn K (.ref fTape) = true)
    (aNext : PySem.W.nsIn K mainGlobals "_law_next" = some (some (.ref fNext)))
    (lNext : K.lookup fNext = some ⟨ocNext, odNext, .func (PySem.W.fnOf "_law_next" "_law_next" (defArgs sNext) (defBody sNext) (defScope sNext) .none kVNext dcNext pmNext anNext cdNext ctNext), slNext⟩)
    (cNext : PySem.W.codeIn K cdNext "_law_next" = true)
    (kNext : PySem.W.keepIn K (.ref fNext) = true)
    (aInks : PySem.W.nsIn K mainGlobals "_law_inks" = some (some (.ref fInks)))
    (lInks : K.lookup fInks = some ⟨ocInks, odInks, .func (PySem.W.fnOf "_law_inks" "_law_inks" (defArgs sInks) (defBody sInks) (defScope sInks) .none kVInks dcInks pmInks anInks cdInks ctInks), slInks⟩)
    (cInks : PySem.W.codeIn K cdInks "_law_inks" = true)
    (kInks : PySem.W.keepIn K (.ref fInks) = true)
    (aDue : PySem.W.nsIn K mainGlobals "_law_due" = some (some (.ref fDue)))
    (lDue : K.lookup fDue = some ⟨ocDue, odDue, .func (PySem.W.fnOf "_law_due" "_law_due" (defArgs sDue) (defBody sDue) (defScope sDue) .none kVDue dcDue pmDue anDue cdDue ctDue), slDue⟩)
    (cDue : PySem.W.codeIn K cdDue "_law_due" = true)
    (kDue : PySem.W.keepIn K (.ref fDue) = true)
    (aSum : PySem.W.nsIn K mainGlobals "_law_sum" = some (some (.ref fSum)))
    (lSum : K.lookup fSum = some ⟨ocSum, odSum, .func (PySem.W.fnOf "_law_sum" "_law_sum" (defArgs sSum) (defBody sSum) (defScope sSum) .none kVSum dcSum pmSum anSum cdSum ctSum), slSum⟩)
    (cSum : PySem.W.codeIn K cdSum "_law_sum" = true)
    (kSum : PySem.W.keepIn K (.ref fSum) = true)
    (aRight : PySem.W.nsIn K mainGlobals "_law_right" = some (some (.ref fRight)))
    (lRight : K.lookup fRight = some ⟨ocRight, odRight, .func (PySem.W.fnOf "_law_right" "_law_right" (defArgs sRight) (defBody sRight) (defScope sRight) .none kVRight dcRight pmRight anRight cdRight ctRight), slRight⟩)
    (cRight : PySem.W.codeIn K cdRight "_law_right" = true)
    (kRight : PySem.W.keepIn K (.ref fRight) = true)
    (aLaw : PySem.W.nsIn K mainGlobals "law" = some (some (.ref fLaw)))
    (lLaw : K.lookup fLaw = some ⟨ocLaw, odLaw, .func (PySem.W.fnOf "law" "law" (defArgs sLawU) (defBody sLawU) (defScope sLawU) .none kVLaw dcLaw pmLaw anLaw cdLaw ctLaw), slLaw⟩)
    (cLaw : PySem.W.codeIn K cdLaw "law" = true)
    (kLaw : PySem.W.keepIn K (.ref fLaw) = true)
    (z_all : PySem.W.nsIn K mainGlobals "all" = some none)
    (z_len : PySem.W.nsIn K mainGlobals "len" = some none)
    (z_isinstance : PySem.W.nsIn K mainGlobals "isinstance" = some none)
    (z_str : PySem.W.nsIn K mainGlobals "str" = some none)
    (z_list : PySem.W.nsIn K mainGlobals "list" = some none)
    (z_set : PySem.W.nsIn K mainGlobals "set" = some none)
    (z_abs : PySem.W.nsIn K mainGlobals "abs" = some none)
    (z_max : PySem.W.nsIn K mainGlobals "max" = some none)
    (z_min : PySem.W.nsIn K mainGlobals "min" = some none)
    (z_range : PySem.W.nsIn K mainGlobals "range" = some none)
    (z_enumerate : PySem.W.nsIn K mainGlobals "enumerate" = some none)
    (z_repr : PySem.W.nsIn K mainGlobals "repr" = some none)
    (aWidest : PySem.W.nsIn K mainGlobals "WIDEST" = some (some (.int 8 tW)))
    (aMostL : PySem.W.nsIn K mainGlobals "MOST_LETTERS" = some (some (.int 36 tM)))
    (aC : PySem.W.nsIn K mainGlobals "Stamps" = some (some (.ref C)))
    (rdS : PySem.W.readsIn K C (.type "type") = true)
    (gaS : PySem.W.specialIn K (.ref C) "__getattribute__" = some (some (.builtin "type.__getattribute__")))
    (pgS : PySem.W.plainGet K C Str.empty = true)
    (hdS : PySem.W.hasDictIn K C = true)
    (poS : PySem.W.plainOver K C = true)
    (saS : PySem.W.findIn K (.ref C) "__setattr__" = some (some (.builtin "object.__setattr__")))
    (eqS : PySem.W.findIn K (.ref C) "__eq__" = some (some (.builtin "object.__eq__")))
    (neS : PySem.W.findIn K (.ref C) "__ne__" = some (some (.builtin "object.__ne__")))
    (soS : PySem.W.subIn K (.ref C) (.type "object") = some true)
    (mkS : PySem.W.makesIn K C = true)
    (kcS : PySem.W.keepIn K (.ref C) = true)
    (iInit : PySem.W.findIn K (.ref C) "__init__" = some (some (.ref fInit)))
    (jInit : PySem.W.isFn K (.ref fInit) = true)
    (lInit : K.lookup fInit = some ⟨ocInit, odInit, .func (PySem.W.fnOf "__init__" "Stamps.__init__" (defArgs sInit) (defBody sInit) (defScope sInit) .none kVInit dcInit pmInit anInit cdInit ctInit), slInit⟩)
    (cInit : PySem.W.codeIn K cdInit "Stamps.__init__" = true)
    (kInit : PySem.W.keepIn K (.ref fInit) = true)
    (nW : PySem.W.findIn K (.ref C) "_words" = some none)
    (mst : PySem.W.findCls K (.ref C) (.type "type") "MOST" = some (.val (.int 6 tMost)))
    (oA : PySem.W.findCls K (.ref C) (.type "type") "of" = some (.get (.builtin "classmethod.__get__") (.ref pO) .none (.ref C)))
    (oR : PySem.W.recIn K pO "classmethod" = some (.ref gO :: restO))
    (oF : PySem.W.fnIn K gO = true)
    (lOf : K.lookup gO = some ⟨ocOf, odOf, .func (PySem.W.fnOf "of" "Stamps.of" (defArgs sOf) (defBody sOf) (defScope sOf) .none kVOf dcOf pmOf anOf cdOf ctOf), slOf⟩)
    (cOf : PySem.W.codeIn K cdOf "Stamps.of" = true)
    (kOf : PySem.W.keepIn K (.ref gO) = true)
    (prwidth : PySem.W.findIn K (.ref C) "width" = some (some (.ref pWi)))
    (pgwidth : PySem.W.specialIn K (.ref pWi) "__get__" = some (some (.builtin "property.__get__")))
    (ptwidth : PySem.W.takesIn K (.ref pWi) = some true)
    (pcwidth : PySem.W.recIn K pWi "property" = some (.ref fWi :: restwidth))
    (prwords : PySem.W.findIn K (.ref C) "words" = some (some (.ref pWo)))
    (pgwords : PySem.W.specialIn K (.ref pWo) "__get__" = some (some (.builtin "property.__get__")))
    (ptwords : PySem.W.takesIn K (.ref pWo) = some true)
    (pcwords : PySem.W.recIn K pWo "property" = some (.ref fWo :: restwords))
    (lWi : K.lookup fWi = some ⟨ocWi, odWi, .func (PySem.W.fnOf "width" "Stamps.width" (defArgs sWidth) (defBody sWidth) (defScope sWidth) .none kVWi dcWi pmWi anWi cdWi ctWi), slWi⟩)
    (cWi : PySem.W.codeIn K cdWi "Stamps.width" = true)
    (kWi : PySem.W.keepIn K (.ref fWi) = true)
    (lWo : K.lookup fWo = some ⟨ocWo, odWo, .func (PySem.W.fnOf "words" "Stamps.words" (defArgs sWords) (defBody sWords) (defScope sWords) .none kVWo dcWo pmWo anWo cdWo ctWo), slWo⟩)
    (cWo : PySem.W.codeIn K cdWo "Stamps.words" = true)
    (kWo : PySem.W.keepIn K (.ref fWo) = true)
    (dA : PySem.W.findIn K (.ref C) "__add__" = some (some (.ref fAdd)))
    (dF : PySem.W.isFn K (.ref fAdd) = true)
    (dS : PySem.W.selfFirst K C = true)
    (eA : PySem.W.findIn K (.ref C) "__len__" = some (some (.ref fLen)))
    (eF : PySem.W.isFn K (.ref fLen) = true)
    (lAdd : K.lookup fAdd = some ⟨ocAdd, odAdd, .func (PySem.W.fnOf "__add__" "Stamps.__add__" (defArgs sAdd) (defBody sAdd) (defScope sAdd) .none kVAdd dcAdd pmAdd anAdd cdAdd ctAdd), slAdd⟩)
    (cAdd : PySem.W.codeIn K cdAdd "Stamps.__add__" = true)
    (kAdd : PySem.W.keepIn K (.ref fAdd) = true)
    (lLen : K.lookup fLen = some ⟨ocLen, odLen, .func (PySem.W.fnOf "__len__" "Stamps.__len__" (defArgs sLenI) (defBody sLenI) (defScope sLenI) .none kVLen dcLen pmLen anLen cdLen ctLen), slLen⟩)
    (cLen : PySem.W.codeIn K cdLen "Stamps.__len__" = true)
    (kLen : PySem.W.keepIn K (.ref fLen) = true)
    (hcS : PySem.W.findIn K (.ref C) "__class__" = some (some (.builtin "object.__class__")))
    (hmS : PySem.W.mroIn K C (.type "object") = some true)
    (icS : PySem.W.isClsIn K C = true)
    (tyS : PySem.W.typeIn K (.ref C) = some (.type "type"))
    (ssS : PySem.W.subIn K (.ref C) (.ref C) = some true)
    (aD : PySem.W.nsIn K mainGlobals "InvalidStamps" = some (some (.ref D)))
    (xD : PySem.W.excIn K D [.type "ValueError", .type "Exception", .type "BaseException", .type "object"] "ValueError.__new__" = true)
    (kkD : PySem.W.keepIn K (.ref D) = true)
    (bD : PySem.W.subIn K (.ref D) (.type "BaseException") = some true)
    (tyD : PySem.W.typeIn K (.ref D) = some (.type "type"))
    (hdxD : PySem.W.hasDictIn K D = true)
    (ssD : PySem.W.subIn K (.ref D) (.ref D) = some true)
    (e6 : PySem.W.specialIn K (.builtin "object.__class__") "__get__" = some (some (.builtin "getset_descriptor.__get__")))
    (e7 : PySem.W.takesIn K (.builtin "object.__class__") = some true) (l : PySem.W.OpenLaw) (hl : l.prog = P) :
    LawAtG l w K 11 63 "script" mg fa h := by
  subst hl
  have e := hfa.symm.trans (PySem.W.mg_of X G aLaw)
  cases e
  have X' : Txt K mg C fLow fText fAre fTape fNext fInks := ⟨PySem.W.mg_none_of X G z_all, PySem.W.mg_none_of X G z_len, PySem.W.mg_none_of X G z_isinstance, PySem.W.mg_none_of X G z_str, PySem.W.mg_none_of X G z_list, PySem.W.mg_none_of X G z_set, PySem.W.mg_none_of X G z_abs, PySem.W.mg_none_of X G z_max, PySem.W.mg_none_of X G z_min, PySem.W.mg_none_of X G z_range,
    PySem.W.mg_of X G aTape, kTape, PySem.W.mg_of X G aNext, kNext, PySem.W.mg_of X G aInks, kInks, PySem.W.mg_of X G aLow, kLow, PySem.W.mg_of X G aText, kText, PySem.W.mg_of X G aAre, kAre, PySem.W.mg_of X G aC, ⟨_, PySem.W.mg_of X G aWidest⟩, ⟨_, PySem.W.mg_of X G aMostL⟩, ⟨rdS, gaS⟩, ⟨_, mst, ⟨_, rfl⟩⟩⟩
  have FLow : FunC K "is_lowercase" "is_lowercase" sLow fLow _ cLow := funC_mk lLow cLow_ kLow
  have FAre : FunC K "are_stamps" "are_stamps" sAre fAre _ cAre := funC_mk lAre cAre_ kAre
  have FText := fun_mk (st := sText) lText cText kText
  have FTape := fun_mk (st := sTape) lTape cTape kTape
  have FNext := fun_mk (st := sNext) lNext cNext kNext
  have FInks := fun_mk (st := sInks) lInks cInks kInks
  have FDue := fun_mk (st := sDue) lDue cDue kDue
  have FSum := fun_mk (st := sSum) lSum cSum kSum
  have FRight := fun_mk (st := sRight) lRight cRight kRight
  have FLaw := fun_mk (st := sLawU) lLaw cLaw kLaw
  have FInit := fun_mk (st := sInit) lInit cInit kInit
  have FOf := fun_mk (st := sOf) lOf cOf kOf
  have FWi := fun_mk (st := sWidth) lWi cWi kWi
  have FWo := fun_mk (st := sWords) lWo cWo kWo
  have FAdd := fun_mk (st := sAdd) lAdd cAdd kAdd
  have FLen := fun_mk (st := sLenI) lLen cLen kLen
  have T1 := tabs _ _ _ r1 (tab_mk aLow lLow rfl tLow wLow)
  have T2 := tabs _ _ _ r2 (tab_mk aAre lAre rfl tAre wAre)
  have XU : TopU K mg fDue fSum fRight := ⟨PySem.W.mg_none_of X G z_repr, PySem.W.mg_of X G aDue, kDue, PySem.W.mg_of X G aSum, kSum, PySem.W.mg_of X G aRight, kRight⟩
  have Er : ErrC K mg "InvalidStamps" D := ⟨xD, PySem.W.mg_of X G aD, kkD, bD, tyD⟩
  have nq : NoEq2 K C := ⟨eqS, neS, soS⟩
  refine ⟨PySem.W.fnOf "law" "law" (defArgs sLawU) (defBody sLawU) (defScope sLawU) .none kVLaw dcLaw pmLaw anLaw cdLaw ctLaw, [(cLow, PLow), (cAre, PAre)], spLawU K [PLow, PAre], fun p hp => ?_, fun p hp => ?_, fun p hp => ?_, fun s u => .of_eq rfl, fun H a ns hn hH hS => ?_, fun base KB GB TB => ?_⟩
  · rcases List.mem_cons.mp hp with rfl | hp
    · exact T1.2
    · rw [List.mem_singleton.mp hp]; exact T2.2
  · rcases List.mem_cons.mp hp with rfl | hp
    · exact nLow
    · rw [List.mem_singleton.mp hp]; exact nAre
  · rcases List.mem_cons.mp hp with rfl | hp
    · exact T1.1
    · rw [List.mem_singleton.mp hp]; exact T2.1
  · refine ⟨a, ns, rfl, fun p hp => ?_, hS, hn, fun _ => rfl⟩
    have tr : TriplesOk (#[] : Array Value).toList := by first | trivial | simp [TriplesOk] | exact ⟨⟩
    rcases List.mem_cons.mp hp with rfl | hp
    · exact ⟨#[], hH (cLow, _) (by simp), tr⟩
    · rw [List.mem_singleton.mp hp]; exact ⟨#[], hH (cAre, PAre) (by simp), tr⟩
  · have Tb : Tab base mg [PLow, PAre] cLow PLow cAre PAre := ⟨(fun (z : LamX.TabB base mg cLow PLow) => ⟨z.code, z.bm, z.gP⟩) (TB (cLow, PLow) (by simp)), (fun (z : LamX.TabB base mg cAre PAre) => ⟨z.code, z.bm, z.gP⟩) (TB (cAre, PAre) (by simp)), by simp, by simp⟩
    have O : Own K C := ⟨⟨pgS, hdS, poS, saS⟩, nW⟩
    have M : Mk K C fInit := ⟨mkS, iInit, jInit, kcS⟩
    exact ok_lawU FLaw FTape FNext FInks FRight FDue FSum FAdd FLen FOf (ok_init FInit FAre FText FLow X' Tb O Er) FWo FWi M X' XU (PySem.W.mg_none_of X G z_enumerate) O ⟨prwords, pgwords, ptwords, ⟨_, pcwords⟩⟩ ⟨prwidth, pgwidth, ptwidth, ⟨_, pcwidth⟩⟩ ⟨hcS, e6, e7, hmS, kit_ref icS tyS ssS ssS⟩ ⟨dA, dF, dS, eA, eF⟩ Er (PySem.W.exm_ref bD hdxD tyD ssD) ⟨oA, ⟨_, oR⟩, oF⟩ ⟨nq, nq, fun z => absurd rfl z⟩
end Ov

set_option Elab.async false
set_option linter.all false
open PySem PySem.W PyProof.Rows
set_option maxRecDepth 100000 in
set_option maxHeartbeats 0 in
theorem PySem.Challenge.cw_overstamps_k02_stamps_added_holds : PySem.Challenge.rw_overstamps_k02_stamps_added.Holds := by
  w_on; o_law; k_head; (case hw => w_witness2)
  k_fill
  refine Ov.walk_TG (l := PySem.Challenge.rw_overstamps_k02_stamps_added) (n := 63) (k := 11) (x := "script") rfl (by decide) rfl ⟨rfl, by decide, by decide⟩ (fun w h Y => PySem.W.kIn_of Y) ?F
  case F =>
    intro w mg fa h Y KX G hmg tabs
    refine' Ov.all_mk KX G hmg _ tabs ?r1 ?r2 ?aLow ?lLow ?cLow_ ?kLow ?tLow ?wLow ?nLow ?aText ?lText ?cText ?kText ?aAre ?lAre ?cAre_ ?kAre ?tAre ?wAre ?nAre ?aTape ?lTape ?cTape ?kTape ?aNext ?lNext ?cNext ?kNext ?aInks ?lInks ?cInks ?kInks ?aDue ?lDue ?cDue ?kDue ?aSum ?lSum ?cSum ?kSum ?aRight ?lRight ?cRight ?kRight ?aLaw ?lLaw ?cLaw ?kLaw ?z_all ?z_len ?z_isinstance ?z_str ?z_list ?z_set ?z_abs ?z_max ?z_min ?z_range ?z_enumerate ?z_repr ?aWidest ?aMostL ?aC ?rdS ?gaS ?pgS ?hdS ?poS ?saS ?eqS ?neS ?soS ?mkS ?kcS ?iInit ?jInit ?lInit ?cInit ?kInit ?nW ?mst ?oA ?oR ?oF ?lOf ?cOf ?kOf ?prwidth ?pgwidth ?ptwidth ?pcwidth ?prwords ?pgwords ?ptwords ?pcwords ?lWi ?cWi ?kWi ?lWo ?cWo ?kWo ?dA ?dF ?dS ?eA ?eF ?lAdd ?cAdd ?kAdd ?lLen ?cLen ?kLen ?hcS ?hmS ?icS ?tyS ?ssS ?aD ?xD ?kkD ?bD ?tyD ?hdxD ?ssD ?e6 ?e7 PySem.Challenge.rw_overstamps_k02_stamps_added rfl
    (case aLow => k_is)
    (case lLow => k_is)
    (case cLow_ => k_is)
    (case kLow => k_is)
    (case tLow => k_is)
    (case wLow => rfl)
    (case nLow => first | k_is | rfl)
    (case aText => k_is)
    (case lText => k_is)
    (case cText => k_is)
    (case kText => k_is)
    (case aAre => k_is)
    (case lAre => k_is)
    (case cAre_ => k_is)
    (case kAre => k_is)
    (case tAre => k_is)
    (case wAre => rfl)
    (case nAre => first | k_is | rfl)
    (case aTape => k_is)
    (case lTape => k_is)
    (case cTape => k_is)
    (case kTape => k_is)
    (case aNext => k_is)
    (case lNext => k_is)
    (case cNext => k_is)
    (case kNext => k_is)
    (case aInks => k_is)
    (case lInks => k_is)
    (case cInks => k_is)
    (case kInks => k_is)
    (case aDue => k_is)
    (case lDue => k_is)
    (case cDue => k_is)
    (case kDue => k_is)
    (case aSum => k_is)
    (case lSum => k_is)
    (case cSum => k_is)
    (case kSum => k_is)
    (case aRight => k_is)
    (case lRight => k_is)
    (case cRight => k_is)
    (case kRight => k_is)
    (case aLaw => k_is)
    (case lLaw => k_is)
    (case cLaw => k_is)
    (case kLaw => k_is)
    (case z_all => k_is)
    (case z_len => k_is)
    (case z_isinstance => k_is)
    (case z_str => k_is)
    (case z_list => k_is)
    (case z_set => k_is)
    (case z_abs => k_is)
    (case z_max => k_is)
    (case z_min => k_is)
    (case z_range => k_is)
    (case z_enumerate => k_is)
    (case z_repr => k_is)
    (case aWidest => k_is)
    (case aMostL => k_is)
    (case aC => k_is)
    (case rdS => k_is)
    (case gaS => k_is)
    (case pgS => k_is)
    (case hdS => k_is)
    (case poS => k_is)
    (case saS => k_is)
    (case eqS => k_is)
    (case neS => k_is)
    (case soS => k_is)
    (case mkS => k_is)
    (case kcS => k_is)
    (case iInit => k_is)
    (case jInit => k_is)
    (case lInit => k_is)
    (case cInit => k_is)
    (case kInit => k_is)
    (case nW => k_is)
    (case mst => k_is)
    (case oA => k_is)
    (case oR => k_is)
    (case oF => k_is)
    (case lOf => k_is)
    (case cOf => k_is)
    (case kOf => k_is)
    (case prwidth => k_is)
    (case pgwidth => k_is)
    (case ptwidth => k_is)
    (case pcwidth => k_is)
    (case prwords => k_is)
    (case pgwords => k_is)
    (case ptwords => k_is)
    (case pcwords => k_is)
    (case lWi => k_is)
    (case cWi => k_is)
    (case kWi => k_is)
    (case lWo => k_is)
    (case cWo => k_is)
    (case kWo => k_is)
    (case dA => k_is)
    (case dF => k_is)
    (case dS => k_is)
    (case eA => k_is)
    (case eF => k_is)
    (case lAdd => k_is)
    (case cAdd => k_is)
    (case kAdd => k_is)
    (case lLen => k_is)
    (case cLen => k_is)
    (case kLen => k_is)
    (case hcS => k_is)
    (case hmS => k_is)
    (case icS => k_is)
    (case tyS => k_is)
    (case ssS => k_is)
    (case aD => k_is)
    (case xD => k_exc)
    (case kkD => k_is)
    (case bD => k_is)
    (case tyD => k_is)
    (case hdxD => k_is)
    (case ssD => k_is)
    (case e6 => k_is)
    (case e7 => k_is)
    (case r1 => decide +kernel)
    (case r2 => decide +kernel)
