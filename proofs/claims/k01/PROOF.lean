import PyProof.Rows.All
import Wide.All
import OpenK.AllK
import Wide.FinOn
import PyProof.EqAt
import PyProof.EqKinds
import PyProof.TupleCall
import KE.KNest
import HandS.Base
import HandS.Call
import HandS.List
import HandS.Comp
import HandS.Text
import HandS.Iter
import HandS.AnyAll
import HandS.GenOver
import HandS.Words
import PyProof.InstEq
import PyProof.ReprRoads
import PyProof.StrOps2
import HandS.Exc
import HandS.ExcOwn
import HandS.Star
import HandS.ClsMeth
import HandS.Property
import HandS.IsInst
import HandS.OwnEq
import HandS.Wide
import Flt.Len
import PyProof.Rows.SetFrom
import HandS.Strs
import HandS.ForMost
import HandS.ForExc
import PyProof.ReprLen
import HandS.MakeKw
import HandS.Defaults
import HandS.ExcIs
import KE.KIsAll
import PyProof.Draws
import PyProof.EnumMake
import PyProof.ListStr
import PyProof.ListRange
import HandS.Sort
import HandS.ReplaceLit
import HandS.ReplaceDef
import PyProof.Rows.StrStrike
import HandS.EndTab
import HandS.EndOwn
import HandS.Lambda
import PyProof.Rows.StrInSeq3
import HandS.TryOnly
import OpenK.KOps
import OpenK.KMeth
import HandS.Codes
import HandS.Walk
import HandS.Style
import HandS.Dict
import PySem.Challenge.RW_overstamps_k01_stamps_recognized
set_option Elab.async false
set_option linter.all false
set_option maxRecDepth 100000
set_option maxHeartbeats 4000000
/-! all, any over a generator expression whose element runs like any expression (own defs called, tables grown). -/
namespace Ov
open PySem PySem.Spec PyProof.Rows L2 GxR

/-! ### the consumer -/
/-- the protocol: a truth value is handed out; Dn b: what is to hold when the consumer stops with the answer b; stop: at which value it stops -/
def YB (a : Addr) (g : Nat) (stop : Bool) (Dn : Bool → Shared → Prop) : Protocol := fun _ _ v s1 kap =>
  ∃ b, v = Value.bool b ∧ s1.heap.NoLimit ∧ s1.heap.IsGen a g ∧ AllBare s1.gens ∧
    (b = stop → ∀ G, AllBare G → Dn stop { s1 with gens := G }) ∧ (b ≠ stop → ∀ G, AllBare G → kap (.send .none) { s1 with gens := G })
def RB (stop : Bool) (Dn : Bool → Shared → Prop) : GenEnd := fun _ _ r s1 => r = .ok .next ∧ AllBare s1.gens ∧ ∀ (h' : Heap) (G : Array GenState), (∀ b o, s1.heap.get? b = some o → h'.get? b = some o) → AllBare G → Dn (!stop) { s1 with heap := h', gens := G }

theorem bare_set {s : Shared} {g : Nat} {x : GenState} (h : AllBare s.gens) (hx : x.bare = true) : AllBare (s.setGen g x).gens := fun y hy => by
  obtain ⟨i, hi, e⟩ := Array.mem_iff_getElem.mp hy
  have hi' : i < s.gens.size := by
    have q : (s.setGen g x).gens.size = s.gens.size := GenW.setGen_size s g x
    rw [q] at hi; exact hi
  by_cases z : i = g
  · subst z
    have q : (s.setGen i x).gens[i]? = some x := by
      show (s.gens.setIfInBounds i x)[i]? = some x
      simp [hi']
    have q2 : (s.setGen i x).gens[i]? = some y := by rw [Array.getElem?_eq_getElem hi, e]
    rw [q] at q2; cases q2; exact hx
  · have q : (s.setGen g x).gens[i]? = s.gens[i]? := by
      show (s.gens.setIfInBounds g x)[i]? = _
      rw [Array.getElem?_setIfInBounds_ne (Ne.symm z)]
    have q2 : s.gens[i]? = some y := by rw [← q, Array.getElem?_eq_getElem hi, e]
    exact h y (Array.mem_of_getElem? q2)
theorem set_at {s : Shared} {g : Nat} {x : GenState} (h : g < s.gens.size) : (s.setGen g x).gens[g]? = some x := by
  show (s.gens.setIfInBounds g x)[g]? = some x
  simp [h]

section
variable {P : Program} {w : World} {A : Around}
theorem all_drain {R : Result → Shared → Prop} {a : Addr} {g : Nat} {Dn : Bool → Shared → Prop} (hh : A.handled = none) (hd : A.depth < recursionLimit)
    (hR : ∀ b s', Dn b s' → R (.ok (.ret (.bool b))) s') :
    ∀ (m : Nat) (s : Shared), s.heap.IsGen a g → s.heap.NoLimit → AllBare s.gens →
      (∃ gs, s.gens[g]? = some gs ∧ gs.Goes (model P w) A.in1.in1 (RB false Dn) (YB a g false Dn) m (.send .none) (s.setGen g .running)) →
      codeAny (model P w) A (.builtin "all.loop" ⟨[.ref a], []⟩) R s := by
  intro m
  induction m with
  | zero =>
    intro s hg hl hb ⟨gs, hgs, hgo⟩
    have hgl : g < s.gens.size := (Array.getElem?_eq_some_iff.mp hgs).1
    refine codeAny_builtin F.entry_all_loop ?_
    rw [Around.under_plainId F.plain_all_loop _]
    show wpAny _ A.in1 (pyNext (.ref a) >>= _) _ _ s
    refine wpAny_bind (GenW.wpAny_gsz (n := g + 1) hgl (wpAny_pyNext_genexpQ (A := A.in1) (P := fun n s₀ s₁ => AllBare s₁.gens ∧ ∀ (h' : Heap) (G : Array GenState), (∀ b o, s₁.heap.get? b = some o → h'.get? b = some o) → AllBare G → Dn (!false) { s₁ with heap := h', gens := G }) hh hl hd hg hgs hgo (fun v s₁ gs' hbare hv => ?_) (fun s₁ hp h' hk => ?_)))
    · intro hsz
      obtain ⟨b, rfl, hl1, hg1, hb1, hs1, hk1⟩ := hv
      cases b with
      | true => exact False.elim (hk1 (by decide) _ hb1)
      | false =>
        refine wpAny_bind (wpAny_holding (wpAny_truthy_bool ?_))
        refine wpAny_bind (wpAny_letGo ?_)
        simp only [Bool.false_eq_true, if_false]
        refine wpAny_bind (wpAny_rule (wpAny_pure ?_))
        exact hR false _ (hs1 rfl _ (bare_set hb1 hbare))
    · intro hsz
      refine wpAny_bind (wpAny_rule (wpAny_pure ?_))
      exact hR true _ (hp.2 h' _ hk (bare_set hp.1 rfl))
  | succ m ih =>
    intro s hg hl hb ⟨gs, hgs, hgo⟩
    have hgl : g < s.gens.size := (Array.getElem?_eq_some_iff.mp hgs).1
    refine codeAny_builtin F.entry_all_loop ?_
    rw [Around.under_plainId F.plain_all_loop _]
    show wpAny _ A.in1 (pyNext (.ref a) >>= _) _ _ s
    refine wpAny_bind (GenW.wpAny_gsz (n := g + 1) hgl (wpAny_pyNext_genexpQ (A := A.in1) (P := fun n s₀ s₁ => AllBare s₁.gens ∧ ∀ (h' : Heap) (G : Array GenState), (∀ b o, s₁.heap.get? b = some o → h'.get? b = some o) → AllBare G → Dn (!false) { s₁ with heap := h', gens := G }) hh hl hd hg hgs hgo (fun v s₁ gs' hbare hv => ?_) (fun s₁ hp h' hk => ?_)))
    · intro hsz
      obtain ⟨b, rfl, hl1, hg1, hb1, hs1, hk1⟩ := hv
      have hsz1 : g < s₁.gens.size := by
        have q : (s₁.setGen g gs').gens.size = s₁.gens.size := GenW.setGen_size _ _ _
        have hsz' : g + 1 ≤ (s₁.setGen g gs').gens.size := hsz
        omega
      cases b with
      | true =>
        refine wpAny_bind (wpAny_holding (wpAny_truthy_bool ?_))
        refine wpAny_bind (wpAny_letGo ?_)
        simp only [if_true]
        refine wpAny_pure ⟨plainId_quiet F.plain_all_loop _, ih (s₁.setGen g gs') hg1 hl1 (bare_set hb1 hbare) ⟨gs', set_at hsz1, ?_⟩⟩
        have z := hk1 (by decide) (((s₁.setGen g gs').setGen g .running).gens) (bare_set (bare_set hb1 hbare) rfl)
        exact z
      | false =>
        refine wpAny_bind (wpAny_holding (wpAny_truthy_bool ?_))
        refine wpAny_bind (wpAny_letGo ?_)
        simp only [Bool.false_eq_true, if_false]
        refine wpAny_bind (wpAny_rule (wpAny_pure ?_))
        exact hR false _ (hs1 rfl _ (bare_set hb1 hbare))
    · intro hsz
      refine wpAny_bind (wpAny_rule (wpAny_pure ?_))
      exact hR true _ (hp.2 h' _ hk (bare_set hp.1 rfl))
end
end Ov

set_option Elab.async false
set_option linter.all false
set_option maxRecDepth 100000
set_option maxHeartbeats 4000000
namespace Ov
open PySem PySem.Spec PyProof.Rows L2 GxR
/-- the values of the captured names -/
def caps (σ : L2.St) (pick : List Nat) : L2.St := pick.map fun j => (σ[j]?).join
/-- the context of the generator's block -/
abbrev cxG (X : Cx) (s : Shared) (H : Hp) (N : List Str) (cenv : Env) (A : Around) (fp : List Addr) (pn : List (Addr × Obj)) : Cx :=
  { X with A := A, N := N, s_0 := s, H_0 := H, env := cenv, outer := X.stack, stack := cenv :: X.stack, ex := fp, fn := fun _ => false, calm := true, pn := pn, xe := fun _ _ => False }
/-- the names of the block: its variable x, the captured ones cs with their places in the def's names -/
structure GenN (X : Cx) (scope : Scope) (x : Str) (cs : List Str) (pick : List Nat) : Prop where
  gen : GenS X.env scope x
  uniq : ∀ y ∈ scope.names, scope.names.lookup y.1 = some y.2
  nd : (x :: cs).Nodup
  len : cs.length = pick.length
  at_ : ∀ (i : Nat) (y : Str), cs[i]? = some y → scope.names.lookup y = some .free ∧ (X.env.scope.names.lookup y = some .cell ∨ X.env.scope.names.lookup y = some .free) ∧ ∃ j, pick[i]? = some j ∧ X.N[j]? = some y
section
variable {X : Cx} {pins : List (Addr × Obj)} {σ : L2.St} {H : Hp} {s : Shared}
theorem clo_get {cells : List (Str × Addr)} {names : List (Str × NameKind)} (h : ∀ y ∈ names, y.2 = .free → ∃ c, cells.lookup y.1 = some c) {y : Str} {c : Addr} (e : (cloFrom cells names []).lookup y = some c) : (y, NameKind.free) ∈ names ∧ cells.lookup y = some c := by
  rcases cloFrom_mem (PySem.mem_of_lookup e) with hm | ⟨h1, rfl⟩
  · cases hm
  · obtain ⟨c, hc⟩ := h _ h1 rfl
    rw [hc]
    exact ⟨h1, rfl⟩
theorem clo_has {cells : List (Str × Addr)} {names : List (Str × NameKind)} (h : ∀ y ∈ names, y.2 = .free → ∃ c, cells.lookup y.1 = some c) {y : Str} (hy : (y, NameKind.free) ∈ names) : ∃ c, (cloFrom cells names []).lookup y = some c ∧ cells.lookup y = some c := by
  obtain ⟨c', e'⟩ := mem_lookup (cloFrom_has (cells := cells) (acc := []) hy)
  exact ⟨c', e', (clo_get h e').2⟩
/-- the block's start: the frame at s.heap's size, empty of x; the generator's own object at a -/
theorem gen_start {scope : Scope} {x : Str} {cs : List Str} {pick : List Nat} {fp : List Addr} {A : Around} {code itv : Value} {go : Obj} {gs : Array GenState} {tk : Nat} {h' : Heap} {a : Addr}
    (I : Inv X pins σ H s) (G : GenN X scope x cs pick) (hA : A.handled = none) (hfr : A.frames = some (genEnv scope (cloFrom X.env.cells scope.names []) s.heap.objs.size code builtinsNs X.env :: X.stack))
    (hfp : ∀ b ∈ fp, FpOk X pins H b ∧ b < s.heap.objs.size)
    (hn : h'.Ns s.heap.objs.size fun y => if y = ".0" then some itv else none) (hk : ∀ b o, s.heap.get? b = some o → h'.get? b = some o) (ha : s.heap.objs.size < a) (hgo : h'.get? a = some go) (hgd : ∀ v, go.data ≠ .cell v)
    (hb : AllBare gs) :
    Inv (cxG X s H (x :: cs) (genEnv scope (cloFrom X.env.cells scope.names []) s.heap.objs.size code builtinsNs X.env) A fp [(a, go)]) [] (none :: caps σ pick) H { s with heap := h', gens := gs, toks := tk } := by
  have hfree : ∀ y ∈ scope.names, y.2 = .free → ∃ c, X.env.cells.lookup y.1 = some c := G.gen.free
  have okB : (cxG X s H (x :: cs) (genEnv scope (cloFrom X.env.cells scope.names []) s.heap.objs.size code builtinsNs X.env) A fp [(a, go)]).Ok := by
    refine ⟨I.ok.mod, G.gen.kind, I.ok.glob, rfl, Nat.le_refl _, fun y z c e1 e2 => ?_, fun y hy => ?_, fun y c z _ => ?_, fun _ => hA, hfr, .inr ⟨rfl, rfl⟩, fun b hb => ⟨?_, fun y c e z => ?_⟩, I.bs, Nat.le_trans I.ok.bsz I.sz, fun b o e hb => ?_, fun b hb z => ?_, I.stack, I.stkFree⟩
    · exact I.ok.inj y z c (clo_get hfree e1).2 (clo_get hfree e2).2
    · have hy : scope.names.lookup y = some .cell ∨ scope.names.lookup y = some .free := hy
      rcases hy with hy | hy
      · exact absurd rfl (G.gen.cell _ (PySem.mem_of_lookup hy))
      · obtain ⟨c, h1, _⟩ := clo_has hfree (PySem.mem_of_lookup hy)
        exact ⟨c, h1⟩
    · exact absurd (show false = true from z) (by decide)
    · exact Nat.ne_of_lt (hfp b hb).2
    · exact (hfp b hb).1.2.2.2.2.1 y c (clo_get hfree e).2 z
    · rcases (hfp b hb).1.2.2.2.1 with z | z
      · exact I.ok.noex b o e z
      · exact absurd (Nat.lt_of_lt_of_le (Heap.lt_size e) (Nat.le_trans I.ok.bsz z)) (Nat.lt_irrefl _)
    · rcases List.mem_cons.mp (I.stkSub b z) with z | z
      · exact (hfp b hb).1.2.1 z
      · exact (hfp b hb).1.2.2.1 z
  refine ⟨okB, rfl, hb, Un.kept hk, ⟨_, hn, fun i y av e1 e2 e3 => ?_⟩, fun y c e => ?_, I.hok.fresh (Nat.le_refl _), fun y c e => I.freeC y c (clo_get hfree e).2, fun p hp => ?_, I.hok.kept hk, ?_⟩
  · cases i with
    | zero => cases e2
    | succ i =>
      have e1 : cs[i]? = some y := e1
      obtain ⟨q1, q2, j, hj, hN⟩ := G.at_ i y e1
      have e2 : (caps σ pick)[i]? = some (some av) := e2
      unfold caps at e2
      rw [List.getElem?_map, hj] at e2
      have e2 : (σ[j]?).join = some av := Option.some.inj e2
      have e2' : σ[j]? = some (some av) := by
        cases q : σ[j]? with
        | none => rw [q] at e2; cases e2
        | some o =>
          rw [q] at e2
          have : o = some av := e2
          rw [this]
      obtain ⟨m, hm, hl⟩ := I.loc
      have hvis : Vis X.env.scope y := q2.elim (fun k => .inr (.inl k)) (fun k => .inr (.inr k))
      obtain ⟨u, r, q⟩ := hl j y av hN e2' hvis
      refine ⟨u, r, .inr ⟨.inr q1, ?_⟩⟩
      obtain ⟨c, h1, h2⟩ := clo_has hfree (PySem.mem_of_lookup q1)
      refine ⟨c, h1, ?_⟩
      rcases q with ⟨k, _⟩ | ⟨_, c', e', z⟩
      · have k : X.env.scope.names.lookup y = some .local := k
        rcases q2 with k' | k' <;> rw [k'] at k <;> cases k
      · rw [h2] at e'; cases e'
        exact z.keeps hk
  · obtain ⟨w, z⟩ := I.cell y c (clo_get hfree e).2
    exact ⟨w, z.keeps hk⟩
  · have e : p = (a, go) := by simpa using hp
    subst e
    refine ⟨hgo, I.hok.fresh (Nat.le_of_lt ha), Nat.ne_of_gt ha, ?_, hgd⟩
    intro z
    rcases List.mem_cons.mp (I.stkSub a z) with z | z
    · have := I.lt
      rw [← z] at this
      exact absurd (Nat.lt_trans this ha) (Nat.lt_irrefl _)
    · exact I.nofs (Nat.le_of_lt ha) z
  · show (none :: caps σ pick).length = (x :: cs).length
    unfold caps
    rw [List.length_cons, List.length_cons, List.length_map, G.len]
end
end Ov

set_option Elab.async false
set_option linter.all false
set_option maxRecDepth 100000
set_option maxHeartbeats 4000000
namespace Ov
open PySem PySem.Spec PyProof.Rows L2 GxR
/-- the reading of a turn for all: the element's answer b; true: on; false: the answer -/
def turnAll (J : It) (te : TE) (W : Nat → Nat → Hp → Prop) (caps : L2.St) (Q : VK) : Prop := ∀ i m H, W i m H →
  (J.stop i H ∧ Q (.bl true) H) ∨ (J.go i H ∧ ∀ x H', J.yld i H x H' → te (some x :: caps) H' fun y H'' => ∃ b, y = .bl b ∧ if b = true then ∃ m', m' < m ∧ W (i + 1) m' H'' else Q (.bl false) H'')
section
variable {X : Cx} {σ : L2.St} {H : Hp} {s : Shared}
/-- the context's own: nothing is raised, the generator's object is pinned -/
structure Gen (G : Cx) (A : Around) (a : Addr) (g : Nat) (x : Str) (go : Obj) : Prop where
  over : G.A = A.deeper G.env
  calm : G.calm = true
  xe : G.xe = fun _ _ => False
  nd : G.N.Nodup
  at0 : G.N[0]? = some x
  loc : G.env.scope.names.lookup x = some .local
  co : G.env.scope.isCoroutine = false
  pn : G.pn = [(a, go)]
  gen : ∀ h : Heap, h.get? a = some go → h.IsGen a g
theorem seg_all {G : Cx} {A : Around} {a : Addr} {g : Nat} {x : Str} {go : Obj} (S : Gen G A a g x go) {elt iter : Expr} {px pos : Pos} {scope : Scope} {te : TE} {J : It} {fp : List Addr} {it : Addr} {tn : Nat → Heap → Prop} {W : Nat → Nat → Hp → Prop} {cp : L2.St} {Q : VK} {Dn : Bool → Shared → Prop}
    (T : Turn G.prog G.w G.K (.Name x px) J fp it tn) (he : PE G elt te) (turn : turnAll J te W cp Q) (hex : G.ex = fp) (hfa : ∀ b ∈ fp, a ≠ b)
    (hD : ∀ b H' s' v, Inv G [] (v :: cp) H' s' → Q (.bl b) H' → Dn b s') :
    ∀ (n i m : Nat) (s₀ s : Shared) (v : Option V) (H : Hp), m < n → Inv G [] (v :: cp) H s → tn i s.heap → (∀ b ∈ fp, H b = none) → W i m H →
      Seg (model G.prog G.w) A (RB false Dn) (YB a g false Dn) n s₀ (.compLoop (.GeneratorExp elt [⟨.Name x px, iter, [], 0⟩] scope pos) 0 (.ref it) .none G.env)
        ((model G.prog G.w).den (.compLoop (.GeneratorExp elt [⟨.Name x px, iter, [], 0⟩] scope pos) 0 (.ref it) .none G.env)) [] s := by
  have stat : ∀ {σ' : L2.St} {H' : Hp} {s' : Shared}, Inv G [] σ' H' s' → (∀ b ∈ fp, H' b = none) → ∀ b ∈ fp, FpOk G [] H' b := fun {σ' H' s'} I' hn b hb => by
    have hb' : b ∈ G.ex := by rw [hex]; exact hb
    refine ⟨hn b hb, (I'.ok.exf b hb').1, I'.ok.exfs b hb', .inl hb', fun x c e => (I'.ok.exf b hb').2 x c e, fun p hp z => ?_⟩
    have hp' : p ∈ G.pn := by simpa using hp
    rw [S.pn] at hp'
    rw [List.mem_singleton.mp hp'] at z
    exact hfa b hb z
  intro n
  induction n with
  | zero => intro i m s₀ s v H hm; exact absurd hm (Nat.not_lt_zero _)
  | succ n ih =>
    intro i m s₀ s v H hm I st hf w
    show Seg _ A _ _ _ s₀ _ ((compTurn (.GeneratorExp elt [⟨.Name x px, iter, [], 0⟩] scope pos) 0 (.ref it) .none G.env).onRaise (leaving G.env)) [] s
    rw [compTurn_gen, Sem.onRaise_eq_wrap]
    have ov : A.over (.compLoop (.GeneratorExp elt [⟨.Name x px, iter, [], 0⟩] scope pos) 0 (.ref it) .none G.env) [] = G.A := by rw [S.over]; rfl
    refine seg_bind_wrap (wpAny_standAt ?_)
    rcases turn i m H w with ⟨stop, q⟩ | ⟨go', step⟩
    · refine seg_bind_wrap ?_
      rw [ov]
      refine wpAny_mono (T.done G rfl rfl rfl S.calm i [] s (v :: cp) H (fun _ _ => False) I (stat I hf) st stop) (fun r s1 hr => ?_) fun _ _ z => z.elim
      obtain ⟨rfl, I1⟩ := hr
      refine seg_end (.ok .next) ⟨rfl, I1.bare, fun h' gs hk hb => ?_⟩
      exact hD true H _ v (I1.call' (ch := []) rfl (Un.kept hk) (I1.hok.kept hk) hb fun b z => by simp at z) q
    · refine seg_bind_wrap ?_
      rw [ov]
      refine wpAny_mono (T.item G rfl rfl rfl S.calm i [] s (v :: cp) H (fun _ _ => False) I (stat I hf) st go') (fun r s1 hr => ?_) fun _ _ z => z.elim
      obtain ⟨u, rfl, h1⟩ := hr
      refine seg_bind_wrap ?_
      rw [ov]
      refine wpAny_mono h1 (fun _ s2 h2 => ?_) fun _ _ z => z.elim
      obtain ⟨y, H2, I2, r2, y2, st2, n2⟩ := h2
      have I2' := I2.pinned (stat I2 n2) (T.obj _ _ st2)
      refine seg_bind_wrap ?_
      rw [ov]
      refine wpAny_mono ((pg_name (X := G) (i := 0) (pos := px) S.nd S.at0 (.inl S.loc) (.inr S.loc)).run _ s2 (v :: cp) H2 y u (fun σ' H' => σ' = some y :: cp ∧ H' = H2) I2' r2 ⟨rfl, rfl⟩) (fun _ s3 h3 => ?_) fun _ _ z => by rw [S.xe] at z; exact z.elim
      obtain ⟨σ3, H3, I3, rfl, rfl⟩ := h3
      refine seg_bind_wrap ?_
      simp only [List.forIn_nil]
      refine wpAny_pure ?_
      simp only [if_true]
      have hy : ∀ v, yieldOut G.env v = yieldValue v := fun v => by simp only [yieldOut, S.co, Bool.false_eq_true, if_false]
      simp only [hy]
      rw [Sem.bind_eq_wrap', Sem.bind_eq_wrap', Sem.wrap_wrap, Sem.wrap_wrap]
      refine seg_wrap ?_
      rw [ov]
      refine wpAny_mono (he.run _ s3 (some y :: cp) H3 _ I3 (step y H3 y2)) (fun z s4 h4 => ?_) fun _ _ z => by rw [S.xe] at z; exact z.elim
      obtain ⟨zv, H4, I4, r4, b, rfl, q4⟩ := h4
      have ez : z = Value.bool b := r4
      subst ez
      have pin' : ∀ c ∈ fp, ∀ o, s2.heap.get? c = some o → s4.heap.get? c = some o ∧ H4 c = none := fun c hc o e =>
        let z := I4.pin (c, o) (List.mem_append_right _ (List.mem_append_right _ (mem_pinsAt hc e)))
        ⟨z.1, z.2.1⟩
      have st4 : tn (i + 1) s4.heap := T.keep _ _ _ st2 fun c hc o e => (pin' c hc o e).1
      have f4 : ∀ c ∈ fp, H4 c = none := fun c hc => by
        obtain ⟨o, e, _⟩ := T.obj _ _ st2 c hc
        exact (pin' c hc o e).2
      have I5 : Inv G [] (some y :: cp) H4 s4 := I4.unpinned (pins := [])
      have hgo : s4.heap.get? a = some go := (I5.pin (a, go) (by rw [S.pn]; simp)).1
      refine seg_at (seg_yield rfl rfl rfl ⟨b, rfl, I5.nolimit, S.gen _ hgo, I5.bare, fun eb gs hb => ?_, fun nb gs hb => ?_⟩)
      · subst eb
        exact hD false H4 _ (some y) (I5.call' (ch := []) rfl Un.refl I5.hok hb fun b z => by simp at z) q4
      · have eb : b = true := by cases b with
          | true => rfl
          | false => exact absurd rfl nb
        subst eb
        obtain ⟨m', hm', w'⟩ := (if_pos rfl : (if true = true then _ else _) = _) ▸ q4
        refine seg_again rfl (ih (i + 1) m' _ _ (some y) H4 (by omega) (I5.call' (ch := []) rfl Un.refl I5.hok hb fun b z => by simp at z) st4 f4 w')

theorem seg_allStart {G : Cx} {A : Around} {a : Addr} {g : Nat} {x : Str} {go : Obj} (S : Gen G A a g x go) {elt iter : Expr} {px pos : Pos} {scope : Scope} {te : TE} {J : It} {fp : List Addr} {it : Addr} {tn : Nat → Heap → Prop} {W : Nat → Nat → Hp → Prop} {cp : L2.St} {Q : VK} {Dn : Bool → Shared → Prop}
    (T : Turn G.prog G.w G.K (.Name x px) J fp it tn) (he : PE G elt te) (turn : turnAll J te W cp Q) (hex : G.ex = fp) (hfa : ∀ b ∈ fp, a ≠ b)
    (hD : ∀ b H' s' v, Inv G [] (v :: cp) H' s' → Q (.bl b) H' → Dn b s') (n m : Nat) (s₀ s : Shared) (v : Option V) (H : Hp) (hm : m < n) (I : Inv G [] (v :: cp) H s) (st : tn 0 s.heap) (hf : ∀ b ∈ fp, H b = none) (w : W 0 m H) :
      Seg (model G.prog G.w) A (RB false Dn) (YB a g false Dn) n s₀ (.compStart (.GeneratorExp elt [⟨.Name x px, iter, [], 0⟩] scope pos) 0 (.ref it) .none G.env)
        ((model G.prog G.w).den (.compStart (.GeneratorExp elt [⟨.Name x px, iter, [], 0⟩] scope pos) 0 (.ref it) .none G.env)) [] s := by
  have loop := seg_all (iter := iter) (pos := pos) (scope := scope) S T he turn hex hfa hD n 0 m s₀ s v H hm I st hf w
  show Seg _ A _ _ _ s₀ _ ((compStart (.GeneratorExp elt [⟨.Name x px, iter, [], 0⟩] scope pos) 0 (.ref it) .none G.env).onRaise (leaving G.env)) [] s
  unfold compStart
  rw [Sem.onRaise_eq_wrap]
  show Seg _ A _ _ _ s₀ _ ((ask >>= _).wrap _ _ _ _) [] s
  refine seg_bind_wrap (wpAny_askSetting ?_)
  split
  · exact seg_again rfl loop
  · first
      | exact seg_bind_wrap (wpAny_rule (seg_bind_wrap (wpAny_standAt (seg_bind_wrap (T.self _ 0 s _ _ st (seg_again rfl loop))))))
      | (refine seg_bind_wrap (wpAny_rule ?_); show Seg _ A _ _ _ s₀ _ ((standAt iter.pos >>= _).wrap _ _ _ _) [] s; exact seg_bind_wrap (wpAny_standAt (seg_bind_wrap (T.self _ 0 s _ _ st (seg_again rfl loop)))))

/-- all(elt for x in iter): J walks; W by the turn and a measure -/
def tAllG (P : Addr) (wi : TI) (pick : List Nat) (te : TE) : TE := fun σ H Q => wi σ H fun J H1 => TabG H1 P ∧ ∀ H2, Tabbed P H1 H2 → ∃ W : Nat → Nat → Hp → Prop, (∃ m, W 0 m H2) ∧ turnAll J te W (caps σ pick) Q

theorem fpOk_tab {pins : List (Addr × Obj)} {H1 H2 : Hp} {P b : Addr} {ps : Array Value} (hP : H1 P = some (.tbl ps)) (hT : ∀ b, b ≠ P → H2 b = H1 b) (f : FpOk X pins H1 b) : FpOk X pins H2 b := by
  refine ⟨?_, f.2⟩
  rw [hT b (fun z => by have := f.1; rw [z, hP] at this; cases this)]
  exact f.1

theorem pe_allG {c P : Addr} {elt iter : Expr} {x : Str} {px p pos gpos : Pos} {scope : Scope} {cs : List Str} {pick : List Nat} {wi : TI} {te : TE} {k : Nat}
    (hc : X.calm = true) (hr : Room (k + 1) X.A) (hg : Gl X "all") (hm : X.mg "all" = none) (hb : bootBuiltins "all" = some (.builtin "all")) (TB : TabB X.base X.mg c P) (hcode : X.env.code = .ref c) (S : GenN X scope x cs pick)
    (hi : PI X (.Name x px) iter wi)
    (he : ∀ (s : Shared) (H : Hp) (code : Value) (C : Addr) (A : Around) (fp : List Addr) (pn : List (Addr × Obj)), Room k A → PE (cxG X s H (x :: cs) (genEnv scope (cloFrom X.env.cells scope.names []) C code builtinsNs X.env) A fp pn) elt te)
    (hs : ∀ v, genFold iter X.env v = pure v := by intro _; rfl)
    (hst : starEach [.GeneratorExp elt [⟨.Name x px, iter, [], 0⟩] scope gpos] X.env = (false, eval (.GeneratorExp elt [⟨.Name x px, iter, [], 0⟩] scope gpos) X.env) :: starEach [] X.env := by rfl) :
    PE X (.Call (.Name "all" p) [.GeneratorExp elt [⟨.Name x px, iter, [], 0⟩] scope gpos] [] pos) (tAllG P wi pick te) := by
  refine ⟨fun pins s σ H Q I h => ?_⟩
  refine wpAny_Call_Name_kw (ld_blt I hg hm hb ?_)
  refine PyProof.Rows.callWith_builtin1 ?_ hst (by rfl)
  rw [hst]
  show wpAny _ _ (spliced ((false, eval (.GeneratorExp elt [⟨.Name x px, iter, [], 0⟩] scope gpos) X.env) :: backTo pos (starEach [] X.env))) _ _ s
  refine Calls.spliced_cons ?_
  refine wpAny_GeneratorExp_make S.gen.co (closure_ok S.gen.free) S.gen.cell S.gen.dot S.gen.kind (by have := hr.dp; omega) ?_ hs
  refine thn (hi.run pins s σ H _ I h) fun xv s1 h1 => thn h1 fun itv s2 h2 => ?_
  obtain ⟨it, fp, tn, J, H2, rfl, I2, T, st2, f2, ⟨ps, hP, ht⟩, hW⟩ := h2
  refine ⟨I2.nolimit, ?_⟩
  have hPs : s2.heap.get? P = some { cls := .none, data := .fields ps } := I2.hok P _ hP
  have hPlt : P < s2.heap.objs.size := Heap.lt_size hPs
  have cd : PySem.W.CodeHd s2.heap c P := TB.code.keeps fun b u e => I2.bk b u e
  -- behind the code object
  have cont : ∀ (code : Value) (h3 : Heap) (tk : Nat) (ps' : Array Value), Heap.ExtBut P s2.heap h3 → h3.get? P = some { cls := .none, data := .fields ps' } → (∃ more, ps' = ps ++ more) → TriplesOk ps'.toList →
      wpAny (model X.prog X.w) X.A (builtinsFor X.env.globals X.env.builtins) (fun bi s₄ =>
        ∀ h', h'.Ns s₄.heap.objs.size (fun y => if y = ".0" then some (.ref it) else none) → Heap.SameBut s₄.heap.objs.size (s₄.heap.push { cls := .type "frame", data := .dict #[] }) h' →
          wpAny (model X.prog X.w) X.A (spliced (backTo pos (starEach [] X.env))) (fun us s' => wpAny (model X.prog X.w) X.A (call (.builtin "all") (.ref h'.objs.size :: us)) (EP X pins σ Q) X.xe s') X.xe { s₄ with
            gens := s₄.gens.push (.fresh (.compStart (.GeneratorExp elt [⟨.Name x px, iter, [], 0⟩] scope gpos) 0 (.ref it) .none (genEnv scope (cloFrom X.env.cells scope.names []) s₄.heap.objs.size code bi X.env))),
            toks := s₄.toks + 1 + 1 + 1,
            heap := h'.push { cls := .type "generator", data := .fields #[.int s₄.gens.size 0, .str "<genexpr>" (s₄.toks + 1), .str (X.env.qual ++ "<genexpr>") (s₄.toks + 1 + 1)] } }) X.xe { s2 with heap := h3, toks := tk } := by
    intro code h3 tk ps' hx hP3 hmore ht3
    obtain ⟨more, em⟩ := hmore
    subst em
    obtain ⟨bm, ob, e1, e2, e3, e4, e5, e6, e7, e8⟩ := TB.bm
    have keep3 : ∀ b u, b ≠ P → s2.heap.get? b = some u → h3.get? b = some u := fun b u hb e => hx b u hb e
    refine wpAny_builtinsFor (m := X.mg) (by rw [I2.ok.glob]; exact (I2.mod.glob.keeps I2.bk).extBut hx TB.gP) e1 e2 (keep3 _ _ e4 (I2.bk _ _ e5)) e6 e7 e8 ?_
    intro h' hn' hs'
    have I3 : Inv X pins σ (upd H2 P (.tbl (ps ++ more))) { s2 with heap := h3, toks := tk } := inv_tab (more := more) (h' := h3) (g' := s2.gens) (d' := s2.drawn) (t' := tk) I2 hP keep3 hP3 I2.bare
    generalize hs3 : ({ s2 with heap := h3, toks := tk } : Shared) = s3 at I3 ⊢
    have hh3 : s3.heap = h3 := by rw [← hs3]
    have hg3 : s3.gens = s2.gens := by rw [← hs3]
    have hn' : h'.Ns s3.heap.objs.size (fun y => if y = ".0" then some (.ref it) else none) := hh3.symm ▸ hn'
    have hs' : Heap.SameBut s3.heap.objs.size (s3.heap.push { cls := .type "frame", data := .dict #[] }) h' := hh3.symm ▸ hs'
    have hsz : h'.objs.size = s3.heap.objs.size + 1 := by rw [hs'.1, Heap.size_push]
    have keep' : ∀ b o, s3.heap.get? b = some o → h'.get? b = some o := fun b o e => hs'.extBut b o (Nat.ne_of_lt (Heap.lt_size e)) (Heap.get?_push_of_some _ e)
    have hT23 : Tabbed P H2 (upd H2 P (.tbl (ps ++ more))) := ⟨⟨_, upd_same, ht3⟩, fun b hb => upd_ne hb⟩
    obtain ⟨W, ⟨m0, w0⟩, turn⟩ := hW _ hT23
    generalize hH3 : upd H2 P (.tbl (ps ++ more)) = H3 at I3 w0 hT23
    have nfpP : ∀ b ∈ fp, b ≠ P := fun b hb z => by have := (f2 b hb).1; rw [z, hP] at this; cases this
    have st3 : tn 0 s3.heap := T.keep _ _ _ st2 fun b hb o e => by rw [hh3]; exact keep3 b o (nfpP b hb) e
    have f3 : ∀ b ∈ fp, FpOk X pins H3 b ∧ b < s3.heap.objs.size := fun b hb => by
      refine ⟨fpOk_tab hP hT23.2 (f2 b hb), ?_⟩
      obtain ⟨o, e, _⟩ := T.obj _ _ st3 b hb
      exact Heap.lt_size e
    generalize hgo : ({ cls := .type "generator", data := .fields #[.int s3.gens.size 0, .str "<genexpr>" (s3.toks + 1), .str (X.env.qual ++ "<genexpr>") (s3.toks + 1 + 1)] } : Obj) = go
    generalize hcenv : genEnv scope (cloFrom X.env.cells scope.names []) s3.heap.objs.size code builtinsNs X.env = cenv
    have keep5 : ∀ b o, s3.heap.get? b = some o → (h'.push go).get? b = some o := fun b o e => Heap.get?_push_of_some _ (keep' b o e)
    have hga : (h'.push go).get? h'.objs.size = some go := Heap.get?_push_size _ (by subst hgo; rfl)
    have hgd : ∀ v, go.data ≠ .cell v := fun v => by rw [← hgo]; exact fun z => by cases z
    have hgen : ∀ h : Heap, h.get? h'.objs.size = some go → h.IsGen h'.objs.size s3.gens.size := fun h e => ⟨go, _, _, e, by subst hgo; rfl, by subst hgo; rfl, by subst hgo; rfl⟩
    have bareG : AllBare (s3.gens.push (.fresh (.compStart (.GeneratorExp elt [⟨.Name x px, iter, [], 0⟩] scope gpos) 0 (.ref it) .none cenv))) := I3.bare.push rfl
    refine Calls.spliced_nil ?_
    refine call_function_tree F.kind_all F.plain_all F.entry_all (F.args_all1 _) ?_
    unfold Builtin.«all»
    refine wpAny_bind (m := oneArg "all" _) (wpAny_pure ?_)
    refine wpAny_bind (wpAny_pyIter_gen (hgen _ hga) ?_)
    refine wpAny_pure ⟨plainId_quiet F.plain_all_loop _, ?_⟩
    have hA : X.A.in1.in1.handled = none := hr.hd
    have hfr : (X.A.in1.in1.deeper cenv).frames = some (cenv :: X.stack) := Around.frames_deeper (A := X.A.in1.in1) I3.ok.frames
    have start : ∀ gs : Array GenState, AllBare gs → Inv (cxG X s3 H3 (x :: cs) cenv (X.A.in1.in1.deeper cenv) fp [(h'.objs.size, go)]) [] (none :: caps σ pick) H3 { s3 with heap := h'.push go, gens := gs, toks := s3.toks + 1 + 1 + 1 } := fun gs hb => by
      subst hcenv
      exact gen_start I3 S hA hfr f3 (hn'.push _) keep5 (by omega) hga hgd hb
    have rm : Room k (X.A.in1.in1.deeper cenv) := ⟨hr.hd, by have := hr.dp; show X.A.depth + 1 + 3 * k + 5 < _; omega, by have := hr.un; show X.A.units + 1 + 1 + 3 + 16 * k + 200 < _; omega⟩
    have hel : PE (cxG X s3 H3 (x :: cs) cenv (X.A.in1.in1.deeper cenv) fp [(h'.objs.size, go)]) elt te := by
      subst hcenv
      exact he s3 H3 code s3.heap.objs.size _ fp _ rm
    refine all_drain (P := X.prog) (w := X.w) (A := X.A) (Dn := fun b s' => EP X pins σ Q (.bool b) s') hr.hd (by have := hr.dp; omega) (fun b s' hb => hb) (m0 + 1) _ (hgen _ hga) (I3.nolimit.keeps keep5) bareG ⟨_, Array.getElem?_push_size .., rfl, ?_⟩
    have GG : Gen (cxG X s3 H3 (x :: cs) cenv (X.A.in1.in1.deeper cenv) fp [(h'.objs.size, go)]) X.A.in1.in1 h'.objs.size s3.gens.size x go := by
      refine ⟨rfl, rfl, rfl, S.nd, rfl, ?_, ?_, rfl, hgen⟩
      · subst hcenv; exact S.gen.loc
      · subst hcenv; exact S.gen.co
    refine seg_allStart (iter := iter) (pos := gpos) (scope := scope) GG T hel turn rfl (fun b hb z => ?_) (fun b H' s' v I' q => ?_) (m0 + 1) m0 _ _ none H3 (Nat.lt_succ_self _) (start _ (bare_set bareG rfl)) (T.keep _ _ _ st3 fun b hb o e => keep5 b o e) (fun b hb => (f3 b hb).1.1) w0
    · have z1 : h'.objs.size < s3.heap.objs.size := by
        rw [show h'.objs.size = b from z]
        exact (f3 b hb).2
      have z2 : (h'.objs.size : Nat) = s3.heap.objs.size + 1 := hsz
      omega
    · exact ⟨.bl b, H', I3.call' (ch := fp) I'.os I'.base I'.hok I'.bare fun b hb => ⟨(f3 b hb).1.2.2.2.1, (f3 b hb).1.2.1, (f3 b hb).1.2.2.2.2.1, (f3 b hb).1.2.2.2.2.2⟩, rfl, q⟩
  cases hf : codeAmong gpos ps.toList with
  | none =>
    refine wpAny_genexprCodeX hcode (cd.code hPs ht) (cd.tab hPs) hf fun c' h' tk hx hge hlt hco' _ htab' _ => ?_
    obtain ⟨o1, vs, f1, tf, fl, tg, inF, tx, tt, op, _, _, _, _, _, _, _, _, _, htr, _⟩ := hco'
    exact cont _ h' tk _ hx htab'.2 ⟨_, rfl⟩ htr
  | some cv =>
    refine wpAny_genexprCode_hit hcode (cd.code hPs ht) hf ?_
    exact cont cv s2.heap s2.toks ps (Heap.ExtBut.refl _ _) hPs ⟨#[], by simp⟩ ht
end
end Ov

set_option Elab.async false
set_option linter.all false
set_option maxRecDepth 100000
set_option maxHeartbeats 4000000
/-! rules that the layer lacks: powers of great ints, <= of texts, text * int, == of own instances by identity, an own __add__, an own __len__, C(*xs), repr of a list of texts -/
namespace Ov
open PySem PySem.Spec PyProof.Rows L2
/-! ### == by identity -/
section
variable {prog : Program} {w : World} {A : Around} {E : Value → Shared → Prop} {s : Shared} {K : PySem.W.Frag} {x y C : Addr} {ox oy : Obj} {od od' : Option Obj}
theorem call_objEq {Q : Value → Shared → Prop} (X : K.In s.heap) (I : PySem.W.InstAt s.heap x ox C od) (J : PySem.W.InstAt s.heap y oy C od') (hsub : PySem.W.subIn K (.ref C) (.type "object") = some true)
    (h : Q (if x = y then .bool true else .notImplemented) s) : wpAny (model prog w) A (call (.builtin "object.__eq__") [.ref x, .ref y]) Q E s := by
  refine wpAny_call (codeAny_call_builtin F.cmp_object.eq.plain F.cmpEntry_eq ?_)
  have fin : wpAny (model prog w) A.in1 (Builtin.«object.__eq__» ⟨[.ref x, .ref y], []⟩) (fun fin s' => match fin with | .done f => (wants Q E) (.ok f) s' | .again c' => c'.quiet = true ∧ codeAny (model prog w) A c' (wants Q E) s') (fun e s' => (wants Q E) (.error e) s') s := by
    by_cases hxy : x = y
    · subst hxy
      exact objEq_entry_same (by rw [if_pos rfl] at h; exact h)
    · refine objEq_entry_other hxy I.at_ J.at_ ?_ (by rw [if_neg hxy] at h; exact h)
      rw [I.cls]
      intro z; cases z
  simp only [checkBuiltinCall, F.cmpKind_eq, F.cmpSplit_eq]
  refine wpAny_bind ?_
  unfold isInstance
  refine wpAny_bind (I.type.here ?_)
  refine (PySem.W.looks_subIn X hsub).here ?_
  cases hsig : Manifest.signature? "object.__eq__" with
  | none => exact wpAny_pure fin
  | some sig =>
    have ha := F.cmpArgs_eq (.ref x) (.ref y)
    simp only [argsOk, hsig] at ha
    have h2 : Bind.checkArgs "object.__eq__" sig ⟨[.ref x, .ref y], []⟩ = pure () := ha
    show wpAny _ A.in1 (Bind.checkArgs "object.__eq__" sig ⟨[.ref x, .ref y], []⟩) _ _ _
    rw [h2]; exact wpAny_pure fin
theorem special_eq {Q : Option Value → Shared → Prop} (X : K.In s.heap) (I : PySem.W.InstAt s.heap x ox C od) (J : PySem.W.InstAt s.heap y oy C od') (hs : PySem.W.findIn K (.ref C) "__eq__" = some (some (.builtin "object.__eq__"))) (hsub : PySem.W.subIn K (.ref C) (.type "object") = some true)
    (h : Q (some (if x = y then .bool true else .notImplemented)) s) : wpAny (model prog w) A (callSpecialIfBound? (.ref x) "__eq__" [.ref y]) Q E s := by
  simp only [callSpecialIfBound?, bindSpecialIfBound?]
  refine wpAny_holding (wpAny_bind (wpAny_bind (wpAny_bind (I.type.here ((PySem.W.looks_findIn X hs).here ?_)))))
  have fin : wpAny (model prog w) A (call (.builtin "object.__eq__") ([.ref x] ++ [.ref y]) >>= fun v => pure (some v)) Q E s := wpAny_bind (call_objEq X I J hsub (wpAny_pure h))
  simp only [F.cmp_object.eq.bind]
  refine wpAny_bind (wpAny_askSetting (wpAny_ite ?_))
  split
  · exact wpAny_bind (wpAny_pure (wpAny_pure fin))
  · exact wpAny_tryCatch (wpAny_bind (wpAny_pure (wpAny_pure fin)))
theorem try_eq {Q : Option Value → Shared → Prop} (X : K.In s.heap) (I : PySem.W.InstAt s.heap x ox C od) (J : PySem.W.InstAt s.heap y oy C od') (hs : PySem.W.findIn K (.ref C) "__eq__" = some (some (.builtin "object.__eq__"))) (hsub : PySem.W.subIn K (.ref C) (.type "object") = some true)
    (h : Q (if x = y then some (.bool true) else none) s) : wpAny (model prog w) A (tryCompare (.ref x) "__eq__" (.ref y)) Q E s := by
  unfold tryCompare
  refine wpAny_bind (special_eq X I J hs hsub ?_)
  by_cases hxy : x = y
  · rw [if_pos hxy] at h ⊢
    exact wpAny_pure h
  · rw [if_neg hxy] at h ⊢
    exact wpAny_pure h
theorem eq_id {Q : Value → Shared → Prop} (hu : A.units < cLine) (X : K.In s.heap) (I : PySem.W.InstAt s.heap x ox C od) (J : PySem.W.InstAt s.heap y oy C od') (hs : PySem.W.findIn K (.ref C) "__eq__" = some (some (.builtin "object.__eq__"))) (hsub : PySem.W.subIn K (.ref C) (.type "object") = some true)
    (h : Q (.bool (decide (x = y))) s) : wpAny (model prog w) A (compareOp .Eq (.ref x) (.ref y)) Q E s := by
  show wpAny _ _ (richCompare .Eq (.ref x) (.ref y)) _ _ _
  unfold richCompare
  simp only [oneThing_ref, cmpInfo_Eq]
  refine wpAny_holding (wpAny_bind (wpAny_cRoomFor hu ?_))
  refine wpAny_bind (I.type.here (wpAny_bind (J.type.here ?_)))
  rw [if_neg (by simp)]
  refine wpAny_bind (wpAny_pure ?_)
  simp only [Bool.false_eq_true, if_false]
  refine wpAny_bind (try_eq X I J hs hsub ?_)
  by_cases hxy : x = y
  · rw [if_pos hxy]
    subst hxy
    exact wpAny_pure (by simpa using h)
  · rw [if_neg hxy]
    have hyx : ¬ y = x := fun z => hxy z.symm
    simp only [Bool.not_false, if_true]
    refine wpAny_bind (try_eq X J I hs hsub ?_)
    rw [if_neg hyx]
    refine wpAny_bind (wpAny_rule ?_)
    refine wpAny_bind (wpAny_isSame_ref_other hxy I.at_ J.at_ (by rw [I.cls]; intro z; cases z) ?_)
    exact wpAny_pure (by simpa [hxy] using h)
end

/-! ### the same over the layer; powers; texts -/
section
variable {X : Cx}
/-- the class has no == of its own -/
structure NoEq (K : PySem.W.Frag) (C : Addr) : Prop where
  eq : PySem.W.findIn K (.ref C) "__eq__" = some (some (.builtin "object.__eq__"))
  sub : PySem.W.subIn K (.ref C) (.type "object") = some true
theorem op_eqId {C : Addr} (hu : X.A.units < cLine) (n : NoEq X.K C) : OpR X (compareOp .Eq) (fun x y H Q => ∃ a b dx dy fs gs, x = .ref a ∧ y = .ref b ∧ H a = some (.ins C dx fs) ∧ H b = some (.ins C dy gs) ∧ Q (.bl (decide (a = b))) H) := by
  intro pins s σ H x y v u Q I rx ry h
  obtain ⟨a, b, dx, dy, fs, gs, rfl, rfl, ha, hb, q⟩ := h
  obtain rfl : v = Value.ref a := rx
  obtain rfl : u = Value.ref b := ry
  obtain ⟨mA, O, _⟩ := ins_get I.hok ha
  obtain ⟨od, J, _⟩ := O.look
  obtain ⟨mB, O', _⟩ := ins_get I.hok hb
  obtain ⟨od', J', _⟩ := O'.look
  exact eq_id hu I.kIn J J' n.eq n.sub ⟨.bl _, H, I, rfl, q⟩
/-- a power of a great number -/
def CPowW (i j : Int) : Prop := 0 ≤ j ∧ (Builtin.Int.intBits i : Int) * j ≤ 2 ^ 27
theorem op_powW : OpR X (binaryOp .Pow) (rI CPowW fun i j => .int (i ^ j.toNat)) := opI fun _ _ _ _ _ _ _ hc q => pow_int hc.1 hc.2 q
theorem bits_le {i : Int} {b : Nat} (h : i.natAbs < 2 ^ b) (h0 : 0 < b) : Builtin.Int.intBits i ≤ b := by
  have x := PySem.Flt.log2_lt_of h0 h
  unfold Builtin.Int.intBits
  split <;> omega
theorem op_le_str : OpR X (compareOp .LtE) (fun x y H Q => ∃ i j, x = .str i ∧ y = .str j ∧ Q (.bl (!decide (j.cps.toList < i.cps.toList))) H) := by
  intro pins s σ H x y v u Q I rx ry h
  obtain ⟨i, j, rfl, rfl, q⟩ := h
  obtain ⟨t, rfl⟩ := rx
  obtain ⟨t', rfl⟩ := ry
  exact PySem.P.le_str ⟨.bl _, H, I, rfl, q⟩
end
/-! ### C(*xs) -/
def tMakeS (X : Cx) (C : Addr) (sp : Sp) (E : XK) (tc te : TE) : TE := fun σ H Q => tc σ H fun c H0 => c = .ref C ∧ te σ H0 fun y H1 => ∃ a xs, y = V.ref a ∧ (SqT X.K H1 a xs ∨ SqL X.K H1 a xs) ∧
  ∀ x dx, H1 x = none → H1 dx = none → dx ≠ x → sp (V.ref x :: xs) (upd (upd H1 dx (.own x)) x (.ins C dx [])) (fun v H2 => v = .non ∧ Q (.ref x) H2) E
section
variable {X : Cx} {CX : CXT} {k : Nat} {f C : Addr} {sp : Sp} {E : XK} {x : Str} {e : Expr} {tc te : TE} {p pos sp_ : Pos}
/-- c(*xs), c a name whose value is the class -/
theorem pe_makeS (M : Mk X.K C f) (F : FnR X.prog X.w X.K X.mg X.base CX k f sp) (hr : Room (k + 1) X.A) (hx : Passes CX X E) (hn : PE X (.Name x p) tc) (he : PE X e te)
    (hst : starEach [.Starred e sp_] X.env = [(true, eval e X.env)] := by rfl) : PE X (.Call (.Name x p) [.Starred e sp_] [] pos) (tMakeS X C sp E tc te) := by
  refine ⟨fun pins s σ H Q I h => ?_⟩
  refine wpAny_Call_Name_kw (thn (hn.run pins s σ H _ I h) fun c s0 ⟨cv, H0, I0, rc, ec, h⟩ => ?_)
  subst ec
  obtain rfl : c = Value.ref C := rc
  refine PySem.W.callWith_S (h₀ := X.base) I0.ok.mod.kin M.kp (thn (he.run pins s0 σ H0 _ I0 h) fun v s1 ⟨y, H1, I1, ry, a, xs, ey, hxs, q⟩ => ?_) hst
  subst ey
  obtain rfl : v = Value.ref a := ry
  exact StX.star_any I1 hxs fun us s2 I2 rv => ⟨I2.kIn, StX.run_makeR M F hr hx I2 rv q⟩
end
end Ov

set_option Elab.async false
set_option linter.all false
set_option maxRecDepth 100000
set_option maxHeartbeats 4000000
/-! len(set(xs)), xs a tuple of any number of texts (below 4000) -/
namespace Ov
open PySem PySem.Spec PyProof.Rows L2
/-- the texts without those that were there before -/
def addS (z : List Str) (v : Str) : List Str := if z.any (· == v) = true then z else z ++ [v]
def once (xs : List Str) : List Str := xs.foldl addS []
theorem addS_len (z : List Str) (v : Str) : (addS z v).length = if z.any (· == v) = true then z.length else z.length + 1 := by
  unfold addS; split <;> simp
theorem addS_any (z : List Str) (v k : Str) : (addS z v).any (· == k) = (z.any (· == k) || decide (k = v)) := by
  unfold addS
  by_cases h : z.any (· == v) = true
  · rw [if_pos h]
    by_cases e : k = v
    · subst e; rw [h]; simp
    · simp [e]
  · rw [if_neg h, List.any_append]
    by_cases e : k = v
    · subst e; simp
    · have hb : (v == k) = false := by simpa [beq_iff_eq] using (fun h' : v = k => e h'.symm)
      simp [hb, e]
theorem once_take {xs : List Str} {i : Nat} (h : i < xs.length) : once (xs.take (i + 1)) = addS (once (xs.take i)) (xs.getD i Str.empty) := by
  unfold once
  rw [List.take_succ, List.foldl_append, List.getElem?_eq_getElem h]
  simp [List.getD, List.getElem?_eq_getElem h]
theorem once_le (xs : List Str) : (once xs).length ≤ xs.length := by
  have key : ∀ (l z : List Str), (l.foldl addS z).length ≤ z.length + l.length := by
    intro l
    induction l with
    | nil => intro z; simp
    | cons a l ih =>
      intro z
      rw [List.foldl_cons, List.length_cons]
      refine Nat.le_trans (ih _) ?_
      rw [addS_len]
      split <;> omega
  have := key xs []
  simpa [once] using this
/-- as many as there are, exactly if no two are alike -/
theorem once_nodup (xs : List Str) : (once xs).length = xs.length ↔ xs.Nodup := by
  have key : ∀ (l z : List Str), ((l.foldl addS z).length = z.length + l.length ↔ (l.Nodup ∧ ∀ a ∈ l, ¬ z.any (· == a) = true)) := by
    intro l
    induction l with
    | nil => intro z; simp
    | cons a l ih =>
      intro z
      rw [List.foldl_cons, List.length_cons, List.nodup_cons]
      have bound : ∀ (l z : List Str), (l.foldl addS z).length ≤ z.length + l.length := by
        intro l
        induction l with
        | nil => intro z; simp
        | cons a l ih =>
          intro z
          rw [List.foldl_cons, List.length_cons]
          refine Nat.le_trans (ih _) ?_
          rw [addS_len]
          split <;> omega
      by_cases h : z.any (· == a) = true
      · have e : addS z a = z := if_pos h
        rw [e]
        have := bound l z
        constructor
        · intro q; omega
        · rintro ⟨_, q⟩; exact absurd h (q a List.mem_cons_self)
      · have e : addS z a = z ++ [a] := if_neg h
        rw [e]
        have ih' := ih (z ++ [a])
        rw [List.length_append, List.length_singleton] at ih'
        rw [show z.length + (l.length + 1) = z.length + 1 + l.length by omega, ih']
        constructor
        · rintro ⟨h1, h2⟩
          refine ⟨⟨fun hm => ?_, h1⟩, fun b hb => ?_⟩
          · have := h2 a hm
            rw [List.any_append] at this
            simp at this
          · rcases List.mem_cons.mp hb with e | hb
            · rw [e]; exact h
            · have := h2 b hb
              rw [List.any_append] at this
              intro q
              rw [q] at this
              simp at this
        · rintro ⟨⟨h1, h2⟩, h3⟩
          refine ⟨h2, fun b hb => ?_⟩
          rw [List.any_append]
          have q := h3 b (List.mem_cons_of_mem _ hb)
          have nb : (a == b) = false := by
            rw [beq_eq_false_iff_ne]
            intro e
            exact h1 (e ▸ hb)
          simp only [Bool.not_eq_true] at q ⊢
          rw [q]
          simp [nb]
  have := key xs []
  simpa [once] using this

section
variable {prog : Program} {w : World} {A : Around} {R : Result → Shared → Prop} {I : Addr} {fp wr : List Addr} {G : Array GenState → Array GenState → Prop} {n : Nat} {P : Nat → Value → Prop} {St : Nat → Shared → Prop}
theorem set_loop (W : WalksS prog w A.in1 I fp wr G n P St) (S : Addr) (hSf : S ∉ fp) (xs : List Str) (hsz : xs.length = n) (hn : n + 1 < scanBound)
    (hval : ∀ i v, P i v → ∃ t, v = .str (xs.getD i Str.empty) t) :
    ∀ (k i : Nat) (s : Shared), n - i = k → i ≤ n → St i s →
      s.heap.SetOf (PySem.strKind prog w) S (fun k' => (once (xs.take i)).any (· == k')) (once (xs.take i)).length →
      (∀ s', Moved (S :: wr) G s s' → s'.heap.SetOf (PySem.strKind prog w) S (fun k' => (once xs).any (· == k')) (once xs).length → R (.ok (.ret .none)) s') →
      codeAny (model prog w) A (.builtin "set.update.loop" ⟨[.ref S, .ref I], []⟩) R s := by
  have hSw : S ∉ wr := fun h => hSf (W.sub _ h)
  have hsub : ∀ b ∈ wr, b ∈ S :: wr := fun b hb => List.mem_cons_of_mem _ hb
  intro k
  induction k with
  | zero =>
    intro i s hk hi hst hS hR
    have hin : i = n := by omega
    subst hin
    refine codeAny_builtin PyProof.Rows.F.entry_set_update_loop ?_
    rw [Around.under_plainId PyProof.Rows.F.plain_set_update_loop _]
    show wpAny _ A.in1 (pyNext (.ref I) >>= _) _ _ s
    refine wpAny_bind (W.done s _ _ hst fun s' hm => ?_)
    show wpAny _ A.in1 (ret Value.none) _ _ s'
    rw [← hsz, List.take_length] at hS
    exact wpAny_pure (hR s' (hm.mono hsub) (by
      obtain ⟨o, es, ep, t, ho, rest⟩ := hS
      exact ⟨o, es, ep, t, hm.heap S _ hSw ho, rest⟩))
  | succ k ih =>
    intro i s hk hi hst hS hR
    have hlt : i < n := by omega
    refine codeAny_builtin PyProof.Rows.F.entry_set_update_loop ?_
    rw [Around.under_plainId PyProof.Rows.F.plain_set_update_loop _]
    show wpAny _ A.in1 (pyNext (.ref I) >>= _) _ _ s
    refine wpAny_bind (W.item i s _ _ hlt hst fun v s' hP hst' hm => ?_)
    obtain ⟨t, rfl⟩ := hval i v hP
    have hS' : s'.heap.SetOf (PySem.strKind prog w) S (fun k' => (once (xs.take i)).any (· == k')) (once (xs.take i)).length := by
      obtain ⟨o, es, ep, tb, ho, rest⟩ := hS
      exact ⟨o, es, ep, tb, hm.heap S _ hSw ho, rest⟩
    have hle : (once (xs.take i)).length ≤ i := Nat.le_trans (once_le _) (by rw [List.length_take]; omega)
    show wpAny _ A.in1 (holding [Value.str (xs.getD i Str.empty) t] (setAdd S (.str (xs.getD i Str.empty) t)) >>= _) _ _ s'
    refine wpAny_bind (wpAny_holding ?_)
    unfold setAdd
    refine wpAny_holding ?_
    refine wpAny_bind ((PySem.strKind prog w).pyHash (k := xs.getD i Str.empty) (strKind_is _ _ _ _) ?_)
    refine wpAny_setAddHashed_of (knd := PySem.strKind prog w) (s := { s' with toks := s'.toks + 1 }) (strKind_is _ _ _ _) rfl hS' (by omega) fun h' hsb hS2 => ?_
    have hSi : h'.SetOf (PySem.strKind prog w) S (fun k' => (once (xs.take (i + 1))).any (· == k')) (once (xs.take (i + 1))).length := by
      rw [once_take (by omega)]
      exact SetOf_congr hS2 (fun k' => by rw [addS_any]) (by rw [addS_len])
    refine wpAny_pure ⟨plainId_quiet PyProof.Rows.F.plain_set_update_loop _, ih (i + 1) _ (by omega) hlt (W.frame _ s' _ _ hst' (Nat.le_succ _) fun b hb o e => ?_) hSi fun s'' hm'' hS'' => ?_⟩
    · rw [hsb.2 b (fun h : b = S => hSf (by rw [← h]; exact hb))]; exact e
    · refine hR s'' (Moved.trans W.gtrans ((hm.mono hsub).then_heap (Nat.le_succ _) fun b o hb e => ?_) hm'') hS''
      rw [hsb.2 b (fun h : b = S => hb (by rw [h]; exact List.mem_cons_self))]; exact e
end
section
variable {prog : Program} {w : World} {A : Around} {E : Value → Shared → Prop} {s : Shared}
theorem set_of_tuple {l : Addr} {items : Array Value} {xs : List Str} {Q : Value → Shared → Prop}
    (hh : A.handled = none) (hl : s.heap.IsTuple l items) (hi : PyProof.Rows.StrsAre items.toList xs) (hn1 : xs.length + 1 < scanBound)
    (h : ∀ (h' : Heap) (tk : Nat), h'.SetOf (PySem.strKind prog w) s.heap.objs.size (fun k' => (once xs).any (· == k')) (once xs).length →
      (∀ b o, b < s.heap.objs.size → s.heap.get? b = some o → h'.get? b = some o) → Q (.ref s.heap.objs.size) { s with heap := h', toks := tk }) :
    wpAny (model prog w) A (call (.type "set") [.ref l]) Q E s := by
  obtain ⟨c, tl, hmro⟩ := PySem.F.called_set.mro
  have hmade := PySem.F.called_set.made
  have hsub := PySem.F.called_set.sub
  have h1 := PySem.F.called_set.notType
  have h2 := PySem.F.called_set.canCreate
  have hct := PySem.F.typeCall_set_1 (.ref l)
  refine wpAny_call (codeAny_of_tree ?_)
  show wpAny _ _ (callAny (.type "set") _) _ _ _
  refine wpAny_pure ⟨Code.quiet_builtin _ (by decide +kernel), codeAny_builtin PySem.F.entry_type_call ?_⟩
  rw [Around.under_plain (weight_type_call_type "set" [.ref l] []) rfl]
  repeat (any_goals (first | assumption | wp_step))
  refine codeAny_mono (code_set_new_1 (.ref l) (E := E) (Q₁ := fun obj s₁ => ∃ led : Bool, obj = .ref s.heap.objs.size ∧ s₁ = { s with heap := s.heap.push { cls := .type "set", dict := none, data := .set #[] 0 (.fresh 0 0 led) } }) fun led => ⟨led, rfl, rfl⟩) fun r s₁ hr => ?_
  cases r with
  | error e => exact hr
  | ok fl =>
    cases fl with
    | ret obj =>
      obtain ⟨led, rfl, rfl⟩ := hr
      have hS : (s.heap.push { cls := .type "set", dict := none, data := .set #[] 0 (.fresh 0 0 led) }).get? s.heap.objs.size = some { cls := .type "set", dict := none, data := .set #[] 0 (.fresh 0 0 led) } := Heap.get?_push_size _ rfl
      have hT : Shared.TypeIs { s with heap := s.heap.push { cls := .type "set", dict := none, data := .set #[] 0 (.fresh 0 0 led) } } (.ref s.heap.objs.size) "set" := ⟨_, hS, rfl⟩
      have hli := PySem.F.called_set.init.lookup
      have hbi := PySem.F.called_set.init.bind (.ref s.heap.objs.size)
      repeat (any_goals (first | assumption | wp_step))
      refine codeAny_mono (codeAny_call_builtin (R := wants (fun r s₂ => r = .none ∧ ∃ h' tk, s₂ = { s with heap := h', toks := tk } ∧
          h'.SetOf (PySem.strKind prog w) s.heap.objs.size (fun k' => (once xs).any (· == k')) (once xs).length ∧
          (∀ b o, b < s.heap.objs.size → s.heap.get? b = some o → h'.get? b = some o)) E) PySem.F.called_set.init.plain PySem.F.entry_set_init (check_set_init_1 hT ?_)) fun r₂ s₂ hr₂ => ?_
      · obtain ⟨ol, hol, hcl, nl, hdl⟩ := hl
        obtain ⟨ocls, odict, odata, oslots⟩ := ol
        simp only at hcl hdl
        subst hcl; subst hdl
        have hol' : (s.heap.push { cls := .type "set", dict := none, data := .set #[] 0 (.fresh 0 0 led) }).get? l = some { cls := .type "tuple", dict := odict, data := .seq items nl, slots := oslots } := Heap.get?_push_of_some _ hol
        have hsls := PySem.F.sub_tuple_set
        have hslf := PySem.F.sub_tuple_frozenset
        have hne : (Value.type "tuple" == Value.type "dict") = false := by decide
        have hl1 : (s.heap.push { cls := .type "set", dict := none, data := .set #[] 0 (.fresh 0 0 led) }).IsTuple l items := ⟨_, hol', rfl, nl, rfl⟩
        unfold Builtin.«set.__init__» noKeywords Builtin.Frozenset.updateFrom
        generalize hPI : pyIter = PI
        wp_walk
        subst hPI
        refine wpAny_pyIter_tuple hl1 ?_
        refine wpAny_bind (wpAny_runValue ?_)
        have hlS : l < s.heap.objs.size := Heap.lt_size hol
        have hh3 : A.in1.in1.in1.handled = none := by simp [hh]
        have hneI : l ≠ (s.heap.push { cls := .type "set", dict := none, data := .set #[] 0 (.fresh 0 0 led) }).objs.size := by
          rw [Heap.size_push]; exact Nat.ne_of_lt (Nat.lt_succ_of_lt hlS)
        have hSf : s.heap.objs.size ∉ [(s.heap.push { cls := .type "set", dict := none, data := .set #[] 0 (.fresh 0 0 led) }).objs.size, l] := by
          rw [Heap.size_push]; simp only [List.mem_cons, List.mem_singleton, List.not_mem_nil, or_false, not_or]
          exact ⟨Nat.ne_of_lt (Nat.lt_succ_self _), Nat.ne_of_gt hlS⟩
        have hsz : xs.length = items.size := by rw [← StrsAre.len_eq hi, Array.length_toList]
        have hval : ∀ (i : Nat) (v : Value), items[i]? = some v → ∃ t, v = .str (xs.getD i Str.empty) t := fun i v hv => SS.strs_at hi i v (by rw [Array.getElem?_toList]; exact hv)
        refine set_loop ((Walks.tuple hh3 _ l hneI items).toS) s.heap.objs.size
          hSf xs hsz (by rw [← hsz]; exact hn1) hval (items.size - 0) 0 _ (by omega) (Nat.zero_le _)
          ⟨⟨_, Heap.get?_push_size _ rfl, rfl, rfl⟩, (hl1.push _)⟩ ?hS0 ?hR
        case hS0 =>
          have hget : ((s.heap.push { cls := .type "set", dict := none, data := .set #[] 0 (.fresh 0 0 led) }).push { cls := .type "tuple_iterator", data := .fields #[.ref l, .int 0 0] }).get? s.heap.objs.size
              = some { cls := .type "set", dict := none, data := .set #[] 0 (.fresh 0 0 led) } := Heap.get?_push_of_some _ hS
          exact PyProof.Rows.SetOf_congr ((PyProof.Rows.setObjOf_fresh (knd := PySem.strKind prog w) led).setOf hget (by unfold scanBound; omega)) (fun _ => rfl) rfl
        case hR =>
          intro s' hm hS'
          obtain ⟨h', g', d', tk', os'⟩ := s'
          have eg : g' = s.gens := hm.gens
          have ed : d' = s.drawn := hm.drawn
          have eo : os' = s.os := hm.os
          subst eg; subst ed; subst eo
          show wpAny _ _ _ _ _ _
          refine wpAny_pure ?_
          show wpAny _ _ (ret Value.none) _ _ _
          refine wpAny_pure ⟨rfl, h', tk', rfl, hS', fun b o hb e => ?_⟩
          have hb1 : b ≠ s.heap.objs.size := Nat.ne_of_lt hb
          have hb2 : b ≠ (s.heap.push { cls := .type "set", dict := none, data := .set #[] 0 (.fresh 0 0 led) }).objs.size := by
            rw [Heap.size_push]; exact Nat.ne_of_lt (Nat.lt_succ_of_lt hb)
          exact hm.heap b o (by simp only [List.mem_cons, List.mem_singleton, List.not_mem_nil, or_false, not_or]; exact ⟨hb1, hb2⟩) (Heap.get?_push_of_some _ (Heap.get?_push_of_some _ e))
      · cases r₂ with
        | error e => exact hr₂
        | ok fl₂ =>
          cases fl₂ with
          | ret r =>
            obtain ⟨rfl, h', tk, rfl, hS', hk'⟩ := hr₂
            repeat (any_goals (first | assumption | wp_step))
            exact h _ _ hS' hk'
          | _ => exact hr₂.elim
    | _ => exact hr.elim
end
/-- len(set(xs)), xs a tuple of texts -/
def tLenOnce (K : PySem.W.Frag) (ta : TE) : TE := fun σ H Q => ta σ H fun x H1 => ∃ (l : Addr) (xs : List Str), x = .ref l ∧ SqT K H1 l (xs.map V.str) ∧ xs.length ≤ 4000 ∧ Q (.int ((once xs).length : Nat)) H1
theorem pe_lenOnce {X : Cx} {a : Expr} {ta : TE} {p p2 q pos : Pos} (hc : X.calm = true) (hg : Gl X "len") (hm : X.mg "len" = none) (hg2 : Gl X "set") (hm2 : X.mg "set" = none) (ha : PE X a ta)
    (na : starEach [a] X.env = (false, eval a X.env) :: starEach [] X.env := by rfl) : PE X (.Call (.Name "len" p) [.Call (.Name "set" p2) [a] [] q] [] pos) (tLenOnce X.K ta) := by
  refine ⟨fun pins s σ H Q I h => ?_⟩
  refine Call_ (ld_blt I hg hm boot_len ?_)
  refine PyProof.Rows.callWith_builtin1 (PyProof.Rows.args_cons ?_ rfl) rfl rfl
  refine Call_ (ld_blt I hg2 hm2 boot_set ?_)
  refine PyProof.Rows.callWith_type1 (PyProof.Rows.args_cons (thn (ha.run pins s σ H _ I h) fun v s1 ⟨x, H1, I1, r1, q1⟩ => PyProof.Rows.args_nil ?_) na) na rfl
  obtain ⟨l, xs, rfl, hq, h1, q1⟩ := q1
  cases r1
  obtain ⟨its, r, pl, hz⟩ := I1.tuple hq
  refine set_of_tuple (I1.ok.hd hc) pl (by simpa using strsAre_of r) (by unfold scanBound; omega) fun h' tk hS hk => ?_
  refine PyProof.Rows.args_nil ?_
  have hle := once_le xs
  obtain ⟨o, es, ep, t, ho, hex, hd, _, _, _, hf, hn⟩ := hS
  have I2 : Inv X pins σ H1 { s1 with heap := h', toks := tk } := I1.kept fun b o e => hk b o (Heap.lt_size e) e
  exact call_len_set ho hex hd hf (by rw [hn] <;> omega) ⟨.int (once xs).length, H1, I2.tok _, ⟨_, by rw [hn]⟩, q1⟩
end Ov

set_option Elab.async false
set_option linter.all false
set_option maxRecDepth 100000
set_option maxHeartbeats 4000000
namespace Ov
open PySem PySem.Spec PyProof.Rows L2 GxR
/-! ### all, by its items -/
theorem all_str {x : Str} {te : TE} {cp : L2.St} {Q : VK} {H2 : Hp} (f : Nat → Bool) (he : ∀ c, ∀ R : VK, R (.bl (f c)) H2 → te (some (.str ⟨#[c]⟩) :: cp) H2 R) (q : Q (.bl (x.cps.toList.all f)) H2) :
    ∃ W : Nat → Nat → Hp → Prop, (∃ m, W 0 m H2) ∧ turnAll (Its x) te W cp Q := by
  refine ⟨fun i m H => H = H2 ∧ m = x.cps.size - i ∧ i ≤ x.cps.size ∧ (x.cps.toList.take i).all f = true, ⟨x.cps.size, rfl, by simp, Nat.zero_le _, rfl⟩, ?_⟩
  rintro i m H ⟨rfl, rfl, hi, ha⟩
  by_cases hlt : i < x.cps.size
  · refine .inr ⟨hlt, fun v H' hy => ?_⟩
    obtain ⟨rfl, c, hc, rfl⟩ := hy
    refine he c _ ⟨f c, rfl, ?_⟩
    have hcl : x.cps.toList[i]? = some c := by rw [Array.getElem?_toList]; exact hc
    cases hf : f c with
    | true =>
      refine iteT ⟨x.cps.size - (i + 1), by omega, rfl, rfl, hlt, ?_⟩
      rw [List.take_succ, hcl, List.all_append, ha]
      simp [hf]
    | false =>
      refine iteF ?_
      have e : x.cps.toList.all f = false := by
        rw [List.all_eq_false]
        exact ⟨c, List.mem_of_getElem? hcl, by simp [hf]⟩
      rw [← e]; exact q
  · have e : i = x.cps.size := by omega
    subst e
    refine .inl ⟨Nat.le_refl _, ?_⟩
    have e2 : x.cps.toList.take x.cps.size = x.cps.toList := by rw [List.take_of_length_le (by simp)]
    rw [e2] at ha
    rw [ha] at q
    exact q
theorem all_tup {K : PySem.W.Frag} {a : Addr} {xs : List V} {te : TE} {cp : L2.St} {Q : VK} {H2 : Hp} (f : V → Bool) (Pv : Hp → Prop) (h0 : Pv H2) (hs : ∀ H, Pv H → SqT K H a xs)
    (he : ∀ x ∈ xs, ∀ H, Pv H → ∀ R : VK, (∀ H', Pv H' → R (.bl (f x)) H') → te (some x :: cp) H R) (q : ∀ H, Pv H → Q (.bl (xs.all f)) H) :
    ∃ W : Nat → Nat → Hp → Prop, (∃ m, W 0 m H2) ∧ turnAll (Itt K a) te W cp Q := by
  refine ⟨fun i m H => Pv H ∧ m = xs.length - i ∧ i ≤ xs.length ∧ (xs.take i).all f = true, ⟨xs.length, h0, by simp, Nat.zero_le _, rfl⟩, ?_⟩
  rintro i m H ⟨hp, rfl, hi, ha⟩
  by_cases hlt : i < xs.length
  · refine .inr ⟨⟨xs, xs[i], hs H hp, List.getElem?_eq_getElem hlt⟩, fun v H' hy => ?_⟩
    obtain ⟨rfl, hy⟩ := hy
    have hv := hy xs (hs _ hp)
    refine he v (List.mem_of_getElem? hv) _ hp _ fun H'' hp'' => ⟨f v, rfl, ?_⟩
    cases hf : f v with
    | true =>
      refine iteT ⟨xs.length - (i + 1), by omega, hp'', rfl, hlt, ?_⟩
      rw [List.take_succ, hv, List.all_append, ha]
      simp [hf]
    | false =>
      refine iteF ?_
      have e : xs.all f = false := by
        rw [List.all_eq_false]
        exact ⟨v, List.mem_of_getElem? hv, by simp [hf]⟩
      rw [← e]; exact q _ hp''
  · have e : i = xs.length := by omega
    subst e
    refine .inl ⟨⟨xs, hs _ hp, Nat.le_refl _⟩, ?_⟩
    rw [List.take_length] at ha
    rw [← ha]
    exact q _ hp
/-! ### a def whose code object is known -/
structure FunC (K : PySem.W.Frag) (x qual : Str) (st : Stmt) (f : Addr) (fd : FuncData) (c : Addr) : Prop where
  ex : ∃ (oc : Value) (od : Option Addr) (kV doc pm : Value) (an : Option Addr) (ct : Value) (osl : Array (Option Value)),
    fd = PySem.W.fnOf x qual (defArgs st) (defBody st) (defScope st) .none kV doc pm an (.ref c) ct ∧ K.lookup f = some ⟨oc, od, .func fd, osl⟩ ∧ PySem.W.codeIn K (.ref c) qual = true
  kp : PySem.W.keepIn K (.ref f) = true
section
variable {P : Program} {w : World} {K : PySem.W.Frag} {mg : Str → Option Value} {base : Heap}
theorem FunC.ok {x qual : Str} {st : Stmt} {f c : Addr} {fd : FuncData} {N ps : List Str} {k : Nat} {sp : Sp} (F : FunC K x qual st f fd c) (S : FnScope N ps (defScope st)) (len : ∀ vs H Q E, sp vs H Q E → vs.length = ps.length)
    (hbody : ∀ (A : Around) (outer : List Env) (s : Shared) (H : Hp) (vs : List V) (Q : VK) (E : XK), Room k (A.deeper (envOfC qual (defScope st) s.heap.objs.size f (.ref c))) → sp vs H Q E →
      ∃ t, PSs (cxOf CX0 P w K mg base N qual (defScope st) f (.ref c) A outer s H E).nox (defBody st) t ∧ t { nx := fun _ H' => Q .non H', rt := Q } (start N vs) H) : FnOk P w K mg base CX0 (k + 1) f fd ps sp := by
  obtain ⟨oc, od, kV, doc, pm, an, ct, osl, rfl, lk, hcd⟩ := F.ex
  refine fn_of lk hcd S len fun A outer s H vs Q E hr hsp => ?_
  obtain ⟨t, h, q⟩ := hbody A outer s H vs Q E hr hsp
  exact ⟨t, h.nox, q⟩
theorem FunC.toFun {x qual : Str} {st : Stmt} {f c : Addr} {fd : FuncData} (F : FunC K x qual st f fd c) : Fun K x qual st f fd := by
  obtain ⟨oc, od, kV, doc, pm, an, ct, osl, e, lk, hcd⟩ := F.ex
  exact ⟨⟨oc, od, kV, doc, pm, an, _, ct, osl, e, lk, hcd⟩, F.kp⟩
theorem funC_mk {x qual : Str} {st : Stmt} {f c : Addr} {oc : Value} {od an : Option Addr} {osl : Array (Option Value)} {kV doc pm ct : Value} (l : K.lookup f = some ⟨oc, od, .func (PySem.W.fnOf x qual (defArgs st) (defBody st) (defScope st) .none kV doc pm an (.ref c) ct), osl⟩)
    (hc : PySem.W.codeIn K (.ref c) qual = true) (k : PySem.W.keepIn K (.ref f) = true) : FunC K x qual st f (PySem.W.fnOf x qual (defArgs st) (defBody st) (defScope st) .none kV doc pm an (.ref c) ct) c := ⟨⟨oc, od, kV, doc, pm, an, ct, osl, rfl, l, hc⟩, k⟩
end
/-! ### heaps that differ in the tables of the defs alone -/
/-- the tables at T may grow; nothing else has changed -/
def Tbs (T : List Addr) (H H' : Hp) : Prop := (∀ P ∈ T, TabG H' P) ∧ ∀ b, b ∉ T → H' b = H b
/-- .. what stood stands -/
def Kep (T : List Addr) (H H' : Hp) : Prop := (∀ P ∈ T, TabG H' P) ∧ ∀ b o, b ∉ T → H b = some o → H' b = some o
theorem Tbs.refl {T : List Addr} {H : Hp} (h : ∀ P ∈ T, TabG H P) : Tbs T H H := ⟨h, fun _ _ => rfl⟩
theorem Tbs.trans {T : List Addr} {H H1 H2 : Hp} (a : Tbs T H H1) (b : Tbs T H1 H2) : Tbs T H H2 := ⟨b.1, fun c hc => (b.2 c hc).trans (a.2 c hc)⟩
theorem Tbs.kep {T : List Addr} {H H' : Hp} (a : Tbs T H H') : Kep T H H' := ⟨a.1, fun b o hb e => (a.2 b hb).trans e⟩
theorem Kep.refl {T : List Addr} {H : Hp} (h : ∀ P ∈ T, TabG H P) : Kep T H H := ⟨h, fun _ _ _ e => e⟩
theorem Kep.trans {T : List Addr} {H H1 H2 : Hp} (a : Kep T H H1) (b : Kep T H1 H2) : Kep T H H2 := ⟨b.1, fun c o hc e => b.2 c o hc (a.2 c o hc e)⟩
theorem Tbs.of1 {T : List Addr} {H H' : Hp} {P : Addr} (h : ∀ p ∈ T, TabG H p) (hP : P ∈ T) (t : Tabbed P H H') : Tbs T H H' := by
  refine ⟨fun p hp => ?_, fun b hb => t.2 b fun z => hb (by rw [z]; exact hP)⟩
  by_cases e : p = P
  · rw [e]; exact t.1
  · obtain ⟨ps, h1, h2⟩ := h p hp
    exact ⟨ps, (t.2 p e).trans h1, h2⟩
/-- a tracked thing of another kind is no table -/
theorem not_tab {T : List Addr} {H : Hp} {b : Addr} {o : HO} (h : ∀ p ∈ T, TabG H p) (e : H b = some o) (n : ∀ ps, o ≠ .tbl ps) : b ∉ T := fun z => by
  obtain ⟨ps, h1, _⟩ := h b z
  rw [e] at h1
  exact n ps (Option.some.inj h1)
theorem free_tab {T : List Addr} {H : Hp} {b : Addr} (h : ∀ p ∈ T, TabG H p) (e : H b = none) : b ∉ T := fun z => by
  obtain ⟨ps, h1, _⟩ := h b z
  rw [e] at h1
  cases h1
theorem Kep.at {T : List Addr} {H H' : Hp} {b : Addr} {o : HO} (a : Kep T H H') (h : ∀ p ∈ T, TabG H p) (e : H b = some o) (n : ∀ ps, o ≠ .tbl ps) : H' b = some o := a.2 b o (not_tab h e n) e
/-- a new thing -/
theorem Kep.new {T : List Addr} {H : Hp} {p : Addr} {o : HO} (h : ∀ q ∈ T, TabG H q) (e : H p = none) : Kep T H (upd H p o) := by
  refine ⟨fun q hq => ?_, fun b u _ hb => ?_⟩
  · obtain ⟨ps, h1, h2⟩ := h q hq
    exact ⟨ps, (upd_ne (ne_of_none h1 e)).trans h1, h2⟩
  · exact (upd_ne (ne_of_none hb e)).trans hb
/-- a list that was not there at H may be written -/
theorem Kep.put {T : List Addr} {H H1 : Hp} {p : Addr} {o : HO} (a : Kep T H H1) (e : H p = none) (n : p ∉ T) : Kep T H (upd H1 p o) := by
  refine ⟨fun q hq => ?_, fun b u hb hu => ?_⟩
  · obtain ⟨ps, h1, h2⟩ := a.1 q hq
    exact ⟨ps, (upd_ne (fun z => n (by rw [← z]; exact hq))).trans h1, h2⟩
  · exact (upd_ne (ne_of_none hu e)).trans (a.2 b u hb hu)
theorem Kep.seqL {T : List Addr} {K : PySem.W.Frag} {H H' : Hp} {a : Addr} {xs : List V} (k : Kep T H H') (h : ∀ p ∈ T, TabG H p) (e : SqL K H a xs) : SqL K H' a xs := by
  rcases e with (e | ⟨o, e⟩) | e
  · exact .inl (.inl (k.at h e fun _ z => by cases z))
  · exact .inl (.inr ⟨o, k.at h e fun _ z => by cases z⟩)
  · exact .inr e
theorem Kep.seqT {T : List Addr} {K : PySem.W.Frag} {H H' : Hp} {a : Addr} {xs : List V} (k : Kep T H H') (h : ∀ p ∈ T, TabG H p) (e : SqT K H a xs) : SqT K H' a xs := by
  rcases e with (e | ⟨o, e⟩) | e
  · exact .inl (.inl (k.at h e fun _ z => by cases z))
  · exact .inl (.inr ⟨o, k.at h e fun _ z => by cases z⟩)
  · exact .inr e
theorem Kep.free {T : List Addr} {H H' : Hp} {b : Addr} (k : Kep T H H') (h : ∀ p ∈ T, TabG H p) (e : H' b = none) : H b = none := by
  cases q : H b with
  | none => rfl
  | some o =>
    by_cases hb : b ∈ T
    · obtain ⟨ps, h1, _⟩ := k.1 b hb
      rw [h1] at e; cases e
    · rw [k.2 b o hb q] at e; cases e
end Ov
namespace Ov
open PySem PySem.Spec PyProof.Rows L2 GxR
theorem one_lt (a b : Nat) : ([a] < [b]) ↔ a < b := by
  rw [List.cons_lt_cons_iff]
  constructor
  · rintro (h | ⟨_, h⟩)
    · exact h
    · exact absurd h (by simp)
  · exact .inl
/-! ### a generator's names, by a check -/
def genC (N : List Str) (sc scope : Scope) (x : Str) (cs : List Str) (pick : List Nat) : Bool :=
  (scope.kind == .function) && (scope.isCoroutine == false) && (scope.names.all fun y => y.2 != .cell) && (scope.names.lookup (".0" : Str) == some NameKind.local) && (scope.names.lookup x == some NameKind.local) &&
  (scope.names.all fun y => y.2 != .free || (sc.names.lookup y.1 == some NameKind.cell)) && (scope.names.all fun y => scope.names.lookup y.1 == some y.2) && decide ((x :: cs).Nodup) && (cs.length == pick.length) &&
  ((cs.zip pick).all fun p => (scope.names.lookup p.1 == some NameKind.free) && (sc.names.lookup p.1 == some NameKind.cell) && (N[p.2]? == some p.1))
theorem genN_by {X : Cx} {N : List Str} {sc scope : Scope} {x : Str} {cs : List Str} {pick : List Nat} (hN : X.N = N) (hs : X.env.scope = sc) (hc : ∀ y, sc.names.lookup y = some .cell → ∃ c, X.env.cells.lookup y = some c) (h : genC N sc scope x cs pick = true) : GenN X scope x cs pick := by
  unfold genC at h
  simp only [Bool.and_eq_true, beq_iff_eq, decide_eq_true_eq] at h
  obtain ⟨⟨⟨⟨⟨⟨⟨⟨⟨h1, h2⟩, h3⟩, h4⟩, h5⟩, h6⟩, h7⟩, h8⟩, h9⟩, h10⟩ := h
  refine ⟨⟨h1, h2, fun y hy e => ?_, h4, h5, fun y hy e => ?_⟩, fun y hy => ?_, h8, h9, fun i y hi => ?_⟩
  · have := List.all_eq_true.mp h3 y hy
    rw [e] at this
    exact absurd this (by decide)
  · have := List.all_eq_true.mp h6 y hy
    rw [e] at this
    simp only [bne_self_eq_false, Bool.false_or, beq_iff_eq] at this
    exact hc y.1 this
  · exact beq_iff_eq.mp (List.all_eq_true.mp h7 y hy)
  · obtain ⟨j, hj⟩ : ∃ j, pick[i]? = some j := by
      have : i < pick.length := by rw [← h9]; exact (List.getElem?_eq_some_iff.mp hi).1
      exact ⟨_, List.getElem?_eq_getElem this⟩
    have hz : (cs.zip pick)[i]? = some (y, j) := by
      rw [List.getElem?_zip_eq_some]
      exact ⟨hi, hj⟩
    have := List.all_eq_true.mp h10 (y, j) (List.mem_of_getElem? hz)
    simp only [Bool.and_eq_true, beq_iff_eq] at this
    obtain ⟨⟨q1, q2⟩, q3⟩ := this
    exact ⟨q1, .inl (by rw [hs]; exact q2), j, hj, by rw [hN]; exact q3⟩
end Ov

set_option Elab.async false
set_option linter.all false
set_option maxRecDepth 100000
set_option maxHeartbeats 4000000
/-! lists of texts as data -/
namespace Ov
open PySem PySem.Spec PyProof.Rows L2 GxR
def lowB (z : Str) : Bool := z.cps.toList.all fun c => decide (97 ≤ c) && decide (c ≤ 122)
/-- a list of strings as data -/
def dStrs (ws : List Str) : PyData := .list (ws.map PyData.str)
theorem lay_strs : ∀ (ws : List Str), (∀ z ∈ ws, PyData.strOk z = true) → PyData.canLayAll0 (ws.map PyData.str) = true
  | [], _ => by rw [List.map_nil]; rfl
  | z :: r, h => by
    rw [List.map_cons]
    show (PyData.strOk z && PyData.canLayAll0 (r.map PyData.str)) = true
    rw [h z List.mem_cons_self, lay_strs r fun y hy => h y (List.mem_cons_of_mem _ hy)]; rfl
theorem depth_strs : ∀ (ws : List Str), PyData.depthAll (ws.map PyData.str) ≤ 1
  | [] => by rw [List.map_nil]; decide
  | z :: r => by
    rw [List.map_cons]
    have h := depth_strs r
    show max (PyData.depth (.str z)) (PyData.depthAll (r.map PyData.str)) ≤ 1
    have : PyData.depth (.str z) ≤ 1 := by simp [PyData.depth]
    omega
theorem shaped_strs {ws : List Str} (h : ∀ z ∈ ws, PyData.strOk z = true) : SeqAt.shaped (dStrs ws) = true := by
  unfold SeqAt.shaped
  have e : PyData.canLay0 (dStrs ws) = true := lay_strs ws h
  rw [e, Bool.true_and]
  refine decide_eq_true ?_
  have := depth_strs ws
  show PyData.depthAll (ws.map PyData.str) + 1 ≤ 64
  omega
theorem dp_strs {K : PySem.W.Frag} {H : Hp} : ∀ (ws : List Str), DpAll K H (ws.map V.str) (ws.map PyData.str)
  | [] => .nil
  | z :: r => .cons (.str z) (dp_strs r)
theorem low_ok {z : Str} (h : lowB z = true) : PyData.strOk z = true := by
  unfold lowB at h
  unfold PyData.strOk
  rw [Array.all_eq_true]
  intro i hi
  have h2 := List.all_eq_true.mp h z.cps[i] (by simp)
  simp only [Bool.and_eq_true, decide_eq_true_eq] at h2 ⊢
  omega
theorem eqv_nil (ws : List Str) : PyData.eqv (dStrs ws) (.list []) = ws.isEmpty := by
  cases ws with
  | nil => rfl
  | cons z r => rfl
theorem show_strs : ∀ ws : List Str, PyData.showableAll (ws.map PyData.str) = true
  | [] => rfl
  | z :: r => by
    rw [List.map_cons]
    show (true && PyData.showableAll (r.map PyData.str)) = true
    rw [show_strs r]; rfl
theorem nodict_strs : ∀ ws : List Str, PyData.hasDictAll (ws.map PyData.str) = false
  | [] => rfl
  | z :: r => by
    rw [List.map_cons]
    show (false || PyData.hasDictAll (r.map PyData.str)) = false
    rw [nodict_strs r]; rfl
theorem weight_strs : ∀ ws : List Str, (∀ z ∈ ws, z.length ≤ 100) → PyData.weightAll (ws.map PyData.str) ≤ 101 * ws.length
  | [], _ => by rw [List.map_nil]; exact Nat.le_refl _
  | z :: r, h => by
    rw [List.map_cons]
    have h1 := weight_strs r fun y hy => h y (List.mem_cons_of_mem _ hy)
    have h2 : z.cps.size ≤ 100 := h z List.mem_cons_self
    show z.cps.size + 1 + PyData.weightAll (r.map PyData.str) ≤ 101 * (r.length + 1)
    omega
theorem low_lt {z : Str} (h : lowB z = true) : (z.cps.toList.all fun c => decide (c < 16 ^ 8)) = true := by
  unfold lowB at h
  refine List.all_eq_true.mpr fun c hc => decide_eq_true ?_
  have := List.all_eq_true.mp h c hc
  simp only [Bool.and_eq_true, decide_eq_true_eq] at this
  exact Nat.lt_of_le_of_lt this.2 (by decide)
theorem short_strs : ∀ ws : List Str, (∀ z ∈ ws, lowB z = true) → PyData.leavesShortAll 8 (ws.map PyData.str) = true
  | [], _ => rfl
  | z :: r, h => by
    rw [List.map_cons]
    show ((z.cps.toList.all fun c => decide (c < 16 ^ 8)) && PyData.leavesShortAll 8 (r.map PyData.str)) = true
    rw [low_lt (h z List.mem_cons_self), short_strs r fun y hy => h y (List.mem_cons_of_mem _ hy)]; rfl
theorem eqv_strs : ∀ ws : List Str, PyData.eqv (dStrs ws) (dStrs ws) = true
  | [] => rfl
  | z :: r => by
    have h := eqv_strs r
    show ((z == z) && PyData.eqv (dStrs r) (dStrs r)) = true
    rw [h]; simp
end Ov

set_option Elab.async false
set_option linter.all false
set_option maxRecDepth 100000
set_option maxHeartbeats 4000000
/-! == and != of instances of own classes without == of their own, of two classes -/
namespace Ov
open PySem PySem.Spec PyProof.Rows L2
section
variable {prog : Program} {w : World} {A : Around} {E : Value → Shared → Prop} {s : Shared} {K : PySem.W.Frag} {x y C D : Addr} {ox oy : Obj} {od od' : Option Obj}
/-- no == and no != of their own -/
structure NoEq2 (K : PySem.W.Frag) (C : Addr) : Prop where
  eq : PySem.W.findIn K (.ref C) "__eq__" = some (some (.builtin "object.__eq__"))
  ne : PySem.W.findIn K (.ref C) "__ne__" = some (some (.builtin "object.__ne__"))
  sub : PySem.W.subIn K (.ref C) (.type "object") = some true
theorem chk2 {id n : String} (hk : builtinKind id = some .slot) (hsp : splitId id = some ("object", n)) (ha : argsOk id ⟨[.ref x, .ref y], []⟩) {Q : Unit → Shared → Prop} (X : K.In s.heap) (I : PySem.W.InstAt s.heap x ox C od) (hsub : PySem.W.subIn K (.ref C) (.type "object") = some true) (fin : Q () s) :
    wpAny (model prog w) A (checkBuiltinCall id ⟨[.ref x, .ref y], []⟩) Q E s := by
  simp only [checkBuiltinCall, hk, hsp]
  refine wpAny_bind ?_
  unfold isInstance
  refine wpAny_bind (I.type.here ?_)
  refine (PySem.W.looks_subIn X hsub).here ?_
  cases hsig : Manifest.signature? id with
  | none => exact wpAny_pure fin
  | some sig =>
    simp only [argsOk, hsig] at ha
    have h2 : Bind.checkArgs id sig ⟨[.ref x, .ref y], []⟩ = pure () := ha
    show wpAny _ A (Bind.checkArgs id sig ⟨[.ref x, .ref y], []⟩) _ _ _
    rw [h2]; exact wpAny_pure fin
theorem call_objEq2 {Q : Value → Shared → Prop} (X : K.In s.heap) (I : PySem.W.InstAt s.heap x ox C od) (J : PySem.W.InstAt s.heap y oy D od') (n : NoEq2 K C)
    (h : Q (if x = y then .bool true else .notImplemented) s) : wpAny (model prog w) A (call (.builtin "object.__eq__") [.ref x, .ref y]) Q E s := by
  refine wpAny_call (codeAny_call_builtin F.cmp_object.eq.plain F.cmpEntry_eq (chk2 F.cmpKind_eq F.cmpSplit_eq (F.cmpArgs_eq _ _) X I n.sub ?_))
  by_cases hxy : x = y
  · subst hxy
    exact objEq_entry_same (by rw [if_pos rfl] at h; exact h)
  · refine objEq_entry_other hxy I.at_ J.at_ ?_ (by rw [if_neg hxy] at h; exact h)
    rw [I.cls]
    intro z; cases z
theorem special2 {f : String} {name : Str} (hs : PySem.W.findIn K (.ref C) name = some (some (.builtin f))) (hbind : ∀ self : Value, bindSpecial (.builtin f) self = pure (.builtin f, [self])) {Q : Option Value → Shared → Prop} (X : K.In s.heap) (I : PySem.W.InstAt s.heap x ox C od)
    (h : wpAny (model prog w) A (call (.builtin f) [.ref x, .ref y]) (fun v s' => Q (some v) s') E s) : wpAny (model prog w) A (callSpecialIfBound? (.ref x) name [.ref y]) Q E s := by
  simp only [callSpecialIfBound?, bindSpecialIfBound?]
  refine wpAny_holding (wpAny_bind (wpAny_bind (wpAny_bind (I.type.here ((PySem.W.looks_findIn X hs).here ?_)))))
  have fin : wpAny (model prog w) A (call (.builtin f) ([.ref x] ++ [.ref y]) >>= fun v => pure (some v)) Q E s := wpAny_bind (wpAny_mono h (fun v s' hq => wpAny_pure hq) fun _ _ e => e)
  simp only [hbind]
  refine wpAny_bind (wpAny_askSetting (wpAny_ite ?_))
  split
  · exact wpAny_bind (wpAny_pure (wpAny_pure fin))
  · exact wpAny_tryCatch (wpAny_bind (wpAny_pure (wpAny_pure fin)))
theorem try_eq2 {Q : Option Value → Shared → Prop} (X : K.In s.heap) (I : PySem.W.InstAt s.heap x ox C od) (J : PySem.W.InstAt s.heap y oy D od') (n : NoEq2 K C)
    (h : Q (if x = y then some (.bool true) else none) s) : wpAny (model prog w) A (tryCompare (.ref x) "__eq__" (.ref y)) Q E s := by
  unfold tryCompare
  refine wpAny_bind (special2 n.eq F.cmp_object.eq.bind X I (call_objEq2 X I J n ?_))
  by_cases hxy : x = y
  · rw [if_pos hxy] at h ⊢
    exact wpAny_pure h
  · rw [if_neg hxy] at h ⊢
    exact wpAny_pure h
theorem special_t {Q : Option Value → Shared → Prop} (hxy : x = y) (X : K.In s.heap) (I : PySem.W.InstAt s.heap x ox C od) (J : PySem.W.InstAt s.heap y oy D od') (n : NoEq2 K C) (h : Q (some (.bool true)) s) : wpAny (model prog w) A (callSpecialIfBound? (.ref x) "__eq__" [.ref y]) Q E s :=
  special2 n.eq F.cmp_object.eq.bind X I (call_objEq2 X I J n (by rw [if_pos hxy]; exact h))
theorem special_f {Q : Option Value → Shared → Prop} (hxy : x ≠ y) (X : K.In s.heap) (I : PySem.W.InstAt s.heap x ox C od) (J : PySem.W.InstAt s.heap y oy D od') (n : NoEq2 K C) (h : Q (some .notImplemented) s) : wpAny (model prog w) A (callSpecialIfBound? (.ref x) "__eq__" [.ref y]) Q E s :=
  special2 n.eq F.cmp_object.eq.bind X I (call_objEq2 X I J n (by rw [if_neg hxy]; exact h))
theorem objNe_entry2 {Q : Fin → Shared → Prop} (hu : A.units < cLine) (X : K.In s.heap) (I : PySem.W.InstAt s.heap x ox C od) (J : PySem.W.InstAt s.heap y oy D od') (n : NoEq2 K C)
    (h : Q (.done (.ret (if x = y then .bool false else .notImplemented))) s) : wpAny (model prog w) A (Builtin.«object.__ne__» ⟨[.ref x, .ref y], []⟩) Q E s := by
  unfold Builtin.«object.__ne__»
  by_cases hxy : x = y
  · rw [if_pos hxy] at h
    repeat (first | with_reducible refine wpAny_cRoomFor hu ?_ | with_reducible refine special_t hxy X I J n ?_ | wp_step)
    exact h
  · rw [if_neg hxy] at h
    repeat (first | with_reducible refine wpAny_cRoomFor hu ?_ | with_reducible refine special_f hxy X I J n ?_ | wp_step)
    exact h
theorem try_ne2 {Q : Option Value → Shared → Prop} (hu : A.units + 1 < cLine) (X : K.In s.heap) (I : PySem.W.InstAt s.heap x ox C od) (J : PySem.W.InstAt s.heap y oy D od') (n : NoEq2 K C)
    (h : Q (if x = y then some (.bool false) else none) s) : wpAny (model prog w) A (tryCompare (.ref x) "__ne__" (.ref y)) Q E s := by
  unfold tryCompare
  refine wpAny_bind (special2 n.ne F.cmp_object.ne.bind X I (wpAny_call (codeAny_call_builtin F.cmp_object.ne.plain F.cmpEntry_ne (chk2 F.cmpKind_ne F.cmpSplit_ne (F.cmpArgs_ne _ _) X I n.sub (objNe_entry2 (A := A.in1) hu X I J n ?_)))))
  by_cases hxy : x = y
  · rw [if_pos hxy] at h ⊢
    exact wpAny_pure h
  · rw [if_neg hxy] at h ⊢
    exact wpAny_pure h
theorem eq_id2 {Q : Value → Shared → Prop} {b : Bool} (hu : A.units < cLine) (X : K.In s.heap) (I : PySem.W.InstAt s.heap x ox C od) (J : PySem.W.InstAt s.heap y oy D od') (n : NoEq2 K C) (m : NoEq2 K D) (hsub : C ≠ D → PySem.W.subIn K (.ref D) (.ref C) = some b)
    (h : Q (.bool (decide (x = y))) s) : wpAny (model prog w) A (compareOp .Eq (.ref x) (.ref y)) Q E s := by
  show wpAny _ _ (richCompare .Eq (.ref x) (.ref y)) _ _ _
  unfold richCompare
  simp only [oneThing_ref, cmpInfo_Eq]
  refine wpAny_holding (wpAny_bind (wpAny_cRoomFor hu ?_))
  refine wpAny_bind (I.type.here (wpAny_bind (J.type.here ?_)))
  by_cases hCD : C = D
  · subst hCD
    rw [if_neg (by simp)]
    refine wpAny_bind (wpAny_pure ?_)
    simp only [Bool.false_eq_true, if_false]
    refine wpAny_bind (try_eq2 X I J n ?_)
    by_cases hxy : x = y
    · rw [if_pos hxy]
      subst hxy
      exact wpAny_pure (by simpa using h)
    · rw [if_neg hxy]
      have hyx : ¬ y = x := fun z => hxy z.symm
      simp only [Bool.not_false, if_true]
      refine wpAny_bind (try_eq2 X J I n ?_)
      rw [if_neg hyx]
      refine wpAny_bind (wpAny_rule ?_)
      refine wpAny_bind (wpAny_isSame_ref_other hxy I.at_ J.at_ (by rw [I.cls]; intro z; cases z) ?_)
      exact wpAny_pure (by simpa [hxy] using h)
  · have hxy : ¬ x = y := fun z => by
      subst z
      have e1 := I.at_.symm.trans J.at_
      cases e1
      have e2 := I.cls.symm.trans J.cls
      cases e2
      exact hCD rfl
    have hyx : ¬ y = x := fun z => hxy z.symm
    rw [if_pos (by simp [hCD])]
    refine wpAny_bind ((PySem.W.looks_subIn X (hsub hCD)).here ?_)
    cases b with
    | true =>
      simp only [if_true]
      refine wpAny_bind (try_eq2 X J I m ?_)
      rw [if_neg hyx]
      refine wpAny_bind (try_eq2 X I J n ?_)
      rw [if_neg hxy]
      simp only [Bool.not_true, Bool.false_eq_true, if_false]
      refine wpAny_bind (wpAny_rule ?_)
      refine wpAny_bind (wpAny_isSame_ref_other hxy I.at_ J.at_ (by rw [I.cls]; intro z; cases z) ?_)
      exact wpAny_pure (by simpa [hxy] using h)
    | false =>
      simp only [Bool.false_eq_true, if_false]
      refine wpAny_bind (try_eq2 X I J n ?_)
      rw [if_neg hxy]
      simp only [Bool.not_false, if_true]
      refine wpAny_bind (try_eq2 X J I m ?_)
      rw [if_neg hyx]
      refine wpAny_bind (wpAny_rule ?_)
      refine wpAny_bind (wpAny_isSame_ref_other hxy I.at_ J.at_ (by rw [I.cls]; intro z; cases z) ?_)
      exact wpAny_pure (by simpa [hxy] using h)
theorem ne_id2 {Q : Value → Shared → Prop} {b : Bool} (hu : A.units + 1 < cLine) (X : K.In s.heap) (I : PySem.W.InstAt s.heap x ox C od) (J : PySem.W.InstAt s.heap y oy D od') (n : NoEq2 K C) (m : NoEq2 K D) (hsub : C ≠ D → PySem.W.subIn K (.ref D) (.ref C) = some b)
    (h : Q (.bool (!decide (x = y))) s) : wpAny (model prog w) A (compareOp .NotEq (.ref x) (.ref y)) Q E s := by
  show wpAny _ _ (richCompare .NotEq (.ref x) (.ref y)) _ _ _
  unfold richCompare
  simp only [oneThing_ref, cmpInfo_NotEq]
  refine wpAny_holding (wpAny_bind (wpAny_cRoomFor (Nat.lt_of_succ_lt hu) ?_))
  refine wpAny_bind (I.type.here (wpAny_bind (J.type.here ?_)))
  by_cases hCD : C = D
  · subst hCD
    rw [if_neg (by simp)]
    refine wpAny_bind (wpAny_pure ?_)
    simp only [Bool.false_eq_true, if_false]
    refine wpAny_bind (try_ne2 hu X I J n ?_)
    by_cases hxy : x = y
    · rw [if_pos hxy]
      subst hxy
      exact wpAny_pure (by simpa using h)
    · rw [if_neg hxy]
      have hyx : ¬ y = x := fun z => hxy z.symm
      simp only [Bool.not_false, if_true]
      refine wpAny_bind (try_ne2 hu X J I n ?_)
      rw [if_neg hyx]
      refine wpAny_bind (wpAny_rule ?_)
      refine wpAny_bind (wpAny_isSame_ref_other hxy I.at_ J.at_ (by rw [I.cls]; intro z; cases z) ?_)
      exact wpAny_pure (by simpa [hxy] using h)
  · have hxy : ¬ x = y := fun z => by
      subst z
      have e1 := I.at_.symm.trans J.at_
      cases e1
      have e2 := I.cls.symm.trans J.cls
      cases e2
      exact hCD rfl
    have hyx : ¬ y = x := fun z => hxy z.symm
    rw [if_pos (by simp [hCD])]
    refine wpAny_bind ((PySem.W.looks_subIn X (hsub hCD)).here ?_)
    cases b with
    | true =>
      simp only [if_true]
      refine wpAny_bind (try_ne2 hu X J I m ?_)
      rw [if_neg hyx]
      refine wpAny_bind (try_ne2 hu X I J n ?_)
      rw [if_neg hxy]
      simp only [Bool.not_true, Bool.false_eq_true, if_false]
      refine wpAny_bind (wpAny_rule ?_)
      refine wpAny_bind (wpAny_isSame_ref_other hxy I.at_ J.at_ (by rw [I.cls]; intro z; cases z) ?_)
      exact wpAny_pure (by simpa [hxy] using h)
    | false =>
      simp only [Bool.false_eq_true, if_false]
      refine wpAny_bind (try_ne2 hu X I J n ?_)
      rw [if_neg hxy]
      simp only [Bool.not_false, if_true]
      refine wpAny_bind (try_ne2 hu X J I m ?_)
      rw [if_neg hyx]
      refine wpAny_bind (wpAny_rule ?_)
      refine wpAny_bind (wpAny_isSame_ref_other hxy I.at_ J.at_ (by rw [I.cls]; intro z; cases z) ?_)
      exact wpAny_pure (by simpa [hxy] using h)

end
/-! ### over the layer -/
section
variable {X : Cx}
/-- == of instances of two such classes -/
def rEqId (C D : Addr) (f : Bool → Bool) : R2 := fun x y H Q => ∃ a b dx dy fs gs, x = .ref a ∧ y = .ref b ∧ H a = some (.ins C dx fs) ∧ H b = some (.ins D dy gs) ∧ Q (.bl (f (decide (a = b)))) H
structure Pair2 (K : PySem.W.Frag) (C D : Addr) : Prop where
  l : NoEq2 K C
  r : NoEq2 K D
  sub : C ≠ D → ∃ b, PySem.W.subIn K (.ref D) (.ref C) = some b
/-- .. of classes that a test tells -/
def rEqS (K : PySem.W.Frag) (f : Bool → Bool) : R2 := fun x y H Q => ∃ C D, Pair2 K C D ∧ rEqId C D f x y H Q
theorem op_eqS (hu : X.A.units < cLine) : OpR X (compareOp .Eq) (rEqS X.K id) := by
  intro pins s σ H x y v u Q I rx ry h
  obtain ⟨C, D, p, a, b, dx, dy, fs, gs, rfl, rfl, ha, hb, q⟩ := h
  obtain rfl : v = Value.ref a := rx
  obtain rfl : u = Value.ref b := ry
  obtain ⟨mA, O, _⟩ := ins_get I.hok ha
  obtain ⟨od, J, _⟩ := O.look
  obtain ⟨mB, O', _⟩ := ins_get I.hok hb
  obtain ⟨od', J', _⟩ := O'.look
  by_cases hCD : C = D
  · exact eq_id2 (b := true) hu I.kIn J J' p.l p.r (fun z => absurd hCD z) ⟨.bl _, H, I, rfl, q⟩
  · obtain ⟨b, hb⟩ := p.sub hCD
    exact eq_id2 hu I.kIn J J' p.l p.r (fun _ => hb) ⟨.bl _, H, I, rfl, q⟩
theorem op_neS (hu : X.A.units + 1 < cLine) : OpR X (compareOp .NotEq) (rEqS X.K (!·)) := by
  intro pins s σ H x y v u Q I rx ry h
  obtain ⟨C, D, p, a, b, dx, dy, fs, gs, rfl, rfl, ha, hb, q⟩ := h
  obtain rfl : v = Value.ref a := rx
  obtain rfl : u = Value.ref b := ry
  obtain ⟨mA, O, _⟩ := ins_get I.hok ha
  obtain ⟨od, J, _⟩ := O.look
  obtain ⟨mB, O', _⟩ := ins_get I.hok hb
  obtain ⟨od', J', _⟩ := O'.look
  by_cases hCD : C = D
  · exact ne_id2 (b := true) hu I.kIn J J' p.l p.r (fun z => absurd hCD z) ⟨.bl _, H, I, rfl, q⟩
  · obtain ⟨b, hb⟩ := p.sub hCD
    exact ne_id2 hu I.kIn J J' p.l p.r (fun _ => hb) ⟨.bl _, H, I, rfl, q⟩
end
end Ov

set_option Elab.async false
set_option linter.all false
set_option maxRecDepth 100000
set_option maxHeartbeats 4000000
/-! calls with keywords alone: C(k = v), C.m(k = v) with a classmethod m -/
namespace Ov
open PySem PySem.Spec PyProof.Rows L2 GxR ClX
section
variable {X : Cx} {CX : CXT} {k n : Nat} {f C : Addr} {fd : FuncData} {ps ks : List Str} {sp : Sp} {E : XK} {x : Str} {p pos : Pos} {e : Expr} {es : List Expr} {kws : List Keyword} {t tk : TA} {g : List Value → List Value → List Value} {gV : List V → List V → List V}
def tMake0K (C : Addr) (m : Nat) (sp : Sp) (gV : List V → List V → List V) (E : XK) (tk : TA) : TE := fun σ H Q => tk σ H fun zs H2 => zs.length = m ∧
  ∀ x dx, H2 x = none → H2 dx = none → dx ≠ x → sp (gV [V.ref x] zs) (upd (upd H2 dx (.own x)) x (.ins C dx [])) (fun v H3 => v = .non ∧ Q (.ref x) H3) E
theorem pe_make0K (M : Mk X.K C f) (F : FnOk X.prog X.w X.K X.mg X.base CX k f fd ps sp) (hr : Room (k + 1) X.A) (hg : Gl X x) (hm : X.mg x = some (.ref C)) (hb : KBn X.K fd ps 1 ks g gV) (hx : Passes CX X E)
    (hkw : PK X kws tk) (hall : (backToKw pos (keywordEach kws X.env)).all (·.1.isSome) = true := by rfl) (hks : (backToKw pos (keywordEach kws X.env)).filterMap (·.1) = ks := by rfl)
    (hdb : (x == ("__debug__" : Str)) = false := by decide)
    (hpl : ((backTo pos (starEach [] X.env)).any (·.1) || (backToKw pos (keywordEach kws X.env)).any (·.1.isNone)) = false := by rfl) :
    PE X (.Call (.Name x p) [] kws pos) (tMake0K C ks.length sp gV E tk) := by
  refine ⟨fun pins s σ H Q I h => ?_⟩
  refine wpAny_Call_Name_kw (ld_glob I hg hm ?_ hdb)
  refine PySem.W.callWith_KW0 (h₀ := X.base) I.ok.mod.kin M.kp hall ?_ hpl
  refine thn (hkw.run pos pins s σ H _ I h) fun ws s2 ⟨zs, H2, I2, rz, l2, q2⟩ => ⟨I2.kIn, ?_⟩
  rw [hks]
  exact run_makeN M F hr hb hx I2 .nil rz rfl l2 q2
def tCMethK (C : Addr) (m : Nat) (sp : Sp) (gV : List V → List V → List V) (E : XK) (ta : TE) (tk : TA) : TE := fun σ H Q => ta σ H fun x H1 => x = .ref C ∧ tk σ H1 fun zs H2 => zs.length = m ∧ sp (gV [V.ref C] zs) H2 Q E
theorem run_cmK {pins : List (Addr × Obj)} {σ : L2.St} {H : Hp} {s : Shared} {q c : Addr} {Q : VK} {ws : List Value} {zs : List V} (F : FnOk X.prog X.w X.K X.mg X.base CX k c fd ps sp) (hr : Room k X.A) (hb : KBn X.K fd ps 1 ks g gV) (hx : Passes CX X E) (I : Inv X ((q, PySem.W.methodObj (.ref c) (.ref C)) :: pins) σ H s)
    (r : Vals zs ws) (l2 : zs.length = ks.length) (h : sp (gV [V.ref C] zs) H Q E) : wpAny (model X.prog X.w) X.A (call (.ref q) [] (ks.zip ws)) (EP X pins σ Q) X.xe s := by
  have z : wpAny (model X.prog X.w) X.A (call (.ref q) [] (ks.zip ws)) (EP X ((q, PySem.W.methodObj (.ref c) (.ref C)) :: pins) σ Q) X.xe s := by
    refine wpAny_call (PySem.W.method_call (pin_at I) (codeAny_mono (F.run X.A X.stack s H ⟨.ref C :: [], ks.zip ws⟩ (g [.ref C] ws) (gV [V.ref C] zs) Q E hr I.env0 (hb.to s [.ref C] ws I.kIn rfl (r.length.symm.trans l2)) (hb.rel (.cons rfl .nil) r) h) fun r s' hq => ?_))
    cases r with
    | error e => exact hx _ σ H s e s' I hq
    | ok fl =>
      cases fl with
      | ret u => exact I.after hq
      | next => exact False.elim hq
      | brk => exact False.elim hq
      | cont => exact False.elim hq
  exact thn z fun _ _ y => unpinE y
theorem pe_cmethK {mc : Value} {m : Str} {q c : Addr} {o : Expr} {apos : Pos} {ta : TE} {pl : Sem Bool} (he : PE X o ta) (r : CRead X.K C mc) (cm : CMet X.K C mc m q c) (F : FnOk X.prog X.w X.K X.mg X.base CX k c fd ps sp) (hr : Room k X.A) (hb : KBn X.K fd ps 1 ks g gV) (hx : Passes CX X E)
    (hkw : PK X kws tk) (hall : (backToKw pos (keywordEach kws X.env)).all (·.1.isSome) = true := by rfl) (hks : (backToKw pos (keywordEach kws X.env)).filterMap (·.1) = ks := by rfl)
    (hpl : ((backTo pos (starEach [] X.env)).any (·.1) || (backToKw pos (keywordEach kws X.env)).any (·.1.isNone)) = false := by rfl)
    (ht : eval (.Call (.Attribute o m apos) [] kws pos) X.env = (do
      let ov ← eval o X.env
      standAt apos.atName
      let (f, first) ← holding [ov] (getMethod ov m pl)
      callWith pos f first (backTo pos (starEach [] X.env)) (backToKw pos (keywordEach kws X.env))) := by rfl) :
    PE X (.Call (.Attribute o m apos) [] kws pos) (tCMethK C ks.length sp gV E ta tk) := by
  refine ⟨fun pins s σ H Q I h => ?_⟩
  refine PySem.W.methodCall_KW (pl := pl) (thn (he.run pins s σ H _ I h) fun u s1 ⟨x, H1, I1, rx, ex, q⟩ => ?_) ht
  subst ex
  obtain rfl : u = Value.ref C := rx
  refine getmethcm_ok I1 r cm fun s2 I2 => ?_
  refine PySem.W.callWith_of hpl (P := PySem.W.MethP X.K s1.heap.objs.size c (.ref C)) (PySem.W.keeps_M cm.fi) ?_
  refine evalArgs_kw2_nil hall ?_
  refine thn (hkw.run pos _ s2 σ H1 _ I2 q) fun ws s3 ⟨zs, H2, I3, rz, l2, q2⟩ => ⟨⟨pin_at I3, I3.kIn⟩, ?_⟩
  rw [hks]
  exact run_cmK F hr hb hx I3 rz l2 q2
end
/-! ### .. in the body of a try: what is wished of an error may speak of the slots -/
section
variable {X : Cx} {CX : CXT} {k n : Nat} {f C : Addr} {fd : FuncData} {ps ks : List Str} {sp : Sp} {E : L2.St → XK} {x : Str} {p pos : Pos} {e : Expr} {es : List Expr} {kws : List Keyword} {t tk : TA} {g : List Value → List Value → List Value} {gV : List V → List V → List V}
def tCMethS (C : Addr) (sp : Sp) (E : L2.St → XK) (ta : TE) (t : TA) : TE := fun σ H Q => ta σ H fun x H1 => x = .ref C ∧ t σ H1 fun vs H2 => sp (.ref C :: vs) H2 Q (E σ)
theorem pe_cmethS {mc : Value} {m : Str} {q c : Addr} {o : Expr} {apos : Pos} {ta : TE} {pl : Sem Bool} (he : PE X o ta) (r : CRead X.K C mc) (cm : CMet X.K C mc m q c) (F : FnR X.prog X.w X.K X.mg X.base CX k c sp) (hr : Room k X.A) (hx : ∀ σ, PassesAt CX X σ (E σ)) (ha : PA X (e :: es) t)
    (hst : starEach (e :: es) X.env = (false, eval e X.env) :: starEach es X.env := by rfl) (hpl : (backTo pos (starEach es X.env)).any (·.1) = false := by rfl)
    (ht : eval (.Call (.Attribute o m apos) (e :: es) [] pos) X.env = (do
      let ov ← eval o X.env
      standAt apos.atName
      let (f, first) ← holding [ov] (getMethod ov m pl)
      callWith pos f first (backTo pos (starEach (e :: es) X.env)) (backToKw pos (keywordEach [] X.env))) := by rfl) :
    PE X (.Call (.Attribute o m apos) (e :: es) [] pos) (tCMethS C sp E ta t) := by
  refine ⟨fun pins s σ H Q I h => ?_⟩
  refine PySem.W.methodCall_KW (pl := pl) (thn (he.run pins s σ H _ I h) fun u s1 ⟨x, H1, I1, rx, ex, q0⟩ => ?_) ht
  subst ex
  obtain rfl : u = Value.ref C := rx
  refine getmethcm_ok I1 r cm fun s2 I2 => ?_
  refine callwith_cm I2 (base_none I1 (Nat.le_refl _)) cm.fi (thn (ha.run pos _ s2 σ H1 _ I2 q0) fun us s3 ⟨vs, H2, I3, rv, q2⟩ => ⟨⟨pin_at I3, I3.kIn⟩, ?_⟩) hst hpl
  have z : wpAny (model X.prog X.w) X.A (call (.ref s1.heap.objs.size) ([] ++ us)) (EP X ((s1.heap.objs.size, PySem.W.methodObj (.ref c) (.ref C)) :: pins) σ Q) X.xe s3 := by
    refine wpAny_call (PySem.W.method_call (pin_at I3) (codeAny_mono (F X.A X.stack s3 H2 (.ref C :: us) (V.ref C :: vs) Q (E σ) hr I3.env0 (.cons rfl rv) q2) fun r s' hq => ?_))
    cases r with
    | error e => exact hx σ _ H2 s3 e s' I3 hq
    | ok fl =>
      cases fl with
      | ret u => exact I3.after hq
      | next => exact False.elim hq
      | brk => exact False.elim hq
      | cont => exact False.elim hq
  exact thn z fun _ _ y => unpinE y
def tCMethKS (C : Addr) (m : Nat) (sp : Sp) (gV : List V → List V → List V) (E : L2.St → XK) (ta : TE) (tk : TA) : TE := fun σ H Q => ta σ H fun x H1 => x = .ref C ∧ tk σ H1 fun zs H2 => zs.length = m ∧ sp (gV [V.ref C] zs) H2 Q (E σ)
theorem pe_cmethKS {mc : Value} {m : Str} {q c : Addr} {o : Expr} {apos : Pos} {ta : TE} {pl : Sem Bool} (he : PE X o ta) (r : CRead X.K C mc) (cm : CMet X.K C mc m q c) (F : FnOk X.prog X.w X.K X.mg X.base CX k c fd ps sp) (hr : Room k X.A) (hb : KBn X.K fd ps 1 ks g gV) (hx : ∀ σ, PassesAt CX X σ (E σ))
    (hkw : PK X kws tk) (hall : (backToKw pos (keywordEach kws X.env)).all (·.1.isSome) = true := by rfl) (hks : (backToKw pos (keywordEach kws X.env)).filterMap (·.1) = ks := by rfl)
    (hpl : ((backTo pos (starEach [] X.env)).any (·.1) || (backToKw pos (keywordEach kws X.env)).any (·.1.isNone)) = false := by rfl)
    (ht : eval (.Call (.Attribute o m apos) [] kws pos) X.env = (do
      let ov ← eval o X.env
      standAt apos.atName
      let (f, first) ← holding [ov] (getMethod ov m pl)
      callWith pos f first (backTo pos (starEach [] X.env)) (backToKw pos (keywordEach kws X.env))) := by rfl) :
    PE X (.Call (.Attribute o m apos) [] kws pos) (tCMethKS C ks.length sp gV E ta tk) := by
  refine ⟨fun pins s σ H Q I h => ?_⟩
  refine PySem.W.methodCall_KW (pl := pl) (thn (he.run pins s σ H _ I h) fun u s1 ⟨x, H1, I1, rx, ex, q0⟩ => ?_) ht
  subst ex
  obtain rfl : u = Value.ref C := rx
  refine getmethcm_ok I1 r cm fun s2 I2 => ?_
  refine PySem.W.callWith_of hpl (P := PySem.W.MethP X.K s1.heap.objs.size c (.ref C)) (PySem.W.keeps_M cm.fi) ?_
  refine evalArgs_kw2_nil hall ?_
  refine thn (hkw.run pos _ s2 σ H1 _ I2 q0) fun ws s3 ⟨zs, H2, I3, rz, l2, q2⟩ => ⟨⟨pin_at I3, I3.kIn⟩, ?_⟩
  rw [hks]
  have z : wpAny (model X.prog X.w) X.A (call (.ref s1.heap.objs.size) [] (ks.zip ws)) (EP X ((s1.heap.objs.size, PySem.W.methodObj (.ref c) (.ref C)) :: pins) σ Q) X.xe s3 := by
    refine wpAny_call (PySem.W.method_call (pin_at I3) (codeAny_mono (F.run X.A X.stack s3 H2 ⟨.ref C :: [], ks.zip ws⟩ (g [.ref C] ws) (gV [V.ref C] zs) Q (E σ) hr I3.env0 (hb.to s3 [.ref C] ws I3.kIn rfl (rz.length.symm.trans l2)) (hb.rel (.cons rfl .nil) rz) q2) fun r s' hq => ?_))
    cases r with
    | error e => exact hx σ _ H2 s3 e s' I3 hq
    | ok fl =>
      cases fl with
      | ret u => exact I3.after hq
      | next => exact False.elim hq
      | brk => exact False.elim hq
      | cont => exact False.elim hq
  exact thn z fun _ _ y => unpinE y
end
theorem valsGet : ∀ {vs : List V} {us : List Value} (_ : Vals vs us) (i : Nat), RelV (vs.getD i .non) (us.getD i .none)
  | _, _, .nil, i => by simp; rfl
  | _, _, .cons r t, 0 => by simpa using r
  | _, _, .cons r t, i + 1 => by simpa using valsGet t i
end Ov

set_option Elab.async false
set_option linter.all false
set_option maxRecDepth 100000
set_option maxHeartbeats 4000000
/-! isinstance of a caught error: one class, a tuple of classes; its class is told where the reading is -/
namespace Ov
open PySem PySem.Spec PyProof.Rows L2 GxR
def rIsEX (K : PySem.W.Frag) (cls : Value) (d : Option Addr) (a : Addr) : List V → Hp → VK → Prop := fun xs H Q => ∃ D, cls = .ref D ∧ d = none ∧ ExcC K D ∧
  ((∃ (c : V) (cv : Value) (b : Bool), xs = [.ref a, c] ∧ ClsV c cv ∧ PySem.W.kitOne K (.ref D) cv = some b ∧ Q (.bl b) H) ∨
   (∃ (tp : Addr) (cs : List V) (us : List Value) (b : Bool), xs = [.ref a, .ref tp] ∧ H tp = some (.tup cs) ∧ Paired ClsV cs us ∧ PySem.W.kitAny K (.ref D) us = some b ∧ Q (.bl b) H))
theorem call_isEX {X : Cx} {a : Addr} {cls : Value} {d : Option Addr} {oe : Obj} {pn : List (Addr × Obj)} (hz : Zc cls d oe) (hf : ∃ vs, oe.data = .fields vs) : CallR (X.suite a ((a, oe) :: pn)) (.builtin "isinstance") (rIsEX X.K cls d a) := by
  intro pins s σ H xs us Q I r h
  obtain ⟨D, rfl, rfl, C, h⟩ := h
  obtain ⟨hget, _⟩ := I.pin (a, oe) (List.mem_append.mpr (.inl List.mem_cons_self))
  obtain ⟨vs, hv⟩ := hf
  have J : PySem.W.InstAt s.heap a oe D none := by
    obtain ⟨oc, od, oda, osl⟩ := oe
    obtain ⟨h1, h2⟩ := hz
    dsimp only at h1 h2 hv
    subst h1 h2 hv
    exact ⟨hget, rfl, rfl, trivial⟩
  have Z : PySem.W.KitX X.K (.ref a) (.ref D) (fun h => PySem.W.InstAt h a oe D none) := PySem.W.handS_kitx_exc C.hg C.hk C.hs C.hd C.ha C.hn C.ht C.hm
  rcases h with ⟨c, cv, b, rfl, hcv, e, q⟩ | ⟨tp, cs, ts, b, rfl, hT, k, e, q⟩
  · obtain ⟨u1, u2, rfl, r1, r2⟩ := vals2 r
    obtain rfl : u1 = Value.ref a := r1
    have ec := hcv.eq r2
    subst ec
    exact PySem.W.kia_one Z I.kIn J e (fun z => nomatch z) fun tk => ⟨.bl b, H, I.kept (t' := tk) fun _ _ z => z, rfl, q⟩
  · obtain ⟨u1, u2, rfl, r1, r2⟩ := vals2 r
    obtain rfl : u1 = Value.ref a := r1
    cases (show u2 = Value.ref tp from r2)
    obtain ⟨_, its, rv, o, h1, h2, n, h3⟩ := (show ObjOk X.prog X.w H s.heap tp (.tup cs) from I.hok tp _ hT)
    have e3 := ClsV.all k rv
    subst e3
    obtain ⟨oc, od, dt, sl⟩ := o
    simp only at h2 h3
    subst h2 h3
    exact PySem.W.kia_tup Z I.kIn J h1 e (fun z => nomatch z) fun tk => ⟨.bl b, H, I.kept (t' := tk) fun _ _ z => z, rfl, q⟩
end Ov

set_option Elab.async false
set_option linter.all false
set_option maxRecDepth 100000
set_option maxHeartbeats 4000000
/-! a walk over enumerate; a property of an object whose class the reading tells; lists of bools -/
namespace Ov
open PySem PySem.Spec PyProof.Rows L2 GxR
theorem for_enumL {K : PySem.W.Frag} {a : Addr} {xs : List V} {g : TG} {tb : TS} {D : Ends} {σ : L2.St} {H : Hp} (Pv : Nat → L2.St → Hp → Prop) (h0 : Pv 0 σ H) (hl : ∀ i σ H, i ≤ xs.length → Pv i σ H → SqL K H a xs)
    (hs : ∀ i x σ H T, xs[i]? = some x → Pv i σ H → H T = none → g (.ref T) σ (upd H T (.tup [.int (i : Nat), x])) fun σ2 H2 => tb { D with nx := Pv (i + 1), ct := Pv (i + 1), bk := D.nx } σ2 H2) (hd : ∀ σ H, Pv xs.length σ H → D.nx σ H) :
    ∃ W : Nat → Nat → L2.St → Hp → Prop, (∃ m, W 0 m σ H) ∧ ∀ i m σ H, W i m σ H →
      ((Ite K a).stop i H ∧ D.nx σ H) ∨ ((Ite K a).go i H ∧ ∃ N : L2.St → Hp → Prop, (∀ σ' H', N σ' H' → ∃ m', m' < m ∧ W (i + 1) m' σ' H') ∧ ∀ x H', (Ite K a).yld i H x H' → g x σ H' fun σ2 H2 => tb { D with nx := N, ct := N, bk := D.nx } σ2 H2) := by
  refine ⟨fun i m σ H => m = xs.length - i ∧ i ≤ xs.length ∧ Pv i σ H, ⟨xs.length, by simp, Nat.zero_le _, h0⟩, ?_⟩
  rintro i m σ H ⟨rfl, hi, p⟩
  have q := hl i σ H hi p
  by_cases hlt : i < xs.length
  · refine .inr ⟨⟨xs, xs[i], q, by simp [hlt]⟩, Pv (i + 1), fun σ' H' p' => ⟨xs.length - (i + 1), by omega, rfl, hlt, p'⟩, fun x H' y => ?_⟩
    obtain ⟨T, x', e, hT, e2, y⟩ := y
    subst e e2
    exact hs i x' σ H T (y xs q) p hT
  · have e : i = xs.length := by omega
    subst e
    exact .inl ⟨⟨xs, q, Nat.le_refl _⟩, hd σ H p⟩
def tPropX (K : PySem.W.Frag) (f : Str) (p g : Addr) (sp : Sp) (dvs : List V) (E : XK) (ta : TE) : TE := fun σ H Q => ta σ H fun x H1 => ∃ a C dx fs, x = .ref a ∧ Cls K C ∧ PropOf K C f p g ∧ H1 a = some (.ins C dx fs) ∧ sp (.ref a :: dvs) H1 Q E
theorem pe_propX {X : Cx} {CX : CXT} {k : Nat} {p g : Addr} {f : Str} {fd : FuncData} {ps : List Str} {sp : Sp} {dvs : List V} {ds : List Value} {E : XK} {e : Expr} {pos : Pos} {ta : TE} (he : PE X e ta) (F : FnOk X.prog X.w X.K X.mg X.base CX k g fd ps sp) (hr : Room (k + 1) X.A) (hb : Binds X.K fd ps ds) (hd : Vals dvs ds) (hx : Passes CX X.nox E)
    (hab : attributeBase e f X.env (eval e X.env) = eval e X.env := by rfl) : PE X (.Attribute e f pos) (tPropX X.K f p g sp dvs E ta) := by
  refine ⟨fun pins s σ H Q I h => ?_⟩
  refine attr_of hab (thn (he.run pins s σ H _ I h) fun u s1 ⟨x, H1, I1, rx, a, C, dx, fs, ex, c, hp, ea, q⟩ => ?_)
  subst ex
  obtain rfl : u = Value.ref a := rx
  exact getprop_ok I1 ea c hp F hr hb hd hx q
/-- a list of bools as data -/
theorem dp_bools {K : PySem.W.Frag} {H : Hp} : ∀ bs : List Bool, DpAll K H (bs.map V.bl) (bs.map PyData.bool)
  | [] => .nil
  | b :: r => .cons (.bl b) (dp_bools r)
theorem eqv_4 (a b c d : Bool) : PyData.eqv (.list ([a, b, c, d].map PyData.bool)) (.list ([a, b, c, d].map PyData.bool)) = true := by
  cases a <;> cases b <;> cases c <;> cases d <;> decide
theorem shaped_4 (a b c d : Bool) : SeqAt.shaped (.list ([a, b, c, d].map PyData.bool)) = true := by
  cases a <;> cases b <;> cases c <;> cases d <;> decide
theorem same_new {H : Hp} {p : Addr} {o : HO} (e : H p = none) : L2.Same H (upd H p o) := fun b u hb => (upd_ne (ne_of_none hb e)).trans hb
end Ov

set_option Elab.async false
set_option linter.all false
set_option maxRecDepth 100000
set_option maxHeartbeats 4000000
/-! enumerate over a text, list of a text, list of a range, text * int -/
namespace Ov
open PySem PySem.Spec PyProof.Rows L2 GxR
/-- a text of small signs, each one with its place in a new pair -/
def Ites (x : Str) : It :=
  ⟨fun i _ => i < x.cps.size, fun i H v H' => ∃ T c, v = .ref T ∧ H T = none ∧ H' = upd H T (.tup [.int (i : Nat), .str ⟨#[c]⟩]) ∧ x.cps[i]? = some c, fun i _ => i = x.cps.size⟩
theorem turn_enumS {P : Program} {w : World} {K : PySem.W.Frag} {es : List Expr} {j : Nat} {tp : Pos} (x : Str) (t : Tok) (e it : Addr) :
    Turn P w K (.Tuple es j tp) (Ites x) [e, it] e (fun i h => (∃ old, IsEnum h e it ((i : Nat) : Int) old) ∧ h.IsStrIter it "str_ascii_iterator" x t i ∧ e ≠ it) where
  mem := by simp
  obj := fun i h st b hb => by
    obtain ⟨⟨old, he⟩, ⟨o, ho, hc, hd⟩, _⟩ := st
    rcases (by simpa using hb : b = e ∨ b = it) with z | z
    · subst z; exact ⟨_, he, fun v q => nomatch q⟩
    · subst z; exact ⟨o, ho, fun v q => by rw [hd] at q; cases q⟩
  keep := fun i h h' st k => by
    obtain ⟨⟨old, he⟩, ⟨o, ho, hc, hd⟩, hne⟩ := st
    exact ⟨⟨old, k e (by simp) _ he⟩, ⟨o, k it (by simp) _ ho, hc, hd⟩, hne⟩
  item := by
    intro X hP hw hK hcalm i pins s σ H E I hf st hg
    subst hP; subst hw; subst hK
    obtain ⟨⟨old, he⟩, hit, hne⟩ := st
    have lt_e : e < s.heap.objs.size := Heap.lt_size he
    have lt_i : it < s.heap.objs.size := by
      obtain ⟨_, q, _⟩ := hit
      exact Heap.lt_size q
    have hand : X.A.in1.handled = none := I.ok.hd hcalm
    refine wpAny_pyNext_enum_itemD (Draws.strAscii hand it x t) he hit hg hne (by simpa using hne) fun y h' tk py out st' pair size kept => ?_
    obtain ⟨c, u, hcx, rfl⟩ := py
    refine ⟨_, rfl, wpAny_letOwnedTupleGo_enum (s := { s with heap := h', toks := tk + 1 }) out fun h2 he2 sb => ?_⟩
    have pair2 := (sb.2 _ (Nat.ne_of_gt lt_e)).trans pair
    have fresh : ObjOk X.prog X.w (upd H s.heap.objs.size (.tup [.int (i : Nat), .str ⟨#[c]⟩])) h2 s.heap.objs.size (.tup [.int (i : Nat), .str ⟨#[c]⟩]) :=
      ⟨(by decide : 2 ≤ sizeLine), [.int i _, .str ⟨#[c]⟩ u], .cons ⟨_, rfl⟩ (.cons ⟨_, rfl⟩ .nil), ⟨_, pair2, rfl, _, rfl⟩⟩
    have J : Inv X pins σ (upd H s.heap.objs.size (.tup [.int (i : Nat), .str ⟨#[c]⟩])) { s with heap := h2, toks := tk + 1 } :=
      I.turnedNew (ch := [e, it]) (fun b ob hb q => (sb.2 b fun z => hb (by simp [z])).trans (kept b ob (fun z => hb (by simp [z])) (fun z => hb (by simp [z])) q)) hf (Nat.le_refl _) fresh
    obtain ⟨o2, ho2, hc2, hd2⟩ := st'
    refine ⟨.ref s.heap.objs.size, _, J, rfl, ⟨_, c, rfl, I.hok.fresh (Nat.le_refl _), rfl, hcx⟩, ⟨⟨.str ⟨#[c]⟩ u, ?_⟩, ⟨o2, (sb.2 it (Ne.symm hne)).trans ho2, hc2, hd2⟩, hne⟩, fun b hb => ?_⟩
    · rw [show ((i + 1 : Nat) : Int) = (i : Int) + 1 by omega]; exact he2
    · have lt_b : b < s.heap.objs.size := by
        rcases (by simpa using hb : b = e ∨ b = it) with z | z
        · subst z; exact lt_e
        · subst z; exact lt_i
      exact (upd_ne (Nat.ne_of_lt lt_b)).trans (hf b hb).1
  done := by
    intro X hP hw hK hcalm i pins s σ H E I hf st hg
    subst hP; subst hw; subst hK
    obtain ⟨⟨old, he⟩, hit, hne⟩ := st
    obtain ⟨z0, z1, z2, z3, z4, z5⟩ := hf it (by simp)
    have hand : X.A.in1.handled = none := I.ok.hd hcalm
    have hit' : s.heap.IsStrIter it "str_ascii_iterator" x t x.cps.size := by
      have hg' : i = x.cps.size := hg
      rw [← hg']; exact hit
    exact wpAny_pyNext_enum_endD (Draws.strAscii hand it x t) he hit' fun h' eb => ⟨rfl, I.turned (t' := s.toks) (fun b o hb q => eb b o hb q) z0 z1 z3 z4 z5⟩
  self := fun A i s Q E st h => by
    obtain ⟨⟨_, he⟩, _⟩ := st
    exact wpAny_pyIter_enum he h
def iEnumS (ta : TA) : TI := fun σ H R => ta σ H fun vs H1 => ∃ x : Str, vs = [.str x] ∧ x.cps.all (· < 128) = true ∧ R (Ites x) H1
theorem pi_enumS {X : Cx} {e : Expr} {ta : TA} {p pos tp : Pos} {es : List Expr} {j : Nat} (hg : Gl X "enumerate") (hm : X.mg "enumerate" = none) (ha : PA X [e] ta) (hs : starEach [e] X.env = [(false, eval e X.env)] := by rfl) :
    PI X (.Tuple es j tp) (.Call (.Name "enumerate" p) [e] [] pos) (iEnumS ta) := by
  refine ⟨fun pins s σ H R I h => ?_⟩
  refine Call_ (ld_blt I hg hm boot_enumerate (PyProof.Rows.callWith_type1 (thn (ha.run pos pins s σ H _ I h) fun us s1 ⟨vs, H1, I1, r1, q1⟩ => ?_) hs rfl))
  obtain ⟨x, rfl, asc, q⟩ := q1
  obtain ⟨u, rfl, t, rfl⟩ := vals1 r1
  refine call_enumerate_str fun h' he hit size kept => wpAny_pyIter_enum he ?_
  have hit' : h'.IsStrIter s1.heap.objs.size "str_ascii_iterator" x t 0 := by simpa [strIterType, asc] using hit
  have J : Inv X pins σ H1 { s1 with heap := h' } := I1.kept (t' := s1.toks) kept
  refine ⟨s1.heap.objs.size + 1, [s1.heap.objs.size + 1, s1.heap.objs.size], _, _, H1, rfl, J, turn_enumS x t (s1.heap.objs.size + 1) s1.heap.objs.size, ⟨⟨.none, he⟩, hit', Nat.succ_ne_self _⟩, fun b hb => ?_, q⟩
  have le_b : s1.heap.objs.size ≤ b := by
    rcases (by simpa using hb : b = s1.heap.objs.size + 1 ∨ b = s1.heap.objs.size) with z | z
    · subst z; exact Nat.le_succ _
    · subst z; exact Nat.le_refl _
  exact I1.fpOk le_b (I1.hok.fresh le_b)
theorem for_enumS {x : Str} {g : TG} {tb : TS} {D : Ends} {σ : L2.St} {H : Hp} (Pv : Nat → L2.St → Hp → Prop) (h0 : Pv 0 σ H)
    (hs : ∀ i c σ H T, x.cps[i]? = some c → Pv i σ H → H T = none → g (.ref T) σ (upd H T (.tup [.int (i : Nat), .str ⟨#[c]⟩])) fun σ2 H2 => tb { D with nx := Pv (i + 1), ct := Pv (i + 1), bk := D.nx } σ2 H2) (hd : ∀ σ H, Pv x.cps.size σ H → D.nx σ H) :
    ∃ W : Nat → Nat → L2.St → Hp → Prop, (∃ m, W 0 m σ H) ∧ ∀ i m σ H, W i m σ H →
      ((Ites x).stop i H ∧ D.nx σ H) ∨ ((Ites x).go i H ∧ ∃ N : L2.St → Hp → Prop, (∀ σ' H', N σ' H' → ∃ m', m' < m ∧ W (i + 1) m' σ' H') ∧ ∀ x' H', (Ites x).yld i H x' H' → g x' σ H' fun σ2 H2 => tb { D with nx := N, ct := N, bk := D.nx } σ2 H2) := by
  refine ⟨fun i m σ H => m = x.cps.size - i ∧ i ≤ x.cps.size ∧ Pv i σ H, ⟨x.cps.size, by simp, Nat.zero_le _, h0⟩, ?_⟩
  rintro i m σ H ⟨rfl, hi, p⟩
  by_cases hlt : i < x.cps.size
  · refine .inr ⟨hlt, Pv (i + 1), fun σ' H' p' => ⟨x.cps.size - (i + 1), by omega, rfl, hlt, p'⟩, fun y H' yy => ?_⟩
    obtain ⟨T, c, rfl, hT, rfl, hc⟩ := yy
    exact hs i c σ H T hc p hT
  · have e : i = x.cps.size := by omega
    subst e
    exact .inl ⟨rfl, hd σ H p⟩
theorem vals_ext : ∀ {xs : List V} {us : List Value}, xs.length = us.length → (∀ (i : Nat) (x : V) (u : Value), xs[i]? = some x → us[i]? = some u → RelV x u) → Vals xs us
  | [], [], _, _ => .nil
  | x :: xs, u :: us, h, k => .cons (k 0 x u rfl rfl) (vals_ext (by simpa using h) fun i y w h1 h2 => k (i + 1) y w (by simpa using h1) (by simpa using h2))
/-- list(text) -/
theorem call_listS {X : Cx} (hc : X.calm = true) : CallR X (.type "list") (fun xs H Q => ∃ z : Str, xs = [.str z] ∧ z.length ≤ sizeLine ∧ ∀ l, H l = none → Q (.ref l) (upd H l (.lst (z.cps.toList.map fun c => V.str ⟨#[c]⟩)))) := by
  intro pins s σ H xs us Q I r h
  obtain ⟨z, rfl, hz, q⟩ := h
  obtain ⟨u, rfl, t, rfl⟩ := vals1 r
  refine call_list_str (I.ok.hd hc) z t (hn := hz) fun h' tk acc' c' hk hS' hacc => ?_
  have lz : z.cps.toList.length = z.length := by simp [Str.length]
  have rel : Vals (z.cps.toList.map fun c => V.str ⟨#[c]⟩) acc'.toList := by
    refine vals_ext (by rw [List.length_map, lz, Array.length_toList, hacc.1]; rfl) fun i y w h1 h2 => ?_
    obtain ⟨c, u, e1, rfl⟩ := hacc.2 i w (by simpa using h2)
    rw [List.getElem?_map, Array.getElem?_toList, e1] at h1
    cases h1
    exact ⟨_, rfl⟩
  refine ⟨.ref s.heap.objs.size, _, I.laid (t' := tk) hk (Nat.le_refl _) ?_, rfl, q _ (I.hok.fresh (Nat.le_refl _))⟩
  exact ⟨by rw [List.length_map, lz]; exact hz, acc'.toList, c', rel, by simpa using hS'⟩
/-- text * int -/
theorem op_mulS {X : Cx} : OpR X (binaryOp .Mult) (fun x y H Q => ∃ (z : Str) (n : Int), x = .str z ∧ y = .int n ∧ 0 ≤ n ∧ n ≤ 1000 ∧ z.length ≤ 1000 ∧ Q (.str ⟨(List.replicate n.toNat z.cps.toList).flatten.toArray⟩) H) := by
  intro pins s σ H x y v u Q I rx ry h
  obtain ⟨z, n, rfl, rfl, h0, h1', hz, q⟩ := h
  obtain ⟨t, rfl⟩ := rx
  obtain ⟨t', rfl⟩ := ry
  have hn : ¬ n < -(2 ^ 63 : Int) := by omega
  refine PySem.P.mul_str (by simp; omega) (fun h1 h2 => ?_) (fun h1 h2 => ?_) ?_
  · refine Int.not_lt.mpr (Int.le_ediv_of_mul_le (by omega) ?_)
    have : (z.length : Int) * n ≤ 1000 * 1000 := Int.mul_le_mul (by omega) h1' h0 (by decide)
    omega
  · unfold Builtin.Str.tooLong
    have : z.length * n.toNat ≤ 1000 * 1000 := Nat.mul_le_mul hz (by omega)
    exact decide_eq_false (by rw [sizeLine_eq]; omega)
  · have e1 : n < 1 → (⟨(List.replicate n.toNat z.cps.toList).flatten.toArray⟩ : Str) = Str.empty := fun h => by
      have : n.toNat = 0 := by omega
      rw [this]; rfl
    have e2 : (n == 1 || z.length == 0) = true → (⟨(List.replicate n.toNat z.cps.toList).flatten.toArray⟩ : Str) = z := fun h => by
      rw [Bool.or_eq_true, beq_iff_eq, beq_iff_eq] at h
      rcases h with rfl | h
      · simp
      · have e : z.cps = #[] := Array.eq_empty_of_size_eq_zero h
        rw [show z = ⟨#[]⟩ from by cases z; simp_all]
        simp
    have e3 : ∀ (k : Nat) (acc : Array Nat), (List.replicate k z.cps).foldl (· ++ ·) acc = acc ++ (List.replicate k z.cps.toList).flatten.toArray := fun k => by
      induction k with
      | zero => intro acc; simp
      | succ k ih =>
        intro acc
        rw [List.replicate_succ, List.foldl_cons, ih, List.replicate_succ, List.flatten_cons]
        apply Array.ext'
        simp
    split
    · rename_i hlt
      rw [e1 hlt] at q
      exact ⟨by decide, .str _, H, I.tok _, ⟨_, rfl⟩, q⟩
    · split
      · rename_i hb
        rw [e2 hb] at q
        exact ⟨.str z, H, I, ⟨_, rfl⟩, q⟩
      · rw [e3 n.toNat #[]]
        have hl : ∀ k : Nat, ((List.replicate k z.cps.toList).flatten).length = z.length * k := fun k => by
          simp [Str.length, Nat.mul_comm]
        refine ⟨?_, .str _, H, I.tok _, ⟨_, rfl⟩, by simpa using q⟩
        have : z.length * n.toNat ≤ 1000 * 1000 := Nat.mul_le_mul hz (by omega)
        show (#[] ++ (List.replicate n.toNat z.cps.toList).flatten.toArray : Array Nat).size ≤ sizeLine
        have e5 : (#[] ++ (List.replicate n.toNat z.cps.toList).flatten.toArray : Array Nat).size = z.length * n.toNat := by
          rw [← hl n.toNat, Array.size_append, List.size_toArray, List.size_toArray]
          simp
        rw [e5, sizeLine_eq]
        omega
/-- list(a range object) -/
def rListR : List V → Hp → VK → Prop := fun xs H Q => ∃ (r : Addr) (lo hi : Int), xs = [.ref r] ∧ H r = some (.rng lo hi) ∧ -(2 ^ 40) ≤ lo ∧ lo ≤ 2 ^ 40 ∧ -(2 ^ 40) ≤ hi ∧ hi ≤ 2 ^ 40 ∧ hi - lo ≤ 100000 ∧
  ∀ l, H l = none → Q (.ref l) (upd H l (.lst ((List.range (hi - lo).toNat).map fun i => V.int (lo + (i : Nat)))))
theorem call_listR {X : Cx} (hc : X.calm = true) : CallR X (.type "list") rListR := by
  intro pins s σ H xs us Q I r h
  obtain ⟨a, lo, hi, rfl, ha, l1, l2, l3, l4, l5, q⟩ := h
  obtain ⟨u0, rfl, ru⟩ := vals1 r
  obtain rfl : u0 = Value.ref a := ru
  obtain ⟨t, u, v, hr⟩ := (show ObjOk X.prog X.w H s.heap a (.rng lo hi) from I.hok a _ ha)
  have sz : Builtin.Range.rangeSize lo hi 1 = ((hi - lo).toNat : Int) := by
    rw [rangeSize_one]
    split <;> omega
  have sm : Builtin.Range.small lo hi 1 = true := by
    unfold Builtin.Range.small Builtin.Range.rangeFitsLong
    simp only [sz]
    simp
    omega
  refine call_list_range (I.ok.hd hc) hr sm sz (by omega) fun h' tk acc' c' hk hS' hacc => ?_
  have rel : Vals ((List.range (hi - lo).toNat).map fun i => V.int (lo + (i : Nat))) acc'.toList := by
    refine vals_ext (by rw [List.length_map, List.length_range, Array.length_toList, hacc.1]) fun i y w h1 h2 => ?_
    obtain ⟨tt, rfl⟩ := hacc.2 i w (by simpa using h2)
    obtain ⟨hj, e⟩ := List.getElem?_eq_some_iff.mp h1
    simp at e
    subst e
    exact ⟨tt, by simp⟩
  refine ⟨.ref s.heap.objs.size, _, I.laid (t' := tk) hk (Nat.le_refl _) ?_, rfl, q _ (I.hok.fresh (Nat.le_refl _))⟩
  exact ⟨by rw [List.length_map, List.length_range, sizeLine_eq]; omega, acc'.toList, c', rel, by simpa using hS'⟩
end Ov

set_option Elab.async false
set_option linter.all false
set_option maxRecDepth 100000
set_option maxHeartbeats 4000000
/-! calls of an instance: in a try's body, by keywords -/
namespace Ov
open PySem PySem.Spec PyProof.Rows L2 GxR
theorem callI_of {M : Model} {A : Around} {Ex : Value → Shared → Prop} {s : Shared} {x : Addr} {ps : Pos} {Q : Value → Shared → Prop} {as : List (Bool × Sem Value)} {ks : List (Option Str × Sem Value)} (no : (as.any (·.1) || ks.any (·.1.isNone)) = false)
    (h : wpAny M A (evalArgs (.ref x) true as ks) (fun z t => (∃ C o od, PySem.W.InstAt t.heap x o C od ∧ o.data = .plain) ∧ wpAny M A (call (.ref x) ([] ++ z.pos) z.kw) Q Ex t) Ex s) : wpAny M A (callWith ps (.ref x) [] as ks) Q Ex s := by
  unfold callWith
  refine wpAny_bind (wpAny_holding (wpAny_mono h (fun z t ht => ?_) fun _ _ y => y))
  obtain ⟨⟨C, o, od, J, plain⟩, hc⟩ := ht
  refine wpAny_bind (wpAny_standAt ?_)
  simp only [no]
  refine wpAny_bind ((PySem.W.kco_keeper (M := M) J plain).here ?_)
  exact wpAny_bind (wpAny_mono (wpAny_operateT hc) (fun r u hu => wpAny_bind (wpAny_holding (wpAny_point (wpAny_pure hu)))) fun _ _ y => y)
section
variable {X : Cx} {CX : CXT} {k : Nat} {C g : Addr} {fd : FuncData} {ps ks : List Str} {sp : Sp} {E : L2.St → XK} {fe e : Expr} {es : List Expr} {kws : List Keyword} {tf : TE} {t tk : TA} {pos : Pos} {gL : List Value → List Value → List Value} {gV : List V → List V → List V}
/-- f(e, ..), f an instance of C with __call__ -/
def tCallI (C : Addr) (sp : Sp) (E : L2.St → XK) (tf : TE) (t : TA) : TE := fun σ H Q => tf σ H fun y H1 => ∃ a, y = V.ref a ∧ t σ H1 fun vs H2 => (∃ dx fs, H2 a = some (.ins C dx fs)) ∧ sp (V.ref a :: vs) H2 Q (E σ)
theorem inst_at {pins : List (Addr × Obj)} {σ : L2.St} {H : Hp} {s : Shared} {a dx : Addr} {fs : List (Str × V)} (I : Inv X pins σ H s) (h : H a = some (.ins C dx fs)) : ∃ o od, PySem.W.InstAt s.heap a o C od ∧ o.data = .plain := by
  obtain ⟨m, O, _⟩ := ins_get I.hok h
  obtain ⟨od, J, _⟩ := O.look
  exact ⟨_, _, J, rfl⟩
theorem pe_callI (hf : PE X fe tf) (c : StX.CallO X.K C g) (F : FnR X.prog X.w X.K X.mg X.base CX k g sp) (hr : Room k X.A) (hx : ∀ σ, PassesAt CX X σ (E σ)) (ha : PA X (e :: es) t)
    (ht : eval (.Call fe (e :: es) [] pos) X.env = (do callWith pos (← eval fe X.env) [] (backTo pos (starEach (e :: es) X.env)) (backToKw pos (keywordEach [] X.env))) := by rfl)
    (he : starEach (e :: es) X.env = (false, eval e X.env) :: starEach es X.env := by rfl) (hpl : (backTo pos (starEach es X.env)).any (·.1) = false := by rfl) : PE X (.Call fe (e :: es) [] pos) (tCallI C sp E tf t) := by
  refine ⟨fun pins s σ H Q I h => ?_⟩
  refine Call_ (thn (hf.run pins s σ H _ I h) fun u s1 ⟨y, H1, I1, ry, a, ey, q⟩ => ?_) ht
  subst ey
  obtain rfl : u = Value.ref a := ry
  refine StX.callO_with (thn (ha.run pos pins s1 σ H1 _ I1 q) fun us s2 ⟨vs, H2, I2, r, ⟨dx, fs, hi⟩, q2⟩ => ?_) he hpl
  obtain ⟨o, od, J, plain⟩ := inst_at I2 hi
  refine ⟨⟨C, o, od, J, plain⟩, wpAny_call (PySem.W.kco_code I2.kIn J plain c.at_ c.fn c.fi (codeAny_mono (F X.A X.stack s2 H2 (.ref a :: us) (V.ref a :: vs) Q (E σ) hr I2.env0 (.cons rfl r) q2) fun r s' hq => ?_))⟩
  cases r with
  | error e => exact hx σ _ H2 s2 e s' I2 hq
  | ok fl =>
    cases fl with
    | ret u => exact I2.after hq
    | next => exact False.elim hq
    | brk => exact False.elim hq
    | cont => exact False.elim hq
def tCallIK (C : Addr) (m : Nat) (sp : Sp) (gV : List V → List V → List V) (E : L2.St → XK) (tf : TE) (tk : TA) : TE := fun σ H Q => tf σ H fun y H1 => ∃ a, y = V.ref a ∧ tk σ H1 fun zs H2 => (∃ dx fs, H2 a = some (.ins C dx fs)) ∧ zs.length = m ∧ sp (gV [V.ref a] zs) H2 Q (E σ)
theorem pe_callIK (hf : PE X fe tf) (c : StX.CallO X.K C g) (F : FnOk X.prog X.w X.K X.mg X.base CX k g fd ps sp) (hr : Room k X.A) (hb : KBn X.K fd ps 1 ks gL gV) (hx : ∀ σ, PassesAt CX X σ (E σ)) (hkw : PK X kws tk)
    (hall : (backToKw pos (keywordEach kws X.env)).all (·.1.isSome) = true := by rfl) (hks : (backToKw pos (keywordEach kws X.env)).filterMap (·.1) = ks := by rfl)
    (hpl : ((backTo pos (starEach [] X.env)).any (·.1) || (backToKw pos (keywordEach kws X.env)).any (·.1.isNone)) = false := by rfl)
    (ht : eval (.Call fe [] kws pos) X.env = (do callWith pos (← eval fe X.env) [] (backTo pos (starEach [] X.env)) (backToKw pos (keywordEach kws X.env))) := by rfl) : PE X (.Call fe [] kws pos) (tCallIK C ks.length sp gV E tf tk) := by
  refine ⟨fun pins s σ H Q I h => ?_⟩
  show wpAny _ _ (eval (.Call fe [] kws pos) X.env) _ _ _
  rw [ht]
  refine wpAny_bind (thn (hf.run pins s σ H _ I h) fun u s1 ⟨y, H1, I1, ry, a, ey, q⟩ => ?_)
  subst ey
  obtain rfl : u = Value.ref a := ry
  refine callI_of hpl (evalArgs_kw2_nil hall ?_)
  refine thn (hkw.run pos pins s1 σ H1 _ I1 q) fun ws s2 ⟨zs, H2, I2, rz, ⟨dx, fs, hi⟩, l2, q2⟩ => ?_
  rw [hks]
  obtain ⟨o, od, J, plain⟩ := inst_at I2 hi
  refine ⟨⟨C, o, od, J, plain⟩, wpAny_call (PySem.W.kco_code I2.kIn J plain c.at_ c.fn c.fi (codeAny_mono (F.run X.A X.stack s2 H2 ⟨[.ref a], ks.zip ws⟩ (gL [.ref a] ws) (gV [V.ref a] zs) Q (E σ) hr I2.env0 (hb.to s2 [.ref a] ws I2.kIn rfl (rz.length.symm.trans l2)) (hb.rel (.cons rfl .nil) rz) q2) fun r s' hq => ?_))⟩
  cases r with
  | error e => exact hx σ _ H2 s2 e s' I2 hq
  | ok fl =>
    cases fl with
    | ret u => exact I2.after hq
    | next => exact False.elim hq
    | brk => exact False.elim hq
    | cont => exact False.elim hq
end
end Ov

set_option Elab.async false
set_option linter.all false
set_option maxRecDepth 100000
set_option maxHeartbeats 4000000
/-! x.replace('.', '') in a def's last test -/
namespace Ov
open PySem PySem.Spec PyProof.Rows L2 GxR CwR
section
variable {X : Cx} {a b e : Expr} {rest : List Expr} {ta tb te : TE} {pos p : Pos}
theorem pet_one {op : BoolOp} (h : PET X e te) : PET X (.BoolOp op [e] pos) te := fun pins s σ H Q h0 I q => BoolOp_one (h pins s σ H Q h0 I q)
theorem pet_and (ha : PE X a ta) (hb : PET X (.BoolOp .And (b :: rest) pos) tb) : PET X (.BoolOp .And (a :: b :: rest) pos) (tAndV ta tb) := by
  intro pins s σ H Q h0 I h
  refine BoolOp_and (wpAny_mono (PySem.wpAny_toks (ha.run pins s σ H _ I h)) (fun v s1 z => ?_) fun _ _ z => z.2)
  obtain ⟨hk, x, H1, I1, r1, c, rfl, q1⟩ := z
  cases r1
  refine wpAny_truthy_bool ?_
  cases c with
  | false => exact ⟨.bl false, H1, I1, rfl, q1⟩
  | true => exact hb pins s1 σ H1 Q (Nat.le_trans h0 hk) I1 q1
theorem pet_call1 {CX : CXT} {k : Nat} {f : Addr} {fd : FuncData} {ps : List Str} {sp : Sp} {E : XK} {x : Str} (F : FnOk X.prog X.w X.K X.mg X.base CX k f fd ps sp) (hr : Room k X.A) (hg : Gl X x) (hm : X.mg x = some (.ref f)) (hk : PySem.W.keepIn X.K (.ref f) = true) (hb : Binds X.K fd ps []) (hx : Passes CX X E) (he : PET X e te)
    (hdb : (x == ("__debug__" : Str)) = false := by decide) (hst : starEach [e] X.env = [(false, eval e X.env)] := by rfl) : PET X (.Call (.Name x p) [e] [] pos) (tCall sp [] E (tCons te tNil)) := by
  intro pins s σ H Q h0 I h
  refine wpAny_Call_Name_kw (ld_glob I hg hm ?_ hdb)
  have hst' : starEach [e] X.env = (false, eval e X.env) :: starEach [] X.env := hst
  refine PySem.W.callWith_K (h₀ := X.base) I.ok.mod.kin hk ?_ hst' (by rfl)
  refine PyProof.Rows.args_cons (thn (he pins s σ H _ h0 I h) fun v s1 ⟨y, H1, I1, r1, q1⟩ => PyProof.Rows.args_nil ?_) hst'
  exact ⟨I1.kIn, run_fn F hr hb .nil hx I1 (.cons r1 .nil) q1⟩
end
end Ov

set_option Elab.async false
set_option linter.all false
set_option maxRecDepth 100000
set_option maxHeartbeats 4000000
/-! the end of a law with the tables of defs at the top -/
namespace Ov
open PySem PySem.Spec PyProof.Rows L2 GxR
def TabsT (q : Program) (K : PySem.W.Frag) (h : Heap) : Prop := ∀ (x : Str) (c P : Addr), ((recsOf q).find? (fun e => e.name == x)).isSome = true → PySem.W.tabIn K x = some (c, P) → PySem.W.CodeHd h c P ∧ h.get? P = some { cls := .none, data := .fields #[] }
theorem walk_T {l : PySem.W.OpenLaw} {n k : Nat} {q : Program} {loose : List Str} {XP : (Str → Option Value) → Heap → Prop} {YP : World → Heap → Prop} {d : DefRec} {K : Params → PySem.W.Frag} {x : Str}
    (hn : l.most = some n) (hn2 : n ≤ sizeLine) (hdf : d.params.defaults = []) (hr : Room k callerA) (hY : ∀ (w : World) (h : Heap), YP w h → (K w.params).In h)
    (F : ∀ (w : World) (mg : Str → Option Value) (fa : Addr) (h : Heap), YP w h → (K w.params).In h → h.Ns mainGlobals mg → mg d.name = some (.ref fa) → TabsT q (K w.params) h → LamX.LawAtS l w (K w.params) CX0 k n x mg fa h) :
    PySem.W.WalkO q loose XP YP l.row.toRowW d [] (fun f vs => PySem.call f vs) := by
  refine Att.attach_callB hn hdf fun w s₀ s₁ mg mb fa o pm cd doc a vs ns G Y ho hd hcd hmg hobj hints hlen hbits hg => ?_
  have KX := hY w _ Y
  have tabs : TabsT q (K w.params) s₁.heap := fun x c P h1 h2 => by
    obtain ⟨d', hd'⟩ := Option.isSome_iff_exists.mp h1
    exact PySem.W.tab_of G.T KX hd' h2
  obtain ⟨fd, cs, sp, hT, nT, C, hb, hsp, hF⟩ := F w mg fa _ Y KX G.T.g hmg tabs
  exact LamX.law_callTs KX G.T.g G.T.b G.T.builtins G.T.nolimit hg hT nT C G.T.bmain hobj hints (Nat.le_trans hlen hn2) hr hF hb (fun H hH hS => hsp H a ns hlen hbits hH hS) fun H e s' z => z
end Ov

set_option Elab.async false
set_option linter.all false
set_option maxRecDepth 100000
set_option maxHeartbeats 4000000
/-! defs that run where no printing is under way: what repr wants to know -/
namespace Ov
open PySem PySem.Spec PyProof.Rows L2 GxR
/-- a def's promise at the places where no repr is under way -/
structure FnG (P : Program) (w : World) (K : PySem.W.Frag) (mg : Str → Option Value) (base : Heap) (CX : CXT) (k : Nat) (f : Addr) (fd : FuncData) (ps : List Str) (sp : Sp) : Prop where
  len : ∀ vs H Q E, sp vs H Q E → vs.length = ps.length
  run : ∀ (A : Around) (fr : List Env) (s : Shared) (H : Hp) (args : Args) (us : List Value) (vs : List V) (Q : VK) (E : XK), A.guards = some [] → Room k A → Env0 P w K mg base A fr s H → BindsTo s fd args (ps.zip us) → Vals vs us → sp vs H Q E →
    codeAny (model P w) A (.call (.ref f) args) (CR CX fr P w H s Q E) s
theorem FnOk.toG {P : Program} {w : World} {K : PySem.W.Frag} {mg : Str → Option Value} {base : Heap} {CX : CXT} {k : Nat} {f : Addr} {fd : FuncData} {ps : List Str} {sp : Sp} (F : FnOk P w K mg base CX k f fd ps sp) : FnG P w K mg base CX k f fd ps sp :=
  ⟨F.len, fun A fr s H args us vs Q E _ => F.run A fr s H args us vs Q E⟩
section
variable {P : Program} {w : World} {K : PySem.W.Frag} {mg : Str → Option Value} {base : Heap}
/-- as Fun.ok; the body knows the guards -/
theorem fun_okG {x qual : Str} {st : Stmt} {f : Addr} {fd : FuncData} {N ps : List Str} {k : Nat} {sp : Sp} (F : L2.Fun K x qual st f fd) (S : FnScope N ps (defScope st)) (len : ∀ vs H Q E, sp vs H Q E → vs.length = ps.length)
    (body : ∀ (cdv : Value) (A : Around) (fr : List Env) (s : Shared) (H : Hp) (vs : List V) (Q : VK) (E : XK), (A.deeper (envOfC qual (defScope st) s.heap.objs.size f cdv)).guards = some [] → Room k (A.deeper (envOfC qual (defScope st) s.heap.objs.size f cdv)) → sp vs H Q E →
      ∃ t, PSs (cxOf CX0 P w K mg base N qual (defScope st) f cdv A fr s H E).nox (defBody st) t ∧ t { nx := fun _ H' => Q .non H', rt := Q } (start N vs) H) : FnG P w K mg base CX0 (k + 1) f fd ps sp := by
  obtain ⟨oc, od, kV, doc, pm, an, cdv, ct, osl, rfl, lk, hcd⟩ := F.ex
  refine ⟨len, fun A fr s H args us vs Q E hg hr e0 hb rv hs => ?_⟩
  refine LamX.run_ofS lk hcd S hr e0 hb rv (len _ _ _ _ hs) fun hr' => ?_
  obtain ⟨t, h, q⟩ := body cdv A fr s H vs Q E (by simpa [Around.deeper] using hg) hr' hs
  exact ⟨t, h.nox, q⟩
end
section
variable {X : Cx} {CX : CXT} {k : Nat} {f : Addr} {fd : FuncData} {ps : List Str} {sp : Sp} {E : XK} {x : Str} {p pos : Pos} {e : Expr} {es : List Expr} {t : TA}
/-- f(..) where the guards are known -/
theorem pe_callG (F : FnG X.prog X.w X.K X.mg X.base CX k f fd ps sp) (hg0 : X.A.guards = some []) (hr : Room k X.A) (hg : Gl X x) (hm : X.mg x = some (.ref f)) (hk : PySem.W.keepIn X.K (.ref f) = true) (hb : Binds X.K fd ps []) (hx : Passes CX X E) (ha : PA X (e :: es) t)
    (hdb : (x == ("__debug__" : Str)) = false := by decide) (he : starEach (e :: es) X.env = (false, eval e X.env) :: starEach es X.env := by rfl) (hpl : (backTo pos (starEach es X.env)).any (·.1) = false := by rfl) :
    PE X (.Call (.Name x p) (e :: es) [] pos) (tCall sp [] E t) := by
  refine ⟨fun pins s σ H Q I h => ?_⟩
  refine wpAny_Call_Name_kw (ld_glob I hg hm ?_ hdb)
  refine PySem.W.callWith_K (h₀ := X.base) I.ok.mod.kin hk (thn (ha.run pos pins s σ H _ I h) fun us s1 ⟨vs, H1, I1, r, q⟩ => ⟨I1.kIn, ?_⟩) he hpl
  have q : sp vs H1 Q E := by
    have z : sp (vs ++ []) H1 Q E := q
    rwa [List.append_nil] at z
  have hl : us.length = ps.length := by rw [← r.length]; exact F.len _ _ _ _ q
  have b := hb s1 us I1.kIn (by rw [List.append_nil]; exact hl)
  rw [List.append_nil] at b
  refine wpAny_call (codeAny_mono (F.run X.A X.stack s1 H1 ⟨us, []⟩ us vs Q E hg0 hr I1.env0 b r q) fun rr s' hq => ?_)
  cases rr with
  | error er => exact hx pins σ H1 s1 er s' I1 hq
  | ok fl =>
    cases fl with
    | ret u => exact I1.after hq
    | next => exact False.elim hq
    | brk => exact False.elim hq
    | cont => exact False.elim hq
end
/-! ### the end -/
/-- the script at a (as o has it) and the empty tables are tracked, nothing else -/
def trackH (cs : List (Addr × Addr)) (a : Addr) (o : Option HO) : Hp := fun b => if b = a then o else if b ∈ cs.map (·.2) then some (.tbl #[]) else none
theorem law_callG {P : Program} {w : World} {K : PySem.W.Frag} {mg mb : Str → Option Value} {fa a : Addr} {cs : List (Addr × Addr)} {s₁ : Shared} {vs : List Value} {ns : List Int}
    (KX : K.In s₁.heap) (gl : s₁.heap.Ns mainGlobals mg) (bl : s₁.heap.Ns builtinsNs mb) (bb : ∀ x : Str, x ≠ "__name__" → mb x = bootBuiltins x) (lim : s₁.heap.NoLimit) (nog : s₁.gens = #[])
    (tabs : ∀ p ∈ cs, s₁.heap.get? p.2 = some { cls := .none, data := .fields #[] }) (nT : ∀ p ∈ cs, K.lookup p.2 = none) (Cd : ∀ p ∈ cs, PySem.W.CodeHd s₁.heap p.1 p.2)
    (bmod : ∃ (bm : Addr) (ob : Obj), mg "__builtins__" = some (.ref bm) ∧ bm ≠ builtinsNs ∧ s₁.heap.get? bm = some ob ∧ ob.cls = .type "module" ∧ ob.dict = some builtinsNs ∧ ob.data = .plain)
    (ha : s₁.heap.get? a = some { cls := .type "list", data := .seq vs.toArray }) (hi : IntsAre vs ns) (hl : ns.length ≤ sizeLine)
    (F : ∀ (base : Heap) (H : Hp), K.In base → base.Ns mainGlobals mg → (∀ p ∈ cs, LamX.TabB base mg p.1 p.2) → Env0 P w K mg base callerA [] s₁ H → (∀ p ∈ cs, H p.2 = some (.tbl #[])) → SqL K H a (ns.map V.int) →
      codeAny (model P w) callerA (.call (.ref fa) ⟨[.ref a], []⟩) (CR CX0 [] P w H s₁ (fun v _ => v = .bl true) fun _ _ _ => False) s₁) :
    codeAny (model P w) callerA (.call (.ref fa) ⟨[.ref a], []⟩) (fun r s' => r = .ok (.ret (.bool true)) ∧ OldK s₁.heap s'.heap ∧ s'.os = s₁.os ∧ AllBare s'.gens) s₁ := by
  have rel := vals_ints hi
  have nl : ns.length = vs.length := hi.length.symm
  have memT : ∀ p ∈ cs, p.2 ∈ cs.map (·.2) := fun p hp => List.mem_map.mpr ⟨p, hp, rfl⟩
  have tabT : ∀ b ∈ cs.map (·.2), s₁.heap.get? b = some { cls := .none, data := .fields #[] } := fun b hb => by
    obtain ⟨p, hp, rfl⟩ := List.mem_map.mp hb
    exact tabs p hp
  have aT : a ∉ cs.map (·.2) := fun z => by
    have q := (tabT a z).symm.trans ha
    cases q
  -- the way, once the script's place is chosen
  have go : ∀ o : Option HO, SqL K (trackH cs a o) a (ns.map V.int) → (∀ u, o = some u → ObjOk P w (trackH cs a o) s₁.heap a u ∧ K.lookup a = none ∧ ∃ ob xs, u = .frz ob (.lst xs)) →
      codeAny (model P w) callerA (.call (.ref fa) ⟨[.ref a], []⟩) (fun r s' => r = .ok (.ret (.bool true)) ∧ OldK s₁.heap s'.heap ∧ s'.os = s₁.os ∧ AllBare s'.gens) s₁ := by
    intro o seq hob
    generalize hH : trackH cs a o = H at seq hob
    have Ha : H a = o := by rw [← hH]; exact if_pos rfl
    have HT : ∀ b ∈ cs.map (·.2), H b = some (.tbl #[]) := fun b hb => by
      have ne : b ≠ a := fun z => aT (z ▸ hb)
      rw [← hH]
      exact (if_neg ne).trans (if_pos hb)
    have HN : ∀ b, b ≠ a → b ∉ cs.map (·.2) → H b = none := fun b h1 h2 => by
      rw [← hH]
      exact (if_neg h1).trans (if_neg h2)
    -- what is neither the script nor a table is not tracked
    have un1 : ∀ {b : Addr} {u : Obj}, s₁.heap.get? b = some u → (∀ k n, u.data ≠ .seq k n) → u.data ≠ .fields #[] → H b = none := fun {b u} e n1 n2 => by
      refine HN b (fun z => ?_) fun z => ?_
      · subst z
        rw [ha] at e
        exact n1 _ _ (by rw [← Option.some.inj e])
      · rw [tabT b z] at e
        exact n2 (by rw [← Option.some.inj e])
    have hok : HOk P w H s₁.heap := fun b u e => by
      by_cases h1 : b = a
      · subst h1
        rw [Ha] at e
        exact (hob u e).1
      · by_cases h2 : b ∈ cs.map (·.2)
        · rw [HT b h2] at e
          cases e
          exact tabT b h2
        · rw [HN b h1 h2] at e
          cases e
    have ns1 : ∀ {b : Addr} {m : Str → Option Value}, s₁.heap.Ns b m → (hidT s₁.heap H).Ns b m := fun {b m} ⟨u, es, ep, e, d, r⟩ =>
      ⟨u, es, ep, hidT_get e (un1 e (fun k n z => by rw [d] at z; cases z) fun z => by rw [d] at z; cases z), d, r⟩
    have kb : K.In (hidT s₁.heap H) := fun b u e => by
      refine hidT_get (KX b u e) ?_
      by_cases h1 : b = a
      · subst h1
        rw [Ha]
        cases ho : o with
        | none => rfl
        | some u' =>
          have z := (hob u' ho).2.1
          rw [e] at z
          cases z
      · refine HN b h1 fun z => ?_
        obtain ⟨p, hp, rfl⟩ := List.mem_map.mp z
        rw [nT p hp] at e
        cases e
    have md : L2.Mod K mg (hidT s₁.heap H) := ⟨kb, ns1 gl, ⟨mb, ns1 bl, bb⟩, by
      obtain ⟨mc, q1, q2⟩ := lim
      exact ⟨mc, ns1 q1, q2⟩⟩
    have TB : ∀ p ∈ cs, LamX.TabB (hidT s₁.heap H) mg p.1 p.2 := fun p hp => by
      have tp := tabs p hp
      refine ⟨?_, ?_, fun z => ?_⟩
      · obtain ⟨u, us, fl, tf, fg, tg, inF, tx, tt, c1, c2, c3, c4, c5, c6, c7, c8, c9, cne⟩ := Cd p hp
        exact ⟨u, us, fl, tf, fg, tg, inF, tx, tt, hidT_get c1 (un1 c1 (fun k n z => by rw [c3] at z; cases z) fun z => by rw [c3] at z; cases z; simp at c4), c2, c3, c4, c5, c6, c7, c8, c9, cne⟩
      · obtain ⟨bm, ob, m1, m2, m3, m4, m5, m6⟩ := bmod
        refine ⟨bm, ob, m1, m2, fun q => ?_, fun q => ?_, hidT_get m3 (un1 m3 (fun k n z => by rw [m6] at z; cases z) fun z => by rw [m6] at z; cases z), m4, m5, m6⟩
        · obtain ⟨u, es, ep, e, hd, _⟩ := gl
          rw [q, e] at m3
          cases m3
          rw [hd] at m6
          cases m6
        · rw [q, tp] at m3
          cases m3
          cases m6
      · obtain ⟨u, es, ep, e, hd, _⟩ := gl
        rw [z, tp] at e
        cases e
        cases hd
    have env : Env0 P w K mg (hidT s₁.heap H) callerA [] s₁ H := ⟨rfl, md, fun b u e => of_hidT e, Nat.le_of_eq (hidT_size _ _), trivial, fun b hb => (by cases hb), hok, .of_eq nog⟩
    refine codeAny_mono (F _ H kb (ns1 gl) TB env (fun p hp => HT _ (memT p hp)) seq) fun r s' h => ?_
    cases r with
    | error e => exact False.elim h
    | ok f =>
      cases f with
      | next => exact False.elim h
      | brk => exact False.elim h
      | cont => exact False.elim h
      | ret u =>
        obtain ⟨v, H', os, bare, un, hok', rv, q⟩ := h
        have qv : v = .bl true := q
        subst qv
        obtain rfl : u = Value.bool true := rv
        have stays : ∀ b u, b ∉ cs.map (·.2) → s₁.heap.get? b = some u → s'.heap.get? b = some u := fun b u nb e => by
          by_cases h1 : b = a
          · subst h1
            cases ho : o with
            | none =>
              have hn : H b = none := Ha.trans ho
              exact un.keep b u e hn (by intro z; cases z) (by simp)
            | some u' =>
              obtain ⟨ok1, _, ob, xs, rfl⟩ := hob u' ho
              have z1 : H b = some (.frz ob (.lst xs)) := Ha.trans ho
              have z2 := un.frzs b ob _ z1
              have e1 := (hok b _ z1).1
              have e2 := (hok' b _ z2).1
              rw [e] at e1
              cases e1
              exact e2
          · exact un.keep b u e (HN b h1 nb) (by intro z; cases z) (by simp)
        have grow : ∀ p ∈ cs, ∃ more : Array Value, s'.heap.get? p.2 = some { cls := .none, data := .fields more } := fun p hp => by
          obtain ⟨more, z⟩ := un.tbls p.2 #[] (HT _ (memT p hp))
          exact ⟨_, hok' p.2 _ z⟩
        refine ⟨rfl, ⟨fun b u e => ?_, fun b u e => ?_⟩, os, bare⟩
        · by_cases hb : b ∈ cs.map (·.2)
          · obtain ⟨p, hp, rfl⟩ := List.mem_map.mp hb
            obtain ⟨more, hm⟩ := grow p hp
            have eu := (tabs p hp).symm.trans e
            cases eu
            exact .inr (.inl ⟨((Cd p hp).tab (tabs p hp)).isCodeTable, rfl, #[], more, rfl, by rw [Array.empty_append]; exact hm⟩)
          · exact .inl (stays b u hb e)
        · by_cases hb : b ∈ cs.map (·.2)
          · obtain ⟨p, hp, rfl⟩ := List.mem_map.mp hb
            obtain ⟨more, hm⟩ := grow p hp
            exact ⟨_, hm⟩
          · exact ⟨u, stays b u hb e⟩
  cases hk : K.lookup a with
  | some u =>
    have e := (KX a u hk).symm.trans ha
    cases e
    exact go none (.inr ⟨_, vs.toArray, _, hk, rfl, rfl, rfl, by rw [List.size_toArray, ← nl]; exact hl, by simpa using rel⟩) fun u z => by cases z
  | none =>
    refine go (some (.frz { cls := .type "list", data := .seq vs.toArray } (.lst (ns.map V.int)))) (.inl (.inr ⟨_, if_pos rfl⟩)) fun u z => ?_
    cases z
    exact ⟨⟨ha, by rw [List.length_map]; exact hl, vs, _, rel, ha⟩, hk, _, _, rfl⟩
end Ov

set_option Elab.async false
set_option linter.all false
set_option maxRecDepth 100000
set_option maxHeartbeats 4000000
namespace Ov
open PySem PySem.Spec PyProof.Rows L2 GxR
/-- repr of a list of data -/
def rReprL (K : PySem.W.Frag) : List V → Hp → VK → Prop := fun xs H Q => ∃ (a : Addr) (d : PyData), xs = [V.ref a] ∧ Dp K H (.ref a) d ∧ d.showable = true ∧ d.hasDict = false ∧ d.depth ≤ 60 ∧ d.shown.length ≤ sizeLine ∧ Q (.str d.shown) H
theorem call_reprL {X : Cx} (hg : X.A.guards = some []) (hu : X.A.units + 64 < cLine) : CallR X (.builtin "repr") (rReprL X.K) := by
  intro pins s σ H xs us Q I r h
  obtain ⟨a, d, rfl, hd, hs, hdict, dep, hsz, q⟩ := h
  obtain ⟨u, rfl, ru⟩ := vals1 r
  obtain rfl : u = Value.ref a := ru
  obtain ⟨as, rd⟩ := Dp.reads I d _ _ hd rfl
  refine repr_of_reads' rd hs (fun z => by rw [hdict] at z; cases z) hg (by omega) (fun b o e => e) (fun h' u tk hk => ?_) hsz
  exact ⟨.str d.shown, H, I.kept (t' := tk) hk, ⟨u, rfl⟩, q⟩
end Ov

set_option Elab.async false
set_option linter.all false
set_option maxRecDepth 100000
set_option maxHeartbeats 4000000
/-! objects of any kind: what they are as data; repr of them; their types -/
namespace Ov
open PySem PySem.Spec PyProof.Rows L2 GxR
/-- nothing below it -/
inductive Lf : V → PyData → Prop
  | non : Lf .non .none
  | bl (b : Bool) : Lf (.bl b) (.bool b)
  | int (i : Int) : Lf (.int i) (.int i)
  | str (z : Str) : Lf (.str z) (.str z)
inductive LfAll : List V → List PyData → Prop
  | nil : LfAll [] []
  | cons {v : V} {vs : List V} {d : PyData} {ds : List PyData} : Lf v d → LfAll vs ds → LfAll (v :: vs) (d :: ds)
def keyD : Key → PyData
  | .inl i => .int i
  | .inr z => .str z
def pairD : List (Key × V) → List PyData → List (PyData × PyData)
  | (k, _) :: r, d :: ds => (keyD k, d) :: pairD r ds
  | _, _ => []
/-- a leaf, or leaves in a list, a tuple, a dict -/
inductive El (H : Hp) : V → PyData → Prop
  | lf {v : V} {d : PyData} : Lf v d → El H v d
  | lst {a : Addr} {xs : List V} {ds : List PyData} : H a = some (.lst xs) → LfAll xs ds → El H (.ref a) (.list ds)
  | tup {a : Addr} {xs : List V} {ds : List PyData} : H a = some (.tup xs) → LfAll xs ds → El H (.ref a) (.tuple ds)
  | dic {a : Addr} {kvs : List (Key × V)} {ds : List PyData} : H a = some (.dK kvs) → LfAll (kvs.map (·.2)) ds → El H (.ref a) (.dict (pairD kvs ds))
inductive ElAll (H : Hp) : List V → List PyData → Prop
  | nil : ElAll H [] []
  | cons {v : V} {vs : List V} {d : PyData} {ds : List PyData} : El H v d → ElAll H vs ds → ElAll H (v :: vs) (d :: ds)
/-- no list among the data -/
def noLst : List PyData → Bool
  | [] => true
  | .list _ :: _ => false
  | _ :: r => noLst r
/-- .. or such in a list, a tuple (not lists beside dicts) -/
inductive Ob (H : Hp) : V → PyData → Prop
  | el {v : V} {d : PyData} : El H v d → Ob H v d
  | lst {a : Addr} {xs : List V} {ds : List PyData} : H a = some (.lst xs) → ElAll H xs ds → (PyData.hasDictAll ds = false ∨ noLst ds = true) → Ob H (.ref a) (.list ds)
  | tup {a : Addr} {xs : List V} {ds : List PyData} : H a = some (.tup xs) → ElAll H xs ds → (PyData.hasDictAll ds = false ∨ noLst ds = true) → Ob H (.ref a) (.tuple ds)
/-! ### they stay -/
theorem El.at {H H2 : Hp} (k : ∀ a o, (∀ ps, o ≠ HO.tbl ps) → H a = some o → H2 a = some o) {v : V} {d : PyData} (h : El H v d) : El H2 v d := by
  cases h with
  | lf l => exact .lf l
  | lst e l => exact .lst (k _ _ (fun _ z => by cases z) e) l
  | tup e l => exact .tup (k _ _ (fun _ z => by cases z) e) l
  | dic e l => exact .dic (k _ _ (fun _ z => by cases z) e) l
theorem ElAll.at {H H2 : Hp} (k : ∀ a o, (∀ ps, o ≠ HO.tbl ps) → H a = some o → H2 a = some o) : ∀ {vs : List V} {ds : List PyData}, ElAll H vs ds → ElAll H2 vs ds
  | _, _, .nil => .nil
  | _, _, .cons h t => .cons (h.at k) (t.at k)
theorem Ob.at {H H2 : Hp} (k : ∀ a o, (∀ ps, o ≠ HO.tbl ps) → H a = some o → H2 a = some o) {v : V} {d : PyData} (h : Ob H v d) : Ob H2 v d := by
  cases h with
  | el l => exact .el (l.at k)
  | lst e l n => exact .lst (k _ _ (fun _ z => by cases z) e) (l.at k) n
  | tup e l n => exact .tup (k _ _ (fun _ z => by cases z) e) (l.at k) n
theorem Kep.all {T : List Addr} {H H2 : Hp} (hT : ∀ p ∈ T, TabG H p) (k : Kep T H H2) : ∀ a o, (∀ ps, o ≠ HO.tbl ps) → H a = some o → H2 a = some o := fun a o n e => k.at hT e n
theorem Ob.kep {T : List Addr} {H H2 : Hp} {v : V} {d : PyData} (hT : ∀ p ∈ T, TabG H p) (k : Kep T H H2) (h : Ob H v d) : Ob H2 v d := h.at (k.all hT)
/-! ### their types -/
theorem Lf.ty {K : PySem.W.Frag} {H : Hp} {v : V} {d : PyData} (h : Lf v d) : ∃ n : String, TyX K H v (.type n) ∧ n ∈ ["NoneType", "bool", "int", "str"] := by
  cases h with
  | non => exact ⟨_, .base .non, by simp⟩
  | bl b => exact ⟨_, .base (.bl b), by simp⟩
  | int i => exact ⟨_, .base (.int i), by simp⟩
  | str z => exact ⟨_, .base (.str z), by simp⟩
def nameD : PyData → String
  | .none => "NoneType" | .bool _ => "bool" | .int _ => "int" | .str _ => "str" | .list _ => "list" | .tuple _ => "tuple" | .dict _ => "dict"
theorem El.ty {K : PySem.W.Frag} {H : Hp} {v : V} {d : PyData} (h : El H v d) : TyX K H v (.type (nameD d)) := by
  cases h with
  | lf l =>
    cases l with
    | non => exact .base .non
    | bl b => exact .base (.bl b)
    | int i => exact .base (.int i)
    | str z => exact .base (.str z)
  | lst e l => exact .base (.lst e)
  | tup e l => exact .base (.tup e)
  | dic e l => exact .base (.dK e)
theorem Ob.ty {K : PySem.W.Frag} {H : Hp} {v : V} {d : PyData} (h : Ob H v d) : TyX K H v (.type (nameD d)) := by
  cases h with
  | el l => exact l.ty
  | lst e l n => exact .base (.lst e)
  | tup e l n => exact .base (.tup e)
def isStrD : PyData → Bool
  | .str _ => true
  | _ => false
def isLstD : PyData → Bool
  | .list _ => true
  | _ => false
theorem kit_str (K : PySem.W.Frag) (d : PyData) : PySem.W.kitOne K (.type (nameD d)) (.type "str") = some (isStrD d) := by
  cases d with
  | none => exact kit_ty (show kitB "NoneType" "str" = some false by decide +kernel)
  | bool b => exact kit_ty (show kitB "bool" "str" = some false by decide +kernel)
  | int i => exact kit_ty (show kitB "int" "str" = some false by decide +kernel)
  | str z => exact kit_ty (show kitB "str" "str" = some true by decide +kernel)
  | list xs => exact kit_ty (show kitB "list" "str" = some false by decide +kernel)
  | tuple xs => exact kit_ty (show kitB "tuple" "str" = some false by decide +kernel)
  | dict kvs => exact kit_ty (show kitB "dict" "str" = some false by decide +kernel)
theorem kit_lst (K : PySem.W.Frag) (d : PyData) : PySem.W.kitOne K (.type (nameD d)) (.type "list") = some (isLstD d) := by
  cases d with
  | none => exact kit_ty (show kitB "NoneType" "list" = some false by decide +kernel)
  | bool b => exact kit_ty (show kitB "bool" "list" = some false by decide +kernel)
  | int i => exact kit_ty (show kitB "int" "list" = some false by decide +kernel)
  | str z => exact kit_ty (show kitB "str" "list" = some false by decide +kernel)
  | list xs => exact kit_ty (show kitB "list" "list" = some true by decide +kernel)
  | tuple xs => exact kit_ty (show kitB "tuple" "list" = some false by decide +kernel)
  | dict kvs => exact kit_ty (show kitB "dict" "list" = some false by decide +kernel)
theorem El.str {H : Hp} {v : V} {d : PyData} (h : El H v d) (e : isStrD d = true) : ∃ z, v = .str z ∧ d = .str z := by
  cases h with
  | lf l =>
    cases l with
    | str z => exact ⟨z, rfl, rfl⟩
    | _ => cases e
  | _ => cases e
theorem Ob.lsts {H : Hp} {v : V} {d : PyData} (h : Ob H v d) (e : isLstD d = true) : ∃ a xs ds, v = .ref a ∧ d = .list ds ∧ H a = some (.lst xs) ∧ ElAll H xs ds := by
  cases h with
  | el l =>
    cases l with
    | lf l => cases l <;> cases e
    | @lst a xs ds h l =>
      refine ⟨a, xs, ds, rfl, rfl, h, ?_⟩
      clear h e
      induction l with
      | nil => exact .nil
      | cons a _ ih => exact .cons (.lf a) ih
    | tup => cases e
    | dic => cases e
  | @lst a xs ds h l n => exact ⟨a, xs, ds, rfl, rfl, h, l⟩
  | tup => cases e
/-! ### reading them -/
section
variable {X : Cx} {pins : List (Addr × Obj)} {σ : L2.St} {H : Hp} {s : Shared}
theorem Lf.reads {h : Heap} {v : V} {d : PyData} {u : Value} (l : Lf v d) (r : RelV v u) : Reads h u d [] := by
  cases l with
  | non => cases r; exact .none
  | bl b => cases r; exact .bool b
  | int i => obtain ⟨t, rfl⟩ := r; exact .int i t
  | str z => obtain ⟨t, rfl⟩ := r; exact .str z t
theorem LfAll.reads {h : Heap} : ∀ {vs : List V} {ds : List PyData} {us : List Value}, LfAll vs ds → Vals vs us → ReadsAll h us ds []
  | _, _, _, .nil, .nil => .nil
  | _, _, _, .cons l t, .cons r q => .cons (l.reads r) (t.reads q)
theorem key_reads {h : Heap} {k : Key} {u : Value} (e : keyIs k u = true) : Reads h u (keyD k) [] := by
  rcases keyIs_shape e with ⟨i, t, rfl, rfl⟩ | ⟨z, t, rfl, rfl⟩
  · exact .int i t
  · exact .str z t
theorem pair_reads {P : Program} {w : World} {h : Heap} : ∀ {kvs : List (Key × V)} {ds : List PyData} {vs : List (Key × Value)} {es : List DictEntry}, LfAll (kvs.map (·.2)) ds → KV kvs vs → Pairs (mixKind P w) es vs →
    ReadsAll h (es.map (·.key)) ((pairD kvs ds).map (·.1)) [] ∧ ReadsAll h (es.map (·.val)) ((pairD kvs ds).map (·.2)) []
  | [], _, _, _, .nil, .nil, .nil => ⟨.nil, .nil⟩
  | _ :: _, _, _, _, .cons l t, .cons r q, .cons a b c => by
    obtain ⟨i1, i2⟩ := pair_reads t q c
    obtain ⟨r1, r2⟩ := r
    rw [← b] at r2
    refine ⟨.cons (key_reads (by rw [r1]; exact a)) i1, .cons (l.reads r2) i2⟩
theorem El.reads (I : Inv X pins σ H s) {v : V} {d : PyData} {u : Value} (h : El H v d) (r : RelV v u) : ∃ as, Reads s.heap u d as ∧ (isLstD d = false → sysModules ∉ as) := by
  cases h with
  | lf l => exact ⟨[], l.reads r, fun _ => by simp⟩
  | @lst a xs ds e l =>
    cases (show u = Value.ref a from r)
    obtain ⟨_, its, n, rv, ho⟩ := (show ObjOk X.prog X.w H s.heap a (.lst xs) from I.hok a _ e)
    exact ⟨_, .list ho rfl rfl (l.reads rv), fun z => by cases z⟩
  | @tup a xs ds e l =>
    cases (show u = Value.ref a from r)
    obtain ⟨_, its, rv, o, h1, h2, n, h3⟩ := (show ObjOk X.prog X.w H s.heap a (.tup xs) from I.hok a _ e)
    exact ⟨_, .tuple h1 h2 h3 (l.reads rv), fun _ => by simp⟩
  | @dic a kvs ds e l =>
    cases (show u = Value.ref a from r)
    obtain ⟨_, hs, vs, kv, o, es, ep, h1, h2, h3, _, h5, _⟩ := (show ObjOk X.prog X.w H s.heap a (.dK kvs) from I.hok a _ e)
    obtain ⟨p1, p2⟩ := pair_reads (h := s.heap) l kv h5
    refine ⟨_, .dict h1 h2.1 h3 p1 p2, fun _ => ?_⟩
    have hs : a ≠ sysModules := by simpa using hs
    simpa using fun z => hs z.symm
theorem ElAll.reads (I : Inv X pins σ H s) : ∀ {vs : List V} {ds : List PyData} {us : List Value}, ElAll H vs ds → Vals vs us → ∃ as, ReadsAll s.heap us ds as ∧ (noLst ds = true → sysModules ∉ as)
  | _, _, _, .nil, .nil => ⟨_, .nil, fun _ => by simp⟩
  | _, _, _, .cons (d := d) (ds := ds) l t, .cons r q => by
    obtain ⟨as, h1, h2⟩ := l.reads I r
    obtain ⟨bs, h3, h4⟩ := t.reads I q
    refine ⟨_, .cons h1 h3, fun z => ?_⟩
    have e1 : isLstD d = false ∧ noLst ds = true := by
      cases d <;> first | exact ⟨rfl, z⟩ | cases z
    simpa using ⟨h2 e1.1, h4 e1.2⟩
end
end Ov

set_option Elab.async false
set_option linter.all false
set_option maxRecDepth 100000
set_option maxHeartbeats 4000000
/-! repr of objects of any kind -/
namespace Ov
open PySem PySem.Spec PyProof.Rows L2 GxR
section
variable {P : Program} {w : World} {h : Heap} {a : Addr} {o : Obj} {vs : Array Value} {n : Nat} {ds : List PyData} {bs : List Addr}
theorem shows_lst (h1 : h.get? a = some o) (h2 : o.cls = .type "list") (h3 : o.data = .seq vs n) (h4 : ReadsAll h vs.toList ds bs) (hs : PyData.showableAll ds = true) (hin : PyData.hasDictAll ds = true → sysModules ∉ bs)
    (hz : (PyData.shown (.list ds)).length ≤ sizeLine) : ShowsBy P w h a (.list ds) "list" "list.__repr__" := by
  have zl : (listText (PyData.shownAll ds)).length ≤ sizeLine := by simpa only [PyData.shown] using hz
  obtain ⟨cs, hb, hk⟩ := ReprAllK.of_readsAll (prog := P) (w := w) h4 hs hin (fun t ht => Nat.le_trans (listText_mem_le ht) zl)
  have ni : a ∉ cs := not_mem_of_deeper (.list h1 h2 h3 h4) (by simp only [PyData.depth]; omega) hb
  refine ⟨F.slot_list_repr.toG, F.slot_list_str, F.slot_list_format, fun s k0 => ⟨o, k0 _ _ h1, h2⟩, fun A E s Q g u k0 q => ?_⟩
  simp only [PyData.depth] at u
  simp only [PyData.shown] at q
  obtain ⟨l⟩ := vs
  cases l with
  | nil =>
    have z : ReadsAll h [] ds _ := h4
    cases z
    simp only [PyData.shownAll, listText_nil] at q
    refine call_list_repr_empty ⟨o, k0 _ _ h1, h2⟩ (k0 _ _ h1) h3 ?_
    exact q s.heap _ _ (fun _ _ e => e)
  | cons x l =>
    refine call_list_reprK h1 h2 h3 ni (by simpa using hk.length_eq) (fun i y e => ?_) g (fun b _ => .nil b) u k0 q zl
    exact hk.item i y (by simpa using e)
end
/-- small data -/
structure Sm (d : PyData) : Prop where
  s : d.showable = true
  l : d.leavesShort 8 = true
  w : d.weight ≤ 8000
  d : d.depth ≤ 40
theorem Sm.len {d : PyData} (h : Sm d) : d.shown.length ≤ 80020 := by
  have h1 := PyData.shown_le 8 (Nat.le_refl 8) d h.l
  have h2 := h.w
  omega
theorem Sm.line {d : PyData} (h : Sm d) : d.shown.length ≤ sizeLine := Nat.le_trans h.len (by decide)
/-- repr of an object of any kind -/
def rReprO : List V → Hp → VK → Prop := fun xs H Q => ∃ (v : V) (d : PyData), xs = [v] ∧ Ob H v d ∧ Sm d ∧ Q (.str d.shown) H
section
variable {X : Cx} {pins : List (Addr × Obj)} {σ : L2.St} {H : Hp} {s : Shared}
theorem repr_leaf {v : V} {d : PyData} {u : Value} {Q : VK} (I : Inv X pins σ H s) (l : Lf v d) (r : RelV v u) (sm : Sm d) (q : Q (.str d.shown) H) : wpAny (model X.prog X.w) X.A (call (.builtin "repr") [u]) (EP X pins σ Q) X.xe s := by
  cases l with
  | non => obtain rfl : u = Value.none := r; exact P.repr_of_none ⟨.str "None", H, I.tok _, ⟨_, rfl⟩, q⟩
  | bl b => obtain rfl : u = Value.bool b := r; exact P.repr_of_bool ⟨.str (if b then "True" else "False"), H, I.tok _, ⟨_, rfl⟩, q⟩
  | int i =>
    obtain ⟨t, rfl⟩ := r
    exact P.repr_of_int (by simpa [PyData.showable] using sm.s) ⟨.str (toString i), H, I.tok _, ⟨_, rfl⟩, q⟩
  | str z =>
    obtain ⟨t, rfl⟩ := r
    exact P.repr_of_str ⟨.str (reprText z), H, I.tok _, ⟨_, rfl⟩, q⟩ (by simpa [PyData.shown] using sm.line)
theorem call_reprO (hg : X.A.guards = some []) (hu : X.A.units + 64 < cLine) : CallR X (.builtin "repr") rReprO := by
  intro pins s σ H xs us Q I r h
  obtain ⟨v, d, rfl, ob, sm, q⟩ := h
  obtain ⟨u, rfl, ru⟩ := vals1 r
  have hd := sm.d
  have byReads : ∀ {a : Addr} {as : List Addr}, u = .ref a → Reads s.heap u d as → (d.hasDict = true → sysModules ∉ as) → wpAny (model X.prog X.w) X.A (call (.builtin "repr") [u]) (EP X pins σ Q) X.xe s := fun {a as} e rd hsm => by
    subst e
    refine repr_of_reads' rd sm.s hsm hg (by omega) (fun b o e => e) (fun h' u tk hk => ?_) sm.line
    exact ⟨.str d.shown, H, I.kept (t' := tk) hk, ⟨u, rfl⟩, q⟩
  cases ob with
  | el l =>
    cases l with
    | lf l => exact repr_leaf I l ru sm q
    | @lst a xs ds e l =>
      obtain ⟨as, rd, -⟩ := (El.lst e l).reads I ru
      have nd : PyData.hasDictAll ds = false := by
        clear rd e sm q byReads hd
        induction l with
        | nil => rfl
        | cons a _ ih =>
          show (PyData.hasDict _ || PyData.hasDictAll _) = false
          rw [ih]
          cases a <;> rfl
      exact byReads (show u = Value.ref a from ru) rd (fun z => by rw [show PyData.hasDict (.list ds) = PyData.hasDictAll ds from rfl, nd] at z; cases z)
    | @tup a xs ds e l =>
      obtain ⟨as, rd, n⟩ := (El.tup e l).reads I ru
      exact byReads (show u = Value.ref a from ru) rd fun _ => n rfl
    | @dic a kvs ds e l =>
      obtain ⟨as, rd, n⟩ := (El.dic e l).reads I ru
      exact byReads (show u = Value.ref a from ru) rd fun _ => n rfl
  | @lst a xs ds e l n =>
    obtain rfl : u = Value.ref a := ru
    obtain ⟨_, its, m, rv, ho⟩ := (show ObjOk X.prog X.w H s.heap a (.lst xs) from I.hok a _ e)
    obtain ⟨as, ra, hn⟩ := l.reads I rv
    have S := shows_lst (P := X.prog) (w := X.w) ho rfl rfl (by simpa using ra) (by simpa [PyData.showable] using sm.s) (fun z => hn (n.resolve_left (by rw [z]; simp))) sm.line
    refine call_repr_slot (by omega) (S.typeIs s fun _ _ e => e) S.slotRepr (S.call X.A.in1 _ s _ hg (by show X.A.units + 1 + _ < cLine; omega) (fun _ _ e => e) fun h' u tk hk => ⟨_, _, rfl, ?_⟩)
    exact ⟨.str _, H, I.kept (t' := tk) hk, ⟨u, rfl⟩, q⟩
  | @tup a xs ds e l n =>
    obtain rfl : u = Value.ref a := ru
    obtain ⟨_, its, rv, o, h1, h2, m, h3⟩ := (show ObjOk X.prog X.w H s.heap a (.tup xs) from I.hok a _ e)
    obtain ⟨as, ra, hn⟩ := l.reads I rv
    exact byReads rfl (.tuple h1 h2 h3 (by simpa using ra)) fun z => hn (n.resolve_left (by rw [show PyData.hasDict (.tuple ds) = PyData.hasDictAll ds from rfl] at z; rw [z]; simp))
end
end Ov

set_option Elab.async false
set_option linter.all false
set_option maxRecDepth 100000
set_option maxHeartbeats 4000000
namespace Ov
open PySem PySem.Spec PyProof.Rows L2 GxR
/-! ### C(e, ..) and C() in the body of a try -/
section
variable {X : Cx} {CX : CXT} {k : Nat} {f C : Addr} {sp : Sp} {E : L2.St → XK} {x : Str} {e : Expr} {es : List Expr} {t : TA} {p pos : Pos}
theorem make_at {pins : List (Addr × Obj)} {σ : L2.St} {H : Hp} {s : Shared} {Q : VK} {us : List Value} {vs : List V} {E : XK} (M : Mk X.K C f) (F : FnR X.prog X.w X.K X.mg X.base CX k f sp) (hr : Room (k + 1) X.A) (hx : PassesAt CX X σ E) (I : Inv X pins σ H s) (r : Vals vs us)
    (h : ∀ y dy, H y = none → H dy = none → dy ≠ y → sp (V.ref y :: vs) (upd (upd H dy (.own y)) y (.ins C dy [])) (fun v H3 => v = .non ∧ Q (.ref y) H3) E) :
    wpAny (model X.prog X.w) X.A (call (.ref C) us) (EP X pins σ Q) X.xe s := by
  have q0 := h (s.heap.objs.size + 1) s.heap.objs.size (I.hok.fresh (Nat.le_succ _)) (I.hok.fresh (Nat.le_refl _)) (Nat.ne_of_lt (Nat.lt_succ_self _))
  have J := Inv.made (C := C) I
  have rr : Vals (V.ref (s.heap.objs.size + 1) :: vs) (Value.ref (s.heap.objs.size + 1) :: us) := .cons rfl r
  have run := F _ X.stack _ _ (Value.ref (s.heap.objs.size + 1) :: us) _ _ E (hr.make C us []) (J.env0.make C us []) rr q0
  refine wpAny_call (make_map (f := f) I.kIn M.makes M.init (beq_iff_eq.mp M.fn) (codeAny_mono run fun z s' hz => ?_))
  cases z with
  | error er => exact hx pins _ _ er s' J hz
  | ok fl =>
    cases fl with
    | next => exact hz.elim
    | brk => exact hz.elim
    | cont => exact hz.elim
    | ret u =>
      obtain ⟨v, H3, I3, rv, ev, q3⟩ := J.after hz
      subst ev
      exact ⟨rv, V.ref (s.heap.objs.size + 1), H3, I3, rfl, q3⟩
def tMakeA (C : Addr) (sp : Sp) (E : L2.St → XK) (t : TA) : TE := fun σ H Q => t σ H fun vs H1 => ∀ y dy, H1 y = none → H1 dy = none → dy ≠ y →
  sp (V.ref y :: vs) (upd (upd H1 dy (.own y)) y (.ins C dy [])) (fun v H3 => v = .non ∧ Q (.ref y) H3) (E σ)
theorem pe_makeA (M : Mk X.K C f) (F : FnR X.prog X.w X.K X.mg X.base CX k f sp) (hr : Room (k + 1) X.A) (hg : Gl X x) (hm : X.mg x = some (.ref C)) (hx : ∀ σ, PassesAt CX X σ (E σ)) (ha : PA X (e :: es) t) (hdb : (x == ("__debug__" : Str)) = false := by decide)
    (hst : starEach (e :: es) X.env = (false, eval e X.env) :: starEach es X.env := by rfl) (hno : (backTo pos (starEach es X.env)).any (·.1) = false := by rfl) : PE X (.Call (.Name x p) (e :: es) [] pos) (tMakeA C sp E t) := by
  refine ⟨fun pins s σ H Q I h => ?_⟩
  refine wpAny_Call_Name_kw (ld_glob I hg hm ?_ hdb)
  refine PySem.W.callWith_K (h₀ := X.base) I.ok.mod.kin M.kp (thn (ha.run pos pins s σ H _ I h) fun us s1 ⟨vs, H1, I1, r, q⟩ => ⟨I1.kIn, ?_⟩) hst hno
  exact make_at M F hr (hx σ) I1 r q
def tMakeA0 (C : Addr) (sp : Sp) (E : L2.St → XK) : TE := fun σ H Q => ∀ y dy, H y = none → H dy = none → dy ≠ y → sp [V.ref y] (upd (upd H dy (.own y)) y (.ins C dy [])) (fun v H3 => v = .non ∧ Q (.ref y) H3) (E σ)
theorem pe_makeA0 (M : Mk X.K C f) (F : FnR X.prog X.w X.K X.mg X.base CX k f sp) (hr : Room (k + 1) X.A) (hg : Gl X x) (hm : X.mg x = some (.ref C)) (hx : ∀ σ, PassesAt CX X σ (E σ)) (hdb : (x == ("__debug__" : Str)) = false := by decide) :
    PE X (.Call (.Name x p) [] [] pos) (tMakeA0 C sp E) := by
  refine ⟨fun pins s σ H Q I h => ?_⟩
  refine wpAny_Call_Name_kw (ld_glob I hg hm ?_ hdb)
  exact PySem.W.callWith_K0 I.kIn M.kp (make_at (us := []) M F hr (hx σ) I .nil h)
end
/-! ### xs.count(z), a list of texts -/
section
variable {X : Cx}
theorem count_isStr {z : Str} : ∀ {us : List Value} {ws : List Str}, StrsAre us ws → us.countP (isStrOf z) = ws.count z
  | _, _, .nil => rfl
  | _, _, .cons y t h => by
    have ih := count_isStr (z := z) h
    rw [List.countP_cons, List.count_cons, ih]
    rfl
def rCntS (K : PySem.W.Frag) : V → List V → Hp → VK → Prop := fun x xs H Q => ∃ (p : Addr) (ws : List Str) (z : Str), x = .ref p ∧ xs = [.str z] ∧ SqL K H p (ws.map V.str) ∧ Q (.int (ws.count z : Nat)) H
theorem mt_countS : MtR X "list.count" (rCntS X.K) := by
  intro pins s σ H x xs v us Q I rx rxs h
  obtain ⟨p, ws, z, rfl, rfl, hs, q⟩ := h
  cases rx
  obtain ⟨u, rfl, ru⟩ := rxs.one
  obtain ⟨t, rfl⟩ := ru
  obtain ⟨its, rv, ⟨⟨c0, d0, dt, sl⟩, n, ho, h1, h2, h3⟩, hlen⟩ := I.list hs
  simp only at h1 h3
  subst h1 h3
  have sa := L2.strs_of_vals rv
  refine call_meets PySem.F.slot_list_count ⟨_, ho, rfl⟩ PySem.F.entry_list_count (PySem.F.args_list_count_2 _ _)
    (SeqAt.list_countAt p its.toArray n d0 sl (.str z t) (isStrOf z)) ⟨ho, fun y hy => (eq_isStrOf z t sa y (by simpa using hy)).at _ _, ?_⟩
  have ec : its.toArray.toList.countP (isStrOf z) = ws.count z := count_isStr sa
  refine ⟨.int (ws.count z : Nat), H, I.tok _, ⟨s.toks, ?_⟩, q⟩
  show Value.int ((its.toArray.toList.countP (isStrOf z) : Nat) : Int) s.toks = _
  rw [ec]
end
end Ov

set_option Elab.async false
set_option linter.all false
set_option maxRecDepth 100000
set_option maxHeartbeats 4000000
/-! rules whose reading names the written part, with that part told (for blocks: comprehensions, a try's body) -/
namespace Ov
open PySem PySem.Spec PyProof.Rows L2 GxR
section
variable {X : Cx} {K : PySem.W.Frag}
theorem ix_K (h : X.K = K) : IxR X (rIx K) := by subst h; exact ix_seq
def rLenS (K : PySem.W.Frag) : List V → Hp → VK → Prop := fun xs H Q => ∃ p ys, xs = [.ref p] ∧ (SqL K H p ys ∨ SqT K H p ys) ∧ Q (.int ys.length) H
theorem len_K (h : X.K = K) : CallR X (.builtin "len") (rLenS K) := by subst h; exact call_len_seq
theorem isi_K (h : X.K = K) : CallR X (.builtin "isinstance") (rIsi K) := by subst h; exact call_isi
theorem in_K (h : X.K = K) : OpR X (compareOp .In) (rIn K false) := by subst h; exact op_in_seq
theorem notIn_K (h : X.K = K) : OpR X (compareOp .NotIn) (rIn K true) := by subst h; exact op_notIn_seq
theorem sl_K (h : X.K = K) : SlR X (rSlL K) := by subst h; exact sl_list
theorem eqD_K (h : X.K = K) (hu : X.A.units + 64 < cLine) : OpR X (compareOp .Eq) (rEqD K) := by subst h; exact op_eqD hu
theorem neD_K (h : X.K = K) (hu : X.A.units + 64 < cLine) : OpR X (compareOp .NotEq) (rNeD K) := by subst h; exact op_neD hu
end
end Ov

set_option Elab.async false
set_option linter.all false
set_option maxRecDepth 100000
set_option maxHeartbeats 4000000
/-! try with several clauses, the first one with a name: what is raised is always of the first one's class -/
namespace Ov
open PySem PySem.Spec PyProof.Rows L2 GxR
def wFirst (K : PySem.W.Frag) (c : Value) (i : Nat) (ts : Addr → Value → Option Addr → TS) (D : Ends) : WX := fun cls d σ H =>
  PySem.W.exmOne K cls c = some true ∧ ∀ b, H b = none → ts b cls d ⟨fun τ G => D.nx (τ.set i none) G, D.rt, fun τ G => D.bk (τ.set i none) G, fun τ G => D.ct (τ.set i none) G⟩ (σ.set i (some (.ref b))) H
section
variable {X : Cx} {x n : Str} {c : Value} {i : Nat} {body suite : List Stmt} {b₀ : Stmt} {hds : List ExceptHandler} {np pos ps' : Pos} {tb : WX → TS} {ts : Addr → Value → Option Addr → TS}
theorem ps_try_first (hst : X.stack = X.env :: X.outer) (hfr : X.env.frame = some X.env.locals) (hN : X.N.Nodup) (hi : X.N[i]? = some n) (hln : X.env.kindOf n = some .local) (hc : Names X x c)
    (hb : ∀ (W : WX) (pn : List (Addr × Obj)) (xe : Value → Shared → Prop), Takes (X.tr pn xe) W → PassesOwn (model X.prog X.w) X.A X.env xe → PSs (X.tr pn xe) body (tb W))
    (hsu : ∀ (b : Addr) (ob : Obj) (cls : Value) (d : Option Addr) (pn : List (Addr × Obj)), Zc cls d ob → (∃ vs, ob.data = .fields vs) → PSs (X.suite b ((b, ob) :: pn)) (b₀ :: suite) (ts b cls d)) :
    PS X (.Try body (.ExceptHandler (some (.Name x np)) (some n) (b₀ :: suite) ps' :: hds) [] [] pos) (fun D σ H => tb (wFirst X.K c i ts D) D σ H) := by
  refine ⟨fun pins s σ H D I h => ?_⟩
  have ok := I.ok
  have fr : X.A.frames = some (X.env :: X.outer) := ok.frames.trans (congrArg some hst)
  refine wpAny_Try_except ?_
  have B := (hb (wFirst X.K c i ts D) (X.pn ++ pins) (fun e s1 => wpAny (model X.prog X.w) X.A (noteFrame e X.env) (fun _ s2 => wpAny (model X.prog X.w) X.A (setFlight e none)
    (fun _ s3 => wpAny (model X.prog X.w) X.A (handleBy e X.env (.ExceptHandler (some (.Name x np)) (some n) (b₀ :: suite) ps' :: hds)) (SP X pins D) X.xe s3) X.xe s2) X.xe s1) (fun u t raised => ?_) PassesOwn.looking).run [] s σ H D (I.toTry _) h
  · refine wpAny_mono B (fun fl s1 hsp => ?_) (fun _ _ he => he)
    cases fl with
    | next => obtain ⟨τ, G, J, q⟩ := hsp; exact wpAny_execs_nil ⟨τ, G, J.ofTry ok, q⟩
    | brk => obtain ⟨τ, G, J, q⟩ := hsp; exact ⟨τ, G, J.ofTry ok, q⟩
    | cont => obtain ⟨τ, G, J, q⟩ := hsp; exact ⟨τ, G, J.ofTry ok, q⟩
    | ret v => obtain ⟨y, τ, G, J, r, q⟩ := hsp; exact ⟨y, τ, G, J.ofTry ok, r, q⟩
  · obtain ⟨b, Z, sI, pins', τ, G, cls, d, rfl, J0, nb, up, sky, na, os, ag, match1, go⟩ := raised
    have J : Inv X pins τ G sI := J0.ofTry ok
    have sky' : Sky Z (X.env :: X.outer) b (Zc cls d) X.env.locals t.heap := by rw [← hst]; exact sky
    show wpAny (model X.prog X.w) X.A (noteFrame (.ref b) X.env) _ _ _
    refine Sky.land Zc.steady fr hfr sky' fun g3 fl3 up3 => ?_
    have J3 : Inv X pins τ G { t with heap := g3 } := J.landed nb fl3.1 (up.trans up3) os ag
    obtain ⟨ob3, vs3, at3, z3, dd3⟩ := fl3.there
    have noFrame : b ∉ frs (X.env :: X.outer) := fun hm => by
      obtain ⟨_, ob', at', hnf⟩ := fl3.2.2.1.mem hm
      rw [at3] at at'
      cases at'
      exact hnf _ dd3
    have nLoc : b ≠ X.env.locals := fun z => noFrame (List.mem_filterMap.mpr ⟨X.env, List.mem_cons_self, by rw [hfr, z]⟩)
    have nFs : b ∉ X.fs := fun hm => by
      obtain ⟨e, he, q⟩ := List.mem_filterMap.mp hm
      exact noFrame (List.mem_filterMap.mpr ⟨e, List.mem_cons_of_mem _ he, q⟩)
    have S3 := J3.suite at3 dd3 na nLoc nFs
    refine wpAny_handleBy_cons (codeAny_handlers_test ?_) (by intro q; cases q)
    have looks : PySem.W.Looks (model X.prog X.w) g3 (typeOf (.ref b)) cls := fun A Q E s k q => wpAny_typeOf_ref (k _ _ at3) (by rw [z3.1]; exact q)
    have tells := PySem.W.exm_one (M := model X.prog X.w) (J3.kIn) looks match1
    have asks : ∀ {Q : Value → Shared → Prop} {E : Value → Shared → Prop}, Q c { t with heap := g3 } → wpAny (model X.prog X.w) (X.A.mark (some (.ref b))) (eval (.Name x np) X.env) Q E { t with heap := g3 } := fun {Q E} q => by
      obtain ⟨hg, hdbg, hm | ⟨hm, hv, hnn⟩⟩ := hc
      · exact ld_glob (X := X.suite b ((b, ob3) :: (X.pn ++ pins))) S3 hg hm q hdbg
      · exact ld_blt (X := X.suite b ((b, ob3) :: (X.pn ++ pins))) S3 hg hm hv q hnn hdbg
    refine asks (tells.here ?_)
    refine codeAny_handlers_suite_as ?_
    refine HandSPX.lands_againZ fl3 fun g4 fl4 up4 => ?_
    have J4 : Inv X pins τ G { t with heap := g4 } := J.landed nb fl4.1 ((up.trans up3).trans up4) os ag
    obtain ⟨ob4, vs4, at4, z4, dd4⟩ := fl4.there
    have S4 := J4.suite at4 dd4 na nLoc nFs
    refine store_ok (X := X.suite b ((b, ob4) :: (X.pn ++ pins))) (v := .ref b) S4 hN hi (.inl hln) rfl (fun s5 S5 => ?_) (.inr hln)
    refine wpAny_mono ((hsu b ob4 cls d (X.pn ++ pins) z4 ⟨_, dd4⟩).run [] s5 _ G _ S5 (go b na)) (fun fl s6 hsp => ?_) (fun _ _ z => z.elim)
    have leave : ∀ {τ6 : L2.St} {G6 : Hp} {Q : Shared → Prop}, Inv (X.suite b ((b, ob4) :: (X.pn ++ pins))) [] τ6 G6 s6 → (∀ s7, Inv X pins (τ6.set i none) G6 s7 → Q s7) →
        wpAny (model X.prog X.w) X.A (do bindName X.env n .none; unbindBehindTheSuite X.env n ps') (fun _ s7 => Q s7) X.xe s6 := fun {τ6 G6 Q} S6 hq => gone_ok (S6.unsuite ok) hN hi hln hq
    cases fl with
    | next => obtain ⟨τ6, G6, S6, q6⟩ := hsp; exact leave S6 fun s7 J7 => ⟨_, _, J7, q6⟩
    | brk => obtain ⟨τ6, G6, S6, q6⟩ := hsp; exact leave S6 fun s7 J7 => ⟨_, _, J7, q6⟩
    | cont => obtain ⟨τ6, G6, S6, q6⟩ := hsp; exact leave S6 fun s7 J7 => ⟨_, _, J7, q6⟩
    | ret u => obtain ⟨v6, τ6, G6, S6, r6, q6⟩ := hsp; exact leave S6 fun s7 J7 => ⟨_, _, _, J7, r6, q6⟩
end
end Ov

set_option Elab.async false
set_option linter.all false
set_option maxRecDepth 100000
set_option maxHeartbeats 4000000
/-! own __len__ and __add__ of instances -/
namespace Ov
open PySem PySem.Spec PyProof.Rows L2 GxR
theorem insAt {X : Cx} {pins : List (Addr × Obj)} {σ : L2.St} {H : Hp} {s : Shared} {a C dx : Addr} {fs : List (Str × V)} (I : Inv X pins σ H s) (h : H a = some (.ins C dx fs)) : ∃ o od, PySem.W.InstAt s.heap a o C od ∧ o.data = .plain := by
  obtain ⟨m, O, _⟩ := ins_get I.hok h
  obtain ⟨od, J, _⟩ := O.look
  exact ⟨_, _, J, rfl⟩
theorem frOf {X : Cx} {pins : List (Addr × Obj)} {σ : L2.St} {H : Hp} {s : Shared} (I : Inv X pins σ H s) : ∃ m, Fr X.base X.env.locals s.heap m := by
  obtain ⟨m, hm, _⟩ := I.loc
  exact ⟨m, hm, fun b o e => (I.bs b o e).1, Nat.le_trans I.ok.bsz I.ok.above⟩
/-- len of an instance of C -/
def rLenI (C : Addr) (sp : Sp) : List V → Hp → VK → Prop := fun xs H Q => ∃ a dx fs, xs = [V.ref a] ∧ H a = some (.ins C dx fs) ∧ sp [.ref a] H (fun v H2 => ∃ n : Nat, v = .int (n : Nat) ∧ n < 2 ^ 62 ∧ Q (.int (n : Nat)) H2) E0
theorem call_lenI {X : Cx} {k : Nat} {C f : Addr} {sp : Sp} (hs : PySem.W.findIn X.K (.ref C) "__len__" = some (some (.ref f))) (hf : PySem.W.isFn X.K (.ref f) = true) (F : FnR X.prog X.w X.K X.mg X.base CX0 k f sp) (hr : Room (k + 1) X.A) : CallR X (.builtin "len") (rLenI C sp) := by
  intro pins s σ H xs us Q I r h
  obtain ⟨a, dx, fs, rfl, ha, q⟩ := h
  obtain ⟨u, rfl, ru⟩ := vals1 r
  obtain rfl : u = Value.ref a := ru
  obtain ⟨o, od, J, _⟩ := insAt I ha
  obtain ⟨m, Fm⟩ := frOf I
  refine PySem.W.len_K Fm I.ok.mod.kin J hs hf ?_
  refine wpAny_call (codeAny_mono (F X.A.in1 X.stack s H [.ref a] [V.ref a] _ E0 hr.in1 I.env0.in1 (.cons rfl .nil) q) fun rr s' hq => ?_)
  cases rr with
  | error e => exact False.elim hq
  | ok fl =>
    cases fl with
    | ret u =>
      obtain ⟨v, H2, I2, rv, n, rfl, hn, q2⟩ := I.after hq
      obtain ⟨t, rfl⟩ := rv
      exact ⟨⟨by omega, by omega⟩, .int (n : Nat), H2, I2.tok _, ⟨_, rfl⟩, q2⟩
    | next => exact False.elim hq
    | brk => exact False.elim hq
    | cont => exact False.elim hq
/-- x + y, instances of C with __add__; in a try's body too -/
def tAddI (C : Addr) (sp : Sp) (E : L2.St → XK) (ta tb : TE) : TE := fun σ H Q => ta σ H fun x H1 => tb σ H1 fun y H2 => ∃ a b dx fs dy gs, x = V.ref a ∧ y = V.ref b ∧ H2 a = some (.ins C dx fs) ∧ H2 b = some (.ins C dy gs) ∧ sp [.ref a, .ref b] H2 (fun v H3 => (∃ p, v = .ref p) ∧ Q v H3) (E σ)
theorem pe_addI {X : Cx} {CX : CXT} {k : Nat} {C f : Addr} {sp : Sp} {E : L2.St → XK} {e1 e2 : Expr} {ta tb : TE} {pos : Pos} (hs : PySem.W.findIn X.K (.ref C) "__add__" = some (some (.ref f))) (hf : PySem.W.isFn X.K (.ref f) = true) (hc : PySem.W.selfFirst X.K C = true)
    (F : FnR X.prog X.w X.K X.mg X.base CX k f sp) (hr : Room k X.A) (hx : ∀ σ, PassesAt CX X σ (E σ)) (h1 : PE X e1 ta) (h2 : PE X e2 tb) : PE X (.BinOp e1 .Add e2 pos) (tAddI C sp E ta tb) := by
  refine ⟨fun pins s σ H Q I h => ?_⟩
  refine wpAny_BinOp (thn (h1.run pins s σ H _ I h) fun v s1 ⟨x, H1, I1, r1, q1⟩ => thn (h2.run pins s1 σ H1 _ I1 q1) fun u s2 ⟨y, H2, I2, r2, q2⟩ => ?_)
  obtain ⟨a, b, dx, fs, dy, gs, rfl, rfl, ha, hb, q⟩ := q2
  obtain rfl : v = Value.ref a := r1
  obtain rfl : u = Value.ref b := r2
  obtain ⟨o, od, J, _⟩ := insAt I2 ha
  obtain ⟨o', od', J', _⟩ := insAt I2 hb
  obtain ⟨m, Fm⟩ := frOf I2
  refine PySem.W.binop_K (op := .Add) Fm I2.ok.mod.kin J J'.type hc hs hf ?_
  refine wpAny_call (codeAny_mono (F X.A X.stack s2 H2 [.ref a, .ref b] [V.ref a, V.ref b] _ (E σ) hr I2.env0 (.cons rfl (.cons rfl .nil)) q) fun rr s' hq => ?_)
  cases rr with
  | error e => exact hx σ _ H2 s2 e s' I2 hq
  | ok fl =>
    cases fl with
    | ret u =>
      obtain ⟨v, H3, I3, rv, ⟨p, rfl⟩, q3⟩ := I2.after hq
      obtain rfl : u = Value.ref p := rv
      exact ⟨.ref p, H3, I3, rfl, q3⟩
    | next => exact False.elim hq
    | brk => exact False.elim hq
    | cont => exact False.elim hq
end Ov

set_option Elab.async false
set_option linter.all false
set_option maxRecDepth 100000
set_option maxHeartbeats 4000000
/-! the end of a law whose defs know the guards -/
namespace Ov
open PySem PySem.Spec PyProof.Rows L2 GxR
/-- as the library's for defs alone, with FnG -/
def LawAtG (l : PySem.W.OpenLaw) (w : World) (K : PySem.W.Frag) (k n : Nat) (x : Str) (mg : Str → Option Value) (fa : Addr) (h : Heap) : Prop :=
  ∃ (fd : FuncData) (cs : List (Addr × Addr)) (sp : Sp), (∀ p ∈ cs, h.get? p.2 = some { cls := .none, data := .fields #[] }) ∧ (∀ p ∈ cs, K.lookup p.2 = none) ∧ (∀ p ∈ cs, PySem.W.CodeHd h p.1 p.2) ∧ (∀ (s : Shared) (u : Value), BindsTo s fd ⟨[u], []⟩ [(x, u)]) ∧
    (∀ (H : Hp) (a : Addr) (ns : List Int), ns.length ≤ n → (∀ p ∈ cs, H p.2 = some (.tbl #[])) → SqL K H a (ns.map V.int) → sp [.ref a] H (fun v _ => v = .bl true) fun _ _ _ => False) ∧
    ∀ base : Heap, K.In base → base.Ns mainGlobals mg → (∀ p ∈ cs, LamX.TabB base mg p.1 p.2) → FnG l.prog w K mg base CX0 k fa fd [x] sp
theorem walk_TG {l : PySem.W.OpenLaw} {n k : Nat} {q : Program} {loose : List Str} {XP : (Str → Option Value) → Heap → Prop} {YP : World → Heap → Prop} {d : DefRec} {K : Params → PySem.W.Frag} {x : Str}
    (hn : l.most = some n) (hn2 : n ≤ sizeLine) (hdf : d.params.defaults = []) (hr : Room k callerA) (hY : ∀ (w : World) (h : Heap), YP w h → (K w.params).In h)
    (F : ∀ (w : World) (mg : Str → Option Value) (fa : Addr) (h : Heap), YP w h → (K w.params).In h → h.Ns mainGlobals mg → mg d.name = some (.ref fa) → TabsT q (K w.params) h → LawAtG l w (K w.params) k n x mg fa h) :
    PySem.W.WalkO q loose XP YP l.row.toRowW d [] (fun f vs => PySem.call f vs) := by
  refine Att.attach_callB hn hdf fun w s₀ s₁ mg mb fa o pm cd doc a vs ns G Y ho hd hcd hmg hobj hints hlen hbits hg => ?_
  have KX := hY w _ Y
  have tabs : TabsT q (K w.params) s₁.heap := fun x c P h1 h2 => by
    obtain ⟨d', hd'⟩ := Option.isSome_iff_exists.mp h1
    exact PySem.W.tab_of G.T KX hd' h2
  obtain ⟨fd, cs, sp, hT, nT, C, hb, hsp, hF⟩ := F w mg fa _ Y KX G.T.g hmg tabs
  exact law_callG KX G.T.g G.T.b G.T.builtins G.T.nolimit hg hT nT C G.T.bmain hobj hints (Nat.le_trans hlen hn2) fun base H KB GB TB env hH hS =>
    (hF base KB GB TB).run callerA [] s₁ H ⟨[.ref a], []⟩ [.ref a] [V.ref a] _ _ rfl hr env (hb s₁ (.ref a)) (.cons rfl .nil) (hsp H a ns hlen hH hS)
end Ov

set_option Elab.async false
set_option linter.all false
set_option maxRecDepth 100000
set_option maxHeartbeats 4000000
namespace Ov
open PySem PySem.Spec PyProof.Rows L2 GxR
theorem iteT' {b : Bool} {A B : Prop} (e : b = true) (h : A) : if b = true then A else B := by rw [if_pos e]; exact h
theorem iteF' {b : Bool} {A B : Prop} (e : b = false) (h : B) : if b = true then A else B := by rw [if_neg (by rw [e]; decide)]; exact h
def top (i : Nat) : Stmt := PySem.Challenge.pw_overstamps_k01_stamps_recognized.main.body.getD i (.Pass ⟨0, 0, 0, 0⟩)
abbrev sLow : Stmt := top 12
abbrev sText : Stmt := top 13
abbrev sAre : Stmt := top 15
abbrev sInit : Stmt := inClass (top 17) 1
abbrev sOf : Stmt := inClass (top 17) 2
abbrev sTape : Stmt := top 19
abbrev sNext : Stmt := top 20
abbrev sInks : Stmt := top 21
/-! ### what the top has left -/
structure Txt (K : PySem.W.Frag) (mg : Str → Option Value) (C fLow fText fAre fTape fNext fInks : Addr) : Prop where
  all : mg "all" = none
  len : mg "len" = none
  isi : mg "isinstance" = none
  str : mg "str" = none
  lst : mg "list" = none
  set : mg "set" = none
  abs : mg "abs" = none
  max : mg "max" = none
  min : mg "min" = none
  rng : mg "range" = none
  gTape : mg "_law_tape" = some (.ref fTape)
  kTape : PySem.W.keepIn K (.ref fTape) = true
  gNext : mg "_law_next" = some (.ref fNext)
  kNext : PySem.W.keepIn K (.ref fNext) = true
  gInks : mg "_law_inks" = some (.ref fInks)
  kInks : PySem.W.keepIn K (.ref fInks) = true
  gLow : mg "is_lowercase" = some (.ref fLow)
  kLow : PySem.W.keepIn K (.ref fLow) = true
  gText : mg "is_text" = some (.ref fText)
  kText : PySem.W.keepIn K (.ref fText) = true
  gAre : mg "are_stamps" = some (.ref fAre)
  kAre : PySem.W.keepIn K (.ref fAre) = true
  gC : mg "Stamps" = some (.ref C)
  widest : ∃ t, mg "WIDEST" = some (.int 8 t)
  letters : ∃ t, mg "MOST_LETTERS" = some (.int 36 t)
  rd : ClX.CRead K C (.type "type")
  most : ∃ t, ClX.CVal K C (.type "type") "MOST" (.int 6) (.int 6 t)
/-- where the tables stand -/
structure Tab (base : Heap) (mg : Str → Option Value) (T : List Addr) (cLow PLow cAre PAre : Addr) : Prop where
  low : TabB base mg cLow PLow
  are : TabB base mg cAre PAre
  lowT : PLow ∈ T
  areT : PAre ∈ T
section
variable {P : Program} {w : World} {K : PySem.W.Frag} {mg : Str → Option Value} {base : Heap} {T : List Addr} {C fLow fText fAre fTape fNext fInks cLow PLow cAre PAre : Addr}
/-! ### is_lowercase -/
def spLow (T : List Addr) : Sp := fun vs H Q _ => ∃ z : Str, vs = [.str z] ∧ (∀ p ∈ T, TabG H p) ∧ ∀ H2, Tbs T H H2 → Q (.bl (lowB z)) H2
theorem scLow : FnScope ["text"] ["text"] (defScope sLow) := ⟨rfl, rfl, rfl, by decide +kernel, rfl, by decide +kernel, by decide +kernel⟩
theorem sign_le (c : Nat) : (!decide (([c] : List Nat) < ("a" : Str).cps.toList)) = decide (97 ≤ c) := by
  have e : ("a" : Str).cps.toList = [97] := by rfl
  rw [e]
  have h := one_lt c 97
  by_cases q : 97 ≤ c
  · have : ¬ ([c] < [97]) := fun z => by have := h.mp z; omega
    simp [q, this]
  · have : [c] < [97] := h.mpr (by omega)
    simp [q, this]
theorem sign_ge (c : Nat) : (!decide (("z" : Str).cps.toList < ([c] : List Nat))) = decide (c ≤ 122) := by
  have e : ("z" : Str).cps.toList = [122] := by rfl
  rw [e]
  have h := one_lt 122 c
  by_cases q : c ≤ 122
  · have : ¬ ([122] < [c]) := fun z => by have := h.mp z; omega
    simp [q, this]
  · have : [122] < [c] := h.mpr (by omega)
    simp [q, this]
theorem ok_low {f : Addr} {fd : FuncData} (F : FunC K "is_lowercase" "is_lowercase" sLow f fd cLow) (X : Txt K mg C fLow fText fAre fTape fNext fInks) (B : Tab base mg T cLow PLow cAre PAre) : FnOk P w K mg base CX0 2 f fd ["text"] (spLow T) := by
  refine F.ok scLow (fun vs H Q E h => ?_) (fun A outer s H vs Q E hr h => ?_)
  · obtain ⟨z, rfl, _⟩ := h
    rfl
  · obtain ⟨z, rfl, hT, k⟩ := h
    refine ⟨_, pss_one (ps_ret (pe_allG (k := 0) (cs := []) (pick := []) rfl hr (by rfl) X.all (by decide +kernel) B.low rfl (genN_by (sc := defScope sLow) (N := ["text"]) rfl rfl (fun y h => cell_has h) (by decide +kernel))
      (pi_str (pv 0)) (fun s H code C A fp pn hr => pe_chain op_le_str op_le_str pe_str (pv 0) pe_str))), ?_⟩
    refine ⟨_, rfl, z, rfl, hT _ B.lowT, fun H2 h2 => ?_⟩
    refine all_str (fun c => decide (97 ≤ c) && decide (c ≤ 122)) (fun c R hR => ?_) (k _ (Tbs.of1 hT B.lowT h2))
    refine ⟨_, rfl, _, _, rfl, rfl, _, rfl, ?_⟩
    have e1 := sign_le c
    have e2 := sign_ge c
    by_cases h1 : 97 ≤ c
    · refine iteT' (by rw [e1]; simpa using h1) ?_
      refine ⟨_, _, rfl, rfl, ?_⟩
      rw [e2]
      simpa [h1] using hR
    · refine iteF' (by rw [e1]; simpa using h1) ?_
      simpa [h1] using hR
/-! ### is_text -/
def textB (z : Str) (m : Int) : Bool := decide (1 ≤ (z.length : Int)) && decide ((z.length : Int) ≤ m) && lowB z
def spText (K : PySem.W.Frag) (T : List Addr) : Sp := fun vs H Q _ => ∃ (x : V) (m : Int), vs = [x, .int m] ∧ (∀ p ∈ T, TabG H p) ∧
  ((∃ z : Str, x = .str z ∧ z.length ≤ sizeLine ∧ ∀ H2, Tbs T H H2 → Q (.bl (textB z m)) H2) ∨ (∃ t, TyX K H x t ∧ PySem.W.kitOne K t (.type "str") = some false ∧ Q (.bl false) H))
theorem scText : FnScope ["thing", "most"] ["thing", "most"] (defScope sText) := ⟨rfl, rfl, rfl, by decide +kernel, rfl, by decide +kernel, by decide +kernel⟩
theorem ok_text {f : Addr} {fd fdL : FuncData} (F : L2.Fun K "is_text" "is_text" sText f fd) (FL : FunC K "is_lowercase" "is_lowercase" sLow fLow fdL cLow) (X : Txt K mg C fLow fText fAre fTape fNext fInks) (B : Tab base mg T cLow PLow cAre PAre) : FnOk P w K mg base CX0 3 f fd ["thing", "most"] (spText K T) := by
  refine F.ok scText (fun vs H Q E h => ?_) (fun cdv A outer s H vs Q E hr h => ?_)
  · obtain ⟨x, m, rfl, _⟩ := h
    rfl
  · obtain ⟨x, m, rfl, hT, k⟩ := h
    refine ⟨_, pss_one (ps_ret (pe_and (pe_callB call_isi (by rfl) X.isi boot_isinstance (pa_cons (pv 0) (pa_cons (pe_bltn (v := .ty "str") (by rfl) X.str PySem.Pv.boot_str rfl) pa_nil)))
      (pe_and (pe_chain op_le op_le pe_int (pe_callB call_len_str (by rfl) X.len boot_len (pa_cons (pv 0) pa_nil)) (pv 1))
        (pe_one (pe_call (ok_low FL X B) hr (by rfl) X.gLow X.kLow (FL.toFun.binds fun _ _ _ _ _ _ us hl => match us, hl with | [_], _ => rfl) .nil L2.pass0 (pa_cons (pv 0) pa_nil)))))), ?_⟩
    rcases k with ⟨z, rfl, hz, k⟩ | ⟨t, ht, hk, k⟩
    · refine ⟨_, rfl, _, _, _, _, _, rfl, .ty _, .base (.str _), kit_ty (r := true) (by decide +kernel), true, rfl, ?_⟩
      refine iteT ?_
      refine ⟨_, rfl, z, rfl, hz, _, _, rfl, rfl, _, rfl, ?_⟩
      by_cases h1 : 1 ≤ (z.length : Int)
      · refine iteT' (by simpa using h1) ?_
        refine ⟨_, rfl, _, _, rfl, rfl, _, rfl, ?_⟩
        by_cases h2 : (z.length : Int) ≤ m
        · refine iteT' (by simpa using h2) ?_
          refine ⟨_, rfl, z, rfl, hT, fun H2 q => ?_⟩
          have := k H2 q
          unfold textB at this
          simpa [h1, h2] using this
        · refine iteF' (by simpa using h2) ?_
          have := k H (.refl hT)
          unfold textB at this
          simpa [h1, h2] using this
      · refine iteF' (by simpa using h1) ?_
        refine ⟨_, rfl, ?_⟩
        refine iteF ?_
        have := k H (.refl hT)
        unfold textB at this
        simpa [h1] using this
    · refine ⟨_, rfl, _, _, _, _, _, rfl, .ty _, ht, hk, false, rfl, ?_⟩
      exact iteF k
/-! ### are_stamps -/
def isTextV : V → Bool
  | .str z => textB z 8
  | _ => false
def strV : V → Str
  | .str z => z
  | _ => Str.empty
/-- the words, once each of them is a text -/
def tailB (ws : List Str) : Bool := ws.all (fun z => decide (z.length = (ws.headD Str.empty).length)) && (decide ((once ws).length = ws.length) && decide ((ws.headD Str.empty).length * ws.length ≤ 36))
def stampsV (xs : List V) : Bool := decide (1 ≤ xs.length) && (decide (xs.length ≤ 6) && (xs.all isTextV && tailB (xs.map strV)))
theorem isTextV_str {x : V} (h : isTextV x = true) : x = .str (strV x) ∧ (strV x).length ≤ 8 := by
  cases x with
  | str z =>
    refine ⟨rfl, ?_⟩
    unfold isTextV textB at h
    simp only [Bool.and_eq_true, decide_eq_true_eq] at h
    show z.length ≤ 8
    omega
  | _ => cases h
theorem all_str_eq {xs : List V} (h : xs.all isTextV = true) : xs = (xs.map strV).map V.str ∧ ∀ z ∈ xs.map strV, z.length ≤ 8 := by
  rw [List.all_eq_true] at h
  refine ⟨?_, fun z hz => ?_⟩
  · rw [List.map_map]
    conv => lhs; rw [← List.map_id xs]
    exact List.map_congr_left fun x hx => (isTextV_str (h x hx)).1
  · obtain ⟨x, hx, rfl⟩ := List.mem_map.mp hz
    exact (isTextV_str (h x hx)).2
def spAre (K : PySem.W.Frag) (T : List Addr) : Sp := fun vs H Q _ => ∃ (a : Addr) (xs : List V), vs = [.ref a] ∧ (∀ p ∈ T, TabG H p) ∧ SqT K H a xs ∧ xs.length ≤ 4000 ∧
  (∀ x ∈ xs, (∃ z : Str, x = .str z ∧ z.length ≤ sizeLine) ∨ (isTextV x = false ∧ ∃ t, PySem.W.kitOne K t (.type "str") = some false ∧ ∀ H2, Tbs T H H2 → TyX K H2 x t)) ∧ ∀ H2, Tbs T H H2 → Q (.bl (stampsV xs)) H2
theorem scAre : FnScope ["words", "width"] ["words"] (defScope sAre) := ⟨rfl, rfl, rfl, by decide +kernel, rfl, by decide +kernel, by decide +kernel⟩
theorem ok_are {f : Addr} {fd fdT fdL : FuncData} (F : FunC K "are_stamps" "are_stamps" sAre f fd cAre) (FT : L2.Fun K "is_text" "is_text" sText fText fdT) (FL : FunC K "is_lowercase" "is_lowercase" sLow fLow fdL cLow) (X : Txt K mg C fLow fText fAre fTape fNext fInks) (B : Tab base mg T cLow PLow cAre PAre) : FnOk P w K mg base CX0 5 f fd ["words"] (spAre K T) := by
  refine F.ok scAre (fun vs H Q E h => ?_) (fun A outer s H vs Q E hr h => ?_)
  · obtain ⟨a, xs, rfl, _⟩ := h
    rfl
  · obtain ⟨a, xs, rfl, hT, hs, hn, hx, k⟩ := h
    obtain ⟨t8, g8⟩ := X.widest
    obtain ⟨t36, g36⟩ := X.letters
    refine ⟨_, pss_cons (ps_if (pt_not (pt_chain op_le op_le pe_int (pe_callB call_len_seq (by rfl) X.len boot_len (pa_cons (pv 0) pa_nil)) (ClX.pe_cval (pe_glob (v := .ref C) (by rfl) X.gC rfl)))) (pss_one (ps_ret pe_bl)) pss_nil)
      (pss_cons (ps_if (pt_not (pt_val (pe_allG (k := 3) (cs := []) (pick := []) rfl hr (by rfl) X.all (by decide +kernel) B.are rfl (genN_by (sc := defScope sAre) (N := ["words", "width"]) rfl rfl (fun y h => cell_has h) (by decide +kernel))
        (pi_tup (pv 0)) (fun s H code C A fp pn hr => pe_call (ok_text FT FL X B) hr (by rfl) X.gText X.kText (FT.binds fun _ _ _ _ _ _ us hl => match us, hl with | [_, _], _ => rfl) .nil L2.pass0 (pa_cons (pv 0) (pa_cons (pe_glob (v := .int 8) (by rfl) g8 ⟨_, rfl⟩) pa_nil)))))) (pss_one (ps_ret pe_bl)) pss_nil)
      (pss_cons (ps_set (i := 1) scAre.nd rfl (.inr rfl) (pe_callB call_len_str (by rfl) X.len boot_len (pa_cons (pe_ix ix_seq (pv 0) pe_int fun _ _ => rfl) pa_nil)))
      (pss_cons (ps_if (pt_not (pt_val (pe_allG (k := 3) (cs := ["width"]) (pick := [1]) rfl hr (by rfl) X.all (by decide +kernel) B.are rfl (genN_by (sc := defScope sAre) (N := ["words", "width"]) rfl rfl (fun y h => cell_has h) (by decide +kernel))
        (pi_tup (pv 0)) (fun s H code C A fp pn hr => pe_cmpR op_eq (pe_callB call_len_str (by rfl) X.len boot_len (pa_cons (pv 0) pa_nil)) (pv 1) (by rfl))))) (pss_one (ps_ret pe_bl)) pss_nil)
      (pss_one (ps_ret (pe_and (pe_cmpR op_eq (pe_lenOnce rfl (by rfl) X.len (by rfl) X.set (pv 0)) (pe_callB call_len_seq (by rfl) X.len boot_len (pa_cons (pv 0) pa_nil)) (by rfl))
        (pe_one (pe_cmpR op_le (pe_op op_mul (pv 1) (pe_callB call_len_seq (by rfl) X.len boot_len (pa_cons (pv 0) pa_nil))) (pe_glob (v := .int 36) (by rfl) g36 ⟨_, rfl⟩) (by rfl))))))))), ?_⟩
    obtain ⟨tm, hm⟩ := X.most
    refine ⟨_, rfl, a, xs, rfl, .inr hs, _, _, rfl, rfl, _, rfl, ?_⟩
    by_cases h1 : 1 ≤ xs.length
    case neg =>
      refine iteF' (by simp; omega) ⟨_, rfl, iteT ?_⟩
      have := k H (.refl hT)
      unfold stampsV at this
      rw [decide_eq_false h1, Bool.false_and] at this
      exact this
    refine iteT' (by simp; omega) ⟨C, _, _, _, rfl, X.rd, hm, _, _, rfl, rfl, _, rfl, ?_⟩
    by_cases h2 : xs.length ≤ 6
    case neg =>
      refine iteT' (by simp; omega) ?_
      have := k H (.refl hT)
      unfold stampsV at this
      rw [decide_eq_false h2, Bool.false_and, Bool.and_false] at this
      exact this
    refine iteF' (by simp; omega) ?_
    refine ⟨_, rfl, a, rfl, ⟨xs, hs⟩, hT _ B.areT, fun H2 h2' => ?_⟩
    refine all_tup isTextV (Tbs T H) (Tbs.of1 hT B.areT h2') (fun H1 q => q.kep.seqT hT hs) (fun x hxm H1 q R hR => ?_) (fun H1 q => ?_)
    · refine ⟨x, rfl, x, 8, rfl, q.1, ?_⟩
      rcases hx x hxm with ⟨z, rfl, hz⟩ | ⟨hf, t, hk, ht⟩
      · exact .inl ⟨z, rfl, hz, fun H3 q3 => hR H3 (q.trans q3)⟩
      · refine .inr ⟨t, ht H1 q, hk, ?_⟩
        rw [hf] at hR
        exact hR H1 q
    refine ⟨_, rfl, ?_⟩
    cases hall : xs.all isTextV with
    | false =>
      refine iteT ?_
      have := k H1 q
      unfold stampsV at this
      rw [hall, Bool.false_and, Bool.and_false, Bool.and_false] at this
      exact this
    | true =>
    refine iteF ?_
    obtain ⟨hws, hle⟩ := all_str_eq hall
    generalize hw : xs.map strV = ws at hws hle
    have hl : ws.length = xs.length := by rw [← hw, List.length_map]
    have hb : stampsV xs = tailB ws := by
      unfold stampsV
      rw [decide_eq_true h1, decide_eq_true h2, hall, hw]; rfl
    rw [hb] at k
    subst hws
    clear hall hb hx
    obtain ⟨z0, zs, rfl⟩ : ∃ z0 zs, ws = z0 :: zs := by
      cases ws with
      | nil => simp at h1
      | cons z0 zs => exact ⟨z0, zs, rfl⟩
    have hz0 : z0.length ≤ 8 := hle z0 List.mem_cons_self
    have hs1 : SqT K H1 a ((z0 :: zs).map V.str) := q.kep.seqT hT hs
    have h8 : (8 : Nat) ≤ sizeLine := by decide
    have hsz : ∀ z ∈ z0 :: zs, z.length ≤ sizeLine := fun z hz => Nat.le_trans (hle z hz) h8
    refine ⟨_, rfl, .inr (.inl ⟨a, _, 0, .str z0, rfl, rfl, hs1, by simp [atI, ixN], z0, rfl, hsz z0 List.mem_cons_self, ?_⟩)⟩
    refine ⟨_, rfl, a, rfl, ⟨_, hs1⟩, q.1 _ B.areT, fun H3 h3 => ?_⟩
    refine all_tup (fun x => decide ((strV x).length = z0.length)) (Tbs T H) (q.trans (Tbs.of1 q.1 B.areT h3)) (fun H1 q => q.kep.seqT hT hs) (fun x hxm H1 q R hR => ?_) (fun H4 q4 => ?_)
    · obtain ⟨z, hz, rfl⟩ := List.mem_map.mp hxm
      refine ⟨_, rfl, z, rfl, hsz z hz, _, rfl, rfl, ?_⟩
      have := hR H1 q
      have e : decide (V.int (z.length : Nat) = V.int (z0.length : Nat)) = decide ((strV (V.str z)).length = z0.length) := by
        show _ = decide (z.length = z0.length)
        rw [Bool.eq_iff_iff]
        simp
        omega
      rw [← e] at this
      exact this
    refine ⟨_, rfl, ?_⟩
    have e1 : ((z0 :: zs).map V.str).all (fun x => decide ((strV x).length = z0.length)) = (z0 :: zs).all (fun z => decide (z.length = z0.length)) := by
      rw [List.all_map]; rfl
    have hs4 : SqT K H4 a ((z0 :: zs).map V.str) := q4.kep.seqT hT hs
    have k4 : Q (.bl ((z0 :: zs).all (fun z => decide (z.length = z0.length)) && (decide ((once (z0 :: zs)).length = (z0 :: zs).length) && decide (z0.length * (z0 :: zs).length ≤ 36)))) H4 := k H4 q4
    rw [e1]
    cases hal : (z0 :: zs).all (fun z => decide (z.length = z0.length)) with
    | false =>
      refine iteT ?_
      rw [hal, Bool.false_and] at k4
      exact k4
    | true =>
      rw [hal, Bool.true_and] at k4
      refine iteF ?_
      have hln : ((z0 :: zs).map V.str).length = (z0 :: zs).length := List.length_map ..
      refine ⟨_, rfl, a, z0 :: zs, rfl, hs4, by rw [← hln]; exact hn, _, rfl, a, _, rfl, .inr hs4, rfl, _, rfl, ?_⟩
      have e2 : decide (V.int ((once (z0 :: zs)).length : Nat) = V.int (((z0 :: zs).map V.str).length : Nat)) = decide ((once (z0 :: zs)).length = (z0 :: zs).length) := by
        rw [hln, Bool.eq_iff_iff]
        simp
        omega
      rw [e2]
      by_cases h5 : (once (z0 :: zs)).length = (z0 :: zs).length
      case neg =>
        refine iteF' (decide_eq_false h5) ?_
        rw [decide_eq_false h5, Bool.false_and] at k4
        exact k4
      refine iteT' (decide_eq_true h5) ?_
      rw [decide_eq_true h5, Bool.true_and] at k4
      refine ⟨_, rfl, _, rfl, a, _, rfl, .inr hs4, _, _, rfl, rfl, .inl ⟨by omega, by omega⟩, _, _, rfl, rfl, ?_⟩
      have e3 : decide ((z0.length : Int) * (((z0 :: zs).map V.str).length : Nat) ≤ 36) = decide (z0.length * (z0 :: zs).length ≤ 36) := by
        rw [hln, Bool.eq_iff_iff]
        simp only [decide_eq_true_eq]
        constructor <;> intro h
        · exact_mod_cast h
        · exact_mod_cast h
      rw [← e3] at k4
      exact k4
end
/-! ### Stamps -/
structure ErrC (K : PySem.W.Frag) (mg : Str → Option Value) (x : Str) (D : Addr) : Prop where
  e : PySem.W.excIn K D [.type "ValueError", .type "Exception", .type "BaseException", .type "object"] "ValueError.__new__" = true
  g : mg x = some (.ref D)
  k : PySem.W.keepIn K (.ref D) = true
  b : PySem.W.subIn K (.ref D) (.type "BaseException") = some true
  t : PySem.W.typeIn K (.ref D) = some (.type "type")
/-- what stood stands, but for the tables and the object at a -/
def KepX (T : List Addr) (a : Addr) (H H' : Hp) : Prop := (∀ P ∈ T, TabG H' P) ∧ ∀ b o, b ∉ T → b ≠ a → H b = some o → H' b = some o
/-- an object of the program: a text, or something else -/
def Wd (K : PySem.W.Frag) (T : List Addr) (H : Hp) (x : V) : Prop := (∃ z : Str, x = .str z ∧ z.length ≤ sizeLine) ∨ (isTextV x = false ∧ ∃ t, PySem.W.kitOne K t (.type "str") = some false ∧ ∀ H2, Kep T H H2 → TyX K H2 x t)
/-- stamps stand at a: their list at l -/
def Stp (H : Hp) (C a l dx : Addr) (xs : List V) : Prop := H a = some (.ins C dx [("_words", .ref l)]) ∧ H l = some (.lst xs)
def spInit (K : PySem.W.Frag) (T : List Addr) (C D : Addr) : Sp := fun vs H Q E => ∃ (a dx : Addr) (xs : List V), vs = V.ref a :: xs ∧ H a = some (.ins C dx []) ∧ (∀ p ∈ T, TabG H p) ∧ xs.length ≤ 4000 ∧ (∀ x ∈ xs, Wd K T H x) ∧
  (stampsV xs = true → ∀ H3 l, H l = none → l ∉ T → l ≠ a → Stp H3 C a l dx xs → KepX T a H H3 → Q .non H3) ∧ (stampsV xs = false → ∀ H3, Kep T H H3 → E (.ref D) none H3)
theorem scInit : FnScope ["self", "words"] ((["self"] : List Str) ++ (["words"] : List Str)) (defScope sInit) := ⟨rfl, rfl, rfl, by decide +kernel, rfl, by decide +kernel, by decide +kernel⟩
structure Own (K : PySem.W.Frag) (C : Addr) : Prop where
  cls : Cls K C
  noW : NoAttr K C "_words"
section
variable {P : Program} {w : World} {K : PySem.W.Frag} {mg : Str → Option Value} {base : Heap} {T : List Addr} {C D fLow fText fAre fTape fNext fInks fInit cLow PLow cAre PAre : Addr}
theorem Kep.ty {H H1 H2 : Hp} (h : Kep T H H1) (h2 : Tbs T H1 H2) : Kep T H H2 := h.trans h2.kep
theorem ok_init {fd fdA fdT fdL : FuncData} (F : L2.Fun K "__init__" "Stamps.__init__" sInit fInit fd) (FA : FunC K "are_stamps" "are_stamps" sAre fAre fdA cAre) (FT : L2.Fun K "is_text" "is_text" sText fText fdT) (FL : FunC K "is_lowercase" "is_lowercase" sLow fLow fdL cLow) (X : Txt K mg C fLow fText fAre fTape fNext fInks) (B : Tab base mg T cLow PLow cAre PAre) (O : Own K C) (Er : ErrC K mg "InvalidStamps" D) :
    FnR P w K mg base (L2.CX P w) 6 fInit (spInit K T C D) := by
  obtain ⟨oc, od, kV, doc, pm, an, cdv, ct, osl, rfl, lk, hcd⟩ := F.ex
  have R := StX.fn_star (CX := L2.CX P w) (P := P) (w := w) (mg := mg) (base := base) (ps := ["self"]) (pv := "words") (N := ["self", "words"]) (k := 5)
    (sp := fun vs H Q E => ∃ (a p dx : Addr) (xs : List V), vs = [.ref a, .ref p] ∧ H p = some (.tup xs) ∧ H a = some (.ins C dx []) ∧ p ∉ T ∧ (∀ p ∈ T, TabG H p) ∧ xs.length ≤ 4000 ∧ (∀ x ∈ xs, Wd K T H x) ∧
      (stampsV xs = true → ∀ H3 l, H l = none → l ∉ T → l ≠ a → Stp H3 C a l dx xs → KepX T a H H3 → Q .non H3) ∧ (stampsV xs = false → ∀ H3, Kep T H H3 → E (.ref D) none H3))
    lk hcd scInit StX.cxUp (StX.bind_star1 (B := fun us => bindArgs _ ⟨us, []⟩) (fun _ => rfl) (fun _ _ _ => rfl)) (fun A outer s H vs Q E hr h => ?_)
  · intro A outer s H us vs Q E hr e0 r h
    refine R A outer s H us vs Q E hr e0 r ?_
    obtain ⟨a, dx, xs, rfl, ha, hT, hn, hx, k1, k2⟩ := h
    have hz : xs.length ≤ sizeLine := Nat.le_trans hn (by decide)
    refine ⟨[.ref a], xs, rfl, rfl, hz, fun p hp => ?_⟩
    have hpT : p ∉ T := free_tab hT hp
    have kn : Kep T H (upd H p (.tup xs)) := Kep.new hT hp
    have hpa : a ≠ p := ne_of_none ha hp
    refine ⟨a, p, dx, xs, rfl, upd_same, (upd_ne hpa).trans ha, hpT, kn.1, hn, fun x hx' => ?_, fun hv H3 l hl hlT hla st kx => ?_, fun hv H3 k => k2 hv H3 (kn.trans k)⟩
    · rcases hx x hx' with z | ⟨z1, t, z2, z3⟩
      · exact .inl z
      · exact .inr ⟨z1, t, z2, fun H2 q => z3 H2 (kn.trans q)⟩
    · have hl' : H l = none := kn.free hT hl
      exact k1 hv H3 l hl' hlT hla st ⟨kx.1, fun b o hb hba e => kx.2 b o hb hba (kn.2 b o hb e)⟩
  · obtain ⟨a, p, dx, xs, rfl, hp, ha, hpT, hT, hn, hx, k1, k2⟩ := h
    refine ⟨_, pss_cons (ps_if (pt_not (pt_val (pe_call (ok_are FA FT FL X B) hr (by rfl) X.gAre X.kAre (FA.toFun.binds fun _ _ _ _ _ _ us hl => match us, hl with | [_], _ => rfl) .nil L2.pass0 (pa_cons (pv 1) pa_nil))))
      (pss_one (ps_raise rfl (takes_of rfl rfl rfl rfl) (pmk_own PySem.F.excBase_ValueError Er.e Er.g Er.k (raises_own Er.b Er.t) (by rfl)))) pss_nil)
      (pss_one (ps_fld (pv 0) (pe_callTy call_list_of (by rfl) X.lst (by decide +kernel) (pa_cons (pv 1) pa_nil)) (by rfl))), ?_⟩
    refine ⟨_, rfl, p, xs, rfl, hT, .inl (.inl hp), hn, fun x hx' => ?_, fun H2 h2 => ⟨_, rfl, ?_⟩⟩
    · rcases hx x hx' with z | ⟨z1, t, z2, z3⟩
      · exact .inl z
      · exact .inr ⟨z1, t, z2, fun H2 q => z3 H2 q.kep⟩
    have hp2 : H2 p = some (.tup xs) := h2.kep.at hT hp fun _ z => by cases z
    have ha2 : H2 a = some (.ins C dx []) := h2.kep.at hT ha fun _ z => by cases z
    cases hv : stampsV xs with
    | false => exact iteT (k2 hv H2 h2.kep)
    | true =>
      refine iteF ?_
      refine ⟨_, rfl, p, xs, rfl, .inr (.inl (.inl hp2)), fun l hl => ⟨_, rfl, a, C, dx, [], rfl, ?_, O.cls, O.noW, by decide, ?_⟩⟩
      · exact (upd_ne (ne_of_none ha2 hl)).trans ha2
      · have hla : l ≠ a := fun z => by rw [z, ha2] at hl; cases hl
        have hlT : l ∉ T := free_tab h2.1 hl
        have haT : a ∉ T := not_tab hT ha fun _ z => by cases z
        refine k1 hv _ l (h2.kep.free hT hl) hlT hla ⟨upd_same, (upd_ne hla).trans upd_same⟩ ⟨fun q hq => ?_, fun b o hb hba e => ?_⟩
        · obtain ⟨ps, h1, h2'⟩ := h2.1 q hq
          exact ⟨ps, (upd_ne (show q ≠ a from fun z => haT (z ▸ hq))).trans ((upd_ne (show q ≠ l from fun z => hlT (z ▸ hq))).trans h1), h2'⟩
        · have e2 := h2.kep.2 b o hb e
          exact (upd_ne hba).trans ((upd_ne (ne_of_none e2 hl)).trans e2)
theorem KepX.kep {H H1 H3 : Hp} {a : Addr} (k : Kep T H H1) (ha : H a = none) (x : KepX T a H1 H3) : Kep T H H3 := ⟨x.1, fun b o hb e => x.2 b o hb (ne_of_none e ha) (k.2 b o hb e)⟩
theorem Wd.kep {H H1 : Hp} {x : V} (k : Kep T H H1) (h : Wd K T H x) : Wd K T H1 x := by
  rcases h with z | ⟨z1, t, z2, z3⟩
  · exact .inl z
  · exact .inr ⟨z1, t, z2, fun H2 q => z3 H2 (k.trans q)⟩
/-- a new object with its dict -/
theorem Kep.made {H : Hp} {x dx C : Addr} (hT : ∀ p ∈ T, TabG H p) (hx : H x = none) (hdx : H dx = none) (hne : dx ≠ x) : Kep T H (upd (upd H dx (.own x)) x (.ins C dx [])) :=
  (Kep.new hT hdx).trans (Kep.new (Kep.new hT hdx).1 ((upd_ne hne.symm).trans hx))
/-- C(*xs) for stamps: what it asks -/
def Makes (K : PySem.W.Frag) (T : List Addr) (C D : Addr) (H : Hp) (xs : List V) (Q : VK) (E : XK) : Prop := (∀ p ∈ T, TabG H p) ∧ xs.length ≤ 4000 ∧ (∀ x ∈ xs, Wd K T H x) ∧
  (stampsV xs = true → ∀ H3 a l dx, H a = none → H l = none → H dx = none → a ∉ T → l ∉ T → Stp H3 C a l dx xs → Kep T H H3 → Q (.ref a) H3) ∧ (stampsV xs = false → ∀ H3, Kep T H H3 → E (.ref D) none H3)
theorem Makes.init {H : Hp} {xs : List V} {Q : VK} {E : XK} (m : Makes K T C D H xs Q E) {x dx : Addr} (hx : H x = none) (hdx : H dx = none) (hne : dx ≠ x) :
    spInit K T C D (V.ref x :: xs) (upd (upd H dx (.own x)) x (.ins C dx [])) (fun v H2 => v = .non ∧ Q (.ref x) H2) E := by
  obtain ⟨hT, hn, hw, k1, k2⟩ := m
  have kn : Kep T H (upd (upd H dx (.own x)) x (.ins C dx [])) := Kep.made hT hx hdx hne
  exact ⟨x, dx, xs, rfl, upd_same, kn.1, hn, fun y hy => (hw y hy).kep kn, fun hv H3 l hl hlT hla st kx => ⟨rfl, k1 hv H3 x l dx hx (kn.free hT hl) hdx (free_tab hT hx) hlT st (KepX.kep kn hx kx)⟩, fun hv H3 k => k2 hv H3 (kn.trans k)⟩
def spOf (K : PySem.W.Frag) (T : List Addr) (C D : Addr) : Sp := fun vs H Q E => ∃ y, vs = [V.ref C, y] ∧
  ((∃ p xs, y = V.ref p ∧ H p = some (.lst xs) ∧ Makes K T C D H xs Q E) ∨ (∃ t, TyX K H y t ∧ PySem.W.kitOne K t (.type "list") = some false ∧ E (.ref D) none H))
theorem scOf : FnScope ["cls", "words"] ["cls", "words"] (defScope sOf) := ⟨rfl, rfl, rfl, by decide +kernel, rfl, by decide +kernel, by decide +kernel⟩
theorem ok_of {f : Addr} {fd : FuncData} (F : L2.Fun K "of" "Stamps.of" sOf f fd) (FI : FnR P w K mg base (L2.CX P w) 6 fInit (spInit K T C D)) (M : Mk K C fInit) (X : Txt K mg C fLow fText fAre fTape fNext fInks) (Er : ErrC K mg "InvalidStamps" D) :
    FnOk P w K mg base (L2.CX P w) 8 f fd ["cls", "words"] (spOf K T C D) := by
  refine F.okX scOf (fun vs H Q E h => ?_) (fun cdv A outer s H vs Q E hr h => ?_)
  · obtain ⟨y, rfl, _⟩ := h
    rfl
  · obtain ⟨y, rfl, h⟩ := h
    refine ⟨_, pss_cons (ps_if (pt_not (pt_val (pe_callB call_isi (by rfl) X.isi boot_isinstance (pa_cons (pv 1) (pa_cons (pe_bltn (v := .ty "list") (by rfl) X.lst (by decide +kernel) rfl) pa_nil)))))
      (pss_one (ps_raise rfl (takes_of rfl rfl rfl rfl) (pmk_own PySem.F.excBase_ValueError Er.e Er.g Er.k (raises_own Er.b Er.t) (by rfl)))) pss_nil)
      (pss_one (ps_ret (pe_makeS M FI hr (passes_call (E := E) (takes_of rfl rfl rfl rfl) (fun _ _ _ _ h => h)) (pv 0) (pv 1)))), ?_⟩
    rcases h with ⟨p, xs, rfl, hp, m⟩ | ⟨t, ht, hk, he⟩
    · refine ⟨_, rfl, _, _, _, _, _, rfl, .ty _, .base (.lst hp), kit_ty (r := true) (by decide +kernel), true, rfl, iteF ?_⟩
      refine ⟨_, rfl, rfl, _, rfl, p, xs, rfl, .inr (.inl (.inl hp)), fun x dx hx hdx hne => m.init hx hdx hne⟩
    · refine ⟨_, rfl, _, _, _, _, _, rfl, .ty _, ht, hk, false, rfl, iteT ?_⟩
      exact he
end
/-! ### the law's tape -/
/-- a tape at t that was asked n times at most -/
def Tp (H : Hp) (t : Addr) (n : Nat) : Prop := ∃ a b c : Int, H t = some (.lst [.int a, .int b, .int c]) ∧ 0 ≤ a ∧ 0 ≤ b ∧ b < 10 ^ 40 ∧ 0 ≤ c ∧ c ≤ n
/-- all but the thing at t is as it was -/
def But (t : Addr) (H H' : Hp) : Prop := ∀ b, b ≠ t → H' b = H b
theorem But.put {H : Hp} {t : Addr} {o : HO} : But t H (upd H t o) := fun _ hb => upd_ne hb
theorem But.trans {H H1 H2 : Hp} {t : Addr} (a : But t H H1) (b : But t H1 H2) : But t H H2 := fun c hc => (b c hc).trans (a c hc)
def spTape (K : PySem.W.Frag) : Sp := fun vs H Q _ => ∃ (p : Addr) (ns : List Int) (k : Int), vs = [.ref p, .int k] ∧ SqL K H p (ns.map V.int) ∧ 0 ≤ k ∧ k ≤ 63 ∧ ∀ t H', H t = none → Tp H' t 0 → But t H H' → Q (.ref t) H'
def spNext : Sp := fun vs H Q _ => ∃ (t : Addr) (many : Int) (n : Nat), vs = [.ref t, .int many] ∧ Tp H t n ∧ n < 2 ^ 40 ∧ 0 < many ∧ many < 1000000 ∧ ∀ d H', 0 ≤ d → d < many → Tp H' t (n + 1) → But t H H' → Q (.int d) H'
section
variable {P : Program} {w : World} {K : PySem.W.Frag} {mg : Str → Option Value} {base : Heap} {T : List Addr} {C D fLow fText fAre fTape fNext fInks fInit cLow PLow cAre PAre : Addr}
theorem scTape : FnScope ["script", "k", "cell"] ["script", "k"] (defScope sTape) := ⟨rfl, rfl, rfl, by decide +kernel, rfl, by decide +kernel, by decide +kernel⟩
theorem ok_tape {f : Addr} {fd : FuncData} (F : L2.Fun K "_law_tape" "_law_tape" sTape f fd) (X : Txt K mg C fLow fText fAre fTape fNext fInks) : FnOk P w K mg base CX0 1 f fd ["script", "k"] (spTape K) := by
  refine F.ok scTape (fun vs H Q E h => ?_) (fun cdv A outer s H vs Q E hr h => ?_)
  · obtain ⟨p, ns, k, rfl, _⟩ := h
    rfl
  · obtain ⟨p, ns, k, rfl, hs, h0, h63, q⟩ := h
    refine ⟨_, C8.pss_cut (ps_set (i := 2) scTape.nd rfl (.inl rfl) (pe_ifExp (pt_cmpR op_lt (pv 1) (pe_callB call_len_seq (by rfl) X.len boot_len (pa_cons (pv 0) pa_nil)) (by rfl))
        (pe_callB call_abs (by rfl) X.abs (by decide +kernel) (pa_cons (pe_ix ix_seq (pv 0) (pv 1) fun _ _ => rfl) pa_nil)) pe_int))
      (pss_one (ps_ret (pe_lst (pa_cons (pe_callB (call_max2 rfl) (by rfl) X.max (by decide +kernel) (pa_cons pe_int (pa_cons (pe_op op_sub (pv 2) (pe_op op_pow pe_int pe_int)) pa_nil)))
        (pa_cons (pe_op op_add (pe_op op_mul (pe_op op_mod (pv 2) (pe_op op_add (pe_op op_pow pe_int pe_int) pe_int)) pe_int) (pv 1)) (pa_cons pe_int pa_nil)))))), ?_⟩
    refine ⟨fun σ' H' => H' = H ∧ ∃ cell : Int, 0 ≤ cell ∧ σ' = [some (.ref p), some (.int k), some (.int cell)], ?_, ?_⟩
    · refine ⟨_, rfl, _, rfl, p, _, rfl, .inl hs, _, _, rfl, rfl, _, rfl, ?_⟩
      rw [List.length_map]
      refine ite2 (fun hk => ?_) (fun hk => ?_)
      · have hk : k < (ns.length : Int) := by simpa using hk
        have hi : k.toNat < ns.length := by omega
        refine ⟨_, rfl, _, rfl, .inl ⟨p, _, k, .int ns[k.toNat], rfl, rfl, hs, ?_, _, rfl, rfl, _, ?_, rfl⟩⟩
        · have e : k = (k.toNat : Int) := by omega
          have z : atI (ns.map V.int) (k.toNat : Int) = some (.int ns[k.toNat]) := atI_nat (by rw [List.getElem?_map, List.getElem?_eq_getElem hi]; rfl)
          rw [← e] at z
          exact z
        · split <;> omega
      · exact ⟨rfl, 0, by decide, rfl⟩
    · rintro σ' H' ⟨rfl, cell, hc, rfl⟩
      refine ⟨_, rfl, _, _, rfl, rfl, ⟨by decide, by decide, by decide⟩, _, _, rfl, rfl, _, _, rfl, ?_⟩
      refine ⟨_, rfl, _, _, rfl, rfl, ⟨by decide, by decide, by decide⟩, _, _, rfl, rfl, _, _, rfl, rfl, (by decide : (0 : Int) < 10 ^ Int.toNat 37 + 43), _, _, rfl, rfl, .inr ⟨by decide, by decide⟩, _, rfl, _, _, rfl, rfl, ?_⟩
      refine ⟨(by decide : 3 ≤ sizeLine), fun t ht => q t _ ht ⟨_, _, _, upd_same, ?_, ?_, ?_, by decide, by decide⟩ But.put⟩
      · split <;> omega
      · show 0 ≤ cell % (10 ^ Int.toNat 37 + 43) * 83 + k
        have := Int.emod_nonneg cell (b := 10 ^ Int.toNat 37 + 43) (by decide)
        omega
      · show cell % (10 ^ Int.toNat 37 + 43) * 83 + k < 10 ^ 40
        have h1 := Int.emod_lt_of_pos cell (b := 10 ^ Int.toNat 37 + 43) (by decide)
        have e1 : (10 : Int) ^ Int.toNat 37 + 43 = 10000000000000000000000000000000000043 := by decide
        have e2 : (10 : Int) ^ 40 = 10000000000000000000000000000000000000000 := by decide
        rw [e1] at h1 ⊢
        rw [e2]
        omega
end
end Ov

set_option Elab.async false
set_option linter.all false
set_option maxRecDepth 100000
set_option maxHeartbeats 4000000
namespace Ov
open PySem PySem.Spec PyProof.Rows L2 GxR
section
variable {P : Program} {w : World} {K : PySem.W.Frag} {mg : Str → Option Value} {base : Heap} {T : List Addr} {C D fLow fText fAre fTape fNext fInks fInit cLow PLow cAre PAre : Addr}
theorem scNext : FnScope ["tape", "many", "digit", "mixed"] ["tape", "many"] (defScope sNext) := ⟨rfl, rfl, rfl, by decide +kernel, rfl, by decide +kernel, by decide +kernel⟩
theorem pow3_bits {x : Int} (h0 : 0 ≤ x) (h : x < 2 ^ 140) : CPowW x 3 := by
  refine ⟨by decide, ?_⟩
  have e : (2 : Int) ^ 140 = 1393796574908163946345982392040522594123776 := by decide
  have e2 : (2 : Nat) ^ 140 = 1393796574908163946345982392040522594123776 := by decide
  have hb : Builtin.Int.intBits x ≤ 140 := bits_le (by rw [e2]; omega) (by decide)
  have e3 : (2 : Int) ^ 27 = 134217728 := by decide
  rw [e3]
  omega
theorem ok_next {f : Addr} {fd : FuncData} (F : L2.Fun K "_law_next" "_law_next" sNext f fd) (X : Txt K mg C fLow fText fAre fTape fNext fInks) : FnOk P w K mg base CX0 1 f fd ["tape", "many"] spNext := by
  refine F.ok scNext (fun vs H Q E h => ?_) (fun cdv A outer s H vs Q E hr h => ?_)
  · obtain ⟨t, m, n, rfl, _⟩ := h
    rfl
  · obtain ⟨t, m, n, rfl, ⟨a, b, c, ht, ha, hb, hb2, hc, hcn⟩, hn, hm, hm2, q⟩ := h
    refine ⟨_, pss_cons (ps_if (pt_cmpR op_gt (pe_ix ix_seq (pv 0) pe_int fun _ _ => rfl) pe_int (by rfl))
        (pss_cons (ps_set (i := 2) scNext.nd rfl (.inl rfl) (pe_op op_mod (pe_ix ix_seq (pv 0) pe_int fun _ _ => rfl) (pv 1)))
          (pss_cons (ps_asg (pe_op op_fdiv (pe_ix ix_seq (pv 0) pe_int fun _ _ => rfl) (pv 1)) (pg_sub (pv 0) pe_int set_list)) (pss_one (ps_ret (pv 2))))) pss_nil)
      (pss_cons (ps_asg (pe_op op_add (pe_ix ix_seq (pv 0) pe_int fun _ _ => rfl) pe_int) (pg_sub (pv 0) pe_int set_list))
      (pss_cons (ps_set (i := 3) scNext.nd rfl (.inl rfl) (pe_op op_mod (pe_op op_powW (pe_op op_add (pe_ix ix_seq (pv 0) pe_int fun _ _ => rfl) (pe_op op_mul pe_int (pe_ix ix_seq (pv 0) pe_int fun _ _ => rfl))) pe_int) (pe_op op_add (pe_op op_pow pe_int pe_int) pe_int)))
      (pss_cons (ps_set (i := 3) scNext.nd rfl (.inl rfl) (pe_op op_mod (pe_op op_powW (pe_op op_add (pv 3) (pe_op op_mul pe_int (pe_ix ix_seq (pv 0) pe_int fun _ _ => rfl))) pe_int) (pe_op op_add (pe_op op_pow pe_int pe_int) pe_int)))
      (pss_one (ps_ret (pe_op op_mod (pe_op op_fdiv (pv 3) pe_int) (pv 1))))))), ?_⟩
    have at0 : ∀ {x y z : V}, atI [x, y, z] 0 = some x := fun {x y z} => by simp [atI, ixN]
    have at1 : ∀ {x y z : V}, atI [x, y, z] 1 = some y := fun {x y z} => by simp [atI, ixN]
    have at2 : ∀ {x y z : V}, atI [x, y, z] 2 = some z := fun {x y z} => by simp [atI, ixN]
    refine ⟨_, rfl, .inl ⟨t, _, 0, .int a, rfl, rfl, .inl (.inl ht), at0, _, _, rfl, rfl, _, rfl, ?_⟩⟩
    refine ite2 (fun hk => ?_) (fun hk => ?_)
    · refine ⟨_, rfl, .inl ⟨t, _, 0, .int a, rfl, rfl, .inl (.inl ht), at0, _, rfl, _, _, rfl, rfl, hm, ?_⟩⟩
      refine ⟨_, rfl, .inl ⟨t, _, 0, .int a, rfl, rfl, .inl (.inl ht), at0, _, rfl, _, _, rfl, rfl, ⟨hm, by omega⟩, ?_⟩⟩
      refine ⟨_, rfl, t, _, 0, 0, rfl, rfl, ht, by simp [ixN], _, rfl, ?_⟩
      exact q _ _ (Int.emod_nonneg _ (by omega)) (Int.emod_lt_of_pos _ hm) ⟨_, _, _, upd_same, Int.ediv_nonneg ha (by omega), hb, hb2, hc, by omega⟩ But.put
    · refine ⟨_, rfl, .inl ⟨t, _, 2, .int c, rfl, rfl, .inl (.inl ht), at2, _, _, rfl, rfl, ?_⟩⟩
      refine ⟨_, rfl, t, _, 2, 2, rfl, rfl, ht, by simp [ixN], ?_⟩
      have h2 : upd H t (.lst [.int a, .int b, .int (c + 1)]) t = some (.lst [.int a, .int b, .int (c + 1)]) := upd_same
      have e40 : (10 : Int) ^ 40 = 10000000000000000000000000000000000000000 := by decide
      have e140 : (2 : Int) ^ 140 = 1393796574908163946345982392040522594123776 := by decide
      have en : (2 : Nat) ^ 40 = 1099511627776 := by decide
      rw [en] at hn
      rw [e40] at hb2
      refine ⟨_, rfl, .inl ⟨t, _, 1, .int b, rfl, rfl, .inl (.inl h2), at1, _, rfl, .inl ⟨t, _, 2, .int (c + 1), rfl, rfl, .inl (.inl h2), at2, _, _, rfl, rfl, .inl ⟨by decide, by decide⟩, _, _, rfl, rfl, ?_⟩⟩⟩
      refine ⟨_, _, rfl, rfl, pow3_bits (by omega) (by rw [e140]; omega), _, _, rfl, rfl, ⟨by decide, by decide, by decide⟩, _, _, rfl, rfl, _, _, rfl, rfl, (by decide : (0 : Int) < 10 ^ Int.toNat 40 + 121), ?_⟩
      generalize hm1 : ((b + 32416187567 * (c + 1)) ^ Int.toNat 3) % (10 ^ Int.toNat 40 + 121) = m1
      have m1a : 0 ≤ m1 := by rw [← hm1]; exact Int.emod_nonneg _ (by decide)
      have m1b : m1 < 10000000000000000000000000000000000000121 := by
        rw [← hm1]
        exact Int.emod_lt_of_pos _ (by decide)
      refine ⟨_, rfl, _, rfl, .inl ⟨t, _, 2, .int (c + 1), rfl, rfl, .inl (.inl h2), at2, _, _, rfl, rfl, .inl ⟨by decide, by decide⟩, _, _, rfl, rfl, ?_⟩⟩
      refine ⟨_, _, rfl, rfl, pow3_bits (by omega) (by rw [e140]; omega), _, _, rfl, rfl, ⟨by decide, by decide, by decide⟩, _, _, rfl, rfl, _, _, rfl, rfl, (by decide : (0 : Int) < 10 ^ Int.toNat 39 + 3), ?_⟩
      generalize ((m1 + 27644437 * (c + 1)) ^ Int.toNat 3) % (10 ^ Int.toNat 39 + 3) = m2
      refine ⟨_, rfl, _, _, rfl, rfl, ⟨by decide, by decide⟩, _, rfl, _, _, rfl, rfl, hm, ?_⟩
      exact q _ _ (Int.emod_nonneg _ (by omega)) (Int.emod_lt_of_pos _ hm) ⟨_, _, _, upd_same, ha, hb, by rw [e40]; exact hb2, by omega, by omega⟩ But.put
end
end Ov

set_option Elab.async false
set_option linter.all false
set_option maxRecDepth 100000
set_option maxHeartbeats 4000000
namespace Ov
open PySem PySem.Spec PyProof.Rows L2 GxR
/-- what stood stands, but for the thing at t -/
def Bt (t : Addr) (H H' : Hp) : Prop := ∀ b o, b ≠ t → H b = some o → H' b = some o
theorem Bt.refl {t : Addr} {H : Hp} : Bt t H H := fun _ _ _ h => h
theorem Bt.trans {t : Addr} {H H1 H2 : Hp} (a : Bt t H H1) (b : Bt t H1 H2) : Bt t H H2 := fun c o hc e => b c o hc (a c o hc e)
theorem But.bt {t : Addr} {H H1 : Hp} (a : But t H H1) : Bt t H H1 := fun c o hc e => (a c hc).trans e
theorem Bt.new {t : Addr} {H : Hp} {p : Addr} {o : HO} (e : H p = none) : Bt t H (upd H p o) := fun b u _ hb => (upd_ne (ne_of_none hb e)).trans hb
theorem Bt.put {t : Addr} {H H1 : Hp} {p : Addr} {o : HO} (a : Bt t H H1) (e : H p = none) : Bt t H (upd H1 p o) := fun b u hb hu => (upd_ne (ne_of_none hu e)).trans (a b u hb hu)
theorem Tp.at {t : Addr} {H H' : Hp} {n : Nat} (h : Tp H t n) (e : H' t = H t) : Tp H' t n := by
  obtain ⟨a, b, c, h1, h2⟩ := h
  exact ⟨a, b, c, e.trans h1, h2⟩
theorem Tp.new {t : Addr} {H : Hp} {n : Nat} {p : Addr} {o : HO} (h : Tp H t n) (e : H p = none) : Tp (upd H p o) t n := h.at (by
  obtain ⟨a, b, c, h1, h2⟩ := h
  exact upd_ne (ne_of_none h1 e))
theorem Tp.ne {t : Addr} {H : Hp} {n : Nat} {p : Addr} (h : Tp H t n) (e : H p = none) : t ≠ p := by
  obtain ⟨a, b, c, h1, h2⟩ := h
  exact ne_of_none h1 e
theorem Tp.mono {t : Addr} {H : Hp} {n m : Nat} (h : Tp H t n) (e : n ≤ m) : Tp H t m := by
  obtain ⟨a, b, c, h1, h2, h3, h4, h5, h6⟩ := h
  exact ⟨a, b, c, h1, h2, h3, h4, h5, by omega⟩
theorem Bt.free {t : Addr} {H H1 : Hp} (a : Bt t H H1) {p : Addr} (hp : p ≠ t) (e : H1 p = none) : H p = none := by
  cases q : H p with
  | none => rfl
  | some o => rw [a p o hp q] at e; cases e
def lowL (l : List Nat) : Bool := l.all fun c => decide (97 ≤ c) && decide (c ≤ 122)
theorem join_nil : ∀ ls : List (List Nat), TL.joinL [] ls = ls.flatten
  | [] => rfl
  | [p] => by simp [TL.joinL]
  | p :: q :: r => by
    have := join_nil (q :: r)
    simp only [TL.joinL, List.nil_append, this, List.flatten_cons]
theorem join_cps (e : Str) (he : e.cps.toList = []) (ys : List Str) : (Txt.join e ys).cps.toList = (ys.map fun z => z.cps.toList).flatten := by
  show (Builtin.Str.glued e ys).cps.toList = _
  rw [StrLaws.glued_eq_join]
  have := TL.tl_join e ys
  unfold TL.tl at this
  rw [this, he, join_nil]
/-- one lowercase letter -/
def One (z : Str) : Prop := ∃ c, z.cps.toList = [c] ∧ 97 ≤ c ∧ c ≤ 122
theorem join_ones (e : Str) (he : e.cps.toList = []) : ∀ ys : List Str, (∀ z ∈ ys, One z) → (Txt.join e ys).length = ys.length ∧ lowB (Txt.join e ys) = true := by
  intro ys h
  have key : ((ys.map fun z => z.cps.toList).flatten).length = ys.length ∧ ((ys.map fun z => z.cps.toList).flatten).all (fun c => decide (97 ≤ c) && decide (c ≤ 122)) = true := by
    induction ys with
    | nil => exact ⟨rfl, rfl⟩
    | cons z r ih =>
      obtain ⟨i1, i2⟩ := ih fun y hy => h y (List.mem_cons_of_mem _ hy)
      obtain ⟨c, hc, h1, h2⟩ := h z List.mem_cons_self
      simp only [List.map_cons, List.flatten_cons, hc, List.length_append, List.all_append, i1, i2]
      refine ⟨by simp; omega, by simp [h1, h2]⟩
  rw [← join_cps e he] at key
  refine ⟨?_, key.2⟩
  rw [← key.1]
  simp [Str.length]
def spInks (K : PySem.W.Frag) : Sp := fun vs H Q _ => ∃ (t : Addr) (most : Int) (n : Nat), vs = [.ref t, .int most] ∧ Tp H t n ∧ n + 60 < 2 ^ 40 ∧ 0 < most ∧ most ≤ 8 ∧
  ∀ (l : Addr) (ws : List Str) H', H l = none → H' l = some (.lst (ws.map V.str)) → stampsV (ws.map V.str) = true → Tp H' t (n + 60) → Bt t H H' → Q (.ref l) H'
section
variable {P : Program} {w : World} {K : PySem.W.Frag} {mg : Str → Option Value} {base : Heap} {T : List Addr} {C D fLow fText fAre fTape fNext fInks fInit cLow PLow cAre PAre : Addr}
theorem pool_at (d : Int) (h0 : 0 ≤ d) (h4 : d < 4) : ∃ z : Str, atI [V.str "ab", V.str "abc", V.str "aab", V.str "abcdefghijklmnopqrstuvwxyz"] d = some (.str z) ∧ 1 ≤ z.length ∧ z.length ≤ 26 ∧ lowB z = true := by
  have : d = 0 ∨ d = 1 ∨ d = 2 ∨ d = 3 := by omega
  rcases this with rfl | rfl | rfl | rfl
  · exact ⟨"ab", by simp [atI, ixN], by decide +kernel, by decide +kernel, by decide +kernel⟩
  · exact ⟨"abc", by simp [atI, ixN], by decide +kernel, by decide +kernel, by decide +kernel⟩
  · exact ⟨"aab", by simp [atI, ixN], by decide +kernel, by decide +kernel, by decide +kernel⟩
  · exact ⟨"abcdefghijklmnopqrstuvwxyz", by simp [atI, ixN], by decide +kernel, by decide +kernel, by decide +kernel⟩
theorem pool_ch {z : Str} (hl : lowB z = true) {d : Int} (h0 : 0 ≤ d) (hd : d < z.length) : ∃ c, atI z.cps.toList d = some c ∧ One ⟨#[c]⟩ := by
  have hk : d.toNat < z.cps.toList.length := by
    have : z.cps.toList.length = z.length := by simp [Str.length]
    omega
  have e : d = (d.toNat : Int) := by omega
  have z1 : atI z.cps.toList (d.toNat : Int) = some z.cps.toList[d.toNat] := atI_nat (List.getElem?_eq_getElem hk)
  rw [← e] at z1
  have := List.all_eq_true.mp hl _ (List.getElem_mem hk)
  simp only [Bool.and_eq_true, decide_eq_true_eq] at this
  exact ⟨_, z1, _, rfl, this.1, this.2⟩
/-- the words made so far -/
structure Ws (W : Nat) (i : Nat) (ws : List Str) : Prop where
  len : ws.length ≤ i
  some : 0 < i → 0 < ws.length
  nd : ws.Nodup
  all : ∀ z ∈ ws, z.length = W ∧ lowB z = true
theorem Ws.ok {W i : Nat} {ws : List Str} (h : Ws W i ws) (h1 : 1 ≤ W) (h8 : W ≤ 8) (hi : 0 < i) (hi6 : i ≤ 6) (h36 : W * i ≤ 36) : stampsV (ws.map V.str) = true := by
  have hl := h.some hi
  have hli := h.len
  have e : (ws.map V.str).map strV = ws := by rw [List.map_map]; exact List.map_id ws
  have hd : (ws.headD Str.empty).length = W := by
    cases ws with
    | nil => simp at hl
    | cons z r => exact (h.all z List.mem_cons_self).1
  unfold stampsV
  rw [e, List.length_map, decide_eq_true (by omega : 1 ≤ ws.length), decide_eq_true (by omega : ws.length ≤ 6), Bool.true_and, Bool.true_and, Bool.and_eq_true]
  refine ⟨?_, ?_⟩
  · rw [List.all_eq_true]
    intro x hx
    obtain ⟨z, hz, rfl⟩ := List.mem_map.mp hx
    obtain ⟨q1, q2⟩ := h.all z hz
    show textB z 8 = true
    unfold textB
    rw [q2, q1]
    simp
    omega
  · unfold tailB
    rw [hd, Bool.and_eq_true, Bool.and_eq_true]
    refine ⟨?_, decide_eq_true ((once_nodup ws).mpr h.nd), decide_eq_true ?_⟩
    · rw [List.all_eq_true]
      intro z hz
      exact decide_eq_true (h.all z hz).1
    · exact Nat.le_trans (Nat.mul_le_mul_left W hli) h36
theorem inV_str (z : Str) (ws : List Str) : inV (.str z) (ws.map V.str) = true ↔ z ∈ ws := by
  unfold inV
  rw [List.any_map, List.any_eq_true]
  constructor
  · rintro ⟨y, hy, e⟩
    have : y = z := by simpa [eqV] using e
    exact this ▸ hy
  · intro h
    exact ⟨z, h, by simp [eqV]⟩
abbrev NInks : List Str := ["tape", "most", "width", "pool", "found", "turn", "ink", "spot"]
theorem scInks : FnScope NInks ["tape", "most"] (defScope sInks) := ⟨rfl, rfl, rfl, by decide +kernel, rfl, by decide +kernel, by decide +kernel⟩
theorem pe_next {X : Cx} {f : Addr} {fd : FuncData} (F : FnOk X.prog X.w X.K X.mg X.base CX0 1 f fd ["tape", "many"] spNext) (hb : Binds X.K fd ["tape", "many"] []) (hr : Room 1 X.A) (hg : Gl X "_law_next") (hm : X.mg "_law_next" = some (.ref f)) (hk : PySem.W.keepIn X.K (.ref f) = true)
    {e1 e2 : Expr} {p pos : Pos} {ta : TA} (ha : PA X [e1, e2] ta) (he : starEach [e1, e2] X.env = (false, eval e1 X.env) :: starEach [e2] X.env := by rfl) (hpl : (backTo pos (starEach [e2] X.env)).any (·.1) = false := by rfl) : PE X (.Call (.Name "_law_next" p) [e1, e2] [] pos) (tCall spNext [] E0 ta) :=
  pe_call F hr hg hm hk hb .nil L2.pass0 ha (by decide) he hpl
theorem ok_inks {f : Addr} {fd fdN : FuncData} (F : L2.Fun K "_law_inks" "_law_inks" sInks f fd) (FN : L2.Fun K "_law_next" "_law_next" sNext fNext fdN) (X : Txt K mg C fLow fText fAre fTape fNext fInks) : FnOk P w K mg base CX0 2 f fd ["tape", "most"] (spInks K) := by
  have N1 : FnOk P w K mg base CX0 1 fNext fdN ["tape", "many"] spNext := ok_next FN X
  have bN : Binds K fdN ["tape", "many"] [] := FN.binds fun _ _ _ _ _ _ us hl => match us, hl with | [_, _], _ => rfl
  refine F.ok scInks (fun vs H Q E h => ?_) (fun cdv A outer s H vs Q E hr h => ?_)
  · obtain ⟨t, m, n, rfl, _⟩ := h
    rfl
  · obtain ⟨t, m, n, rfl, ht, hn, hm, hm8, q⟩ := h
    refine ⟨_, pss_cons (ps_set (i := 2) scInks.nd rfl (.inl rfl) (pe_op op_add pe_int (pe_next N1 bN hr (by rfl) X.gNext X.kNext (pa_cons (pv 0) (pa_cons (pv 1) pa_nil)))))
      (pss_cons (ps_set (i := 3) scInks.nd rfl (.inr rfl) (pe_ix ix_seq (pe_lst (pa_cons pe_str (pa_cons pe_str (pa_cons pe_str (pa_cons pe_str pa_nil))))) (pe_next N1 bN hr (by rfl) X.gNext X.kNext (pa_cons (pv 0) (pa_cons pe_int pa_nil))) fun _ _ => rfl))
      (pss_cons (ps_set (i := 4) scInks.nd rfl (.inl rfl) (pe_lst pa_nil))
      (pss_cons (ps_for PassesOwn.never rfl (pi_range1 (by rfl) X.rng (pa_cons (pe_op op_add pe_int (pe_next N1 bN hr (by rfl) X.gNext X.kNext (pa_cons (pv 0) (pa_cons (pe_callB (call_min2 rfl) (by rfl) X.min boot_min (pa_cons pe_int (pa_cons (pe_op op_fdiv pe_int (pv 2)) pa_nil))) pa_nil)))) pa_nil))
          (pg_name (i := 5) scInks.nd rfl (Or.inl rfl))
        (pss_cons (ps_set (i := 6) scInks.nd rfl (.inl rfl) (pe_join pe_str (pe_lc (own := [("spot", 7)]) (g := gName 7) (tt := tYes) (by rfl) scInks.nd (pi_range1 (by rfl) X.rng (pa_cons (pv 2) pa_nil)) (blkOk_by (own := [("spot", 7)]) (N := NInks) (sc := defScope sInks) (by decide +kernel))
            (fun _ _ _ _ _ => pg_name (i := 7) scInks.nd rfl (Or.inl rfl)) (fun _ _ _ _ _ => pts_nil)
            (fun s H C cl fp => pe_ix (show IxR _ (rIx K) from ix_seq) (pv 3) (pe_next N1 bN hr (by rfl) X.gNext X.kNext (pa_cons (pv 0) (pa_cons (pe_callB call_len_str (by rfl) X.len boot_len (pa_cons (pv 3) pa_nil)) pa_nil))) fun _ _ => rfl))))
          (pss_one (ps_if (pt_cmpR op_notIn_seq (pv 6) (pv 4) (by rfl)) (pss_one (ps_expr (pe_bm PySem.F.plainAttrs_list PySem.F.slot_list_append PySem.F.type_list_append mt_append (pv 4) (pa_cons (pv 6) pa_nil)))) pss_nil))))
      (pss_one (ps_ret (pv 4)))))), ?_⟩
    refine ⟨_, rfl, _, rfl, t, m, n, rfl, ht, by omega, hm, by omega, fun d1 H1 d10 d1m t1 b1 => ⟨_, _, rfl, rfl, ?_⟩⟩
    obtain ⟨W, hW⟩ : ∃ W : Nat, 1 + d1 = (W : Int) := ⟨(1 + d1).toNat, by omega⟩
    have W1 : 1 ≤ W := by omega
    have W8 : W ≤ 8 := by omega
    refine ⟨(by decide : 4 ≤ sizeLine), fun pl hpl => ?_⟩
    refine ⟨_, rfl, t, 4, n + 1, rfl, t1.new hpl, by omega, by decide, by decide, fun d2 H2 d20 d24 t2 b2 => ?_⟩
    obtain ⟨z, hz, z1, z26, zl⟩ := pool_at d2 d20 d24
    refine .inl ⟨pl, _, d2, .str z, rfl, rfl, .inl (.inl ((b2 pl (t1.ne hpl).symm).trans upd_same)), hz, ?_⟩
    refine ⟨(by decide : 0 ≤ sizeLine), fun fl hfl => ?_⟩
    have e36 : (36 : Int) / (1 + d1) = ((36 / W : Nat) : Int) := by rw [hW]; first | exact (Int.natCast_ediv 36 W).symm | exact (Int.ofNat_ediv 36 W).symm | rfl
    have w4 : 4 ≤ 36 / W := by
      have : W * 4 ≤ 36 := by omega
      exact (Nat.le_div_iff_mul_le (by omega)).mpr (by omega)
    have w36 : W * (36 / W) ≤ 36 := Nat.mul_div_le 36 W
    have M1 : (0 : Int) < (if (36 : Int) / (1 + d1) < 6 then (36 : Int) / (1 + d1) else 6) := by rw [e36]; split <;> omega
    have M6 : (if (36 : Int) / (1 + d1) < 6 then (36 : Int) / (1 + d1) else 6) ≤ 6 := by rw [e36]; split <;> omega
    have M36 : (if (36 : Int) / (1 + d1) < 6 then (36 : Int) / (1 + d1) else 6) ≤ ((36 / W : Nat) : Int) := by rw [e36]; split <;> omega
    refine ⟨_, rfl, _, rfl, _, _, rfl, rfl, ⟨by omega, by omega⟩, _, _, rfl, t, _, n + 2, rfl, t2.new hfl, by omega, M1, by omega, fun d3 H3 d30 d3m t3 b3 => ?_⟩
    generalize (if (36 : Int) / (1 + d1) < 6 then (36 : Int) / (1 + d1) else 6) = M at M1 M6 M36 d3m
    obtain ⟨R, hR⟩ : ∃ R : Nat, 1 + d3 = (R : Int) := ⟨(1 + d3).toNat, by omega⟩
    have R1 : 0 < R := by omega
    have R6 : R ≤ 6 := by omega
    have R36 : W * R ≤ 36 := Nat.le_trans (Nat.mul_le_mul_left W (by omega : R ≤ 36 / W)) w36
    refine ⟨_, _, rfl, rfl, _, rfl, by omega, by omega, ?_⟩
    have bt3 : Bt t H H3 := b1.bt.trans ((Bt.new hpl).trans (b2.bt.trans ((Bt.new hfl).trans b3.bt)))
    have flt : fl ≠ t := (t2.ne hfl).symm
    have hfl0 : H fl = none := (b1.bt.trans ((Bt.new hpl).trans b2.bt)).free flt hfl
    have zsz : z.length ≤ sizeLine := Nat.le_trans z26 (by decide)
    refine for_range (lo := 0) (n := (1 + d3).toNat) (fun i σ H' => ∃ v5 v6 ws, σ = [some (.ref t), some (.int m), some (.int (1 + d1)), some (.str z), some (.ref fl), v5, v6, none] ∧ H' fl = some (.lst (ws.map V.str)) ∧ Ws W i ws ∧ Tp H' t (n + 3 + i * W) ∧ Bt t H H')
      ⟨none, none, [], rfl, (b3 fl flt).trans upd_same, ⟨Nat.le_refl _, fun z => absurd z (Nat.lt_irrefl _), List.nodup_nil, fun z hz => by simp at hz⟩, t3.mono (by omega), bt3⟩ (fun i σ H4 hi hp => ?_) (fun σ H' hp => ?_)
    · obtain ⟨v5, v6, ws, rfl, hf4, hws, t4, bt4⟩ := hp
      have hiR : i < R := by omega
      have hiW : i * W ≤ 36 := Nat.le_trans (Nat.mul_le_mul_right W (by omega : i ≤ R)) (by rw [Nat.mul_comm]; exact R36)
      refine ⟨⟨_, rfl⟩, _, rfl, 1 + d1, rfl, by omega, by omega, fun D hD => ?_⟩
      have Dt : D ≠ t := (t4.ne hD).symm
      refine lc_range (lo := 0) (n := (1 + d1).toNat) (fun j H5 => ∃ ys : List Str, H5 D = some (.lst (ys.map V.str)) ∧ ys.length = j ∧ (∀ y ∈ ys, One y) ∧ Tp H5 t (n + 3 + i * W + j) ∧ Bt t H4 H5)
        ⟨[], upd_same, rfl, fun y hy => by simp at hy, t4.new hD, Bt.new hD⟩ (fun j H5 hj hp => ?_) (fun H5 hp => ?_)
      · obtain ⟨ys, hD5, hyl, hy1, t5, bt5⟩ := hp
        refine ⟨rfl, ?_⟩
        unfold tYes
        refine iteT' (b := true) rfl ?_
        refine ⟨_, rfl, _, rfl, _, rfl, z, rfl, zsz, t, z.length, n + 3 + i * W + j, rfl, t5, by omega, by omega, by omega, fun d H6 hd0 hdz t6 b6 => ?_⟩
        obtain ⟨c, hc, hone⟩ := pool_ch zl hd0 hdz
        have e6 : H6 D = some (.lst (ys.map V.str)) := (b6 D Dt).trans hD5
        refine .inr (.inr ⟨z, d, c, rfl, rfl, zsz, hc, ys.map V.str, e6, by rw [List.length_map, hyl]; exact Nat.lt_of_lt_of_le (by omega : j < 9) (by decide), ys ++ [⟨#[c]⟩], ?_, by simp [hyl], fun y hy => ?_, ?_, ?_⟩)
        · rw [List.map_append]; exact upd_same
        · rcases List.mem_append.mp hy with h | h
          · exact hy1 y h
          · rw [List.mem_singleton.mp h]; exact hone
        · exact t6.at (upd_ne Dt.symm)
        · exact (bt5.trans b6.bt).put hD
      · obtain ⟨ys, hD5, hyl, hy1, t5, bt5⟩ := hp
        obtain ⟨j1, j2⟩ := join_ones "" rfl ys hy1
        have ysum : ∀ ys : List Str, (∀ y ∈ ys, One y) → (ys.map (·.length)).sum = ys.length := fun ys h => by
          induction ys with
          | nil => rfl
          | cons y r ih =>
            obtain ⟨c, hc, _⟩ := h y List.mem_cons_self
            have e1 : y.length = 1 := by
              have : y.cps.toList.length = 1 := by rw [hc]; rfl
              simpa [Str.length] using this
            rw [List.map_cons, List.sum_cons, ih fun z hz => h z (List.mem_cons_of_mem _ hz), List.length_cons, e1]
            omega
        refine ⟨"", D, ys, rfl, rfl, .inl (.inl (.inl hD5)), ?_, ?_⟩
        · rw [ysum ys hy1]
          show ys.length + ys.length * 0 ≤ 16777216
          omega
        generalize hk : Txt.join ("" : Str) ys = ink at j1 j2
        have ilen : ink.length = W := by omega
        have hf5 : H5 fl = some (.lst (ws.map V.str)) := bt5 fl _ flt hf4
        refine ⟨_, rfl, _, rfl, fl, _, rfl, .inl (.inl (.inl hf5)), rfl, ?_, _, rfl, ?_⟩
        · rw [List.all_map]; exact List.all_eq_true.mpr fun _ _ => rfl
        · by_cases hin : ink ∈ ws
          · refine iteF' (by rw [(inV_str ink ws).mpr hin]; rfl) ?_
            refine ⟨_, _, ws, rfl, hf5, ⟨Nat.le_succ_of_le hws.len, fun _ => List.length_pos_of_mem hin, hws.nd, hws.all⟩, t5.mono ?_, bt4.trans bt5⟩
            rw [Nat.succ_mul]; omega
          · have hnin : inV (.str ink) (ws.map V.str) = false := by
              cases h : inV (.str ink) (ws.map V.str) with
              | false => rfl
              | true => exact absurd ((inV_str ink ws).mp h) hin
            refine iteT' (by rw [hnin]; rfl) ?_
            have wl := hws.len
            refine ⟨_, rfl, .inl ⟨rfl, _, .inl (.inl hf5)⟩, _, rfl, fl, _, _, rfl, rfl, hf5, by rw [List.length_map]; exact Nat.lt_of_lt_of_le (by omega : ws.length < 9) (by decide), ?_⟩
            refine ⟨_, _, ws ++ [ink], rfl, by rw [List.map_append]; exact upd_same, ⟨by rw [List.length_append, List.length_singleton]; omega, fun _ => by rw [List.length_append, List.length_singleton]; omega, ?_, fun y hy => ?_⟩, (t5.at (upd_ne flt.symm)).mono ?_, (bt4.trans bt5).put hfl0⟩
            · rw [List.nodup_append]
              exact ⟨hws.nd, by simp, fun a ha b hb e => hin (by rw [List.mem_singleton.mp hb] at e; exact e ▸ ha)⟩
            · rcases List.mem_append.mp hy with h | h
              · exact hws.all y h
              · rw [List.mem_singleton.mp h]; exact ⟨ilen, j2⟩
            · rw [Nat.succ_mul]; omega
    · obtain ⟨v5, v6, ws, rfl, hf4, hws, t4, bt4⟩ := hp
      refine ⟨_, rfl, ?_⟩
      refine q fl ws H' hfl0 hf4 (hws.ok W1 W8 (by omega) (by omega) ?_) (t4.mono ?_) bt4
      · have : (1 + d3).toNat = R := by omega
        rw [this]; exact R36
      · have : (1 + d3).toNat = R := by omega
        rw [this, Nat.mul_comm]; omega
end
end Ov

set_option Elab.async false
set_option linter.all false
set_option maxRecDepth 100000
set_option maxHeartbeats 4000000
namespace Ov
open PySem PySem.Spec PyProof.Rows L2 GxR
abbrev sStrip : Stmt := top 14
abbrev sOver : Stmt := top 16
abbrev sWords : Stmt := inClass (top 17) 3
abbrev sWidth : Stmt := inClass (top 17) 4
abbrev sCall : Stmt := inClass (top 17) 7
def dotsB (z : Str) : Bool := z.cps.toList.all fun c => c == 46 || (decide (97 ≤ c) && decide (c ≤ 122))
def stripB (z : Str) (m : Int) : Bool := decide (1 ≤ (z.length : Int)) && decide ((z.length : Int) ≤ m) && dotsB z
theorem low_dots (z : Str) : lowB (Txt.replace z "." "") = dotsB z := by
  have e := replace_strikes z 46
  have e2 : (("." : Str), ("" : Str)) = (⟨#[46]⟩, ⟨#[]⟩) := by decide +kernel
  rw [(Prod.mk.inj e2).1, (Prod.mk.inj e2).2]
  unfold lowB dotsB
  rw [e, List.all_filter]
  congr 1
  funext c
  by_cases h : c = 46
  · subst h; rfl
  · have h1 : (c != 46) = true := by simp [h]
    have h2 : (c == 46) = false := by simp [h]
    rw [h1, h2]; simp
/-- the names that these defs read at the top -/
structure Txt2 (K : PySem.W.Frag) (mg : Str → Option Value) (fStrip fOver : Addr) : Prop where
  gStrip : mg "is_strip" = some (.ref fStrip)
  kStrip : PySem.W.keepIn K (.ref fStrip) = true
  gOver : mg "over" = some (.ref fOver)
  kOver : PySem.W.keepIn K (.ref fOver) = true
  cells : ∃ t, mg "MOST_CELLS" = some (.int 120 t)
section
variable {P : Program} {w : World} {K : PySem.W.Frag} {mg : Str → Option Value} {base : Heap} {T : List Addr} {C D fLow fText fAre fTape fNext fInks fInit cLow PLow cAre PAre fStrip fOver pWi fWi DSp DSg : Addr}
def spStrip (K : PySem.W.Frag) (T : List Addr) : Sp := fun vs H Q _ => ∃ (x : V) (m : Int), vs = [x, .int m] ∧ (∀ p ∈ T, TabG H p) ∧
  ((∃ z : Str, x = .str z ∧ z.length ≤ 4000 ∧ ∀ H2, Tbs T H H2 → Q (.bl (stripB z m)) H2) ∨ (∃ t, TyX K H x t ∧ PySem.W.kitOne K t (.type "str") = some false ∧ Q (.bl false) H))
theorem scStrip : FnScope ["thing", "most"] ["thing", "most"] (defScope sStrip) := ⟨rfl, rfl, rfl, by decide +kernel, rfl, by decide +kernel, by decide +kernel⟩
theorem ok_strip {f : Addr} {fd fdL : FuncData} (F : L2.Fun K "is_strip" "is_strip" sStrip f fd) (FL : FunC K "is_lowercase" "is_lowercase" sLow fLow fdL cLow) (X : Txt K mg C fLow fText fAre fTape fNext fInks) (B : Tab base mg T cLow PLow cAre PAre) : FnOk P w K mg base CX0 3 f fd ["thing", "most"] (spStrip K T) := by
  obtain ⟨oc, od, kV, doc, pm, an, cdv, ct, osl, rfl, lk, hcd⟩ := F.ex
  refine fn_ofT lk hcd scStrip (by decide +kernel) (by decide) (fun vs H Q E h => ?_) (fun A outer s H vs Q E hr h => ?_)
  · obtain ⟨x, m, rfl, _⟩ := h
    rfl
  · obtain ⟨x, m, rfl, hT, k⟩ := h
    refine ⟨_, CwR.psst_one (CwR.pst_ret (pet_and (pe_callB call_isi (by rfl) X.isi boot_isinstance (pa_cons (pv 0) (pa_cons (pe_bltn (v := .ty "str") (by rfl) X.str PySem.Pv.boot_str rfl) pa_nil)))
      (pet_and (pe_chain op_le op_le pe_int (pe_callB call_len_str (by rfl) X.len boot_len (pa_cons (pv 0) pa_nil)) (pv 1))
        (pet_one (pet_call1 (ok_low FL X B) hr (by rfl) X.gLow X.kLow (FL.toFun.binds fun _ _ _ _ _ _ us hl => match us, hl with | [_], _ => rfl) L2.pass0 (CwR.pet_replC (y := ".") (z := "") (pv 0))))))), ?_⟩
    rcases k with ⟨z, rfl, hz, k⟩ | ⟨t, ht, hk, k⟩
    · have hzs : z.length ≤ sizeLine := Nat.le_trans hz (by decide)
      refine ⟨_, rfl, _, _, _, _, _, rfl, .ty _, .base (.str _), kit_ty (r := true) (by decide +kernel), true, rfl, ?_⟩
      refine iteT ?_
      refine ⟨_, rfl, z, rfl, hzs, _, _, rfl, rfl, _, rfl, ?_⟩
      by_cases h1 : 1 ≤ (z.length : Int)
      · refine iteT' (by simpa using h1) ?_
        refine ⟨_, rfl, _, _, rfl, rfl, _, rfl, ?_⟩
        by_cases h2 : (z.length : Int) ≤ m
        · refine iteT' (by simpa using h2) ?_
          refine ⟨_, rfl, z, rfl, ?_, Txt.replace z "." "", rfl, hT, fun H2 q => ?_⟩
          · have : (("" : Str)).length = 0 := rfl
            rw [this]
            omega
          · have := k H2 q
            unfold stripB at this
            rw [low_dots]
            simpa [h1, h2] using this
        · refine iteF' (by simpa using h2) ?_
          have := k H (.refl hT)
          unfold stripB at this
          simpa [h1, h2] using this
      · refine iteF' (by simpa using h1) ?_
        refine ⟨_, rfl, ?_⟩
        refine iteF ?_
        have := k H (.refl hT)
        unfold stripB at this
        simpa [h1] using this
    · refine ⟨_, rfl, _, _, _, _, _, rfl, .ty _, ht, hk, false, rfl, ?_⟩
      exact iteF k
/-- the strip after a stamping at p -/
def overS (z w : Str) (p : Nat) : Str := ⟨(z.cps.toList.take p ++ w.cps.toList ++ z.cps.toList.drop (p + w.length)).toArray⟩
theorem tl_len (z : Str) : z.cps.toList.length = z.length := by simp [Str.length]
theorem over_cut (z w : Str) (p : Nat) (h : p + w.length ≤ z.length) : (cutS z none (some (p : Int)) ++ w) ++ cutS z (some ((p : Int) + w.length)) none = overS z w p := by
  have e1 : cutS z none (some (p : Int)) = ⟨(z.cps.toList.take p).toArray⟩ := by
    unfold cutS
    rw [HT.sIx_none, HT.sIx_nat, Nat.min_eq_left (by omega : p ≤ z.length), List.drop_zero, Nat.sub_zero]
  have e2 : cutS z (some ((p : Int) + w.length)) none = ⟨(z.cps.toList.drop (p + w.length)).toArray⟩ := by
    unfold cutS
    have : ((p : Int) + w.length) = ((p + w.length : Nat) : Int) := by omega
    rw [this, HT.sIx_none, HT.sIx_nat, Nat.min_eq_left h, List.take_of_length_le (by rw [List.length_drop, tl_len]; omega)]
  rw [e1, e2]
  show (⟨((z.cps.toList.take p).toArray ++ w.cps) ++ (z.cps.toList.drop (p + w.length)).toArray⟩ : Str) = overS z w p
  unfold overS
  congr 1
  apply Array.ext'
  simp
theorem overS_len (z w : Str) (p : Nat) (h : p + w.length ≤ z.length) : (overS z w p).length = z.length := by
  show ((z.cps.toList.take p ++ w.cps.toList ++ z.cps.toList.drop (p + w.length)).toArray).size = z.length
  rw [List.size_toArray, List.length_append, List.length_append, List.length_take, List.length_drop, tl_len, tl_len]
  omega
def spOver : Sp := fun vs H Q _ => ∃ (z u : Str) (p : Nat), vs = [.str z, .str u, .int (p : Nat)] ∧ p + u.length ≤ z.length ∧ z.length ≤ 4000 ∧ Q (.str (overS z u p)) H
theorem scOver : FnScope ["strip", "letters", "place"] ["strip", "letters", "place"] (defScope sOver) := ⟨rfl, rfl, rfl, by decide +kernel, rfl, by decide +kernel, by decide +kernel⟩
theorem ok_over {f : Addr} {fd : FuncData} (F : L2.Fun K "over" "over" sOver f fd) (X : Txt K mg C fLow fText fAre fTape fNext fInks) : FnOk P w K mg base CX0 1 f fd ["strip", "letters", "place"] spOver := by
  refine F.ok scOver (fun vs H Q E h => ?_) (fun cdv A outer s H vs Q E hr h => ?_)
  · obtain ⟨z, u, p, rfl, _⟩ := h
    rfl
  · obtain ⟨z, u, p, rfl, hp, hz, q⟩ := h
    have hzs : z.length ≤ sizeLine := Nat.le_trans hz (by decide)
    have hus : u.length ≤ sizeLine := Nat.le_trans (by omega : u.length ≤ z.length) hzs
    refine ⟨_, pss_one (ps_ret (pe_op op_add_str (pe_op op_add_str (pe_slice sl_str (pv 0) po_none (po_some (pv 2))) (pv 1)) (pe_slice sl_str (pv 0) (po_some (pe_op op_add (pv 2) (pe_callB call_len_str (by rfl) X.len boot_len (pa_cons (pv 1) pa_nil)))) po_none))), ?_⟩
    refine ⟨_, rfl, _, rfl, _, rfl, z, rfl, hzs, _, rfl, _, _, rfl, rfl, ?_, _, rfl, _, rfl, _, rfl, u, rfl, hus, _, _, rfl, rfl, _, rfl, z, rfl, hzs, _, _, rfl, rfl, ?_, ?_⟩
    · have := cutS_length z none (some (p : Int))
      rw [sizeLine_eq]; omega
    · have h1 := cutS_length z none (some (p : Int))
      have h2 := cutS_length z (some ((p : Int) + u.length)) none
      have h3 : (cutS z none (some (p : Int)) ++ u).length = (cutS z none (some (p : Int))).length + u.length := by
        show ((cutS z none (some (p : Int))).cps ++ u.cps).size = _
        rw [Array.size_append]; rfl
      rw [sizeLine_eq, h3]
      omega
    · have := over_cut z u p hp
      rw [this]
      exact q
end
end Ov

set_option Elab.async false
set_option linter.all false
set_option maxRecDepth 100000
set_option maxHeartbeats 4000000
namespace Ov
open PySem PySem.Spec PyProof.Rows L2 GxR
/-- words of stamps, their width -/
structure Good (ws : List Str) (W : Nat) : Prop where
  n1 : 1 ≤ ws.length
  n6 : ws.length ≤ 6
  w1 : 1 ≤ W
  w8 : W ≤ 8
  all : ∀ z ∈ ws, z.length = W ∧ lowB z = true
theorem good_of {ws : List Str} (h : stampsV (ws.map V.str) = true) : ∃ W, Good ws W := by
  have e : (ws.map V.str).map strV = ws := by rw [List.map_map]; exact List.map_id ws
  unfold stampsV at h
  rw [e] at h
  simp only [Bool.and_eq_true, decide_eq_true_eq, List.length_map] at h
  obtain ⟨h1, h2, h3, h4⟩ := h
  unfold tailB at h4
  simp only [Bool.and_eq_true] at h4
  have ta : ∀ z ∈ ws, textB z 8 = true := fun z hz => List.all_eq_true.mp h3 (.str z) (List.mem_map.mpr ⟨z, hz, rfl⟩)
  have la := List.all_eq_true.mp h4.1
  have hd : ∃ z, z ∈ ws ∧ ws.headD Str.empty = z := by
    cases ws with
    | nil => simp at h1
    | cons z r => exact ⟨z, List.mem_cons_self, rfl⟩
  obtain ⟨z0, hz0, e0⟩ := hd
  have t0 := ta z0 hz0
  unfold textB at t0
  simp only [Bool.and_eq_true, decide_eq_true_eq] at t0
  refine ⟨z0.length, h1, h2, by omega, by omega, fun z hz => ?_⟩
  have e1 := of_decide_eq_true (la z hz)
  rw [e0] at e1
  have t1 := ta z hz
  unfold textB at t1
  simp only [Bool.and_eq_true, decide_eq_true_eq] at t1
  exact ⟨e1, t1.2⟩
theorem Good.at {ws : List Str} {W : Nat} (g : Good ws W) {i : Nat} (hi : i < ws.length) : ws[i].length = W := (g.all _ (List.getElem_mem hi)).1
section
variable {P : Program} {w : World} {K : PySem.W.Frag} {mg : Str → Option Value} {base : Heap} {T : List Addr} {C D fLow fText fAre fTape fNext fInks fInit cLow PLow cAre PAre fStrip fOver pWi fWi pWo fWo fCl DSp DSg : Addr}
def spWidth (C : Addr) : Sp := fun vs H Q _ => ∃ (a l dx : Addr) (ws : List Str) (W : Nat), vs = [.ref a] ∧ Stp H C a l dx (ws.map V.str) ∧ Good ws W ∧ Q (.int (W : Nat)) H
theorem scSelf1 : FnScope ["self"] ["self"] (defScope sWidth) := ⟨rfl, rfl, rfl, by decide +kernel, rfl, by decide +kernel, by decide +kernel⟩
theorem scSelf2 : FnScope ["self"] ["self"] (defScope sWords) := ⟨rfl, rfl, rfl, by decide +kernel, rfl, by decide +kernel, by decide +kernel⟩
theorem at_0 {ws : List Str} (h : 1 ≤ ws.length) : atI (ws.map V.str) 0 = some (.str ws[0]) := by
  have h0 : (ws.map V.str)[0]? = some (.str ws[0]) := by rw [List.getElem?_map, List.getElem?_eq_getElem (by omega)]; rfl
  exact atI_nat (j := 0) h0
theorem at_i {ws : List Str} {i : Int} (h0 : 0 ≤ i) (h : i < ws.length) : atI (ws.map V.str) i = some (.str (ws.getD i.toNat Str.empty)) := by
  have hi : i.toNat < ws.length := by omega
  have h1 : (ws.map V.str)[i.toNat]? = some (.str (ws.getD i.toNat Str.empty)) := by
    rw [List.getElem?_map, List.getElem?_eq_getElem hi]
    simp [List.getD, hi]
  have e : i = (i.toNat : Int) := by omega
  have := atI_nat (j := i.toNat) h1
  rw [← e] at this
  exact this
theorem Good.get {ws : List Str} {W : Nat} (g : Good ws W) {i : Nat} (hi : i < ws.length) : (ws.getD i Str.empty).length = W ∧ lowB (ws.getD i Str.empty) = true := by
  have e : ws.getD i Str.empty = ws[i] := by simp [List.getD, hi]
  rw [e]
  exact g.all _ (List.getElem_mem hi)
theorem ok_width {f : Addr} {fd : FuncData} (F : L2.Fun K "width" "Stamps.width" sWidth f fd) (X : Txt K mg C fLow fText fAre fTape fNext fInks) (O : Own K C) : FnOk P w K mg base CX0 1 f fd ["self"] (spWidth C) := by
  refine F.ok scSelf1 (fun vs H Q E h => ?_) (fun cdv A outer s H vs Q E hr h => ?_)
  · obtain ⟨a, l, dx, ws, W, rfl, _⟩ := h
    rfl
  · obtain ⟨a, l, dx, ws, W, rfl, st, g, q⟩ := h
    refine ⟨_, pss_one (ps_ret (pe_callB call_len_str (by rfl) X.len boot_len (pa_cons (pe_ix ix_seq (pe_fld (pv 0) (by rfl)) pe_int fun _ _ => rfl) pa_nil))), ?_⟩
    have hl : 0 < ws.length := g.n1
    refine ⟨_, rfl, a, C, dx, _, _, rfl, st.1, O.cls, O.noW, rfl, .inl ⟨l, _, 0, .str ws[0], rfl, rfl, .inl (.inl st.2), at_0 g.n1, ws[0], rfl, ?_, ?_⟩⟩
    · rw [g.at hl]; exact Nat.le_trans g.w8 (by decide)
    · rw [g.at hl]; exact q
def spWords (C : Addr) : Sp := fun vs H Q _ => ∃ (a l dx : Addr) (xs : List V), vs = [.ref a] ∧ Stp H C a l dx xs ∧ ∀ p, H p = none → Q (.ref p) (upd H p (.lst xs))
theorem ok_words {f : Addr} {fd : FuncData} (F : L2.Fun K "words" "Stamps.words" sWords f fd) (X : Txt K mg C fLow fText fAre fTape fNext fInks) (O : Own K C) : FnOk P w K mg base CX0 1 f fd ["self"] (spWords C) := by
  refine F.ok scSelf2 (fun vs H Q E h => ?_) (fun cdv A outer s H vs Q E hr h => ?_)
  · obtain ⟨a, l, dx, xs, rfl, _⟩ := h
    rfl
  · obtain ⟨a, l, dx, xs, rfl, st, q⟩ := h
    refine ⟨_, pss_one (ps_ret (pe_callTy call_list_of (by rfl) X.lst (by decide +kernel) (pa_cons (pe_fld (pv 0) (by rfl)) pa_nil))), ?_⟩
    exact ⟨_, rfl, a, C, dx, _, _, rfl, st.1, O.cls, O.noW, rfl, l, xs, rfl, .inl (.inl (.inl st.2)), q⟩
/-- what a call of stamps gives: a strip, or the class of the error -/
inductive Called where
  | row (z : Str)
  | noStrip
  | noStamping
def calledS (ws : List Str) (W : Nat) (z : Str) (i at_ : Int) : Called :=
  if stripB z 120 = false then .noStrip else if 0 ≤ i ∧ i < ws.length ∧ 0 ≤ at_ ∧ at_ + W ≤ z.length then .row (overS z (ws.getD i.toNat Str.empty) at_.toNat) else .noStamping
def ans (c : Called) (DSp DSg : Addr) (H : Hp) (Q : VK) (E : XK) : Prop := match c with
  | .row z => Q (.str z) H
  | .noStrip => E (.ref DSp) none H
  | .noStamping => E (.ref DSg) none H
def spCall (K : PySem.W.Frag) (T : List Addr) (C DSp DSg : Addr) : Sp := fun vs H Q E => ∃ (a l dx : Addr) (ws : List Str) (W : Nat) (x : V) (i at_ : Int), vs = [.ref a, x, .int i, .int at_] ∧ Stp H C a l dx (ws.map V.str) ∧ Good ws W ∧ (∀ p ∈ T, TabG H p) ∧
  ((∃ z : Str, x = .str z ∧ z.length ≤ 4000 ∧ ∀ H2, Tbs T H H2 → ans (calledS ws W z i at_) DSp DSg H2 Q E) ∨ (∃ t, TyX K H x t ∧ PySem.W.kitOne K t (.type "str") = some false ∧ E (.ref DSp) none H))
theorem scCall : FnScope ["self", "strip", "word", "place"] ["self", "strip", "word", "place"] (defScope sCall) := ⟨rfl, rfl, rfl, by decide +kernel, rfl, by decide +kernel, by decide +kernel⟩
theorem ok_call {f : Addr} {fd fdS fdL fdO fdW : FuncData} (F : L2.Fun K "__call__" "Stamps.__call__" sCall f fd) (FS : L2.Fun K "is_strip" "is_strip" sStrip fStrip fdS) (FL : FunC K "is_lowercase" "is_lowercase" sLow fLow fdL cLow) (FO : L2.Fun K "over" "over" sOver fOver fdO) (FW : L2.Fun K "width" "Stamps.width" sWidth fWi fdW)
    (X : Txt K mg C fLow fText fAre fTape fNext fInks) (X2 : Txt2 K mg fStrip fOver) (B : Tab base mg T cLow PLow cAre PAre) (O : Own K C) (hp : PropOf K C "width" pWi fWi) (E1 : ErrC K mg "InvalidStrip" DSp) (E2 : ErrC K mg "InvalidStamping" DSg) :
    FnOk P w K mg base (L2.CX P w) 4 f fd ["self", "strip", "word", "place"] (spCall K T C DSp DSg) := by
  have SS : FnOk P w K mg base CX0 3 fStrip fdS ["thing", "most"] (spStrip K T) := ok_strip FS FL X B
  have bS : Binds K fdS ["thing", "most"] [] := FS.binds fun _ _ _ _ _ _ us hl => match us, hl with | [_, _], _ => rfl
  have OO : FnOk P w K mg base CX0 1 fOver fdO ["strip", "letters", "place"] spOver := ok_over FO X
  have bO : Binds K fdO ["strip", "letters", "place"] [] := FO.binds fun _ _ _ _ _ _ us hl => match us, hl with | [_, _, _], _ => rfl
  have WW : FnOk P w K mg base CX0 1 fWi fdW ["self"] (spWidth C) := ok_width FW X O
  have bW : Binds K fdW ["self"] [] := FW.binds fun _ _ _ _ _ _ us hl => match us, hl with | [_], _ => rfl
  obtain ⟨t120, g120⟩ := X2.cells
  refine F.okX scCall (fun vs H Q E h => ?_) (fun cdv A outer s H vs Q E hr h => ?_)
  · obtain ⟨a, l, dx, ws, W, x, i, at_, rfl, _⟩ := h
    rfl
  · obtain ⟨a, l, dx, ws, W, x, i, at_, rfl, st, g, hT, k⟩ := h
    refine ⟨_, pss_cons (ps_if (pt_not (pt_val (pe_call SS hr (by rfl) X2.gStrip X2.kStrip bS .nil L2.pass0 (pa_cons (pv 1) (pa_cons (pe_glob (v := .int 120) (by rfl) g120 ⟨_, rfl⟩) pa_nil))))) (pss_one (ps_raise rfl (takes_of rfl rfl rfl rfl) (pmk_own PySem.F.excBase_ValueError E1.e E1.g E1.k (raises_own E1.b E1.t) (by rfl)))) pss_nil)
      (pss_cons (ps_if (pt_not (pt_chain op_le op_lt pe_int (pv 2) (pe_callB call_len_seq (by rfl) X.len boot_len (pa_cons (pe_fld (pv 0) (by rfl)) pa_nil)))) (pss_one (ps_raise rfl (takes_of rfl rfl rfl rfl) (pmk_own PySem.F.excBase_ValueError E2.e E2.g E2.k (raises_own E2.b E2.t) (by rfl)))) pss_nil)
      (pss_cons (ps_if (pt_not (pt_chain op_le op_le pe_int (pv 3) (pe_op op_sub (pe_callB call_len_str (by rfl) X.len boot_len (pa_cons (pv 1) pa_nil)) (pe_propX (p := pWi) (pv 0) WW (hr.mono (by decide)) bW .nil L2.pass0)))) (pss_one (ps_raise rfl (takes_of rfl rfl rfl rfl) (pmk_own PySem.F.excBase_ValueError E2.e E2.g E2.k (raises_own E2.b E2.t) (by rfl)))) pss_nil)
      (pss_one (ps_ret (pe_call OO (hr.mono (by decide)) (by rfl) X2.gOver X2.kOver bO .nil L2.pass0 (pa_cons (pv 1) (pa_cons (pe_ix ix_seq (pe_fld (pv 0) (by rfl)) (pv 2) fun _ _ => rfl) (pa_cons (pv 3) pa_nil)))))))), ?_⟩
    rcases k with ⟨z, rfl, hz, k⟩ | ⟨t, ht, hk, k⟩
    · refine ⟨_, rfl, _, _, rfl, hT, .inl ⟨z, rfl, hz, fun H2 h2 => ⟨_, rfl, ?_⟩⟩⟩
      have kk := k H2 h2
      have st2 : Stp H2 C a l dx (ws.map V.str) := ⟨h2.kep.at hT st.1 fun _ z => (by cases z), h2.kep.at hT st.2 fun _ z => (by cases z)⟩
      unfold calledS at kk
      cases hs : stripB z 120 with
      | false =>
        rw [hs, if_pos rfl] at kk
        exact iteT kk
      | true =>
        rw [hs, if_neg (by decide)] at kk
        refine iteF ?_
        have hzs : z.length ≤ sizeLine := Nat.le_trans hz (by decide)
        have lws : (ws.map V.str).length = ws.length := List.length_map ..
        have no : ∀ {X : Prop}, ¬ (0 ≤ i ∧ i < ws.length ∧ 0 ≤ at_ ∧ at_ + W ≤ z.length) → (E (.ref DSg) none H2 → X) → X := fun h f => by
          rw [if_neg h] at kk
          exact f kk
        refine ⟨_, rfl, _, _, rfl, rfl, _, rfl, ?_⟩
        by_cases c1 : 0 ≤ i
        case neg =>
          refine iteF' (by simpa using c1) ⟨_, rfl, iteT ?_⟩
          exact no (fun h => c1 h.1) id
        refine iteT' (by simpa using c1) ⟨_, rfl, a, C, dx, _, _, rfl, st2.1, O.cls, O.noW, rfl, l, _, rfl, .inl (.inl (.inl st2.2)), _, _, rfl, rfl, _, rfl, ?_⟩
        by_cases c2 : i < ws.length
        case neg =>
          refine iteT' (by rw [lws]; simpa using c2) ?_
          exact no (fun h => c2 h.2.1) id
        refine iteF' (by rw [lws]; simpa using c2) ?_
        refine ⟨_, rfl, _, _, rfl, rfl, _, rfl, ?_⟩
        by_cases c3 : 0 ≤ at_
        case neg =>
          refine iteF' (by simpa using c3) ⟨_, rfl, iteT ?_⟩
          exact no (fun h => c3 h.2.2.1) id
        refine iteT' (by simpa using c3) ⟨_, rfl, z, rfl, hzs, _, rfl, a, C, dx, _, rfl, O.cls, hp, st2.1, ⟨a, l, dx, ws, W, rfl, st2, g, ?_⟩⟩
        refine ⟨_, _, rfl, rfl, _, _, rfl, rfl, _, rfl, ?_⟩
        by_cases c4 : at_ + W ≤ z.length
        case neg =>
          refine iteT' (by simp; omega) ?_
          exact no (fun h => c4 h.2.2.2) id
        refine iteF' (by simp; omega) ?_
        rw [if_pos ⟨c1, c2, c3, c4⟩] at kk
        obtain ⟨gl, _⟩ := g.get (i := i.toNat) (by omega)
        have ea : at_ = (at_.toNat : Int) := by omega
        refine ⟨_, rfl, _, rfl, a, C, dx, _, _, rfl, st2.1, O.cls, O.noW, rfl, _, rfl, .inl ⟨l, _, i, _, rfl, rfl, .inl (.inl st2.2), at_i c1 c2, _, rfl, ?_⟩⟩
        refine ⟨z, _, at_.toNat, by rw [← ea]; rfl, ?_, hz, kk⟩
        rw [gl]; omega
    · refine ⟨_, rfl, _, _, rfl, hT, .inr ⟨t, ht, hk, _, rfl, iteT k⟩⟩
end
end Ov

set_option Elab.async false
set_option linter.all false
set_option maxRecDepth 100000
set_option maxHeartbeats 4000000
namespace Ov
open PySem PySem.Spec PyProof.Rows L2 GxR
abbrev sLenI : Stmt := inClass (top 17) 5
abbrev sAdd : Stmt := inClass (top 17) 6
theorem pe_fldK {X : Cx} {K : PySem.W.Frag} (hK : X.K = K) {e : Expr} {f : Str} {ta : TE} {pos : Pos} (he : PE X e ta) (hb : attributeBase e f X.env (eval e X.env) = eval e X.env) : PE X (.Attribute e f pos) (tFld K ta f) := by subst hK; exact pe_fld he hb
structure InsU (K : PySem.W.Frag) (C : Addr) : Prop where
  ha : PySem.W.findIn K (.ref C) "__class__" = some (some (.builtin "object.__class__"))
  hn : PySem.W.specialIn K (.builtin "object.__class__") "__get__" = some (some (.builtin "getset_descriptor.__get__"))
  htk : PySem.W.takesIn K (.builtin "object.__class__") = some true
  hm : PySem.W.mroIn K C (.type "object") = some true
  kit : PySem.W.kitOne K (.ref C) (.ref C) = some true
def fresh (ws us : List Str) : List Str := us.filter fun z => !inV (.str z) (ws.map V.str)
def sumW (ws us : List Str) : List Str := ws ++ fresh ws us
section
variable {P : Program} {w : World} {K : PySem.W.Frag} {mg : Str → Option Value} {base : Heap} {T : List Addr} {C D fLow fText fAre fTape fNext fInks fInit cLow PLow cAre PAre fStrip fOver pWi fWi pWo fWo fCl DSp DSg : Addr}
def spLenI (C : Addr) : Sp := fun vs H Q _ => ∃ (a l dx : Addr) (xs : List V), vs = [.ref a] ∧ Stp H C a l dx xs ∧ Q (.int (xs.length : Nat)) H
theorem scSelf3 : FnScope ["self"] ["self"] (defScope sLenI) := ⟨rfl, rfl, rfl, by decide +kernel, rfl, by decide +kernel, by decide +kernel⟩
theorem ok_lenI {f : Addr} {fd : FuncData} (F : L2.Fun K "__len__" "Stamps.__len__" sLenI f fd) (X : Txt K mg C fLow fText fAre fTape fNext fInks) (O : Own K C) : FnOk P w K mg base CX0 1 f fd ["self"] (spLenI C) := by
  refine F.ok scSelf3 (fun vs H Q E h => ?_) (fun cdv A outer s H vs Q E hr h => ?_)
  · obtain ⟨a, l, dx, xs, rfl, _⟩ := h
    rfl
  · obtain ⟨a, l, dx, xs, rfl, st, q⟩ := h
    refine ⟨_, pss_one (ps_ret (pe_callB call_len_seq (by rfl) X.len boot_len (pa_cons (pe_fld (pv 0) (by rfl)) pa_nil))), ?_⟩
    exact ⟨_, rfl, a, C, dx, _, _, rfl, st.1, O.cls, O.noW, rfl, l, xs, rfl, .inl (.inl (.inl st.2)), q⟩
/-- one + other of stamps -/
def spAdd (K : PySem.W.Frag) (T : List Addr) (C D : Addr) : Sp := fun vs H Q E => ∃ (a l dx : Addr) (ws : List Str) (b m dy : Addr) (us : List Str), vs = [.ref a, .ref b] ∧ Stp H C a l dx (ws.map V.str) ∧ Stp H C b m dy (us.map V.str) ∧ (∀ p ∈ T, TabG H p) ∧
  ws.length ≤ 36 ∧ us.length ≤ 36 ∧ (∀ z ∈ sumW ws us, z.length ≤ 100) ∧
  (stampsV ((sumW ws us).map V.str) = true → ∀ H3 x k dz, H x = none → H k = none → x ∉ T → k ∉ T → Stp H3 C x k dz ((sumW ws us).map V.str) → Kep T H H3 → Q (.ref x) H3) ∧ (stampsV ((sumW ws us).map V.str) = false → ∀ H3, Kep T H H3 → E (.ref D) none H3)
abbrev NAdd : List Str := ["self", "other", "added", "words", "word"]
theorem scAdd : FnScope NAdd ["self", "other"] (defScope sAdd) := ⟨rfl, rfl, rfl, by decide +kernel, rfl, by decide +kernel, by decide +kernel⟩
theorem fresh_take {ws us : List Str} {j : Nat} {z : Str} (h : us[j]? = some z) : fresh ws (us.take (j + 1)) = if (!inV (.str z) (ws.map V.str)) = true then fresh ws (us.take j) ++ [z] else fresh ws (us.take j) := by
  unfold fresh
  rw [List.take_add_one, h, List.filter_append]
  by_cases c : (!inV (.str z) (ws.map V.str)) = true
  · rw [if_pos c]; simp at c; simp [c]
  · rw [if_neg c]; simp at c; simp [c]
theorem fresh_len (ws us : List Str) : (fresh ws us).length ≤ us.length := List.length_filter_le _ _
theorem flat_strs (ws : List Str) : (ws.map V.str).all flatV = true := by
  rw [List.all_map]; exact List.all_eq_true.mpr fun _ _ => rfl
theorem ok_add {f : Addr} {fd fdW : FuncData} (F : L2.Fun K "__add__" "Stamps.__add__" sAdd f fd) (FI : FnR P w K mg base (L2.CX P w) 6 fInit (spInit K T C D)) (FW : L2.Fun K "words" "Stamps.words" sWords fWo fdW) (M : Mk K C fInit)
    (X : Txt K mg C fLow fText fAre fTape fNext fInks) (O : Own K C) (hp : PropOf K C "words" pWo fWo) (IU : InsU K C) :
    FnOk P w K mg base (L2.CX P w) 8 f fd ["self", "other"] (spAdd K T C D) := by
  have WW : FnOk P w K mg base CX0 1 fWo fdW ["self"] (spWords C) := ok_words FW X O
  have bW : Binds K fdW ["self"] [] := FW.binds fun _ _ _ _ _ _ us hl => match us, hl with | [_], _ => rfl
  refine F.okX scAdd (fun vs H Q E h => ?_) (fun cdv A outer s H vs Q E hr h => ?_)
  · obtain ⟨a, l, dx, ws, b, m, dy, us, rfl, _⟩ := h
    rfl
  · obtain ⟨a, l, dx, ws, b, m, dy, us, rfl, sa, sb, hT, nw, nu, hz, k1, k2⟩ := h
    refine ⟨_, pss_cons (ps_if (pt_not (pt_val (pe_callB call_isi (by rfl) X.isi boot_isinstance (pa_cons (pv 1) (pa_cons (pe_glob (v := .ref C) (by rfl) X.gC rfl) pa_nil))))) pss_never pss_nil)
      (pss_cons (ps_setLc (i := 2) (own := [("word", 4)]) (g := gName 4) rfl scAdd.nd rfl rfl (sw_true rfl rfl rfl (by decide +kernel)) (pi_list (pe_propX (p := pWo) (pv 1) WW (hr.mono (by decide)) bW .nil L2.pass0)) (blkOk_by (own := [("word", 4)]) (N := NAdd) (sc := defScope sAdd) (by decide +kernel))
          (fun _ _ _ _ _ => pg_name (i := 4) scAdd.nd rfl (Or.inl rfl)) (fun _ _ _ _ _ => pts_one (pt_cmpR (show OpR _ _ (rIn K true) from op_notIn_seq) (pv 4) (pe_fldK (K := K) (by rfl) (pv 0) (by rfl)) (by rfl)))
          (fun _ _ _ _ _ => pv 4))
      (pss_cons (ps_set (i := 3) scAdd.nd rfl (.inl rfl) (pe_op op_cat (pe_propX (p := pWo) (pv 0) WW (hr.mono (by decide)) bW .nil L2.pass0) (pv 2)))
      (pss_one (ps_ret (pe_makeS M FI hr (passes_call (E := E) (takes_of rfl rfl rfl rfl) (fun _ _ _ _ h => h)) (pe_glob (v := .ref C) (by rfl) X.gC rfl) (pv 3)))))), ?_⟩
    have lT : l ∉ T := not_tab hT sa.2 fun _ z => by cases z
    have aT : a ∉ T := not_tab hT sa.1 fun _ z => by cases z
    refine ⟨_, rfl, _, _, _, _, _, rfl, .own _, .base (.ins sb.1 O.cls IU.ha IU.hn IU.htk IU.hm), IU.kit, true, rfl, iteF ?_⟩
    refine ⟨_, rfl, b, C, dy, _, rfl, O.cls, hp, sb.1, b, m, dy, us.map V.str, rfl, sb, fun q hq => ?_⟩
    have kq : Kep T H (upd H q (.lst (us.map V.str))) := Kep.new hT hq
    generalize hG : upd H q (.lst (us.map V.str)) = G at kq
    have Gq : G q = some (.lst (us.map V.str)) := by rw [← hG]; exact upd_same
    have qT : q ∉ T := free_tab hT hq
    refine ⟨q, rfl, ⟨_, .inl (.inl Gq)⟩, fun R hR => ?_⟩
    have RT : R ∉ T := free_tab kq.1 hR
    have RH : H R = none := kq.free hT hR
    refine lc_list (xs := us.map V.str) (fun j H5 => H5 R = some (.lst ((fresh ws (us.take j)).map V.str)) ∧ Kep T H H5 ∧ H5 q = some (.lst (us.map V.str))) ⟨upd_same, kq.trans (Kep.new kq.1 hR), (upd_ne (ne_of_none Gq hR)).trans Gq⟩ (fun j H5 _ p => .inl (.inl p.2.2)) (fun j x H5 hj p => ?_) (fun H5 p => ?_)
    · obtain ⟨hR5, k5, hq5⟩ := p
      rw [List.getElem?_map] at hj
      obtain ⟨z, hz5, rfl⟩ := Option.map_eq_some_iff.mp hj
      have ju : j < us.length := (List.getElem?_eq_some_iff.mp hz5).1
      refine ⟨rfl, ?_⟩
      refine ⟨_, rfl, ?_⟩
      refine ⟨_, rfl, a, C, dx, _, _, rfl, k5.at hT sa.1 (fun _ z => by cases z), O.cls, O.noW, rfl, l, _, rfl, .inl (.inl (.inl (k5.at hT sa.2 fun _ z => by cases z))), rfl, flat_strs ws, _, rfl, ?_⟩
      have ft := fresh_take (ws := ws) hz5
      show if (!inV (.str z) (ws.map V.str)) = true then _ else _
      by_cases c : (!inV (.str z) (ws.map V.str)) = true
      · rw [if_pos c] at ft ⊢
        refine ⟨_, rfl, _, hR5, ?_, ?_, Kep.put k5 RH RT, (upd_ne (ne_of_none Gq hR)).trans hq5⟩
        · rw [List.length_map]
          have := fresh_len ws (us.take j)
          rw [List.length_take] at this
          exact Nat.lt_of_lt_of_le (by omega : _ < 37) (by decide)
        · rw [ft, List.map_append]; exact upd_same
      · rw [if_neg c] at ft ⊢
        exact ⟨by rw [ft]; exact hR5, k5, hq5⟩
    · obtain ⟨hR5, k5, _⟩ := p
      rw [List.length_map, List.take_length] at hR5
      have sa5 : Stp H5 C a l dx (ws.map V.str) := ⟨k5.at hT sa.1 fun _ z => (by cases z), k5.at hT sa.2 fun _ z => (by cases z)⟩
      refine ⟨_, rfl, a, C, dx, _, rfl, O.cls, hp, sa5.1, a, l, dx, ws.map V.str, rfl, sa5, fun q2 hq2 => ?_⟩
      have q2R : R ≠ q2 := ne_of_none hR5 hq2
      have k6 : Kep T H (upd H5 q2 (.lst (ws.map V.str))) := k5.trans (Kep.new k5.1 hq2)
      have hR6 : upd H5 q2 (.lst (ws.map V.str)) R = some (.lst ((fresh ws us).map V.str)) := (upd_ne q2R).trans hR5
      have hq6 : upd H5 q2 (.lst (ws.map V.str)) q2 = some (.lst (ws.map V.str)) := upd_same
      generalize upd H5 q2 (.lst (ws.map V.str)) = H6 at k6 hR6 hq6
      have fl := fresh_len ws us
      refine ⟨_, rfl, q2, R, ws.map V.str, (fresh ws us).map V.str, rfl, rfl, hq6, hR6, ?_, fun q3 hq3 => ?_⟩
      · rw [List.length_map, List.length_map]
        exact Nat.le_trans (by omega : _ ≤ 72) (by decide)
      have k7 : Kep T H (upd H6 q3 (.lst (ws.map V.str ++ (fresh ws us).map V.str))) := k6.trans (Kep.new k6.1 hq3)
      have e7 : ws.map V.str ++ (fresh ws us).map V.str = (sumW ws us).map V.str := (List.map_append ..).symm
      rw [e7] at k7 ⊢
      have hq7 : upd H6 q3 (.lst ((sumW ws us).map V.str)) q3 = some (.lst ((sumW ws us).map V.str)) := upd_same
      generalize upd H6 q3 (.lst ((sumW ws us).map V.str)) = H7 at k7 hq7 ⊢
      have mk : Makes K T C D H7 ((sumW ws us).map V.str) Q E := by
        refine ⟨k7.1, ?_, fun x hx => ?_, fun hv H8 x k dz hx hk _ xT kT st k8 => k1 hv H8 x k dz (k7.free hT hx) (k7.free hT hk) xT kT st (k7.trans k8), fun hv H8 k8 => k2 hv H8 (k7.trans k8)⟩
        · rw [List.length_map]
          show (ws ++ fresh ws us).length ≤ 4000
          rw [List.length_append]; omega
        · obtain ⟨z, hz1, rfl⟩ := List.mem_map.mp hx
          exact .inl ⟨z, rfl, Nat.le_trans (hz z hz1) (by decide)⟩
      exact ⟨rfl, _, rfl, q3, _, rfl, .inr (.inl (.inl hq7)), fun x dx hx hdx hne => mk.init hx hdx hne⟩
end
end Ov

set_option Elab.async false
set_option linter.all false
set_option maxRecDepth 100000
set_option maxHeartbeats 4000000
namespace Ov
open PySem PySem.Spec PyProof.Rows L2 GxR
section
variable {P : Program} {w : World} {K : PySem.W.Frag} {mg : Str → Option Value} {base : Heap} {T : List Addr} {C D fLow fText fAre fTape fNext fInks fInit cLow PLow cAre PAre fStrip fOver pWi fWi pWo fWo fCl DSp DSg DS DNum DTx fInked fRow fCalled fRight pO gO : Addr}
theorem KepX.trans {a : Addr} {H H1 H2 : Hp} (x : KepX T a H H1) (y : KepX T a H1 H2) : KepX T a H H2 := ⟨y.1, fun b o hb hn e => y.2 b o hb hn (x.2 b o hb hn e)⟩
theorem Kep.kx {a : Addr} {H H1 : Hp} (x : Kep T H H1) : KepX T a H H1 := ⟨x.1, fun b o hb _ e => x.2 b o hb e⟩
theorem Bt.kx {a : Addr} {H H1 : Hp} (x : Bt a H H1) (hT : ∀ p ∈ T, TabG H p) (na : a ∉ T) : KepX T a H H1 := ⟨fun p hp => by
  obtain ⟨ps, h1, h2⟩ := hT p hp
  exact ⟨ps, x p _ (fun z => na (z ▸ hp)) h1, h2⟩, fun b o _ hn e => x b o hn e⟩
theorem KepX.new {a : Addr} {H H1 : Hp} {p : Addr} {o : HO} (x : KepX T a H H1) (e : H1 p = none) : KepX T a H (upd H1 p o) := ⟨(Kep.new x.1 e).1, fun b u hb hn q => (Kep.new x.1 e).2 b u hb (x.2 b u hb hn q)⟩
theorem KepX.free {a : Addr} {H H1 : Hp} {p : Addr} (x : KepX T a H H1) (hT : ∀ p ∈ T, TabG H p) (hp : p ≠ a) (e : H1 p = none) : H p = none := by
  cases q : H p with
  | none => rfl
  | some o =>
    by_cases hb : p ∈ T
    · obtain ⟨ps, h1, _⟩ := x.1 p hb
      rw [h1] at e; cases e
    · rw [x.2 p o hb hp q] at e; cases e
theorem KepX.put {a : Addr} {H H1 : Hp} {p : Addr} {o : HO} (x : KepX T a H H1) (e : H p = none) (n : p ∉ T) : KepX T a H (upd H1 p o) := by
  refine ⟨fun q hq => ?_, fun b u hb hn hu => ?_⟩
  · obtain ⟨ps, h1, h2⟩ := x.1 q hq
    exact ⟨ps, (upd_ne fun z => n (by rw [← z]; exact hq)).trans h1, h2⟩
  · exact (upd_ne (ne_of_none hu e)).trans (x.2 b u hb hn hu)
theorem KepX.at {a b : Addr} {H H1 : Hp} {o : HO} (x : KepX T a H H1) (hT : ∀ p ∈ T, TabG H p) (hb : b ≠ a) (e : H b = some o) (n : ∀ ps, o ≠ .tbl ps) : H1 b = some o := x.2 b o (not_tab hT e n) hb e
theorem KepX.refl {a : Addr} {H : Hp} (h : ∀ p ∈ T, TabG H p) : KepX T a H H := ⟨h, fun _ _ _ _ e => e⟩
theorem Bt.kxt {a : Addr} {H H1 H2 : Hp} (k : KepX T a H H1) (na : a ∉ T) (x : Bt a H1 H2) : KepX T a H H2 := k.trans (x.kx k.1 na)
theorem Tp.kx {H H' : Hp} {t : Addr} {n : Nat} (h : Tp H t n) (hT : ∀ p ∈ T, TabG H p) (k : Kep T H H') : Tp H' t n := by
  have nt : t ∉ T := by
    obtain ⟨a, b, c, h1, _⟩ := h
    exact not_tab hT h1 fun _ z => by cases z
  obtain ⟨a, b, c, h1, h2⟩ := h
  exact ⟨a, b, c, k.2 t _ nt h1, h2⟩
theorem Tp.nT {H : Hp} {t : Addr} {n : Nat} (h : Tp H t n) (hT : ∀ p ∈ T, TabG H p) : t ∉ T := by
  obtain ⟨a, b, c, h1, _⟩ := h
  exact not_tab hT h1 fun _ z => by cases z
theorem Kep.btX {t : Addr} {H H1 H2 : Hp} (hT : ∀ p ∈ T, TabG H p) (k : Kep T H H1) (ht : H t = none) (b : Bt t H1 H2) : Kep T H H2 := by
  refine ⟨fun p hp => ?_, fun a o ha e => b a o (ne_of_none e ht) (k.2 a o ha e)⟩
  obtain ⟨ps, h1, h2⟩ := k.1 p hp
  obtain ⟨ps', h1', _⟩ := hT p hp
  exact ⟨ps, b p _ (ne_of_none h1' ht) h1, h2⟩
end
end Ov

set_option Elab.async false
set_option linter.all false
set_option maxRecDepth 100000
set_option maxHeartbeats 4000000
namespace Ov
open PySem PySem.Spec PyProof.Rows L2 GxR
abbrev sIs : Stmt := top 22
/-- the signs of a text that are no lowercase letters -/
def oddL (z : Str) : List Nat := z.cps.toList.filter fun c => !(decide (97 ≤ c) && decide (c ≤ 122))
theorem oddL_nil (z : Str) : oddL z = [] ↔ lowB z = true := by
  unfold oddL lowB
  rw [List.filter_eq_nil_iff, List.all_eq_true]
  refine forall_congr' fun c => forall_congr' fun _ => ?_
  cases (decide (97 ≤ c) && decide (c ≤ 122)) <;> simp
def abc26 : Str := "abcdefghijklmnopqrstuvwxyz"
theorem abc_in (c : Nat) : inV (.str ⟨#[c]⟩) (abc26.cps.toList.map fun c => V.str ⟨#[c]⟩) = (decide (97 ≤ c) && decide (c ≤ 122)) := by
  have e : abc26.cps.toList = (List.range 26).map (97 + ·) := by decide +kernel
  rw [e, List.map_map, Bool.eq_iff_iff]
  have k : inV (.str ⟨#[c]⟩) (((List.range 26).map (97 + ·)).map fun c => V.str ⟨#[c]⟩) = true ↔ ∃ n ∈ (List.range 26).map (97 + ·), (⟨#[n]⟩ : Str) = ⟨#[c]⟩ := by
    unfold inV
    rw [List.any_map, List.any_eq_true]
    constructor
    · rintro ⟨n, hn, q⟩
      exact ⟨n, hn, by simpa [eqV] using q⟩
    · rintro ⟨n, hn, q⟩
      exact ⟨n, hn, by simp [eqV, q]⟩
  rw [List.map_map] at k
  rw [k]
  simp only [Bool.and_eq_true, decide_eq_true_eq, List.mem_map, List.mem_range]
  constructor
  · rintro ⟨n, ⟨m, hm, rfl⟩, q⟩
    have : 97 + m = c := by
      have := congrArg (fun z : Str => z.cps.toList) q
      simpa using this
    omega
  · intro h
    exact ⟨c, ⟨c - 97, by omega, by omega⟩, rfl⟩
theorem dStrs_nil (ws : List Str) : PyData.eqv (dStrs ws) (.list []) = decide (ws = []) := by
  cases ws with
  | nil => rfl
  | cons z r => rfl
/-- one-sign texts of a list of signs -/
def ones (l : List Nat) : List Str := l.map fun c => ⟨#[c]⟩
theorem dups_nil (ws : List Str) : (ws.filter fun z => decide (1 < ws.count z)) = [] ↔ ws.Nodup := by
  rw [List.filter_eq_nil_iff]
  constructor
  · intro h
    rw [List.nodup_iff_count]
    intro a
    by_cases ha : a ∈ ws
    · have := h a ha
      simp at this
      omega
    · rw [List.count_eq_zero_of_not_mem ha]; omega
  · intro h a ha
    have := List.nodup_iff_count.mp h a
    simp; omega
section
variable {P : Program} {w : World} {K : PySem.W.Frag} {mg : Str → Option Value} {base : Heap} {T : List Addr} {C D fLow fText fAre fTape fNext fInks fInit cLow PLow cAre PAre : Addr}
def spIs (K : PySem.W.Frag) (T : List Addr) : Sp := fun vs H Q _ => ∃ (v : V) (d : PyData), vs = [v] ∧ Ob H v d ∧ (∀ p ∈ T, TabG H p) ∧
  ((∃ a xs, v = .ref a ∧ H a = some (.lst xs) ∧ xs.length ≤ 4000 ∧ (∀ x ∈ xs, Wd K T H x) ∧ (∀ x ∈ xs, ∀ z, x = .str z → z.length ≤ 1000 ∧ PyData.strOk z = true) ∧ ∀ H3, Kep T H H3 → Q (.bl (stampsV xs)) H3) ∨ (isLstD d = false ∧ ∀ H3, Kep T H H3 → Q (.bl false) H3))
abbrev NIs : List Str := ["value", "ink", "letter", "one"]
theorem scIs : FnScope NIs ["value"] (defScope sIs) := ⟨rfl, rfl, rfl, by decide +kernel, rfl, by decide +kernel, by decide +kernel⟩
theorem ok_is {f : Addr} {fd : FuncData} (F : L2.Fun K "_law_is_inks" "_law_is_inks" sIs f fd) (X : Txt K mg C fLow fText fAre fTape fNext fInks) : FnOk P w K mg base CX0 1 f fd ["value"] (spIs K T) := by
  refine F.ok scIs (fun vs H Q E h => ?_) (fun cdv A outer s H vs Q E hr h => ?_)
  · obtain ⟨v, d, rfl, _⟩ := h
    rfl
  · obtain ⟨v, d, rfl, ob, hT, h⟩ := h
    have hu := hr.units
    refine ⟨_, pss_cons (ps_if (pw_or (pt_not (pt_val (pe_callB call_isi (by rfl) X.isi boot_isinstance (pa_cons (pv 0) (pa_cons (pe_bltn (v := .ty "list") (by rfl) X.lst (by decide +kernel) rfl) pa_nil)))))
          (pw_or1 (pt_not (pt_chain op_le op_le pe_int (pe_callB call_len_seq (by rfl) X.len boot_len (pa_cons (pv 0) pa_nil)) pe_int)))).pt (pss_one (ps_ret pe_bl)) pss_nil)
      (pss_cons (ps_for PassesOwn.never rfl (pi_list (pv 0)) (pg_name (i := 1) scIs.nd rfl (Or.inl rfl))
        (pss_cons (ps_if (pw_or (pt_not (pt_val (pe_callB call_isi (by rfl) X.isi boot_isinstance (pa_cons (pv 1) (pa_cons (pe_bltn (v := .ty "str") (by rfl) X.str PySem.Pv.boot_str rfl) pa_nil)))))
            (pw_or (pt_not (pt_chain op_le op_le pe_int (pe_callB call_len_str (by rfl) X.len boot_len (pa_cons (pv 1) pa_nil)) pe_int))
              (pw_or1 (pt_cmpR op_ne (pe_callB call_len_str (by rfl) X.len boot_len (pa_cons (pv 1) pa_nil)) (pe_callB call_len_str (by rfl) X.len boot_len (pa_cons (pe_ix ix_seq (pv 0) pe_int fun _ _ => rfl) pa_nil)) (by rfl))))).pt (pss_one (ps_ret pe_bl)) pss_nil)
        (pss_one (ps_if (pt_cmpR (op_neD hu) (pe_lc (own := [("letter", 2)]) (g := gName 2) (by rfl) scIs.nd (pi_str (pv 1)) (blkOk_by (own := [("letter", 2)]) (N := NIs) (sc := defScope sIs) (by decide +kernel))
            (fun _ _ _ _ _ => pg_name (i := 2) scIs.nd rfl (Or.inl rfl)) (fun _ _ _ _ _ => pts_one (pt_cmpR (show OpR _ _ (rIn K true) from op_notIn_seq) (pv 2) (pe_callTy (call_listS (by rfl)) (by rfl) X.lst (by decide +kernel) (pa_cons pe_str pa_nil)) (by rfl)))
            (fun _ _ _ _ _ => pv 2)) (pe_lst pa_nil) (by rfl)) (pss_one (ps_ret pe_bl)) pss_nil))))
      (pss_one (ps_ret (pe_and (pe_cmpR op_le (pe_op op_mul (pe_callB call_len_seq (by rfl) X.len boot_len (pa_cons (pv 0) pa_nil)) (pe_callB call_len_str (by rfl) X.len boot_len (pa_cons (pe_ix ix_seq (pv 0) pe_int fun _ _ => rfl) pa_nil))) pe_int (by rfl))
        (pe_one (pe_cmpR (op_eqD hu) (pe_lc (own := [("one", 3)]) (g := gName 3) (by rfl) scIs.nd (pi_list (pv 0)) (blkOk_by (own := [("one", 3)]) (N := NIs) (sc := defScope sIs) (by decide +kernel))
            (fun _ _ _ _ _ => pg_name (i := 3) scIs.nd rfl (Or.inl rfl)) (fun _ _ _ _ _ => pts_one (pt_cmpR op_gt (show PE _ _ (tBM K "list" (rCntS K) (tVar 0) (tCons (tVar 3) tNil)) from pe_bm PySem.F.plainAttrs_list PySem.F.slot_list_count PySem.F.type_list_count mt_countS (pv 0) (pa_cons (pv 3) pa_nil)) pe_int (by rfl)))
            (fun _ _ _ _ _ => pv 3)) (pe_lst pa_nil) (by rfl))))))), ?_⟩
    rcases h with ⟨a, xs, rfl, ha, hn, hw, hz, k⟩ | ⟨hd, k⟩
    case inr =>
      refine ⟨_, rfl, _, _, _, _, _, rfl, .ty _, ob.ty, kit_lst K d, _, rfl, ?_⟩
      rw [hd]
      exact iteT (k _ (.refl hT))
    have aT : a ∉ T := not_tab hT ha fun _ z => by cases z
    refine ⟨_, rfl, _, _, _, _, _, rfl, .ty _, .base (.lst ha), kit_ty (r := true) (by decide +kernel), true, rfl, iteF ?_⟩
    refine ⟨_, rfl, a, xs, rfl, .inl (.inl (.inl ha)), _, _, rfl, rfl, _, rfl, ?_⟩
    by_cases h1 : 1 ≤ xs.length
    case neg =>
      refine iteF' (by simp; omega) ⟨_, rfl, iteT ?_⟩
      have := k H (.refl hT)
      unfold stampsV at this
      rw [decide_eq_false h1, Bool.false_and] at this
      exact this
    refine iteT' (by simp; omega) ⟨_, _, rfl, rfl, ?_⟩
    by_cases h6 : xs.length ≤ 6
    case neg =>
      refine ⟨_, rfl, iteT' (by simp; omega) ?_⟩
      have := k H (.refl hT)
      unfold stampsV at this
      rw [decide_eq_false h6, Bool.false_and, Bool.and_false] at this
      exact this
    refine ⟨_, rfl, iteF' (by simp; omega) ?_⟩
    obtain ⟨x0, xr, rfl⟩ : ∃ x0 xr, xs = x0 :: xr := by
      cases xs with
      | nil => simp at h1
      | cons x r => exact ⟨x, r, rfl⟩
    generalize hX : x0 :: xr = xs at *
    have g0 : xs[0]? = some x0 := by rw [← hX]; rfl
    have hh : (xs.map strV).headD Str.empty = strV x0 := by rw [← hX]; rfl
    have bad : ∀ x ∈ xs, isTextV x = false → stampsV xs = false := fun x hx e => by
      unfold stampsV
      have : xs.all isTextV = false := List.all_eq_false.mpr ⟨x, hx, by rw [e]; simp⟩
      rw [this, Bool.false_and, Bool.and_false, Bool.and_false]
    have badW : ∀ z, V.str z ∈ xs → z.length ≠ (strV x0).length → stampsV xs = false := fun z hx e => by
      unfold stampsV tailB
      have : (xs.map strV).all (fun y => decide (y.length = ((xs.map strV).headD Str.empty).length)) = false := List.all_eq_false.mpr ⟨z, List.mem_map.mpr ⟨_, hx, rfl⟩, by rw [hh]; simpa using e⟩
      rw [this, Bool.false_and, Bool.and_false, Bool.and_false, Bool.and_false]
    refine ⟨_, rfl, a, rfl, ⟨_, .inl (.inl ha)⟩, for_list (xs := xs) (fun i σ H' => (∃ v1, σ = [some (.ref a), v1, none, none]) ∧ Kep T H H' ∧ ∀ j < i, ∃ z, xs[j]? = some (.str z) ∧ textB z 8 = true ∧ z.length = (strV x0).length)
      ⟨⟨none, rfl⟩, .refl hT, fun j hj => absurd hj (Nat.not_lt_zero j)⟩ (fun i σ H' _ p => .inl (.inl (p.2.1.2 a _ aT ha))) (fun i x σ H' hx p => ?_) (fun σ H' p => ?_)⟩
    · obtain ⟨⟨v1, rfl⟩, kH, pre⟩ := p
      have mx : x ∈ xs := List.mem_of_getElem? hx
      have i6 : i < 6 := by have := (List.getElem?_eq_some_iff.mp hx).1; omega
      have ha' := kH.2 a _ aT ha
      rcases hw x mx with ⟨z, rfl, hzs⟩ | ⟨hf, t, hk, ht⟩
      case inr =>
        refine ⟨_, rfl, _, _, _, _, _, rfl, .ty _, ht H' kH, hk, false, rfl, iteT ?_⟩
        have := k H' kH
        rw [bad x mx hf] at this
        exact this
      have fin : textB z 8 = false → Q (.bl false) H' := fun e => by
        have := k H' kH
        rw [bad _ mx e] at this
        exact this
      refine ⟨_, rfl, _, _, _, _, _, rfl, .ty _, .base (.str _), kit_ty (r := true) (by decide +kernel), true, rfl, iteF ?_⟩
      refine ⟨_, rfl, z, rfl, hzs, _, _, rfl, rfl, _, rfl, ?_⟩
      by_cases z1 : 1 ≤ z.length
      case neg =>
        refine iteF' (by simp; omega) ⟨_, rfl, iteT (fin ?_)⟩
        unfold textB
        rw [decide_eq_false (by omega)]; rfl
      refine iteT' (by simp; omega) ⟨_, _, rfl, rfl, ?_⟩
      by_cases z8 : z.length ≤ 8
      case neg =>
        refine ⟨_, rfl, iteT' (by simp; omega) (fin ?_)⟩
        unfold textB
        rw [decide_eq_false (show ¬ ((z.length : Int) ≤ 8) by omega)]; simp
      refine ⟨_, rfl, iteF' (by simp; omega) ?_⟩
      -- value[0] is a text
      obtain ⟨z0, hz0, hl0⟩ : ∃ z0, x0 = .str z0 ∧ z0.length ≤ sizeLine := by
        cases i with
        | zero =>
          rw [g0] at hx
          cases hx
          exact ⟨z, rfl, hzs⟩
        | succ i =>
          obtain ⟨z0, e0, t0, _⟩ := pre 0 (Nat.succ_pos i)
          rw [g0] at e0
          cases e0
          refine ⟨z0, rfl, ?_⟩
          unfold textB at t0
          simp only [Bool.and_eq_true, decide_eq_true_eq] at t0
          exact Nat.le_trans (by omega : z0.length ≤ 8) (by decide)
      subst hz0
      refine ⟨_, rfl, z, rfl, hzs, _, rfl, .inl ⟨a, _, 0, .str z0, rfl, rfl, .inl (.inl ha'), atI_nat g0, z0, rfl, hl0, rfl, _, rfl, ?_⟩⟩
      by_cases zw : z.length = z0.length
      case neg =>
        refine iteT' (by simp; omega) ?_
        have := k H' kH
        rw [badW z mx zw] at this
        exact this
      refine iteF' (by simp; omega) ?_
      refine ⟨_, rfl, z, rfl, fun D1 hD1 => ?_⟩
      have D1T : D1 ∉ T := free_tab kH.1 hD1
      have osz : z.cps.toList.length = z.length := rfl
      have olen : ∀ n, ((z.cps.toList.take n).filter fun c => !(decide (97 ≤ c) && decide (c ≤ 122))).length ≤ 8 := fun n => by
        have h1 := List.length_filter_le (fun c => !(decide (97 ≤ c) && decide (c ≤ 122))) (z.cps.toList.take n)
        have h2 := List.length_take_le n z.cps.toList
        have h3 := List.length_take_le' n z.cps.toList
        omega
      refine lc_it (walk_str (z := z)) (fun n Hx => Hx D1 = some (.lst ((ones ((z.cps.toList.take n).filter fun c => !(decide (97 ≤ c) && decide (c ≤ 122)))).map V.str)) ∧ Kep T H' Hx) ⟨upd_same, Kep.new kH.1 hD1⟩ (fun _ _ _ _ => trivial) (fun n x Hx Hy hn p y => ?_) (fun Hx p => ?_)
      · obtain ⟨h2, kx⟩ := p
        obtain ⟨rfl, c, hc, rfl⟩ := y
        have hc' : z.cps.toList[n]? = some c := by simpa using hc
        refine ⟨rfl, _, rfl, _, rfl, by decide, fun l hl => ?_⟩
        have kl := kx.trans (Kep.new (o := .lst (abc26.cps.toList.map fun c => V.str ⟨#[c]⟩)) kx.1 hl)
        have q2 := (upd_ne (o := .lst (abc26.cps.toList.map fun c => V.str ⟨#[c]⟩)) (ne_of_none h2 hl)).trans h2
        refine ⟨l, _, rfl, .inl (.inl (.inl upd_same)), rfl, by decide +kernel, _, rfl, ?_⟩
        show if (!inV (.str ⟨#[c]⟩) (abc26.cps.toList.map fun c => V.str ⟨#[c]⟩)) = true then _ else _
        rw [abc_in c]
        have st : (z.cps.toList.take (n + 1)).filter (fun c => !(decide (97 ≤ c) && decide (c ≤ 122))) = (z.cps.toList.take n).filter (fun c => !(decide (97 ≤ c) && decide (c ≤ 122))) ++ (if (!(decide (97 ≤ c) && decide (c ≤ 122))) = true then [c] else []) := by
          rw [List.take_add_one, hc', List.filter_append]
          congr 1
          show [c].filter _ = _
          rw [List.filter_cons, List.filter_nil]
        by_cases q : (!(decide (97 ≤ c) && decide (c ≤ 122))) = true
        · rw [if_pos q] at st ⊢
          refine ⟨_, rfl, _, q2, ?_, ?_, Kep.put kl hD1 D1T⟩
          · have := olen n
            simp only [ones, List.length_map]
            exact Nat.lt_of_le_of_lt this (by decide)
          · rw [st]
            simp only [ones, List.map_append]
            exact upd_same
        · rw [if_neg q] at st ⊢
          exact ⟨by rw [st, List.append_nil]; exact q2, kl⟩
      · obtain ⟨h2, kx⟩ := p
        have e1 : z.cps.toList.take z.cps.size = z.cps.toList := List.take_of_length_le (Nat.le_refl _)
        rw [e1] at h2
        have h2 : Hx D1 = some (.lst ((ones (oddL z)).map V.str)) := h2
        have kHx := kH.trans kx
        refine ⟨by decide, fun D2 hD2 => ?_⟩
        have k2 := kHx.trans (Kep.new (o := .lst []) kHx.1 hD2)
        have h3 := (upd_ne (o := .lst []) (ne_of_none h2 hD2)).trans h2
        have zok := (hz _ mx z rfl).2
        have oks : ∀ y ∈ ones (oddL z), PyData.strOk y = true := fun y hy => by
          obtain ⟨c, hc, rfl⟩ := List.mem_map.mp hy
          have hc := (List.mem_filter.mp hc).1
          unfold PyData.strOk at zok ⊢
          rw [Array.all_eq_true'] at zok
          have := zok c (by simpa using hc)
          simpa using this
        refine ⟨dStrs (ones (oddL z)), .list [], .lst (.inl (.inl h3)) (dp_strs _), .lst (.inl (.inl upd_same)) .nil, shaped_strs oks, rfl, _, rfl, ?_⟩
        rw [dStrs_nil]
        by_cases ol : oddL z = []
        · refine iteF' (by rw [ol]; rfl) ⟨⟨_, rfl⟩, k2, fun j hj => ?_⟩
          by_cases hji : j < i
          · exact pre j hji
          · have : j = i := by omega
            subst this
            refine ⟨z, hx, ?_, zw⟩
            unfold textB
            rw [(oddL_nil z).mp ol]
            simp
            omega
        · refine iteT' (by have : ones (oddL z) ≠ [] := fun q => ol (List.map_eq_nil_iff.mp q); simp [this]) ?_
          have e : textB z 8 = false := by
            have : lowB z = false := by
              cases hb : lowB z with
              | false => rfl
              | true => exact absurd ((oddL_nil z).mpr hb) ol
            unfold textB
            rw [this, Bool.and_false]
          have := k _ k2
          rw [bad _ mx e] at this
          exact this
    · obtain ⟨⟨v1, rfl⟩, kH, pre⟩ := p
      have ha' := kH.2 a _ aT ha
      obtain ⟨ws, hws⟩ : ∃ ws : List Str, ws = xs.map strV := ⟨_, rfl⟩
      have ew : xs = ws.map V.str := by
        rw [hws, List.map_map]
        conv => lhs; rw [← List.map_id xs]
        refine List.map_congr_left fun x hx => ?_
        obtain ⟨j, hj, e⟩ := List.mem_iff_getElem.mp hx
        obtain ⟨z, e1, _⟩ := pre j hj
        rw [List.getElem?_eq_getElem hj, e] at e1
        cases e1
        rfl
      have lw : ws.length = xs.length := by rw [hws, List.length_map]
      have tx : ∀ z ∈ ws, textB z 8 = true ∧ z.length = (strV x0).length := fun z hz' => by
        have : V.str z ∈ xs := by rw [ew]; exact List.mem_map.mpr ⟨z, hz', rfl⟩
        obtain ⟨j, hj, e⟩ := List.mem_iff_getElem.mp this
        obtain ⟨z', e1, e2⟩ := pre j hj
        rw [List.getElem?_eq_getElem hj, e] at e1
        cases e1
        exact e2
      obtain ⟨z0, hz0⟩ : ∃ z0, x0 = .str z0 := by
        obtain ⟨z0, e0, _⟩ := pre 0 (by omega)
        rw [g0] at e0
        cases e0
        exact ⟨z0, rfl⟩
      subst hz0
      have z0m : z0 ∈ ws := by
        rw [hws, ← hX]
        exact List.mem_cons_self
      have t0 := (tx z0 z0m).1
      unfold textB at t0
      simp only [Bool.and_eq_true, decide_eq_true_eq] at t0
      have val : stampsV xs = (decide (xs.length * z0.length ≤ 36) && decide (ws.Nodup)) := by
        have e1 : xs.all isTextV = true := List.all_eq_true.mpr fun x hx => by
          rw [ew] at hx
          obtain ⟨z, hz', rfl⟩ := List.mem_map.mp hx
          exact (tx z hz').1
        have e2 : ws.all (fun y => decide (y.length = (ws.headD Str.empty).length)) = true := List.all_eq_true.mpr fun z hz' => by
          rw [hws, hh]
          exact decide_eq_true (tx z hz').2
        have e3 : decide ((once ws).length = ws.length) = decide ws.Nodup := decide_eq_decide.mpr (once_nodup ws)
        unfold stampsV tailB
        rw [decide_eq_true h1, decide_eq_true h6, e1, ← hws, e2, e3]
        have e4 : ws.headD Str.empty = z0 := by rw [hws, hh]; rfl
        rw [e4, lw, Nat.mul_comm z0.length]
        simp only [Bool.true_and]
        rw [Bool.and_comm]
      have hl0 : z0.length ≤ sizeLine := Nat.le_trans (by omega : z0.length ≤ 8) (by decide)
      refine ⟨_, rfl, a, xs, rfl, .inl (.inl (.inl ha')), _, rfl, .inl ⟨a, _, 0, .str z0, rfl, rfl, .inl (.inl ha'), atI_nat g0, z0, rfl, hl0, _, _, rfl, rfl, .inl ⟨by omega, by omega⟩, _, _, rfl, rfl, _, rfl, ?_⟩⟩
      have e36 : decide ((xs.length : Int) * (z0.length : Nat) ≤ 36) = decide (xs.length * z0.length ≤ 36) := by
        rw [Bool.eq_iff_iff]
        simp only [decide_eq_true_eq]
        constructor <;> intro h <;> exact_mod_cast h
      rw [e36]
      by_cases q36 : xs.length * z0.length ≤ 36
      case neg =>
        refine iteF' (decide_eq_false q36) ?_
        have := k H' kH
        rw [val, decide_eq_false q36, Bool.false_and] at this
        exact this
      refine iteT' (decide_eq_true q36) ?_
      refine ⟨_, rfl, a, rfl, ⟨_, .inl (.inl ha')⟩, fun D1 hD1 => ?_⟩
      have D1T : D1 ∉ T := free_tab kH.1 hD1
      refine lc_list (xs := xs) (fun n Hx => Hx D1 = some (.lst (((ws.take n).filter fun z => decide (1 < ws.count z)).map V.str)) ∧ Kep T H' Hx) ⟨upd_same, Kep.new kH.1 hD1⟩ (fun i Hx _ p => .inl (.inl (p.2.2 a _ aT ha'))) (fun n x Hx hx p => ?_) (fun Hx p => ?_)
      · obtain ⟨h2, kx⟩ := p
        have hx2 := hx
        rw [ew, List.getElem?_map] at hx2
        obtain ⟨z, hz5, rfl⟩ := Option.map_eq_some_iff.mp hx2
        have hax := kx.2 a _ aT ha'
        have hax2 : Hx a = some (.lst (ws.map V.str)) := by rw [← ew]; exact hax
        refine ⟨rfl, _, rfl, .inl ⟨rfl, _, .inl (.inl hax)⟩, _, rfl, a, ws, z, rfl, rfl, .inl (.inl hax2), _, _, rfl, rfl, _, rfl, ?_⟩
        have st : (ws.take (n + 1)).filter (fun z => decide (1 < ws.count z)) = (ws.take n).filter (fun z => decide (1 < ws.count z)) ++ (if decide (((ws.count z : Nat) : Int) > 1) = true then [z] else []) := by
          rw [List.take_add_one, hz5, List.filter_append]
          congr 1
          show [z].filter _ = _
          rw [List.filter_cons, List.filter_nil]
          by_cases c : 1 < ws.count z
          · rw [if_pos (decide_eq_true c), if_pos (decide_eq_true (by omega))]
          · rw [if_neg (by simpa using c), if_neg (by rw [decide_eq_false (by omega)]; decide)]
        show if decide (((ws.count z : Nat) : Int) > 1) = true then _ else _
        by_cases q : decide (((ws.count z : Nat) : Int) > 1) = true
        · rw [if_pos q] at st ⊢
          refine ⟨_, rfl, _, h2, ?_, ?_, Kep.put kx hD1 D1T⟩
          · rw [List.length_map]
            have h3 := List.length_filter_le (fun z => decide (1 < ws.count z)) (ws.take n)
            have h4 := List.length_take_le' n ws
            exact Nat.lt_of_le_of_lt (by omega : _ ≤ 6) (by decide)
          · rw [st, List.map_append]
            exact upd_same
        · rw [if_neg q] at st ⊢
          exact ⟨by rw [st, List.append_nil]; exact h2, kx⟩
      · obtain ⟨h2, kx⟩ := p
        rw [← lw, List.take_length] at h2
        have kHx := kH.trans kx
        refine ⟨by decide, fun D2 hD2 => ?_⟩
        have k2 := kHx.trans (Kep.new (o := .lst []) kHx.1 hD2)
        have h3 := (upd_ne (o := .lst []) (ne_of_none h2 hD2)).trans h2
        have oks : ∀ y ∈ ws.filter (fun z => decide (1 < ws.count z)), PyData.strOk y = true := fun y hy => by
          have := (List.mem_filter.mp hy).1
          refine (hz (.str y) ?_ y rfl).2
          rw [ew]
          exact List.mem_map.mpr ⟨y, this, rfl⟩
        refine ⟨dStrs (ws.filter fun z => decide (1 < ws.count z)), .list [], .lst (.inl (.inl h3)) (dp_strs _), .lst (.inl (.inl upd_same)) .nil, shaped_strs oks, rfl, ?_⟩
        rw [dStrs_nil]
        have := k _ k2
        rw [val, decide_eq_true q36, Bool.true_and, ← decide_eq_decide.mpr (dups_nil ws)] at this
        exact this
end
end Ov

set_option Elab.async false
set_option linter.all false
set_option maxRecDepth 100000
set_option maxHeartbeats 4000000
namespace Ov
open PySem PySem.Spec PyProof.Rows L2 GxR
abbrev sMade : Stmt := top 23
/-- what the caught InvalidStamps answers -/
structure ErrM (K : PySem.W.Frag) (mg : Str → Option Value) (D DNa DNu DSp DTx : Addr) : Prop where
  na : mg "InvalidName" = some (.ref DNa)
  nu : mg "InvalidNumber" = some (.ref DNu)
  sp : mg "InvalidStrip" = some (.ref DSp)
  tx : mg "InvalidText" = some (.ref DTx)
  val : mg "ValueError" = none
  ex : PySem.W.exmOne K (.ref D) (.ref D) = some true
  c : ExcC K D
  k1 : PySem.W.kitOne K (.ref D) (.ref DNa) = some false
  k2 : PySem.W.kitOne K (.ref D) (.ref DNu) = some false
  k3 : PySem.W.kitOne K (.ref D) (.ref DSp) = some false
  k4 : PySem.W.kitOne K (.ref D) (.ref DTx) = some false
  k5 : PySem.W.kitOne K (.ref D) (.type "ValueError") = some true
structure LenO (K : PySem.W.Frag) (C fLen : Addr) : Prop where
  ls : PySem.W.findIn K (.ref C) "__len__" = some (some (.ref fLen))
  lf : PySem.W.isFn K (.ref fLen) = true
/-- the suite of a try's first clause -/
def suite1 : Stmt → List Stmt
  | .Try _ (.ExceptHandler _ _ b _ :: _) _ _ _ => b
  | _ => []
/-- at which door the law's words go in -/
def doorOk (n : Nat) : Bool := n == 0 || n == 1 || n == 2 || n == 3 || n == 6 || n == 7
section
variable {P : Program} {w : World} {K : PySem.W.Frag} {mg : Str → Option Value} {base : Heap} {T : List Addr} {C D fLow fText fAre fTape fNext fInks fInit cLow PLow cAre PAre pWo fWo pWi fWi pO gO fLen DNa DNu DSp DTx DS : Addr}
/-- what the law's making of an object gives -/
def MadeT (T : List Addr) (H : Hp) (xs : List V) (Q : VK) : Prop := ∀ H3 r l, H3 r = some (.lst [.ref l, .int ((strV (xs.headD .non)).length : Nat), .int (xs.length : Nat)]) → H3 l = some (.lst xs) → Kep T H H3 → Q (.ref r) H3
def spMade (K : PySem.W.Frag) (T : List Addr) : Sp := fun vs H Q _ => ∃ (v : V) (door : Int), vs = [v, .int door] ∧ (∀ p ∈ T, TabG H p) ∧
  ((∃ a xs, v = .ref a ∧ H a = some (.lst xs) ∧ xs.length ≤ 4000 ∧ (∀ x ∈ xs, Wd K T H x) ∧ (stampsV xs = true → MadeT T H xs Q) ∧ (stampsV xs = false → ∀ H3, Kep T H H3 → Q (.str "InvalidStamps") H3) ∧ (door ≠ 0 → door ≠ 1 → doorOk xs.length = false → ∀ H3, Kep T H H3 → Q .non H3)) ∨
   (∃ t, TyX K H v t ∧ PySem.W.kitOne K t (.type "list") = some false ∧ (door = 0 ∨ door = 1) ∧ ∀ H3, Kep T H H3 → Q (.str "InvalidStamps") H3))
abbrev NMade : List Str := ["value", "door", "made", "e", "odd"]
theorem scMade : FnScope NMade ["value", "door"] (defScope sMade) := ⟨rfl, rfl, rfl, by decide +kernel, rfl, by decide +kernel, by decide +kernel⟩
abbrev gOf (us ws : List Value) : List Value := [us.getD 0 .none, ws.getD 0 .none]
abbrev gOfV (us ws : List V) : List V := [us.getD 0 .non, ws.getD 0 .non]
theorem of_kw {f : Addr} {fd : FuncData} (F : L2.Fun K "of" "Stamps.of" sOf f fd) : KBn K fd ["cls", "words"] 1 ["words"] gOf gOfV := by
  obtain ⟨oc, od, kV, doc, pm, an, cdv, ct, osl, rfl, lk, hcd⟩ := F.ex
  refine ⟨fun s us ws _ h1 h2 => ?_, fun r1 r2 => .cons (valsGet r1 0) (.cons (valsGet r2 0) .nil)⟩
  match us, ws, h1, h2 with
  | [a], [b], _, _ => exact BindsTo.of_eq rfl
theorem good_V {xs : List V} (h : stampsV xs = true) : xs = (xs.map strV).map V.str ∧ Good (xs.map strV) (strV (xs.headD .non)).length := by
  have h0 := h
  unfold stampsV at h
  simp only [Bool.and_eq_true] at h
  have e := (all_str_eq h.2.2.1).1
  refine ⟨e, ?_⟩
  obtain ⟨W, g⟩ := good_of (ws := xs.map strV) (by rw [← e]; exact h0)
  have n1 := g.n1
  have : (strV (xs.headD .non)).length = W := by
    cases xs with
    | nil => simp at n1
    | cons x r => exact (g.all (strV x) List.mem_cons_self).1
  rw [this]
  exact g
theorem init_any {H : Hp} {xs : List V} {y dy : Addr} {Qn : VK} {En : XK} (hT : ∀ p ∈ T, TabG H p) (hn : xs.length ≤ 4000) (hw : ∀ x ∈ xs, Wd K T H x) (hy : H y = none) (hdy : H dy = none) (hne : dy ≠ y)
    (k1 : stampsV xs = true → ∀ l H3, Stp H3 C y l dy xs → Kep T H H3 → Qn .non H3) (k2 : stampsV xs = false → ∀ H3, Kep T H H3 → En (.ref D) none H3) : spInit K T C D (V.ref y :: xs) (upd (upd H dy (.own y)) y (.ins C dy [])) Qn En := by
  have kn : Kep T H (upd (upd H dy (.own y)) y (.ins C dy [])) := Kep.made hT hy hdy hne
  exact ⟨y, dy, xs, rfl, upd_same, kn.1, hn, fun x hx => (hw x hx).kep kn, fun hv H3 l _ _ _ st kx => k1 hv l H3 st (KepX.kep kn hy kx), fun hv H3 k => k2 hv H3 (kn.trans k)⟩
theorem ok_made {f : Addr} {fd fdO fdW fdWi fdLe : FuncData} (F : L2.Fun K "_law_made" "_law_made" sMade f fd) (FO : L2.Fun K "of" "Stamps.of" sOf gO fdO) (FI : FnR P w K mg base (L2.CX P w) 6 fInit (spInit K T C D)) (M : Mk K C fInit)
    (FW : L2.Fun K "words" "Stamps.words" sWords fWo fdW) (FWi : L2.Fun K "width" "Stamps.width" sWidth fWi fdWi) (FLe : L2.Fun K "__len__" "Stamps.__len__" sLenI fLen fdLe)
    (X : Txt K mg C fLow fText fAre fTape fNext fInks) (O : Own K C) (hp : PropOf K C "words" pWo fWo) (hpi : PropOf K C "width" pWi fWi) (A : LenO K C fLen) (Er : ErrC K mg "InvalidStamps" D) (Em : ErrM K mg D DNa DNu DSp DTx)
    (co : ClX.CMet K C (.type "type") "of" pO gO) : FnOk P w K mg base CX0 9 f fd ["value", "door"] (spMade K T) := by
  have OO : FnOk P w K mg base (L2.CX P w) 8 gO fdO ["cls", "words"] (spOf K T C D) := ok_of FO FI M X Er
  have OR : FnR P w K mg base (L2.CX P w) 8 gO (spOf K T C D) := (OO.raw (FO.binds fun _ _ _ _ _ _ us hl => match us, hl with | [_, _], _ => rfl) .nil).imp fun vs H Q E h => by rw [List.append_nil]; exact h
  have L1 : FnOk P w K mg base CX0 1 fLen fdLe ["self"] (spLenI C) := ok_lenI FLe X O
  have LR : FnR P w K mg base CX0 1 fLen (spLenI C) := (L1.raw (FLe.binds fun _ _ _ _ _ _ us hl => match us, hl with | [_], _ => rfl) .nil).imp fun vs H Q E h => by rw [List.append_nil]; exact h
  have WW : FnOk P w K mg base CX0 1 fWo fdW ["self"] (spWords C) := ok_words FW X O
  have bW : Binds K fdW ["self"] [] := FW.binds fun _ _ _ _ _ _ us hl => match us, hl with | [_], _ => rfl
  have WI : FnOk P w K mg base CX0 1 fWi fdWi ["self"] (spWidth C) := ok_width FWi X O
  have bWi : Binds K fdWi ["self"] [] := FWi.binds fun _ _ _ _ _ _ us hl => match us, hl with | [_], _ => rfl
  refine F.ok scMade (fun vs H Q E h => ?_) (fun cdv A' outer s H vs Q E hr h => ?_)
  · obtain ⟨v, door, rfl, _⟩ := h
    rfl
  · obtain ⟨v, door, rfl, hT, h⟩ := h
    have hr7 : Room 7 (A'.deeper (envOfC "_law_made" (defScope sMade) s.heap.objs.size f cdv)) := hr.mono (by decide)
    have hx2 : ∀ {xs : List V}, stampsV xs = true → xs.length ≤ 6 := fun {xs} h => by
      unfold stampsV at h
      simp only [Bool.and_eq_true, decide_eq_true_eq] at h
      exact h.2.1
    obtain ⟨tR, hR, qR⟩ : ∃ tR, PSs (cxOf CX0 P w K mg base NMade "_law_made" (defScope sMade) f cdv A' outer s H E).nox (defBody sMade).tail tR ∧
        ∀ (Dn : Ends) (m l dx : Addr) (xs : List V) (H3 : Hp), Dn.rt = Q → stampsV xs = true → Stp H3 C m l dx xs → Kep T H H3 → MadeT T H xs Q → tR Dn [some v, some (.int door), some (.ref m), none, none] H3 := by
      refine ⟨_, (pss_one (ps_ret (pe_lst (pa_cons (pe_propX (p := pWo) (pv 2) WW (hr.mono (by decide)) bW .nil L2.pass0) (pa_cons (pe_propX (p := pWi) (pv 2) WI (hr.mono (by decide)) bWi .nil L2.pass0)
        (pa_cons (pe_callB (call_lenI A.ls A.lf LR (hr.mono (by decide))) (by rfl) X.len boot_len (pa_cons (pv 2) pa_nil)) pa_nil)))))), fun Dn m l dx xs H3 e hv st k3 mk => ?_⟩
      obtain ⟨ex, g⟩ := good_V hv
      have n6 := hx2 hv
      have mT : m ∉ T := not_tab k3.1 st.1 fun _ z => by cases z
      have lT : l ∉ T := not_tab k3.1 st.2 fun _ z => by cases z
      refine ⟨_, rfl, m, C, dx, _, rfl, O.cls, hp, st.1, m, l, dx, xs, rfl, st, fun p hp3 => ?_⟩
      have k4 := k3.trans (Kep.new (o := .lst xs) k3.1 hp3)
      have st4 : Stp (upd H3 p (.lst xs)) C m l dx xs := ⟨(upd_ne (ne_of_none st.1 hp3)).trans st.1, (upd_ne (ne_of_none st.2 hp3)).trans st.2⟩
      have p4 : upd H3 p (.lst xs) p = some (.lst xs) := upd_same
      generalize upd H3 p (.lst xs) = H4 at k4 st4 p4 ⊢
      have st5 : Stp H4 C m l dx ((xs.map strV).map V.str) := by rw [← ex]; exact st4
      refine ⟨_, rfl, m, C, dx, _, rfl, O.cls, hpi, st4.1, m, l, dx, xs.map strV, _, rfl, st5, g, ?_⟩
      refine ⟨_, rfl, m, dx, _, rfl, st4.1, m, l, dx, _, rfl, st4, xs.length, rfl, by omega, ?_⟩
      refine ⟨(by decide : 3 ≤ sizeLine), fun r hr4 => ?_⟩
      rw [e]
      exact mk _ r p upd_same ((upd_ne (ne_of_none p4 hr4)).trans p4) (k4.trans (Kep.new k4.1 hr4))
    obtain ⟨tS, hS, qS⟩ : ∃ tS : Addr → Value → Option Addr → TS, (∀ (a : Addr) (oe : Obj) (cls : Value) (d : Option Addr) (pn : List (Addr × Obj)), Zc cls d oe → (∃ vs, oe.data = .fields vs) → PSs ((cxOf CX0 P w K mg base NMade "_law_made" (defScope sMade) f cdv A' outer s H E).nox.suite a ((a, oe) :: pn)) (suite1 ((defBody sMade).headD (.Pass ⟨0, 0, 0, 0⟩))) (tS a cls d)) ∧
        ∀ (b : Addr) (Dn : Ends) (x2 : Option V) (H3 : Hp), Dn.rt = Q → Kep T H H3 → (∀ H5, Kep T H H5 → Q (.str "InvalidStamps") H5) → tS b (.ref D) none Dn [some v, some (.int door), x2, some (.ref b), none] H3 := by
      refine ⟨_, (fun a oe cls d pn hz hf => pss_cons (ps_set (i := 4) scMade.nd rfl (.inl rfl) (pe_or (pe_callB (call_isEX hz hf) (by rfl) X.isi boot_isinstance (pa_cons (pv 3) (pa_cons (pe_tup (pa_cons (pe_glob (v := .ref DNa) (by rfl) Em.na rfl) (pa_cons (pe_glob (v := .ref DNu) (by rfl) Em.nu rfl) (pa_cons (pe_glob (v := .ref DSp) (by rfl) Em.sp rfl) (pa_cons (pe_glob (v := .ref DTx) (by rfl) Em.tx rfl) pa_nil))))) pa_nil)))
            (pe_one (pe_not (pe_callB (call_isEX hz hf) (by rfl) X.isi boot_isinstance (pa_cons (pv 3) (pa_cons (pe_bltn (v := .ty "ValueError") (by rfl) Em.val (by decide +kernel) rfl) pa_nil)))))))
          (pss_one (ps_ret (pe_ifExp (pt_val (pv 4)) pe_str pe_str)))), fun b Dn x2 H3 e k3 k => ?_⟩
      refine ⟨_, rfl, (by decide : 4 ≤ sizeLine), fun tp htp => ⟨D, rfl, rfl, Em.c, .inr ⟨tp, _, [.ref DNa, .ref DNu, .ref DSp, .ref DTx], false, rfl, upd_same, .cons (.own _) (.cons (.own _) (.cons (.own _) (.cons (.own _) .nil))),
        kitAny_cons Em.k1 (fun _ => kitAny_cons Em.k2 (fun _ => kitAny_cons Em.k3 (fun _ => kitAny_cons Em.k4 (fun _ => kitAny_nil) (fun z => nomatch z)) (fun z => nomatch z)) (fun z => nomatch z)) (fun z => nomatch z), _, rfl, iteF ?_⟩⟩⟩
      refine ⟨_, rfl, D, rfl, rfl, Em.c, .inl ⟨.ty "ValueError", _, true, rfl, .ty _, Em.k5, _, rfl, ?_⟩⟩
      refine ⟨_, rfl, _, rfl, iteF ?_⟩
      show Dn.rt _ _
      rw [e]
      exact k _ (k3.trans (Kep.new k3.1 htp))
    refine ⟨_, pss_cons (ps_try_first (i := 3) (c := .ref D) rfl rfl scMade.nd rfl rfl ⟨rfl, by decide, .inl Er.g⟩
        (fun W pn xe tk _ => pss_one (ps_if (pt_cmpR op_eq (pv 1) pe_int (by rfl)) (pss_one (ps_set (i := 2) scMade.nd rfl (.inl rfl) (pe_cmethS (pe_glob (v := .ref C) (by rfl) X.gC rfl) X.rd co OR hr (fun σ => passAt tk σ) (pa_cons (pv 0) pa_nil))))
          (pss_one (ps_if (pt_cmpR op_eq (pv 1) pe_int (by rfl)) (pss_one (ps_set (i := 2) scMade.nd rfl (.inl rfl) (pe_cmethKS (pe_glob (v := .ref C) (by rfl) X.gC rfl) X.rd co OO hr (of_kw FO) (fun σ => passAt tk σ) (pk_cons (pv 0) pk_nil))))
          (pss_one (ps_if (pt_cmpR op_eq (pe_callB (len_K (K := K) rfl) (by rfl) X.len boot_len (pa_cons (pv 0) pa_nil)) pe_int (by rfl)) (pss_one (ps_set (i := 2) scMade.nd rfl (.inl rfl) (pe_makeA0 M FI hr7 (by rfl) X.gC (fun σ => passAt tk σ))))
          (pss_one (ps_if (pt_cmpR op_eq (pe_callB (len_K (K := K) rfl) (by rfl) X.len boot_len (pa_cons (pv 0) pa_nil)) pe_int (by rfl)) (pss_one (ps_set (i := 2) scMade.nd rfl (.inl rfl) (pe_makeA M FI hr7 (by rfl) X.gC (fun σ => passAt tk σ) (pa_cons (pe_ix (ix_K (K := K) rfl) (pv 0) pe_int fun _ _ => rfl) pa_nil))))
          (pss_one (ps_if (pt_cmpR op_eq (pe_callB (len_K (K := K) rfl) (by rfl) X.len boot_len (pa_cons (pv 0) pa_nil)) pe_int (by rfl)) (pss_one (ps_set (i := 2) scMade.nd rfl (.inl rfl) (pe_makeA M FI hr7 (by rfl) X.gC (fun σ => passAt tk σ) (pa_cons (pe_ix (ix_K (K := K) rfl) (pv 0) pe_int fun _ _ => rfl) (pa_cons (pe_ix (ix_K (K := K) rfl) (pv 0) pe_int fun _ _ => rfl) pa_nil)))))
          (pss_one (ps_if (pt_cmpR op_eq (pe_callB (len_K (K := K) rfl) (by rfl) X.len boot_len (pa_cons (pv 0) pa_nil)) pe_int (by rfl)) (pss_one (ps_set (i := 2) scMade.nd rfl (.inl rfl) (pe_makeA M FI hr7 (by rfl) X.gC (fun σ => passAt tk σ) (pa_cons (pe_ix (ix_K (K := K) rfl) (pv 0) pe_int fun _ _ => rfl) (pa_cons (pe_ix (ix_K (K := K) rfl) (pv 0) pe_int fun _ _ => rfl) (pa_cons (pe_ix (ix_K (K := K) rfl) (pv 0) pe_int fun _ _ => rfl) pa_nil))))))
          (pss_one (ps_if (pt_cmpR op_eq (pe_callB (len_K (K := K) rfl) (by rfl) X.len boot_len (pa_cons (pv 0) pa_nil)) pe_int (by rfl)) (pss_one (ps_set (i := 2) scMade.nd rfl (.inl rfl) (pe_makeA M FI hr7 (by rfl) X.gC (fun σ => passAt tk σ) (pa_cons (pe_ix (ix_K (K := K) rfl) (pv 0) pe_int fun _ _ => rfl) (pa_cons (pe_ix (ix_K (K := K) rfl) (pv 0) pe_int fun _ _ => rfl) (pa_cons (pe_ix (ix_K (K := K) rfl) (pv 0) pe_int fun _ _ => rfl) (pa_cons (pe_ix (ix_K (K := K) rfl) (pv 0) pe_int fun _ _ => rfl) (pa_cons (pe_ix (ix_K (K := K) rfl) (pv 0) pe_int fun _ _ => rfl) (pa_cons (pe_ix (ix_K (K := K) rfl) (pv 0) pe_int fun _ _ => rfl) pa_nil)))))))))
          (pss_one (ps_if (pt_cmpR op_eq (pe_callB (len_K (K := K) rfl) (by rfl) X.len boot_len (pa_cons (pv 0) pa_nil)) pe_int (by rfl)) (pss_one (ps_set (i := 2) scMade.nd rfl (.inl rfl) (pe_makeA M FI hr7 (by rfl) X.gC (fun σ => passAt tk σ) (pa_cons (pe_ix (ix_K (K := K) rfl) (pv 0) pe_int fun _ _ => rfl) (pa_cons (pe_ix (ix_K (K := K) rfl) (pv 0) pe_int fun _ _ => rfl) (pa_cons (pe_ix (ix_K (K := K) rfl) (pv 0) pe_int fun _ _ => rfl) (pa_cons (pe_ix (ix_K (K := K) rfl) (pv 0) pe_int fun _ _ => rfl) (pa_cons (pe_ix (ix_K (K := K) rfl) (pv 0) pe_int fun _ _ => rfl) (pa_cons (pe_ix (ix_K (K := K) rfl) (pv 0) pe_int fun _ _ => rfl) (pa_cons (pe_ix (ix_K (K := K) rfl) (pv 0) pe_int fun _ _ => rfl) pa_nil))))))))))
          (pss_one (ps_ret pe_non))))))))))))))))))
        hS) hR, ?_⟩
    have ofR : ∀ (Q' : VK) (E' : XK), (∀ a xs, v = .ref a → H a = some (.lst xs) → stampsV xs = true → MadeT T H xs Q → ∀ m l dx H3, Stp H3 C m l dx xs → Kep T H H3 → Q' (.ref m) H3) → (∀ H3, Kep T H H3 → (∀ H5, Kep T H H5 → Q (.str "InvalidStamps") H5) → E' (.ref D) none H3) → spOf K T C D [.ref C, v] H Q' E' := fun Q' E' e1 e2 => by
      refine ⟨v, rfl, ?_⟩
      rcases h with ⟨a, xs, rfl, ha, hn, hw, k1, k2, k3⟩ | ⟨t, ht, hk, _, k⟩
      · exact .inl ⟨a, xs, rfl, ha, hT, hn, hw, fun hv H3 m l dx _ _ _ _ _ st k => e1 a xs rfl ha hv (k1 hv) m l dx H3 st k, fun hv H3 k => e2 H3 k (k2 hv)⟩
      · exact .inr ⟨t, ht, hk, e2 H (.refl hT) k⟩
    refine ⟨_, rfl, rfl, _, rfl, ?_⟩
    by_cases d0 : door = 0
    · refine iteT' (by simp [d0]) ⟨rfl, _, rfl, ofR _ _ (fun a xs _ _ hv mk m l dx H3 st k3 => qR _ m l dx xs H3 rfl hv st k3 mk) (fun H3 k3 k => ⟨Em.ex, fun b hb => qS b _ _ H3 rfl k3 k⟩)⟩
    refine iteF' (by simp; omega) ⟨_, rfl, rfl, _, rfl, ?_⟩
    by_cases d1 : door = 1
    · refine iteT' (by simp [d1]) ⟨rfl, _, rfl, rfl, ofR _ _ (fun a xs _ _ hv mk m l dx H3 st k3 => qR _ m l dx xs H3 rfl hv st k3 mk) (fun H3 k3 k => ⟨Em.ex, fun b hb => qS b _ _ H3 rfl k3 k⟩)⟩
    refine iteF' (by simp; omega) ?_
    rcases h with ⟨a, xs, rfl, ha, hn, hw, k1, k2, kn⟩ | ⟨t, ht, hk, hd, k⟩
    case inr => exact absurd hd (by omega)
    refine ⟨_, rfl, a, xs, rfl, .inl (.inl (.inl ha)), rfl, _, rfl, ?_⟩
    by_cases n0 : xs.length = 0
    · refine iteT' (by simp [n0]) ?_
      have e0 : xs = [] := List.eq_nil_of_length_eq_zero n0
      subst e0
      intro y dy hy hdy hne
      refine init_any hT hn hw hy hdy hne ?_ ?_
      · exact fun hv l H3 st k3 => ⟨rfl, qR _ y l dy _ H3 rfl hv st k3 (k1 hv)⟩
      · exact fun hv H3 k3 => ⟨Em.ex, fun b hb => qS b _ _ H3 rfl k3 (k2 hv)⟩
    refine iteF' (decide_eq_false fun z => n0 (by have := V.int.inj z; omega)) ?_
    refine ⟨_, rfl, a, xs, rfl, .inl (.inl (.inl ha)), rfl, _, rfl, ?_⟩
    by_cases n1 : xs.length = 1
    · refine iteT' (by simp [n1]) ?_
      obtain ⟨x0, rfl⟩ : ∃ x0, xs = [x0] := by
        match xs, n1 with
        | [x0], _ => exact ⟨x0, rfl⟩
      refine ⟨_, rfl, .inl ⟨a, _, 0, x0, rfl, rfl, .inl (.inl ha), by simp [atI, ixN], ?_⟩⟩
      intro y dy hy hdy hne
      refine init_any hT hn hw hy hdy hne ?_ ?_
      · exact fun hv l H3 st k3 => ⟨rfl, qR _ y l dy _ H3 rfl hv st k3 (k1 hv)⟩
      · exact fun hv H3 k3 => ⟨Em.ex, fun b hb => qS b _ _ H3 rfl k3 (k2 hv)⟩
    refine iteF' (decide_eq_false fun z => n1 (by have := V.int.inj z; omega)) ?_
    refine ⟨_, rfl, a, xs, rfl, .inl (.inl (.inl ha)), rfl, _, rfl, ?_⟩
    by_cases n2 : xs.length = 2
    · refine iteT' (by simp [n2]) ?_
      obtain ⟨x0, x1, rfl⟩ : ∃ x0 x1, xs = [x0, x1] := by
        match xs, n2 with
        | [x0, x1], _ => exact ⟨x0, x1, rfl⟩
      refine ⟨_, rfl, .inl ⟨a, _, 0, x0, rfl, rfl, .inl (.inl ha), by simp [atI, ixN], _, rfl, .inl ⟨a, _, 1, x1, rfl, rfl, .inl (.inl ha), by simp [atI, ixN], ?_⟩⟩⟩
      intro y dy hy hdy hne
      refine init_any hT hn hw hy hdy hne ?_ ?_
      · exact fun hv l H3 st k3 => ⟨rfl, qR _ y l dy _ H3 rfl hv st k3 (k1 hv)⟩
      · exact fun hv H3 k3 => ⟨Em.ex, fun b hb => qS b _ _ H3 rfl k3 (k2 hv)⟩
    refine iteF' (decide_eq_false fun z => n2 (by have := V.int.inj z; omega)) ?_
    refine ⟨_, rfl, a, xs, rfl, .inl (.inl (.inl ha)), rfl, _, rfl, ?_⟩
    by_cases n3 : xs.length = 3
    · refine iteT' (by simp [n3]) ?_
      obtain ⟨x0, x1, x2, rfl⟩ : ∃ x0 x1 x2, xs = [x0, x1, x2] := by
        match xs, n3 with
        | [x0, x1, x2], _ => exact ⟨x0, x1, x2, rfl⟩
      refine ⟨_, rfl, .inl ⟨a, _, 0, x0, rfl, rfl, .inl (.inl ha), by simp [atI, ixN], _, rfl, .inl ⟨a, _, 1, x1, rfl, rfl, .inl (.inl ha), by simp [atI, ixN], _, rfl, .inl ⟨a, _, 2, x2, rfl, rfl, .inl (.inl ha), by simp [atI, ixN], ?_⟩⟩⟩⟩
      intro y dy hy hdy hne
      refine init_any hT hn hw hy hdy hne ?_ ?_
      · exact fun hv l H3 st k3 => ⟨rfl, qR _ y l dy _ H3 rfl hv st k3 (k1 hv)⟩
      · exact fun hv H3 k3 => ⟨Em.ex, fun b hb => qS b _ _ H3 rfl k3 (k2 hv)⟩
    refine iteF' (decide_eq_false fun z => n3 (by have := V.int.inj z; omega)) ?_
    refine ⟨_, rfl, a, xs, rfl, .inl (.inl (.inl ha)), rfl, _, rfl, ?_⟩
    by_cases n6 : xs.length = 6
    · refine iteT' (by simp [n6]) ?_
      obtain ⟨x0, x1, x2, x3, x4, x5, rfl⟩ : ∃ x0 x1 x2 x3 x4 x5, xs = [x0, x1, x2, x3, x4, x5] := by
        match xs, n6 with
        | [x0, x1, x2, x3, x4, x5], _ => exact ⟨x0, x1, x2, x3, x4, x5, rfl⟩
      refine ⟨_, rfl, .inl ⟨a, _, 0, x0, rfl, rfl, .inl (.inl ha), by simp [atI, ixN], _, rfl, .inl ⟨a, _, 1, x1, rfl, rfl, .inl (.inl ha), by simp [atI, ixN], _, rfl, .inl ⟨a, _, 2, x2, rfl, rfl, .inl (.inl ha), by simp [atI, ixN], _, rfl, .inl ⟨a, _, 3, x3, rfl, rfl, .inl (.inl ha), by simp [atI, ixN], _, rfl, .inl ⟨a, _, 4, x4, rfl, rfl, .inl (.inl ha), by simp [atI, ixN], _, rfl, .inl ⟨a, _, 5, x5, rfl, rfl, .inl (.inl ha), by simp [atI, ixN], ?_⟩⟩⟩⟩⟩⟩⟩
      intro y dy hy hdy hne
      refine init_any hT hn hw hy hdy hne ?_ ?_
      · exact fun hv l H3 st k3 => ⟨rfl, qR _ y l dy _ H3 rfl hv st k3 (k1 hv)⟩
      · exact fun hv H3 k3 => ⟨Em.ex, fun b hb => qS b _ _ H3 rfl k3 (k2 hv)⟩
    refine iteF' (decide_eq_false fun z => n6 (by have := V.int.inj z; omega)) ?_
    refine ⟨_, rfl, a, xs, rfl, .inl (.inl (.inl ha)), rfl, _, rfl, ?_⟩
    by_cases n7 : xs.length = 7
    · refine iteT' (by simp [n7]) ?_
      obtain ⟨x0, x1, x2, x3, x4, x5, x6, rfl⟩ : ∃ x0 x1 x2 x3 x4 x5 x6, xs = [x0, x1, x2, x3, x4, x5, x6] := by
        match xs, n7 with
        | [x0, x1, x2, x3, x4, x5, x6], _ => exact ⟨x0, x1, x2, x3, x4, x5, x6, rfl⟩
      refine ⟨_, rfl, .inl ⟨a, _, 0, x0, rfl, rfl, .inl (.inl ha), by simp [atI, ixN], _, rfl, .inl ⟨a, _, 1, x1, rfl, rfl, .inl (.inl ha), by simp [atI, ixN], _, rfl, .inl ⟨a, _, 2, x2, rfl, rfl, .inl (.inl ha), by simp [atI, ixN], _, rfl, .inl ⟨a, _, 3, x3, rfl, rfl, .inl (.inl ha), by simp [atI, ixN], _, rfl, .inl ⟨a, _, 4, x4, rfl, rfl, .inl (.inl ha), by simp [atI, ixN], _, rfl, .inl ⟨a, _, 5, x5, rfl, rfl, .inl (.inl ha), by simp [atI, ixN], _, rfl, .inl ⟨a, _, 6, x6, rfl, rfl, .inl (.inl ha), by simp [atI, ixN], ?_⟩⟩⟩⟩⟩⟩⟩⟩
      intro y dy hy hdy hne
      refine init_any hT hn hw hy hdy hne ?_ ?_
      · exact fun hv l H3 st k3 => ⟨rfl, qR _ y l dy _ H3 rfl hv st k3 (k1 hv)⟩
      · exact fun hv H3 k3 => ⟨Em.ex, fun b hb => qS b _ _ H3 rfl k3 (k2 hv)⟩
    refine iteF' (decide_eq_false fun z => n7 (by have := V.int.inj z; omega)) ?_
    have dk : doorOk xs.length = false := by
      unfold doorOk
      simp [n0, n1, n2, n3, n6, n7]
    exact kn d0 d1 dk H (.refl hT)
end
end Ov

set_option Elab.async false
set_option linter.all false
set_option maxRecDepth 100000
set_option maxHeartbeats 4000000
namespace Ov
open PySem PySem.Spec PyProof.Rows L2 GxR
abbrev sRightA : Stmt := top 24
def niceS (z : Str) : Bool := decide (z.length ≤ 1000) && PyData.strOk z
def nice1 : PyData → Bool
  | .str z => niceS z
  | _ => true
def niceD : PyData → Bool
  | .list ds => decide (ds.length ≤ 100) && ds.all nice1
  | _ => true
/-- an object that the law's right takes -/
structure Vl (H : Hp) (v : V) (d : PyData) : Prop where
  ob : Ob H v d
  sm : Sm d
  ni : niceD d = true
theorem lf_strs : ∀ ws : List Str, LfAll (ws.map V.str) (ws.map PyData.str)
  | [] => .nil
  | z :: r => .cons (.str z) (lf_strs r)
theorem ElAll.len {H : Hp} : ∀ {xs : List V} {ds : List PyData}, ElAll H xs ds → xs.length = ds.length
  | _, _, .nil => rfl
  | _, _, .cons _ t => congrArg (· + 1) t.len
theorem El.wd {K : PySem.W.Frag} {T : List Addr} {H : Hp} (hT : ∀ p ∈ T, TabG H p) {x : V} {d : PyData} (h : El H x d) (n : nice1 d = true) : Wd K T H x ∧ ∀ z, x = .str z → z.length ≤ 1000 ∧ PyData.strOk z = true := by
  by_cases hs : isStrD d = true
  · obtain ⟨z, rfl, rfl⟩ := h.str hs
    have n : niceS z = true := n
    unfold niceS at n
    simp only [Bool.and_eq_true, decide_eq_true_eq] at n
    refine ⟨.inl ⟨z, rfl, Nat.le_trans n.1 (by decide)⟩, fun z' e => ?_⟩
    cases e
    exact n
  · have hf : isStrD d = false := by cases q : isStrD d with
      | true => exact absurd q hs
      | false => rfl
    refine ⟨.inr ⟨?_, _, (by rw [kit_str, hf]), fun H2 k => (h.at (k.all hT)).ty⟩, fun z e => ?_⟩
    · cases h with
      | lf l =>
        cases l with
        | str z => cases hf
        | _ => rfl
      | _ => rfl
    · subst e
      cases h with
      | lf l => cases l; cases hf
theorem ElAll.wd {K : PySem.W.Frag} {T : List Addr} {H : Hp} (hT : ∀ p ∈ T, TabG H p) : ∀ {xs : List V} {ds : List PyData}, ElAll H xs ds → ds.all nice1 = true → ∀ x ∈ xs, Wd K T H x ∧ ∀ z, x = .str z → z.length ≤ 1000 ∧ PyData.strOk z = true
  | _, _, .nil, _, x, hx => by cases hx
  | _, _, .cons h t, n, x, hx => by
    rw [List.all_cons, Bool.and_eq_true] at n
    rcases List.mem_cons.mp hx with rfl | hx
    · exact h.wd hT n.1
    · exact t.wd hT n.2 x hx
/-- the words' data that the law shows -/
def dDue (ws : List Str) : PyData := .list [dStrs ws, .int ((ws.headD Str.empty).length : Nat), .int (ws.length : Nat)]
theorem int_short : ∀ n < 10, ((PyData.shown (.int (n : Nat))).length ≤ 8) ∧ ((n : Int).natAbs.log2 < 1920) ∧ PyData.weight (.int (n : Nat)) ≤ 10 := by decide +kernel
theorem sm_due {ws : List Str} (g : stampsV (ws.map V.str) = true) : Sm (dDue ws) := by
  have S : (ws.map V.str).all isTextV = true ∧ ws.length ≤ 6 := by
    unfold stampsV at g
    simp only [Bool.and_eq_true, decide_eq_true_eq, List.length_map] at g
    exact ⟨g.2.2.1, g.2.1⟩
  have tx : ∀ z ∈ ws, z.length ≤ 8 ∧ lowB z = true := fun z hz => by
    have t : textB z 8 = true := List.all_eq_true.mp S.1 (.str z) (List.mem_map.mpr ⟨z, hz, rfl⟩)
    unfold textB at t
    simp only [Bool.and_eq_true, decide_eq_true_eq] at t
    exact ⟨by omega, t.2⟩
  have h8 : (ws.headD Str.empty).length < 10 := by
    cases ws with
    | nil => decide
    | cons z r =>
      have h1 := (tx z List.mem_cons_self).1
      show z.length < 10
      omega
  obtain ⟨a1, a2, a3⟩ := int_short _ h8
  obtain ⟨b1, b2, b3⟩ := int_short _ (show ws.length < 10 by omega)
  have w1 := weight_strs ws fun z hz => Nat.le_trans (tx z hz).1 (by decide)
  have d1 := depth_strs ws
  refine ⟨?_, ?_, ?_, ?_⟩
  · show (PyData.showableAll (ws.map PyData.str) && (decide _ && (decide _ && true))) = true
    rw [show_strs, decide_eq_true a2, decide_eq_true b2]; rfl
  · show (PyData.leavesShortAll 8 (ws.map PyData.str) && (decide _ && (decide _ && true))) = true
    rw [short_strs ws fun z hz => (tx z hz).2, decide_eq_true a1, decide_eq_true b1]; rfl
  · show PyData.weightAll (ws.map PyData.str) + 1 + (PyData.weight _ + 1 + (PyData.weight _ + 1 + 0)) ≤ 8000
    omega
  · show max (PyData.depthAll (ws.map PyData.str) + 1) (max (PyData.depth (.int _)) (max (PyData.depth (.int _)) 0)) + 1 ≤ 40
    have z : ∀ i, PyData.depth (.int i) = 0 := fun i => by simp [PyData.depth]
    rw [z, z]
    omega
theorem sm_inv : Sm (.str "InvalidStamps") := ⟨rfl, by decide +kernel, by decide +kernel, by decide⟩
structure TopA (mg : Str → Option Value) (K : PySem.W.Frag) (fIs fMade fRight fWord fCh : Addr) : Prop where
  rep : mg "repr" = none
  int : mg "int" = none
  gIs : mg "_law_is_inks" = some (.ref fIs)
  kIs : PySem.W.keepIn K (.ref fIs) = true
  gMade : mg "_law_made" = some (.ref fMade)
  kMade : PySem.W.keepIn K (.ref fMade) = true
  gRight : mg "_law_right" = some (.ref fRight)
  kRight : PySem.W.keepIn K (.ref fRight) = true
  gWord : mg "_law_word" = some (.ref fWord)
  kWord : PySem.W.keepIn K (.ref fWord) = true
  gCh : mg "_law_changed" = some (.ref fCh)
  kCh : PySem.W.keepIn K (.ref fCh) = true
/-- what the law wishes of the made words -/
def DueOk (T : List Addr) (H : Hp) (v due : V) (H' : Hp) : Prop :=
  (∃ (a q : Addr) (ws : List Str), v = .ref a ∧ H a = some (.lst (ws.map V.str)) ∧ stampsV (ws.map V.str) = true ∧ due = .ref q ∧ q ∉ T ∧ H' q = some (.lst [.ref a, .int ((ws.headD Str.empty).length : Nat), .int (ws.length : Nat)])) ∨
    (due = .str "InvalidStamps" ∧ ∀ a xs, v = .ref a → H a = some (.lst xs) → stampsV xs = false)
theorem DueOk.kep {T : List Addr} {H H1 H2 : Hp} {v due : V} (h : DueOk T H v due H1) (k : Kep T H1 H2) : DueOk T H v due H2 := by
  rcases h with ⟨a, q, ws, e1, e2, e3, e4, e5, e6⟩ | h
  · exact .inl ⟨a, q, ws, e1, e2, e3, e4, e5, k.2 q _ e5 e6⟩
  · exact .inr h
theorem ob_due {H : Hp} {r l : Addr} {ws : List Str} (h1 : H r = some (.lst [.ref l, .int ((ws.headD Str.empty).length : Nat), .int (ws.length : Nat)])) (h2 : H l = some (.lst (ws.map V.str))) : Ob H (.ref r) (dDue ws) :=
  .lst h1 (.cons (.lst h2 (lf_strs ws)) (.cons (.lf (.int _)) (.cons (.lf (.int _)) .nil))) (.inl (by
    show (PyData.hasDictAll (ws.map PyData.str) || _) = false
    rw [nodict_strs]; rfl))
section
variable {P : Program} {w : World} {K : PySem.W.Frag} {mg : Str → Option Value} {base : Heap} {T : List Addr} {C D fLow fText fAre fTape fNext fInks fInit cLow PLow cAre PAre pWo fWo pWi fWi pO gO fLen DNa DNu DSp DTx DS fIs fMade fRight fWord fCh : Addr}
def spRightA (T : List Addr) : Sp := fun vs H Q _ => ∃ (v : V) (d : PyData), vs = [v] ∧ Vl H v d ∧ (∀ p ∈ T, TabG H p) ∧ ∀ H3, Kep T H H3 → Q (.bl true) H3
abbrev NRightA : List Str := ["value", "kept", "due", "door", "told"]
theorem scRightA : FnScope NRightA ["value"] (defScope sRightA) := ⟨rfl, rfl, rfl, by decide +kernel, rfl, by decide +kernel, by decide +kernel⟩
theorem ok_rightA {f : Addr} {fd fdI fdM : FuncData} (F : L2.Fun K "_law_right" "_law_right" sRightA f fd) (FIs : L2.Fun K "_law_is_inks" "_law_is_inks" sIs fIs fdI) (FM : L2.Fun K "_law_made" "_law_made" sMade fMade fdM) (MM : FnOk P w K mg base CX0 9 fMade fdM ["value", "door"] (spMade K T))
    (X : Txt K mg C fLow fText fAre fTape fNext fInks) (XA : TopA mg K fIs fMade fRight fWord fCh) : FnG P w K mg base CX0 10 f fd ["value"] (spRightA T) := by
  have II : FnOk P w K mg base CX0 1 fIs fdI ["value"] (spIs K T) := ok_is FIs X
  have bI : Binds K fdI ["value"] [] := FIs.binds fun _ _ _ _ _ _ us hl => match us, hl with | [_], _ => rfl
  have bM : Binds K fdM ["value", "door"] [] := FM.binds fun _ _ _ _ _ _ us hl => match us, hl with | [_, _], _ => rfl
  refine fun_okG F scRightA (fun vs H Q E h => ?_) (fun cdv A' outer s H vs Q E hg hr h => ?_)
  · obtain ⟨v, d, rfl, _⟩ := h
    rfl
  · obtain ⟨v, d, rfl, vl, hT, k⟩ := h
    have hu := hr.units
    refine ⟨_, pss_cons (ps_par (i := 1) (j := 2) rfl scRightA.nd rfl rfl (by decide) rfl rfl (pa_cons (pe_callB (call_reprO hg hu) (by rfl) XA.rep boot_repr (pa_cons (pv 0) pa_nil)) (pa_cons pe_str pa_nil)) (by rfl))
      (C8.pss_cut (ps_if (pt_val (pe_call II (hr.mono (by decide)) (by rfl) XA.gIs XA.kIs bI .nil L2.pass0 (pa_cons (pv 0) pa_nil))) (pss_one (ps_set (i := 2) scRightA.nd rfl (.inl rfl) (pe_lst (pa_cons (pv 0) (pa_cons (pe_callB call_len_str (by rfl) X.len boot_len (pa_cons (pe_ix ix_seq (pv 0) pe_int fun _ _ => rfl) pa_nil)) (pa_cons (pe_callB call_len_seq (by rfl) X.len boot_len (pa_cons (pv 0) pa_nil)) pa_nil)))))) pss_nil)
      (pss_cons (ps_for PassesOwn.never rfl (pi_range1 (by rfl) X.rng (pa_cons (pe_op op_add pe_int (pe_callTy call_int1 (by rfl) XA.int (by decide +kernel) (pa_cons (pe_callB call_isi (by rfl) X.isi boot_isinstance (pa_cons (pv 0) (pa_cons (pe_bltn (v := .ty "list") (by rfl) X.lst (by decide +kernel) rfl) pa_nil))) pa_nil))) pa_nil)) (pg_name (i := 3) scRightA.nd rfl (Or.inl rfl))
        (pss_cons (ps_set (i := 4) scRightA.nd rfl (.inl rfl) (pe_call MM hr (by rfl) XA.gMade XA.kMade bM .nil L2.pass0 (pa_cons (pv 0) (pa_cons (pv 3) pa_nil))))
        (pss_one (ps_if (pw_or (pw_and (pt_cmpR op_notN (pv 4) pe_non (by rfl)) (pw_and1 (pt_cmpR op_ne (pe_callB (call_reprO hg hu) (by rfl) XA.rep boot_repr (pa_cons (pv 4) pa_nil)) (pe_callB (call_reprO hg hu) (by rfl) XA.rep boot_repr (pa_cons (pv 2) pa_nil)) (by rfl)))).pt
            (pw_or1 (pt_cmpR op_ne (pe_callB (call_reprO hg hu) (by rfl) XA.rep boot_repr (pa_cons (pv 0) pa_nil)) (pv 1) (by rfl)))).pt (pss_one (ps_ret pe_bl)) pss_nil))))
      (pss_one (ps_ret pe_bl)))), ?_⟩
    have ls : isLstD d = true → ∃ a xs ds, v = .ref a ∧ d = .list ds ∧ H a = some (.lst xs) ∧ xs.length ≤ 100 ∧ ∀ x ∈ xs, Wd K T H x ∧ ∀ z, x = .str z → z.length ≤ 1000 ∧ PyData.strOk z = true := fun hl => by
      obtain ⟨a, xs, ds, rfl, rfl, ha, el⟩ := vl.ob.lsts hl
      have ni := vl.ni
      have ni : (decide (ds.length ≤ 100) && ds.all nice1) = true := ni
      rw [Bool.and_eq_true, decide_eq_true_eq] at ni
      exact ⟨a, xs, ds, rfl, rfl, ha, by rw [el.len]; exact ni.1, el.wd hT ni.2⟩
    have nl : isLstD d = false → ∀ a xs, v = .ref a → H a ≠ some (.lst xs) := fun hl a xs e he => by
      have t1 := vl.ob
      subst e
      cases t1 with
      | el l =>
        cases l with
        | lf l => cases l
        | lst h _ => cases hl
        | tup h _ => rw [he] at h; cases h
        | dic h _ => rw [he] at h; cases h
      | lst h _ _ => cases hl
      | tup h _ _ => rw [he] at h; cases h
    refine ⟨_, rfl, v, d, rfl, vl.ob, vl.sm, _, _, rfl, ?_⟩
    refine ⟨fun σ' H' => Kep T H H' ∧ ∃ due, σ' = [some v, some (.str d.shown), some due, none, none] ∧ DueOk T H v due H', ?_, ?_⟩
    · refine ⟨_, rfl, v, d, rfl, vl.ob, hT, ?_⟩
      cases hl : isLstD d with
      | false =>
        refine .inr ⟨rfl, fun H3 k3 => ⟨_, rfl, iteF ⟨k3, _, rfl, .inr ⟨rfl, fun a xs e1 e2 => absurd e2 (nl hl a xs e1)⟩⟩⟩⟩
      | true =>
        obtain ⟨a, xs, ds, rfl, rfl, ha, hn, hx⟩ := ls hl
        have aT : a ∉ T := not_tab hT ha fun _ z => by cases z
        refine .inl ⟨a, xs, rfl, ha, by omega, fun x m => (hx x m).1, fun x m => (hx x m).2, fun H3 k3 => ⟨_, rfl, ?_⟩⟩
        cases hv : stampsV xs with
        | false => exact iteF ⟨k3, _, rfl, .inr ⟨rfl, fun a' xs' e1 e2 => by cases e1; rw [ha] at e2; cases e2; exact hv⟩⟩
        | true =>
          obtain ⟨ex, g⟩ := good_V hv
          generalize hws : xs.map strV = ws at ex g
          subst ex
          have ha3 := k3.2 a _ aT ha
          have n1 := g.n1
          have l0 : ws[0].length ≤ sizeLine := by
            rw [g.at n1]
            exact Nat.le_trans g.w8 (by decide)
          refine iteT ⟨_, rfl, _, rfl, .inl ⟨a, _, 0, .str ws[0], rfl, rfl, .inl (.inl ha3), at_0 n1, ws[0], rfl, l0, _, rfl, a, _, rfl, .inl (.inl (.inl ha3)), (by decide : 3 ≤ sizeLine), fun q hq => ?_⟩⟩
          refine ⟨k3.trans (Kep.new k3.1 hq), _, rfl, .inl ⟨a, q, ws, rfl, ha, hv, rfl, free_tab k3.1 hq, ?_⟩⟩
          have e0 : ws[0] = ws.headD Str.empty := by
            cases ws with
            | nil => simp at n1
            | cons z r => rfl
          rw [e0, List.length_map]
          exact upd_same
    · rintro σ' H1 ⟨k1, due, rfl, hdue⟩
      refine ⟨_, rfl, _, _, _, _, _, rfl, .ty _, (vl.ob.kep hT k1).ty, kit_lst K d, .inr ⟨_, rfl, _, _, rfl, rfl, _, rfl, ?_, ?_, ?_⟩⟩
      · split <;> omega
      · split <;> omega
      refine for_range (lo := 0) (n := (2 + (if isLstD d = true then 1 else 0) : Int).toNat) (fun i σ Hx => (∃ x3 x4, σ = [some v, some (.str d.shown), some due, x3, x4]) ∧ Kep T H1 Hx) ⟨⟨none, none, rfl⟩, .refl k1.1⟩ (fun i σ Hx hi p => ?_) (fun σ Hx p => ?_)
      · obtain ⟨⟨x3, x4, rfl⟩, kx⟩ := p
        have kHx := k1.trans kx
        -- repr(value) is what it was
        refine ⟨_, rfl, _, rfl, v, 0 + (i : Nat), rfl, kHx.1, ?_⟩
        cases hl : isLstD d with
        | false =>
          have d1 : due = .str "InvalidStamps" := by
            rcases hdue with ⟨a, q, ws, e1, e2, _⟩ | h
            · exact absurd e2 (nl hl a _ e1)
            · exact h.1
          subst d1
          rw [hl] at hi
          have hi2 : i < 2 := by
            have e : (2 + (if false = true then 1 else 0) : Int).toNat = 2 := rfl
            rw [e] at hi
            exact hi
          refine .inr ⟨_, (vl.ob.kep hT kHx).ty, (by rw [kit_lst, hl]), by omega, fun H3 k3 => ?_⟩
          have k13 := kx.trans k3
          refine ⟨_, rfl, rfl, _, rfl, iteT' (by simp) ⟨_, rfl, _, _, rfl, .el (.lf (.str _)), sm_inv, _, rfl, _, _, rfl, .el (.lf (.str _)), sm_inv, rfl, _, rfl, iteF' (by simp) ?_⟩⟩
          refine ⟨_, rfl, v, d, rfl, vl.ob.kep hT (kHx.trans k3), vl.sm, _, rfl, rfl, _, rfl, iteF' (by simp) ?_⟩
          exact ⟨⟨_, _, rfl⟩, k13⟩
        | true =>
          obtain ⟨a, xs, ds, rfl, rfl, ha, hn, hx⟩ := ls hl
          have aT : a ∉ T := not_tab hT ha fun _ z => by cases z
          have hax := kHx.2 a _ aT ha
          refine .inl ⟨a, xs, rfl, hax, by omega, fun x m => (hx x m).1.kep kHx, fun hv => ?_, fun hv H3 k3 => ?_, fun _ _ _ H3 k3 => ?_⟩
          · intro H3 r l hr hl3 k3
            have k13 := kx.trans k3
            rcases hdue.kep k13 with ⟨a', q, ws, e1, e2, e3, rfl, e5, e6⟩ | h
            · cases e1
              rw [ha] at e2
              cases e2
              have e0 : strV ((ws.map V.str).headD .non) = ws.headD Str.empty := by
                cases ws with
                | nil => cases e3
                | cons z r => rfl
              rw [e0, List.length_map] at hr
              have ha3 := k3.2 a _ aT hax
              refine ⟨_, rfl, rfl, _, rfl, iteT' (by simp) ⟨_, rfl, _, _, rfl, ob_due hr hl3, sm_due e3, _, rfl, _, _, rfl, ob_due e6 ha3, sm_due e3, rfl, _, rfl, iteF' (by simp) ?_⟩⟩
              refine ⟨_, rfl, _, _, rfl, vl.ob.kep hT (kHx.trans k3), vl.sm, _, rfl, rfl, _, rfl, iteF' (by simp) ?_⟩
              exact ⟨⟨_, _, rfl⟩, k13⟩
            · rw [h.2 a xs rfl ha] at hv
              cases hv
          · have k13 := kx.trans k3
            rcases hdue with ⟨a', q, ws, e1, e2, e3, _⟩ | ⟨rfl, _⟩
            · cases e1
              rw [ha] at e2
              cases e2
              rw [e3] at hv
              cases hv
            refine ⟨_, rfl, rfl, _, rfl, iteT' (by simp) ⟨_, rfl, _, _, rfl, .el (.lf (.str _)), sm_inv, _, rfl, _, _, rfl, .el (.lf (.str _)), sm_inv, rfl, _, rfl, iteF' (by simp) ?_⟩⟩
            refine ⟨_, rfl, _, _, rfl, vl.ob.kep hT (kHx.trans k3), vl.sm, _, rfl, rfl, _, rfl, iteF' (by simp) ?_⟩
            exact ⟨⟨_, _, rfl⟩, k13⟩
          · have k13 := kx.trans k3
            refine ⟨_, rfl, rfl, _, rfl, iteF' (by simp) ?_⟩
            refine ⟨_, rfl, _, _, rfl, vl.ob.kep hT (kHx.trans k3), vl.sm, _, rfl, rfl, _, rfl, iteF' (by simp) ?_⟩
            exact ⟨⟨_, _, rfl⟩, k13⟩
      · obtain ⟨_, kx⟩ := p
        exact k _ (k1.trans kx)
end
end Ov

set_option Elab.async false
set_option linter.all false
set_option maxRecDepth 100000
set_option maxHeartbeats 4000000
namespace Ov
open PySem PySem.Spec PyProof.Rows L2 GxR
abbrev sWord : Stmt := top 25
abbrev sCh : Stmt := top 26
/-- all signs below 128, n at most -/
def Asc (n : Nat) (z : Str) : Prop := z.length ≤ n ∧ ∀ c ∈ z.cps.toList, c < 128
theorem asc_low {z : Str} {n : Nat} (h : lowB z = true) (l : z.length ≤ n) : Asc n z := ⟨l, fun c hc => by
  have := List.all_eq_true.mp h c hc
  simp only [Bool.and_eq_true, decide_eq_true_eq] at this
  omega⟩
theorem asc_cut {z : Str} {n : Nat} {lo hi : Option Int} (h : Asc n z) : Asc n (cutS z lo hi) := by
  unfold cutS
  refine ⟨?_, fun c hc => ?_⟩
  · show (List.take _ (List.drop _ z.cps.toList)).toArray.size ≤ n
    rw [List.size_toArray, List.length_take, List.length_drop]
    have h1 : z.cps.toList.length ≤ n := h.1
    omega
  · rw [List.toList_toArray] at hc
    exact h.2 c (List.mem_of_mem_drop (List.mem_of_mem_take hc))
theorem asc_app {a b : Str} {n m k : Nat} (h : Asc n a) (h2 : Asc m b) (e : n + m ≤ k) : Asc k (a ++ b) := by
  have h1 := h.1
  have h3 := h2.1
  refine ⟨by rw [PySem.Str.length_append]; omega, fun c hc => ?_⟩
  rcases mem_cps_append.mp hc with q | q
  · exact h.2 c q
  · exact h2.2 c q
theorem Asc.mono {a : Str} {n m : Nat} (h : Asc n a) (e : n ≤ m) : Asc m a := ⟨Nat.le_trans h.1 e, h.2⟩
/-- what an item of an object may be -/
structure Sx (x : PyData) : Prop where
  s : x.showable = true
  l : x.leavesShort 8 = true
  w : x.weight ≤ 60
  d : x.depth ≤ 1
  n : nice1 x = true
  b : x.hasDict = false ∨ isLstD x = false
theorem sx_str {z : Str} (h : Asc 60 z) : Sx (.str z) := by
  refine ⟨rfl, ?_, h.1, by simp [PyData.depth], ?_, .inl rfl⟩
  · show (z.cps.toList.all fun c => decide (c < 16 ^ 8)) = true
    rw [List.all_eq_true]
    intro c hc
    have := h.2 c hc
    exact decide_eq_true (Nat.lt_of_lt_of_le this (by decide))
  · show niceS z = true
    unfold niceS PyData.strOk
    rw [Bool.and_eq_true, decide_eq_true_eq]
    refine ⟨Nat.le_trans h.1 (by decide), ?_⟩
    rw [Array.all_eq_true']
    intro c hc
    have := h.2 c (by simpa using hc)
    simpa using Nat.lt_of_lt_of_le this (by decide)
theorem sm_items {ds : List PyData} (h : ∀ d ∈ ds, Sx d) (hl : ds.length ≤ 100) : Sm (.list ds) ∧ niceD (.list ds) = true ∧ Sm (.tuple ds) := by
  have k : PyData.showableAll ds = true ∧ PyData.leavesShortAll 8 ds = true ∧ PyData.weightAll ds ≤ 61 * ds.length ∧ PyData.depthAll ds ≤ 1 ∧ ds.all nice1 = true := by
    clear hl
    induction ds with
    | nil => exact ⟨rfl, rfl, Nat.le_refl _, by decide, rfl⟩
    | cons d r ih =>
      obtain ⟨i1, i2, i3, i4, i5⟩ := ih fun x hx => h x (List.mem_cons_of_mem _ hx)
      have hd := h d List.mem_cons_self
      refine ⟨?_, ?_, ?_, ?_, ?_⟩
      · show (d.showable && PyData.showableAll r) = true
        rw [hd.s, i1]; rfl
      · show (d.leavesShort 8 && PyData.leavesShortAll 8 r) = true
        rw [hd.l, i2]; rfl
      · show d.weight + 1 + PyData.weightAll r ≤ 61 * (r.length + 1)
        have := hd.w
        omega
      · show max d.depth (PyData.depthAll r) ≤ 1
        have := hd.d
        omega
      · rw [List.all_cons, hd.n, i5]; rfl
  obtain ⟨k1, k2, k3, k4, k5⟩ := k
  have wl : PyData.weightAll ds ≤ 8000 := by omega
  have dl : PyData.depthAll ds + 1 ≤ 40 := by omega
  refine ⟨⟨k1, k2, wl, dl⟩, ?_, ⟨k1, k2, wl, dl⟩⟩
  show (decide (ds.length ≤ 100) && ds.all nice1) = true
  rw [decide_eq_true hl, k5]; rfl
/-- all items but d are texts -/
theorem both_of {ds : List PyData} {d : PyData} (h : ∀ e ∈ ds, isStrD e = true ∨ e = d) (b : d.hasDict = false ∨ isLstD d = false) : PyData.hasDictAll ds = false ∨ noLst ds = true := by
  rcases b with b | b
  · left
    induction ds with
    | nil => rfl
    | cons e r ih =>
      show (e.hasDict || PyData.hasDictAll r) = false
      rw [ih fun x hx => h x (List.mem_cons_of_mem _ hx)]
      rcases h e List.mem_cons_self with q | q
      · cases e <;> first | rfl | cases q
      · rw [q, b]; rfl
  · right
    induction ds with
    | nil => rfl
    | cons e r ih =>
      have i := ih fun x hx => h x (List.mem_cons_of_mem _ hx)
      have : isLstD e = false := by
        rcases h e List.mem_cons_self with q | q
        · cases e <;> first | rfl | cases q
        · rw [q, b]
      cases e <;> first | exact i | cases this
theorem el_strs {H : Hp} : ∀ ws : List Str, ElAll H (ws.map V.str) (ws.map PyData.str)
  | [] => .nil
  | z :: r => .cons (.lf (.str z)) (el_strs r)
theorem ElAll.set {H : Hp} : ∀ {xs : List V} {ds : List PyData} (j : Nat) {x : V} {d : PyData}, ElAll H xs ds → El H x d → ElAll H (xs.set j x) (ds.set j d)
  | _, _, _, _, _, .nil, _ => .nil
  | _, _, 0, _, _, .cons a t, h => .cons h t
  | _, _, j + 1, _, _, .cons a t, h => .cons a (t.set j h)
/-- a list of texts, with one item changed -/
theorem vl_list {H : Hp} {a : Addr} {xs : List V} {ds : List PyData} {d : PyData} (h : H a = some (.lst xs)) (el : ElAll H xs ds) (hs : ∀ e ∈ ds, Sx e) (hl : ds.length ≤ 100) (one : ∀ e ∈ ds, isStrD e = true ∨ e = d) (b : d.hasDict = false ∨ isLstD d = false) : Vl H (.ref a) (.list ds) :=
  ⟨.lst h el (both_of one b), (sm_items hs hl).1, (sm_items hs hl).2.1⟩
/-- what is no table stays, but at t -/
def Stay (t : Addr) (H H2 : Hp) : Prop := ∀ a o, a ≠ t → (∀ ps, o ≠ HO.tbl ps) → H a = some o → H2 a = some o
theorem Bt.stay {t : Addr} {H H2 : Hp} (k : Bt t H H2) : Stay t H H2 := fun a o n _ e => k a o n e
theorem KepX.stay {T : List Addr} {t : Addr} {H H2 : Hp} (hT : ∀ p ∈ T, TabG H p) (k : KepX T t H H2) : Stay t H H2 := fun a o n nt e => k.at hT n e nt
theorem El.stay {t : Addr} {H H2 : Hp} {x : V} {d : PyData} (h : El H x d) (n : x ≠ .ref t) (k : Stay t H H2) : El H2 x d := by
  cases h with
  | lf l => exact .lf l
  | lst e l => exact .lst (k _ _ (fun z => n (by rw [z])) (fun _ z => by cases z) e) l
  | tup e l => exact .tup (k _ _ (fun z => n (by rw [z])) (fun _ z => by cases z) e) l
  | dic e l => exact .dic (k _ _ (fun z => n (by rw [z])) (fun _ z => by cases z) e) l
theorem ElAll.stay {t : Addr} {H H2 : Hp} (k : Stay t H H2) : ∀ {xs : List V} {ds : List PyData}, ElAll H xs ds → (∀ x ∈ xs, x ≠ .ref t) → ElAll H2 xs ds
  | _, _, .nil, _ => .nil
  | _, _, .cons h s, n => .cons (h.stay (n _ List.mem_cons_self) k) (s.stay k fun x hx => n x (List.mem_cons_of_mem _ hx))
theorem ElAll.get {H : Hp} : ∀ {xs : List V} {ds : List PyData} {j : Nat} {x : V}, ElAll H xs ds → xs[j]? = some x → ∃ d, ds[j]? = some d ∧ El H x d
  | _, _, _, _, .nil, e => by cases e
  | _, _, 0, _, .cons h s, e => by cases e; exact ⟨_, rfl, h⟩
  | _, _, j + 1, _, .cons h s, e => by
    obtain ⟨d, h1, h2⟩ := s.get (j := j) (by simpa using e)
    exact ⟨d, by simpa using h1, h2⟩
theorem ElAll.app {H : Hp} : ∀ {xs ys : List V} {ds es : List PyData}, ElAll H xs ds → ElAll H ys es → ElAll H (xs ++ ys) (ds ++ es)
  | _, _, _, _, .nil, k => k
  | _, _, _, _, .cons h s, k => .cons h (s.app k)
/-- the changed words so far -/
def ChM (t f : Addr) (H Hx : Hp) (m n : Nat) : Prop := ∃ (xs : List V) (ds : List PyData) (e : PyData), Hx f = some (.lst xs) ∧ ElAll Hx xs ds ∧ (∀ x ∈ xs, x ≠ .ref t ∧ x ≠ .ref f) ∧ (∀ y ∈ ds, Sx y) ∧ (∀ y ∈ ds, isStrD y = true ∨ y = e) ∧ (e.hasDict = false ∨ isLstD e = false) ∧
  1 ≤ xs.length ∧ xs.length ≤ m ∧ f ≠ t ∧ Bt t H Hx ∧ Tp Hx t n
section
variable {P : Program} {w : World} {K : PySem.W.Frag} {mg : Str → Option Value} {base : Heap} {T : List Addr} {C D fLow fText fAre fTape fNext fInks fInit cLow PLow cAre PAre pWo fWo pWi fWi pO gO fLen DNa DNu DSp DTx DS fIs fMade fRight fWord fCh : Addr}
/-! ### _law_word -/
def spWord : Sp := fun vs H Q _ => ∃ (W s f : Int), vs = [.int W, .int s, .int f] ∧ 0 ≤ W ∧ W ≤ 9 ∧ 0 ≤ s ∧ s ≤ 100 ∧ 0 ≤ f ∧ f ≤ 100 ∧ ∀ z H3, (z.length : Int) = W → lowB z = true → L2.Same H H3 → Q (.str z) H3
abbrev NWord : List Str := ["width", "step", "first", "spot"]
theorem scWord : FnScope NWord ["width", "step", "first"] (defScope sWord) := ⟨rfl, rfl, rfl, by decide +kernel, rfl, by decide +kernel, by decide +kernel⟩
theorem abc_ch {d : Int} (h0 : 0 ≤ d) (h : d < 26) : ∃ c, atI abc26.cps.toList d = some c ∧ One ⟨#[c]⟩ := pool_ch (z := abc26) (by decide +kernel) h0 (by
  have : abc26.length = 26 := by decide +kernel
  omega)
theorem ok_word {f : Addr} {fd : FuncData} (F : L2.Fun K "_law_word" "_law_word" sWord f fd) (X : Txt K mg C fLow fText fAre fTape fNext fInks) : FnOk P w K mg base CX0 1 f fd ["width", "step", "first"] spWord := by
  refine F.ok scWord (fun vs H Q E h => ?_) (fun cdv A outer s H vs Q E hr h => ?_)
  · obtain ⟨W, s, f, rfl, _⟩ := h
    rfl
  · obtain ⟨W, st, fi, rfl, h0, h9, s0, s9, f0, f9, k⟩ := h
    refine ⟨_, pss_one (ps_ret (pe_join pe_str (pe_lc (own := [("spot", 3)]) (g := gName 3) (tt := tYes) (by rfl) scWord.nd (pi_range1 (by rfl) X.rng (pa_cons (pv 0) pa_nil)) (blkOk_by (own := [("spot", 3)]) (N := NWord) (sc := defScope sWord) (by decide +kernel))
        (fun _ _ _ _ _ => pg_name (i := 3) scWord.nd rfl (Or.inl rfl)) (fun _ _ _ _ _ => pts_nil)
        (fun _ _ _ _ _ => pe_ix (ix_K (K := K) rfl) pe_str (pe_op op_mod (pe_op op_add (pe_op op_mul (pv 3) (pv 1)) (pv 2)) pe_int) fun _ _ => rfl)))), ?_⟩
    refine ⟨⟨_, rfl⟩, _, rfl, W, rfl, by omega, by omega, fun D hD => ?_⟩
    refine lc_range (lo := 0) (n := W.toNat) (fun j H5 => ∃ ys : List Str, H5 D = some (.lst (ys.map V.str)) ∧ ys.length = j ∧ (∀ y ∈ ys, One y) ∧ L2.Same H H5) ⟨[], upd_same, rfl, fun y hy => by simp at hy, fun b o e => (upd_ne (ne_of_none e hD)).trans e⟩ (fun j H5 hj p => ?_) (fun H5 p => ?_)
    · obtain ⟨ys, hD5, hyl, hy1, bt5⟩ := p
      refine ⟨rfl, ?_⟩
      unfold tYes
      refine iteT' (b := true) rfl ?_
      have m1 := Int.emod_nonneg ((0 + (j : Int)) * st + fi) (b := 26) (by decide)
      have m2 := Int.emod_lt_of_pos ((0 + (j : Int)) * st + fi) (b := 26) (by decide)
      obtain ⟨c, hc, hone⟩ := abc_ch m1 m2
      refine ⟨_, rfl, _, rfl, _, _, rfl, rfl, .inl ⟨by omega, by omega⟩, _, rfl, _, _, rfl, rfl, _, _, rfl, rfl, (by decide : (0 : Int) < 26), .inr (.inr ⟨abc26, _, c, rfl, rfl, by decide, hc, ys.map V.str, hD5, by rw [List.length_map, hyl]; exact Nat.lt_of_lt_of_le (by omega : j < 10) (by decide), ys ++ [⟨#[c]⟩], ?_, by simp [hyl], fun y hy => ?_, fun b o e => (upd_ne (ne_of_none e hD)).trans (bt5 b o e)⟩)⟩
      · rw [List.map_append]; exact upd_same
      · rcases List.mem_append.mp hy with h | h
        · exact hy1 y h
        · rw [List.mem_singleton.mp h]; exact hone
    · obtain ⟨ys, hD5, hyl, hy1, bt5⟩ := p
      obtain ⟨j1, j2⟩ := join_ones "" rfl ys hy1
      have ysum : ∀ ys : List Str, (∀ y ∈ ys, One y) → (ys.map (·.length)).sum = ys.length := fun ys h => by
        induction ys with
        | nil => rfl
        | cons y r ih =>
          obtain ⟨c, hc, _⟩ := h y List.mem_cons_self
          have e1 : y.length = 1 := by
            have : y.cps.toList.length = 1 := by rw [hc]; rfl
            simpa [Str.length] using this
          rw [List.map_cons, List.sum_cons, ih fun z hz => h z (List.mem_cons_of_mem _ hz), List.length_cons, e1]
          omega
      refine ⟨"", D, ys, rfl, rfl, .inl (.inl (.inl hD5)), ?_, ?_⟩
      · rw [ysum ys hy1, hyl]
        have : ("" : Str).length = 0 := rfl
        rw [this]
        omega
      · exact k _ _ (by rw [j1, hyl]; omega) j2 bt5
/-! ### _law_changed -/
abbrev oddV (p1 p2 p3 p4 : Addr) : List V := [.non, .bl true, .int 0, .str "", .str "A", .str "a ", .str "ab_", .str "a\n", .str "1", .ref p1, .ref p2, .ref p3, .ref p4, .str "."]
theorem asc_lit : (∀ z ∈ (["", "A", "a ", "ab_", "a\n", "1", "."] : List Str), z.length ≤ 60 ∧ (z.cps.toList.all fun c => decide (c < 128)) = true) := by decide +kernel
theorem asc_of {z : Str} (h : z.length ≤ 60 ∧ (z.cps.toList.all fun c => decide (c < 128)) = true) : Asc 60 z := ⟨h.1, fun c hc => of_decide_eq_true (List.all_eq_true.mp h.2 c hc)⟩
theorem sx_non : Sx .none := ⟨rfl, rfl, by decide, by decide, rfl, .inl rfl⟩
theorem sx_bl (b : Bool) : Sx (.bool b) := by cases b <;> exact ⟨rfl, rfl, by decide, by decide, rfl, .inl rfl⟩
theorem sx_zero : Sx (.int 0) := ⟨by decide, by decide +kernel, by decide, by decide, rfl, .inl rfl⟩
theorem sx_l1 : Sx (.list [.str "a"]) := ⟨by decide, by decide +kernel, by decide +kernel, by decide, rfl, .inl (by decide)⟩
theorem sx_t1 : Sx (.tuple [.str "a"]) := ⟨by decide, by decide +kernel, by decide +kernel, by decide, rfl, .inl (by decide)⟩
theorem sx_d0 : Sx (.dict []) := ⟨by decide, by decide +kernel, by decide +kernel, by decide, rfl, .inr rfl⟩
theorem sx_d1 : Sx (.dict [(.str "a", .int 0)]) := ⟨by decide, by decide +kernel, by decide +kernel, by decide, rfl, .inr rfl⟩
/-- any of the odd objects -/
theorem odd_at {H : Hp} {p1 p2 p3 p4 : Addr} (h1 : H p1 = some (.lst [.str "a"])) (h2 : H p2 = some (.tup [.str "a"])) (h3 : H p3 = some (.dK [])) (h4 : H p4 = some (.dK [(.inr "a", .int 0)])) {d : Int} (d0 : 0 ≤ d) (d14 : d < 14) :
    ∃ x e, atI (oddV p1 p2 p3 p4) d = some x ∧ El H x e ∧ Sx e ∧ ∀ q, p1 ≠ q → p2 ≠ q → p3 ≠ q → p4 ≠ q → x ≠ .ref q := by
  have lit : ∀ z ∈ (["", "A", "a ", "ab_", "a\n", "1", "."] : List Str), Sx (.str z) := fun z hz => sx_str (asc_of (asc_lit z hz))
  have : d = 0 ∨ d = 1 ∨ d = 2 ∨ d = 3 ∨ d = 4 ∨ d = 5 ∨ d = 6 ∨ d = 7 ∨ d = 8 ∨ d = 9 ∨ d = 10 ∨ d = 11 ∨ d = 12 ∨ d = 13 := by omega
  rcases this with rfl | rfl | rfl | rfl | rfl | rfl | rfl | rfl | rfl | rfl | rfl | rfl | rfl | rfl
  · exact ⟨_, _, by simp [atI, ixN], .lf .non, sx_non, fun _ _ _ _ _ => nofun⟩
  · exact ⟨_, _, by simp [atI, ixN], .lf (.bl true), sx_bl _, fun _ _ _ _ _ => nofun⟩
  · exact ⟨_, _, by simp [atI, ixN], .lf (.int 0), sx_zero, fun _ _ _ _ _ => nofun⟩
  · exact ⟨.str "", .str "", by simp [atI, ixN], .lf (.str _), lit ("" : Str) (by simp), fun _ _ _ _ _ => nofun⟩
  · exact ⟨.str "A", .str "A", by simp [atI, ixN], .lf (.str _), lit ("A" : Str) (by simp), fun _ _ _ _ _ => nofun⟩
  · exact ⟨.str "a ", .str "a ", by simp [atI, ixN], .lf (.str _), lit ("a " : Str) (by simp), fun _ _ _ _ _ => nofun⟩
  · exact ⟨.str "ab_", .str "ab_", by simp [atI, ixN], .lf (.str _), lit ("ab_" : Str) (by simp), fun _ _ _ _ _ => nofun⟩
  · exact ⟨.str "a\n", .str "a\n", by simp [atI, ixN], .lf (.str _), lit ("a\n" : Str) (by simp), fun _ _ _ _ _ => nofun⟩
  · exact ⟨.str "1", .str "1", by simp [atI, ixN], .lf (.str _), lit ("1" : Str) (by simp), fun _ _ _ _ _ => nofun⟩
  · exact ⟨_, _, by simp [atI, ixN], .lst h1 (.cons (.str _) .nil), sx_l1, fun q m _ _ _ r => m (V.ref.inj r)⟩
  · exact ⟨_, _, by simp [atI, ixN], .tup h2 (.cons (.str _) .nil), sx_t1, fun q _ m _ _ r => m (V.ref.inj r)⟩
  · exact ⟨_, _, by simp [atI, ixN], .dic (kvs := []) (ds := []) h3 .nil, sx_d0, fun q _ _ m _ r => m (V.ref.inj r)⟩
  · exact ⟨_, _, by simp [atI, ixN], .dic (ds := [.int 0]) h4 (.cons (.int 0) .nil), sx_d1, fun q _ _ _ m r => m (V.ref.inj r)⟩
  · exact ⟨.str ".", .str ".", by simp [atI, ixN], .lf (.str _), lit ("." : Str) (by simp), fun _ _ _ _ _ => nofun⟩
def signs10 : Str := "AZ .1-_~\n!"
theorem sign_ch {d : Int} (h0 : 0 ≤ d) (h : d < 10) : ∃ c, atI signs10.cps.toList d = some c ∧ Asc 1 ⟨#[c]⟩ := by
  have hk : d.toNat < signs10.cps.toList.length := by
    have : signs10.cps.toList.length = 10 := by decide +kernel
    omega
  have e : d = (d.toNat : Int) := by omega
  have z1 : atI signs10.cps.toList (d.toNat : Int) = some signs10.cps.toList[d.toNat] := atI_nat (List.getElem?_eq_getElem hk)
  rw [← e] at z1
  have al : signs10.cps.toList.all (fun c => decide (c < 128)) = true := by decide +kernel
  have := of_decide_eq_true (List.all_eq_true.mp al _ (List.getElem_mem hk))
  exact ⟨_, z1, Nat.le_refl 1, fun c hc => by simp at hc; rw [hc]; exact this⟩
def spCh : Sp := fun vs H Q _ => ∃ (t l : Addr) (ws : List Str) (n : Nat), vs = [.ref t, .ref l] ∧ Tp H t n ∧ n + 10 < 2 ^ 40 ∧ H l = some (.lst (ws.map V.str)) ∧ stampsV (ws.map V.str) = true ∧ l ≠ t ∧
  ∀ r xs ds e H3, H3 r = some (.lst xs) → ElAll H3 xs ds → (∀ x ∈ xs, x ≠ .ref t) → (∀ y ∈ ds, Sx y) → (∀ y ∈ ds, isStrD y = true ∨ y = e) → (e.hasDict = false ∨ isLstD e = false) → ds.length ≤ 100 → r ≠ t → Tp H3 t (n + 6) → Bt t H H3 → Q (.ref r) H3
abbrev NCh : List Str := ["tape", "inks", "found", "odd", "spot", "way", "ink", "at", "sign", "some", "turn"]
theorem scCh : FnScope NCh ["tape", "inks"] (defScope sCh) := ⟨rfl, rfl, rfl, by decide +kernel, rfl, by decide +kernel, by decide +kernel⟩
theorem ok_ch {f : Addr} {fd fdN fdW : FuncData} (F : L2.Fun K "_law_changed" "_law_changed" sCh f fd) (FN : L2.Fun K "_law_next" "_law_next" sNext fNext fdN) (FW : L2.Fun K "_law_word" "_law_word" sWord fWord fdW) (X : Txt K mg C fLow fText fAre fTape fNext fInks) (XA : TopA mg K fIs fMade fRight fWord fCh) : FnOk P w K mg base CX0 2 f fd ["tape", "inks"] spCh := by
  have N1 : FnOk P w K mg base CX0 1 fNext fdN ["tape", "many"] spNext := ok_next FN X
  have bN : Binds K fdN ["tape", "many"] [] := FN.binds fun _ _ _ _ _ _ us hl => match us, hl with | [_, _], _ => rfl
  have bW : Binds K fdW ["width", "step", "first"] [] := FW.binds fun _ _ _ _ _ _ us hl => match us, hl with | [_, _, _], _ => rfl
  refine F.ok scCh (fun vs H Q E h => ?_) (fun cdv A outer s H vs Q E hr h => ?_)
  · obtain ⟨t, l, ws, n, rfl, _⟩ := h
    rfl
  · obtain ⟨t, l, ws, n, rfl, htp, hn, hl, hv, lt, k⟩ := h
    have WW : FnOk P w K mg base CX0 1 fWord fdW ["width", "step", "first"] spWord := ok_word FW X
    refine ⟨_, pss_cons (ps_par (i := 2) (j := 3) rfl scCh.nd rfl rfl (by decide) rfl rfl (pa_cons (pe_callTy call_list_of (by rfl) X.lst (by decide +kernel) (pa_cons (pv 1) pa_nil))
          (pa_cons (pe_lst (pa_cons pe_non (pa_cons pe_bl (pa_cons pe_int (pa_cons pe_str (pa_cons pe_str (pa_cons pe_str (pa_cons pe_str (pa_cons pe_str (pa_cons pe_str (pa_cons (pe_lst (pa_cons pe_str pa_nil)) (pa_cons (pe_tup (pa_cons pe_str pa_nil)) (pa_cons pe_dnewK (pa_cons (pe_disp (pps_cons pe_str pe_int pps_nil) rfl rfl (by simp) (by simp)) (pa_cons pe_str pa_nil))))))))))))))) pa_nil)) (by rfl))
      (pss_cons (ps_par (i := 4) (j := 5) rfl scCh.nd rfl rfl (by decide) rfl rfl (pa_cons (pe_next N1 bN hr (by rfl) X.gNext X.kNext (pa_cons (pv 0) (pa_cons (pe_callB call_len_seq (by rfl) X.len boot_len (pa_cons (pv 2) pa_nil)) pa_nil))) (pa_cons (pe_next N1 bN hr (by rfl) X.gNext X.kNext (pa_cons (pv 0) (pa_cons pe_int pa_nil))) pa_nil)) (by rfl))
      (pss_cons (ps_set (i := 6) scCh.nd rfl (.inr rfl) (pe_ix ix_seq (pv 2) (pv 4) fun _ _ => rfl))
      (pss_cons (ps_set (i := 7) scCh.nd rfl (.inl rfl) (pe_next N1 bN hr (by rfl) X.gNext X.kNext (pa_cons (pv 0) (pa_cons (pe_op op_add (pe_callB call_len_str (by rfl) X.len boot_len (pa_cons (pv 6) pa_nil)) pe_int) pa_nil))))
      (pss_cons (ps_set (i := 8) scCh.nd rfl (.inl rfl) (pe_ix ix_seq pe_str (pe_next N1 bN hr (by rfl) X.gNext X.kNext (pa_cons (pv 0) (pa_cons pe_int pa_nil))) fun _ _ => rfl))
      (pss_cons (ps_set (i := 9) scCh.nd rfl (.inl rfl) (pe_lst (pa_cons (pe_op op_add_str (pe_op op_add_str (pe_slice sl_str (pv 6) po_none (po_some (pv 7))) (pv 8)) (pe_slice sl_str (pv 6) (po_some (pe_op op_add (pv 7) pe_int)) po_none))
          (pa_cons (pe_op op_add_str (pe_op op_add_str (pe_slice sl_str (pv 6) po_none (po_some (pv 7))) pe_str) (pe_slice sl_str (pv 6) (po_some (pv 7)) po_none)) (pa_cons (pe_slice sl_str (pv 6) po_none (po_some (pe_un un_neg pe_int)))
            (pa_cons (pe_ix ix_seq (pv 3) (pe_next N1 bN hr (by rfl) X.gNext X.kNext (pa_cons (pv 0) (pa_cons pe_int pa_nil))) fun _ _ => rfl) (pa_cons (pv 6) (pa_cons (pe_op op_mulS pe_str pe_int) pa_nil))))))))
      (C8.pss_cut (ps_if (pt_cmpR op_lt (pv 5) pe_int (by rfl)) (pss_one (ps_asg (pe_ix ix_seq (pv 9) (pv 5) fun _ _ => rfl) (pg_sub (pv 2) (pv 4) set_list))) pss_nil)
      (C8.pss_cut (ps_if (pt_cmpR op_eq (pv 5) pe_int (by rfl)) (pss_one (ps_expr (pe_bm PySem.F.plainAttrs_list PySem.F.slot_list_append PySem.F.type_list_append mt_append (pv 2) (pa_cons (pe_ix ix_seq (pv 2) (pe_next N1 bN hr (by rfl) X.gNext X.kNext (pa_cons (pv 0) (pa_cons (pe_callB call_len_seq (by rfl) X.len boot_len (pa_cons (pv 2) pa_nil)) pa_nil))) fun _ _ => rfl) pa_nil)))) pss_nil)
      (C8.pss_cut (ps_if (pt_cmpR op_eq (pv 5) pe_int (by rfl)) (pss_one (ps_set (i := 2) scCh.nd rfl (.inl rfl) (pe_op op_cat (pv 2) (pe_lc (own := [("turn", 10)]) (g := gName 10) (tt := tYes) (by rfl) scCh.nd (pi_range1 (by rfl) X.rng (pa_cons pe_int pa_nil)) (blkOk_by (own := [("turn", 10)]) (N := NCh) (sc := defScope sCh) (by decide +kernel))
          (fun _ _ _ _ _ => pg_name (i := 10) scCh.nd rfl (Or.inl rfl)) (fun _ _ _ _ _ => pts_nil)
          (fun _ _ _ _ _ => pe_call WW hr (by rfl) XA.gWord XA.kWord bW .nil L2.pass0 (pa_cons (pe_callB call_len_str (by rfl) X.len boot_len (pa_cons (pv 6) pa_nil)) (pa_cons pe_int (pa_cons (pv 10) pa_nil)))))))) pss_nil)
      (pss_one (ps_ret (pv 2))))))))))), ?_⟩
    obtain ⟨W, g⟩ := good_of hv
    have w1 := g.n1
    have w6 := g.n6
    have W1 := g.w1
    have W8 := g.w8
    refine ⟨_, rfl, l, _, rfl, .inl (.inl (.inl hl)), fun f hf => ?_⟩
    have ft : f ≠ t := (htp.ne hf).symm
    have b1 : Bt t H (upd H f (.lst (ws.map V.str))) := Bt.new hf
    have tp1 := htp.new (o := .lst (ws.map V.str)) hf
    have f_1 : upd H f (.lst (ws.map V.str)) f = some (.lst (ws.map V.str)) := upd_same
    generalize upd H f (.lst (ws.map V.str)) = G1 at b1 tp1 f_1 ⊢
    refine ⟨(by decide : 1 ≤ sizeLine), fun p1 hp1 => ?_⟩
    have p1t : p1 ≠ t := (tp1.ne hp1).symm
    have b2 := b1.trans (Bt.new (o := .lst [.str "a"]) hp1)
    have tp2 := tp1.new (o := .lst [.str "a"]) hp1
    have p1nf : p1 ≠ f := (ne_of_none f_1 hp1).symm
    have f_2 := (upd_ne (o := .lst [.str "a"]) (ne_of_none f_1 hp1)).trans f_1
    have p1_2 : upd G1 p1 (.lst [.str "a"]) p1 = some (.lst [.str "a"]) := upd_same
    generalize upd G1 p1 (.lst [.str "a"]) = G2 at b2 tp2 f_2 p1_2 ⊢
    refine ⟨(by decide : 1 ≤ sizeLine), fun p2 hp2 => ?_⟩
    have p2t : p2 ≠ t := (tp2.ne hp2).symm
    have b3 := b2.trans (Bt.new (o := .tup [.str "a"]) hp2)
    have tp3 := tp2.new (o := .tup [.str "a"]) hp2
    have p2nf : p2 ≠ f := (ne_of_none f_2 hp2).symm
    have f_3 := (upd_ne (o := .tup [.str "a"]) (ne_of_none f_2 hp2)).trans f_2
    have p2np1 : p2 ≠ p1 := (ne_of_none p1_2 hp2).symm
    have p1_3 := (upd_ne (o := .tup [.str "a"]) (ne_of_none p1_2 hp2)).trans p1_2
    have p2_3 : upd G2 p2 (.tup [.str "a"]) p2 = some (.tup [.str "a"]) := upd_same
    generalize upd G2 p2 (.tup [.str "a"]) = G3 at b3 tp3 f_3 p1_3 p2_3 ⊢
    intro p3 hp3
    have p3t : p3 ≠ t := (tp3.ne hp3).symm
    have b4 := b3.trans (Bt.new (o := .dK []) hp3)
    have tp4 := tp3.new (o := .dK []) hp3
    have p3nf : p3 ≠ f := (ne_of_none f_3 hp3).symm
    have f_4 := (upd_ne (o := .dK []) (ne_of_none f_3 hp3)).trans f_3
    have p3np1 : p3 ≠ p1 := (ne_of_none p1_3 hp3).symm
    have p1_4 := (upd_ne (o := .dK []) (ne_of_none p1_3 hp3)).trans p1_3
    have p3np2 : p3 ≠ p2 := (ne_of_none p2_3 hp3).symm
    have p2_4 := (upd_ne (o := .dK []) (ne_of_none p2_3 hp3)).trans p2_3
    have p3_4 : upd G3 p3 (.dK []) p3 = some (.dK []) := upd_same
    generalize upd G3 p3 (.dK []) = G4 at b4 tp4 f_4 p1_4 p2_4 p3_4 ⊢
    intro p4 hp4
    refine ⟨upd_same, [(.inr "a", .int 0)], rfl, by decide, ?_⟩
    have e4 : upd (upd G4 p4 (.dK [])) p4 (.dK (mergeK [] [(.inr "a", .int 0)])) = upd G4 p4 (.dK [(.inr "a", .int 0)]) := upd_upd
    rw [e4]
    have p4t : p4 ≠ t := (tp4.ne hp4).symm
    have b5 := b4.trans (Bt.new (o := .dK [(.inr "a", .int 0)]) hp4)
    have tp5 := tp4.new (o := .dK [(.inr "a", .int 0)]) hp4
    have p4nf : p4 ≠ f := (ne_of_none f_4 hp4).symm
    have f_5 := (upd_ne (o := .dK [(.inr "a", .int 0)]) (ne_of_none f_4 hp4)).trans f_4
    have p4np1 : p4 ≠ p1 := (ne_of_none p1_4 hp4).symm
    have p1_5 := (upd_ne (o := .dK [(.inr "a", .int 0)]) (ne_of_none p1_4 hp4)).trans p1_4
    have p4np2 : p4 ≠ p2 := (ne_of_none p2_4 hp4).symm
    have p2_5 := (upd_ne (o := .dK [(.inr "a", .int 0)]) (ne_of_none p2_4 hp4)).trans p2_4
    have p4np3 : p4 ≠ p3 := (ne_of_none p3_4 hp4).symm
    have p3_5 := (upd_ne (o := .dK [(.inr "a", .int 0)]) (ne_of_none p3_4 hp4)).trans p3_4
    have p4_5 : upd G4 p4 (.dK [(.inr "a", .int 0)]) p4 = some (.dK [(.inr "a", .int 0)]) := upd_same
    generalize upd G4 p4 (.dK [(.inr "a", .int 0)]) = G5 at b5 tp5 f_5 p1_5 p2_5 p3_5 p4_5 ⊢
    refine ⟨(by decide : 14 ≤ sizeLine), fun o ho => ⟨_, _, rfl, ?_⟩⟩
    have ot : o ≠ t := (tp5.ne ho).symm
    have b6 := b5.trans (Bt.new (o := .lst (oddV p1 p2 p3 p4)) ho)
    have tp6 := tp5.new (o := .lst (oddV p1 p2 p3 p4)) ho
    have onf : o ≠ f := (ne_of_none f_5 ho).symm
    have f_6 := (upd_ne (o := .lst (oddV p1 p2 p3 p4)) (ne_of_none f_5 ho)).trans f_5
    have onp1 : o ≠ p1 := (ne_of_none p1_5 ho).symm
    have p1_6 := (upd_ne (o := .lst (oddV p1 p2 p3 p4)) (ne_of_none p1_5 ho)).trans p1_5
    have onp2 : o ≠ p2 := (ne_of_none p2_5 ho).symm
    have p2_6 := (upd_ne (o := .lst (oddV p1 p2 p3 p4)) (ne_of_none p2_5 ho)).trans p2_5
    have onp3 : o ≠ p3 := (ne_of_none p3_5 ho).symm
    have p3_6 := (upd_ne (o := .lst (oddV p1 p2 p3 p4)) (ne_of_none p3_5 ho)).trans p3_5
    have onp4 : o ≠ p4 := (ne_of_none p4_5 ho).symm
    have p4_6 := (upd_ne (o := .lst (oddV p1 p2 p3 p4)) (ne_of_none p4_5 ho)).trans p4_5
    have o_6 : upd G5 o (.lst (oddV p1 p2 p3 p4)) o = some (.lst (oddV p1 p2 p3 p4)) := upd_same
    generalize upd G5 o (.lst (oddV p1 p2 p3 p4)) = G6 at b6 tp6 f_6 p1_6 p2_6 p3_6 p4_6 o_6 ⊢
    refine ⟨_, rfl, _, rfl, f, _, rfl, .inl (.inl (.inl f_6)), t, _, n, rfl, tp6, by omega, by rw [List.length_map]; omega, by rw [List.length_map]; omega, fun d1 K1 d10 d1m tq1 u1 => ?_⟩
    rw [List.length_map] at d1m
    have b7 := b6.trans u1.bt
    have f_7 := (u1 f ft).trans f_6
    have p1_7 := (u1 p1 p1t).trans p1_6
    have p2_7 := (u1 p2 p2t).trans p2_6
    have p3_7 := (u1 p3 p3t).trans p3_6
    have p4_7 := (u1 p4 p4t).trans p4_6
    have o_7 := (u1 o ot).trans o_6
    refine ⟨_, rfl, t, 8, n + 1, rfl, tq1, by omega, by decide, by decide, fun d2 K2 d20 d2m tq2 u2 => ⟨_, _, rfl, ?_⟩⟩
    have b8 := b7.trans u2.bt
    have f_8 := (u2 f ft).trans f_7
    have p1_8 := (u2 p1 p1t).trans p1_7
    have p2_8 := (u2 p2 p2t).trans p2_7
    have p3_8 := (u2 p3 p3t).trans p3_7
    have p4_8 := (u2 p4 p4t).trans p4_7
    have o_8 := (u2 o ot).trans o_7
    obtain ⟨z, hz⟩ : ∃ z, z = ws.getD d1.toNat Str.empty := ⟨_, rfl⟩
    have zw := g.get (i := d1.toNat) (by omega)
    rw [← hz] at zw
    have at1 : atI (ws.map V.str) d1 = some (.str z) := by rw [hz]; exact at_i d10 d1m
    have zl : z.length ≤ sizeLine := Nat.le_trans (by omega : z.length ≤ 8) (by decide)
    refine ⟨_, rfl, _, rfl, .inl ⟨f, _, d1, .str z, rfl, rfl, .inl (.inl f_8), at1, ?_⟩⟩
    refine ⟨_, rfl, _, rfl, z, rfl, zl, _, _, rfl, rfl, t, _, n + 1 + 1, rfl, tq2, by omega, by omega, by omega, fun d3 K3 d30 d3m tq3 u3 => ?_⟩
    have b9 := b8.trans u3.bt
    have f_9 := (u3 f ft).trans f_8
    have p1_9 := (u3 p1 p1t).trans p1_8
    have p2_9 := (u3 p2 p2t).trans p2_8
    have p3_9 := (u3 p3 p3t).trans p3_8
    have p4_9 := (u3 p4 p4t).trans p4_8
    have o_9 := (u3 o ot).trans o_8
    refine ⟨_, rfl, t, 10, n + 1 + 1 + 1, rfl, tq3, by omega, by decide, by decide, fun d4 K4 d40 d4m tq4 u4 => ?_⟩
    have b10 := b9.trans u4.bt
    have f_10 := (u4 f ft).trans f_9
    have p1_10 := (u4 p1 p1t).trans p1_9
    have p2_10 := (u4 p2 p2t).trans p2_9
    have p3_10 := (u4 p3 p3t).trans p3_9
    have p4_10 := (u4 p4 p4t).trans p4_9
    have o_10 := (u4 o ot).trans o_9
    obtain ⟨c, hc, ac⟩ := sign_ch d40 d4m
    refine .inr (.inr ⟨signs10, d4, c, rfl, rfl, by decide, hc, ?_⟩)
    have az : Asc 8 z := asc_low zw.2 (by omega)
    have ll : ∀ {k : Nat} {y : Str}, Asc k y → k ≤ 100 → y.length ≤ sizeLine := fun h e => Nat.le_trans h.1 (Nat.le_trans e (by decide))
    have s2 : ∀ {a b : Str} {i j : Nat}, Asc i a → Asc j b → i + j ≤ 100 → a.length + b.length ≤ sizeLine := fun h h2 e => Nat.le_trans (Nat.add_le_add h.1 h2.1) (Nat.le_trans e (by decide))
    have aa : Asc 1 ("a" : Str) := asc_low (by decide +kernel) (by decide)
    have c1 : Asc 8 (cutS z none (some d3)) := asc_cut az
    have c2 : Asc 8 (cutS z (some (d3 + 1)) none) := asc_cut az
    have c3 : Asc 8 (cutS z (some d3) none) := asc_cut az
    have c4 : Asc 8 (cutS z none (some (-1))) := asc_cut az
    have e1 : Asc 9 (cutS z none (some d3) ++ ⟨#[c]⟩) := asc_app c1 ac (by decide)
    have e2 : Asc 17 (cutS z none (some d3) ++ ⟨#[c]⟩ ++ cutS z (some (d3 + 1)) none) := asc_app e1 c2 (by decide)
    have e3 : Asc 9 (cutS z none (some d3) ++ "a") := asc_app c1 aa (by decide)
    have e5 : Asc 17 (cutS z none (some d3) ++ "a" ++ cutS z (some d3) none) := asc_app e3 c3 (by decide)
    refine ⟨_, rfl, _, rfl, _, rfl, _, rfl, zl, _, rfl, _, _, rfl, rfl, s2 c1 ac (by decide), _, rfl, _, rfl, _, _, rfl, rfl, _, rfl, _, rfl, zl, _, _, rfl, rfl, s2 e1 c2 (by decide), ?_⟩
    refine ⟨_, rfl, _, rfl, _, rfl, _, rfl, zl, _, _, rfl, rfl, s2 c1 aa (by decide), _, rfl, _, rfl, _, rfl, _, rfl, zl, _, _, rfl, rfl, s2 e3 c3 (by decide), ?_⟩
    refine ⟨_, rfl, _, rfl, _, rfl, _, rfl, zl, ?_⟩
    refine ⟨_, rfl, _, rfl, t, 14, n + 1 + 1 + 1 + 1, rfl, tq4, by omega, by decide, by decide, fun d5 K5 d50 d5m tq5 u5 => ?_⟩
    have b11 := b10.trans u5.bt
    have f_11 := (u5 f ft).trans f_10
    have p1_11 := (u5 p1 p1t).trans p1_10
    have p2_11 := (u5 p2 p2t).trans p2_10
    have p3_11 := (u5 p3 p3t).trans p3_10
    have p4_11 := (u5 p4 p4t).trans p4_10
    have o_11 := (u5 o ot).trans o_10
    obtain ⟨x, e, hx, ex, sx, xn⟩ := odd_at p1_11 p2_11 p3_11 p4_11 d50 d5m
    refine .inl ⟨o, _, d5, x, rfl, rfl, .inl (.inl o_11), hx, ?_⟩
    have xt : x ≠ .ref t := xn t p1t p2t p3t p4t
    have xf : x ≠ .ref f := xn f p1nf p2nf p3nf p4nf
    refine ⟨_, rfl, "z", 9, rfl, rfl, by decide, by decide, by decide, (by decide : 6 ≤ sizeLine), fun so hso => ?_⟩
    have a9 : Asc 60 (⟨(List.replicate (9 : Int).toNat ("z" : Str).cps.toList).flatten.toArray⟩ : Str) := asc_of (by decide +kernel)
    have exs := ex.stay (H2 := upd K5 so (.lst [.str (cutS z none (some d3) ++ ⟨#[c]⟩ ++ cutS z (some (d3 + 1)) none), .str (cutS z none (some d3) ++ "a" ++ cutS z (some d3) none), .str (cutS z none (some (-1))), x, .str z, .str ⟨(List.replicate (9 : Int).toNat ("z" : Str).cps.toList).flatten.toArray⟩])) xt (fun a o na no ea => (upd_ne (ne_of_none ea hso)).trans ea)
    have sot : so ≠ t := (tq5.ne hso).symm
    have b12 := b11.trans (Bt.new (o := .lst [.str (cutS z none (some d3) ++ ⟨#[c]⟩ ++ cutS z (some (d3 + 1)) none), .str (cutS z none (some d3) ++ "a" ++ cutS z (some d3) none), .str (cutS z none (some (-1))), x, .str z, .str ⟨(List.replicate (9 : Int).toNat ("z" : Str).cps.toList).flatten.toArray⟩]) hso)
    have tp12 := tq5.new (o := .lst [.str (cutS z none (some d3) ++ ⟨#[c]⟩ ++ cutS z (some (d3 + 1)) none), .str (cutS z none (some d3) ++ "a" ++ cutS z (some d3) none), .str (cutS z none (some (-1))), x, .str z, .str ⟨(List.replicate (9 : Int).toNat ("z" : Str).cps.toList).flatten.toArray⟩]) hso
    have sonf : so ≠ f := (ne_of_none f_11 hso).symm
    have f_12 := (upd_ne (o := .lst [.str (cutS z none (some d3) ++ ⟨#[c]⟩ ++ cutS z (some (d3 + 1)) none), .str (cutS z none (some d3) ++ "a" ++ cutS z (some d3) none), .str (cutS z none (some (-1))), x, .str z, .str ⟨(List.replicate (9 : Int).toNat ("z" : Str).cps.toList).flatten.toArray⟩]) (ne_of_none f_11 hso)).trans f_11
    have sonp1 : so ≠ p1 := (ne_of_none p1_11 hso).symm
    have p1_12 := (upd_ne (o := .lst [.str (cutS z none (some d3) ++ ⟨#[c]⟩ ++ cutS z (some (d3 + 1)) none), .str (cutS z none (some d3) ++ "a" ++ cutS z (some d3) none), .str (cutS z none (some (-1))), x, .str z, .str ⟨(List.replicate (9 : Int).toNat ("z" : Str).cps.toList).flatten.toArray⟩]) (ne_of_none p1_11 hso)).trans p1_11
    have sonp2 : so ≠ p2 := (ne_of_none p2_11 hso).symm
    have p2_12 := (upd_ne (o := .lst [.str (cutS z none (some d3) ++ ⟨#[c]⟩ ++ cutS z (some (d3 + 1)) none), .str (cutS z none (some d3) ++ "a" ++ cutS z (some d3) none), .str (cutS z none (some (-1))), x, .str z, .str ⟨(List.replicate (9 : Int).toNat ("z" : Str).cps.toList).flatten.toArray⟩]) (ne_of_none p2_11 hso)).trans p2_11
    have sonp3 : so ≠ p3 := (ne_of_none p3_11 hso).symm
    have p3_12 := (upd_ne (o := .lst [.str (cutS z none (some d3) ++ ⟨#[c]⟩ ++ cutS z (some (d3 + 1)) none), .str (cutS z none (some d3) ++ "a" ++ cutS z (some d3) none), .str (cutS z none (some (-1))), x, .str z, .str ⟨(List.replicate (9 : Int).toNat ("z" : Str).cps.toList).flatten.toArray⟩]) (ne_of_none p3_11 hso)).trans p3_11
    have sonp4 : so ≠ p4 := (ne_of_none p4_11 hso).symm
    have p4_12 := (upd_ne (o := .lst [.str (cutS z none (some d3) ++ ⟨#[c]⟩ ++ cutS z (some (d3 + 1)) none), .str (cutS z none (some d3) ++ "a" ++ cutS z (some d3) none), .str (cutS z none (some (-1))), x, .str z, .str ⟨(List.replicate (9 : Int).toNat ("z" : Str).cps.toList).flatten.toArray⟩]) (ne_of_none p4_11 hso)).trans p4_11
    have sono : so ≠ o := (ne_of_none o_11 hso).symm
    have o_12 := (upd_ne (o := .lst [.str (cutS z none (some d3) ++ ⟨#[c]⟩ ++ cutS z (some (d3 + 1)) none), .str (cutS z none (some d3) ++ "a" ++ cutS z (some d3) none), .str (cutS z none (some (-1))), x, .str z, .str ⟨(List.replicate (9 : Int).toNat ("z" : Str).cps.toList).flatten.toArray⟩]) (ne_of_none o_11 hso)).trans o_11
    have so_12 : upd K5 so (.lst [.str (cutS z none (some d3) ++ ⟨#[c]⟩ ++ cutS z (some (d3 + 1)) none), .str (cutS z none (some d3) ++ "a" ++ cutS z (some d3) none), .str (cutS z none (some (-1))), x, .str z, .str ⟨(List.replicate (9 : Int).toNat ("z" : Str).cps.toList).flatten.toArray⟩]) so = some (.lst [.str (cutS z none (some d3) ++ ⟨#[c]⟩ ++ cutS z (some (d3 + 1)) none), .str (cutS z none (some d3) ++ "a" ++ cutS z (some d3) none), .str (cutS z none (some (-1))), x, .str z, .str ⟨(List.replicate (9 : Int).toNat ("z" : Str).cps.toList).flatten.toArray⟩]) := upd_same
    generalize upd K5 so (.lst [.str (cutS z none (some d3) ++ ⟨#[c]⟩ ++ cutS z (some (d3 + 1)) none), .str (cutS z none (some d3) ++ "a" ++ cutS z (some d3) none), .str (cutS z none (some (-1))), x, .str z, .str ⟨(List.replicate (9 : Int).toNat ("z" : Str).cps.toList).flatten.toArray⟩]) = G12 at b12 tp12 f_12 p1_12 p2_12 p3_12 p4_12 o_12 so_12 exs ⊢
    have pick : d2 < 6 → ∃ y ye, atI ([.str (cutS z none (some d3) ++ ⟨#[c]⟩ ++ cutS z (some (d3 + 1)) none), .str (cutS z none (some d3) ++ "a" ++ cutS z (some d3) none), .str (cutS z none (some (-1))), x, .str z, .str ⟨(List.replicate (9 : Int).toNat ("z" : Str).cps.toList).flatten.toArray⟩] : List V) d2 = some y ∧ El G12 y ye ∧ Sx ye ∧ y ≠ .ref t ∧ y ≠ .ref f := fun h6 => by
      have : d2 = 0 ∨ d2 = 1 ∨ d2 = 2 ∨ d2 = 3 ∨ d2 = 4 ∨ d2 = 5 := by omega
      rcases this with rfl | rfl | rfl | rfl | rfl | rfl
      · exact ⟨_, _, by simp [atI, ixN], .lf (.str _), sx_str (e2.mono (by decide)), nofun, nofun⟩
      · exact ⟨_, _, by simp [atI, ixN], .lf (.str _), sx_str (e5.mono (by decide)), nofun, nofun⟩
      · exact ⟨_, _, by simp [atI, ixN], .lf (.str _), sx_str (c4.mono (by decide)), nofun, nofun⟩
      · exact ⟨_, _, by simp [atI, ixN], exs, sx, xt, xf⟩
      · exact ⟨_, _, by simp [atI, ixN], .lf (.str _), sx_str (az.mono (by decide)), nofun, nofun⟩
      · exact ⟨_, _, by simp [atI, ixN], .lf (.str _), sx_str a9, nofun, nofun⟩
    have sws : ∀ y ∈ ws.map PyData.str, Sx y ∧ isStrD y = true := fun y hy => by
      obtain ⟨q, hq, rfl⟩ := List.mem_map.mp hy
      have := g.all q hq
      exact ⟨sx_str (asc_low this.2 (by omega)), rfl⟩
    have wst : ∀ x ∈ ws.map V.str, x ≠ .ref t ∧ x ≠ .ref f := fun x hx => by
      obtain ⟨q, hq, rfl⟩ := List.mem_map.mp hx
      exact ⟨nofun, nofun⟩
    generalize hit : ([.str (cutS z none (some d3) ++ ⟨#[c]⟩ ++ cutS z (some (d3 + 1)) none), .str (cutS z none (some d3) ++ "a" ++ cutS z (some d3) none), .str (cutS z none (some (-1))), x, .str z, .str ⟨(List.replicate (9 : Int).toNat ("z" : Str).cps.toList).flatten.toArray⟩] : List V) = its at pick so_12
    refine ⟨fun σ' H' => σ' = [some (.ref t), some (.ref l), some (.ref f), some (.ref o), some (.int d1), some (.int d2), some (.str z), some (.int d3), some (.str ⟨#[c]⟩), some (.ref so), none] ∧ ChM t f H H' 6 (n + 5), ?_, ?_⟩
    · refine ⟨_, rfl, _, _, rfl, rfl, _, rfl, ?_⟩
      by_cases h6 : d2 < 6
      · obtain ⟨y, ye, hy, ey, sy, yt, yf⟩ := pick h6
        refine iteT' (decide_eq_true h6) ⟨_, rfl, _, rfl, .inl ⟨so, _, d2, y, rfl, rfl, .inl (.inl so_12), hy, _, rfl, _, rfl, f, _, d1, d1.toNat, rfl, rfl, f_12, by rw [List.length_map]; simp [ixN, d10, d1m], rfl, ?_⟩⟩
        have stay : Stay f G12 (upd G12 f (.lst ((ws.map V.str).set d1.toNat y))) := fun a o na _ ea => (upd_ne na).trans ea
        refine ⟨_, _, ye, upd_same, ((el_strs ws).set d1.toNat (ey.stay yf stay)), fun x hx => ?_, fun q hq => ?_, fun q hq => ?_, sy.b, ?_, ?_, ft, fun a o na ea => ?_, tp12.at (upd_ne ft.symm)⟩
        · rcases List.mem_or_eq_of_mem_set hx with h | rfl
          · exact wst x h
          · exact ⟨yt, yf⟩
        · rcases List.mem_or_eq_of_mem_set hq with h | rfl
          · exact (sws q h).1
          · exact sy
        · rcases List.mem_or_eq_of_mem_set hq with h | rfl
          · exact .inl (sws q h).2
          · exact .inr rfl
        · rw [List.length_set, List.length_map]; exact w1
        · rw [List.length_set, List.length_map]; exact w6
        · have ne : a ≠ f := fun z => by rw [z, hf] at ea; cases ea
          exact (upd_ne ne).trans (b12 a o na ea)
      · exact iteF' (decide_eq_false h6) ⟨rfl, _, _, .none, f_12, el_strs ws, wst, fun q hq => (sws q hq).1, fun q hq => .inl (sws q hq).2, .inl rfl, by rw [List.length_map]; exact w1, by rw [List.length_map]; exact w6, ft, b12, tp12⟩
    rintro σ1 J1 ⟨rfl, M1⟩
    refine ⟨fun σ' H' => σ' = [some (.ref t), some (.ref l), some (.ref f), some (.ref o), some (.int d1), some (.int d2), some (.str z), some (.int d3), some (.str ⟨#[c]⟩), some (.ref so), none] ∧ ChM t f H H' 7 (n + 6), ?_, ?_⟩
    · refine ⟨_, rfl, rfl, _, rfl, ?_⟩
      obtain ⟨xs, ds, e', h1, h2, h3, h4, h5, h5b, h7, h8, h9, hb, hp⟩ := M1
      by_cases c6 : d2 = 6
      · refine iteT' (by simp [c6]) ⟨_, rfl, .inl ⟨rfl, _, .inl (.inl h1)⟩, _, rfl, _, rfl, _, rfl, f, _, rfl, .inl (.inl (.inl h1)), t, _, n + 5, rfl, hp, by omega, by omega, by omega, fun d6 J2 d60 d6m tj uj => ?_⟩
        have hi : d6.toNat < xs.length := by omega
        have f2 := (uj f ft).trans h1
        have at6 : atI xs d6 = some xs[d6.toNat] := by
          have ee : d6 = (d6.toNat : Int) := by omega
          have zz : atI xs (d6.toNat : Int) = some xs[d6.toNat] := atI_nat (List.getElem?_eq_getElem hi)
          rw [← ee] at zz
          exact zz
        refine .inl ⟨f, _, d6, xs[d6.toNat], rfl, rfl, .inl (.inl f2), at6, f, xs, _, rfl, rfl, f2, Nat.lt_of_le_of_lt h8 (by decide), rfl, ?_⟩
        obtain ⟨dd, hd1, hd2⟩ := h2.get (List.getElem?_eq_getElem hi)
        have el2 : ElAll J2 xs ds := h2.stay uj.bt.stay fun x hx => (h3 x hx).1
        have stay : Stay f J2 (upd J2 f (.lst (xs ++ [xs[d6.toNat]]))) := fun a o na _ ea => (upd_ne na).trans ea
        have mx : xs[d6.toNat] ∈ xs := List.getElem_mem hi
        have mem1 : ∀ x ∈ xs ++ [xs[d6.toNat]], x ∈ xs := fun x hx => (List.mem_append.mp hx).elim id fun q => by rw [List.mem_singleton.mp q]; exact mx
        have md : dd ∈ ds := List.mem_of_getElem? hd1
        have mem2 : ∀ x ∈ ds ++ [dd], x ∈ ds := fun x hx => (List.mem_append.mp hx).elim id fun q => by rw [List.mem_singleton.mp q]; exact md
        refine ⟨_, ds ++ [dd], e', upd_same, ElAll.app (el2.stay stay fun x hx => (h3 x hx).2) (.cons ((hd2.stay (h3 _ mx).1 uj.bt.stay).stay (h3 _ mx).2 stay) .nil), fun x hx => h3 x (mem1 x hx), fun q hq => h4 q (mem2 q hq), fun q hq => h5 q (mem2 q hq), h5b, ?_, ?_, ft, fun a o na ea => ?_, tj.at (upd_ne ft.symm)⟩
        · rw [List.length_append]; omega
        · rw [List.length_append, List.length_singleton]; omega
        · have ne : a ≠ f := fun z => by rw [z, hf] at ea; cases ea
          exact (upd_ne ne).trans ((hb.trans uj.bt) a o na ea)
      · exact iteF' (by simp [c6]) ⟨rfl, xs, ds, e', h1, h2, h3, h4, h5, h5b, h7, by omega, h9, hb, hp.mono (by omega)⟩
    rintro σ2 J3 ⟨rfl, M2⟩
    refine ⟨fun σ' H' => ∃ f', σ' = [some (.ref t), some (.ref l), some (.ref f'), some (.ref o), some (.int d1), some (.int d2), some (.str z), some (.int d3), some (.str ⟨#[c]⟩), some (.ref so), none] ∧ ChM t f' H H' 13 (n + 6), ?_, ?_⟩
    · refine ⟨_, rfl, rfl, _, rfl, ?_⟩
      obtain ⟨xs, ds, e', h1, h2, h3, h4, h5, h5b, h7, h8, h9, hb, hp⟩ := M2
      by_cases c7 : d2 = 7
      · refine iteT' (by simp [c7]) ⟨_, rfl, 6, rfl, by decide, by decide, fun D hD => ?_⟩
        have Dt : D ≠ t := (hp.ne hD).symm
        have nt : J3 t ≠ none := fun z => by
          obtain ⟨a, b, c, q, _⟩ := hp
          rw [q] at z; cases z
        refine lc_range (lo := 0) (n := 6) (fun j H5 => ∃ ys : List Str, H5 D = some (.lst (ys.map V.str)) ∧ ys.length = j ∧ (∀ y ∈ ys, Asc 60 y) ∧ Bt t J3 H5 ∧ H5 t = J3 t) ⟨[], upd_same, rfl, fun y hy => by simp at hy, Bt.new hD, upd_ne Dt.symm⟩ (fun j H5 hj p => ?_) (fun H5 p => ?_)
        · obtain ⟨ys, hD5, hyl, hy1, bt5, t5⟩ := p
          refine ⟨rfl, ?_⟩
          unfold tYes
          refine iteT' (b := true) rfl ?_
          refine ⟨_, rfl, z, rfl, zl, _, rfl, z.length, 1, 0 + (j : Nat), rfl, by omega, by omega, by decide, by decide, by omega, by omega, fun y H6 yl ylow sm => ?_⟩
          have b6 : Bt t H5 H6 := fun b o _ e => sm b o e
          have t6 : H6 t = H5 t := by
            cases q : H5 t with
            | none => exact absurd (t5.symm.trans q) nt
            | some o => exact sm t o q
          refine ⟨_, b6 D _ Dt hD5, by rw [List.length_map, hyl]; exact Nat.lt_of_lt_of_le hj (by decide), ys ++ [y], by rw [List.map_append]; exact upd_same, by simp [hyl], fun q hq => ?_, (bt5.trans b6).put hD, (upd_ne Dt.symm).trans (t6.trans t5)⟩
          rcases List.mem_append.mp hq with h | h
          · exact hy1 q h
          · rw [List.mem_singleton.mp h]
            exact asc_low ylow (by omega)
        · obtain ⟨ys, hD5, hyl, hy1, bt5, t5⟩ := p
          have f5 := bt5 f _ ft h1
          refine ⟨f, D, xs, ys.map V.str, rfl, rfl, f5, hD5, ?_, fun f' hf' => ⟨f', rfl, ?_⟩⟩
          · rw [List.length_map, hyl]
            exact Nat.le_trans (by omega : _ ≤ 13) (by decide)
          have b5 := hb.trans bt5
          have tp5 : Tp H5 t (n + 6) := hp.at t5
          have ft' : f' ≠ t := (tp5.ne hf').symm
          have st' : Stay t H5 (upd H5 f' (.lst (xs ++ ys.map V.str))) := fun a o _ _ ea => (upd_ne (ne_of_none ea hf')).trans ea
          have el5 : ElAll H5 xs ds := h2.stay bt5.stay fun x hx => (h3 x hx).1
          have nf' : ∀ x ∈ xs, x ≠ .ref f' := fun x hx q => by
            obtain ⟨j, hj, ej⟩ := List.mem_iff_getElem.mp hx
            obtain ⟨d', _, l'⟩ := el5.get (List.getElem?_eq_getElem hj)
            rw [ej, q] at l'
            cases l' with
            | lf l => cases l
            | lst h _ => rw [hf'] at h; cases h
            | tup h _ => rw [hf'] at h; cases h
            | dic h _ => rw [hf'] at h; cases h
          refine ⟨_, ds ++ ys.map PyData.str, e', upd_same, ElAll.app (el5.stay st' fun x hx => (h3 x hx).1) (el_strs ys), fun x hx => ?_, fun q hq => ?_, fun q hq => ?_, h5b, ?_, ?_, ft', b5.trans (Bt.new hf'), tp5.new hf'⟩
          · rcases List.mem_append.mp hx with h | h
            · exact ⟨(h3 x h).1, nf' x h⟩
            · obtain ⟨q, _, rfl⟩ := List.mem_map.mp h
              exact ⟨nofun, nofun⟩
          · rcases List.mem_append.mp hq with h | h
            · exact h4 q h
            · obtain ⟨q', hq', rfl⟩ := List.mem_map.mp h
              exact sx_str (hy1 q' hq')
          · rcases List.mem_append.mp hq with h | h
            · exact h5 q h
            · obtain ⟨q', hq', rfl⟩ := List.mem_map.mp h
              exact .inl rfl
          · rw [List.length_append]; omega
          · rw [List.length_append, List.length_map, hyl]; omega
      · exact iteF' (by simp [c7]) ⟨f, rfl, xs, ds, e', h1, h2, h3, h4, h5, h5b, h7, by omega, h9, hb, hp⟩
    rintro σ3 J4 ⟨f', rfl, M3⟩
    obtain ⟨xs, ds, e', h1, h2, h3, h4, h5, h5b, h7, h8, h9, hb, hp⟩ := M3
    refine ⟨_, rfl, ?_⟩
    exact k f' xs ds e' J4 h1 h2 (fun x hx => (h3 x hx).1) h4 h5 h5b (by rw [← h2.len]; omega) h9 hp hb
end
end Ov

set_option Elab.async false
set_option linter.all false
set_option maxRecDepth 100000
set_option maxHeartbeats 4000000
namespace Ov
open PySem PySem.Spec PyProof.Rows L2 GxR
abbrev sLawA : Stmt := top 27
/-- an object that the law's right takes, also after what goes on besides the tape at t -/
def VS (T : List Addr) (t : Addr) (H : Hp) (x : V) : Prop := ∃ d, ∀ H4, KepX T t H H4 → Vl H4 x d
theorem VS.mono {T : List Addr} {t : Addr} {H H2 : Hp} {x : V} (k : KepX T t H H2) (h : VS T t H x) : VS T t H2 x := by
  obtain ⟨d, h⟩ := h
  exact ⟨d, fun H4 k4 => h H4 (k.trans k4)⟩
theorem vs_list {T : List Addr} {t r : Addr} {H : Hp} {xs : List V} {ds : List PyData} {e : PyData} (hT : ∀ p ∈ T, TabG H p) (hr : H r = some (.lst xs)) (rt : r ≠ t) (el : ElAll H xs ds) (nt : ∀ x ∈ xs, x ≠ .ref t) (hs : ∀ y ∈ ds, Sx y) (hl : ds.length ≤ 100)
    (one : ∀ y ∈ ds, isStrD y = true ∨ y = e) (b : e.hasDict = false ∨ isLstD e = false) : VS T t H (.ref r) :=
  ⟨.list ds, fun H4 k => vl_list (k.at hT rt hr fun _ z => by cases z) (el.stay (k.stay hT) nt) hs hl one b⟩
def smB (d : PyData) : Bool := d.showable && (d.leavesShort 8 && (decide (d.weight ≤ 8000) && (decide (d.depth ≤ 40) && niceD d)))
theorem vl_of {H : Hp} {v : V} {d : PyData} (ob : Ob H v d) (h : smB d = true) : Vl H v d := by
  unfold smB at h
  simp only [Bool.and_eq_true, decide_eq_true_eq] at h
  exact ⟨ob, ⟨h.1, h.2.1, h.2.2.1, h.2.2.2.1⟩, h.2.2.2.2⟩
theorem Vl.kep {T : List Addr} {H H2 : Hp} {v : V} {d : PyData} (hT : ∀ p ∈ T, TabG H p) (k : Kep T H H2) (h : Vl H v d) : Vl H2 v d := ⟨h.ob.kep hT k, h.sm, h.ni⟩
theorem sx_strs {ws : List Str} (h : ∀ z ∈ ws, Asc 60 z) : ∀ y ∈ ws.map PyData.str, Sx y ∧ isStrD y = true := fun y hy => by
  obtain ⟨q, hq, rfl⟩ := List.mem_map.mp hy
  exact ⟨sx_str (h q hq), rfl⟩
theorem no_ref {ws : List Str} {t : Addr} : ∀ x ∈ ws.map V.str, x ≠ .ref t := fun x hx => by
  obtain ⟨q, hq, rfl⟩ := List.mem_map.mp hx
  exact nofun
theorem vs_strs {T : List Addr} {t r : Addr} {H : Hp} {ws : List Str} (hT : ∀ p ∈ T, TabG H p) (hr : H r = some (.lst (ws.map V.str))) (rt : r ≠ t) (h : ∀ z ∈ ws, Asc 60 z) (hl : ws.length ≤ 100) : VS T t H (.ref r) :=
  vs_list (e := .none) hT hr rt (el_strs ws) no_ref (fun y hy => (sx_strs h y hy).1) (by rw [List.length_map]; exact hl) (fun y hy => .inl (sx_strs h y hy).2) (.inl rfl)
theorem vs_tup {T : List Addr} {t r : Addr} {H : Hp} {ws : List Str} (hT : ∀ p ∈ T, TabG H p) (hr : H r = some (.tup (ws.map V.str))) (rt : r ≠ t) (h : ∀ z ∈ ws, Asc 60 z) (hl : ws.length ≤ 100) : VS T t H (.ref r) :=
  ⟨.tuple (ws.map PyData.str), fun H4 k => ⟨.el (.tup (k.at hT rt hr fun _ z => by cases z) (lf_strs ws)), (sm_items (fun y hy => (sx_strs h y hy).1) (by rw [List.length_map]; exact hl)).2.2, rfl⟩⟩
theorem vs_leaf {T : List Addr} {t : Addr} {H : Hp} {x : V} {d : PyData} (l : Lf x d) (s : Sx d) : VS T t H x := by
  refine ⟨d, fun H4 _ => ⟨.el (.lf l), ⟨s.s, s.l, Nat.le_trans s.w (by decide), Nat.le_trans s.d (by decide)⟩, ?_⟩⟩
  cases l <;> rfl
theorem vs_dict {T : List Addr} {t r : Addr} {H : Hp} {z : Str} (hT : ∀ p ∈ T, TabG H p) (hr : H r = some (.dK [(.inr z, .int 0)])) (rt : r ≠ t) (h : Asc 60 z) : VS T t H (.ref r) := by
  have s := sx_str h
  refine ⟨.dict [(.str z, .int 0)], fun H4 k => ⟨.el (.dic (ds := [.int 0]) (k.at hT rt hr fun _ z => by cases z) (.cons (.int 0) .nil)), ⟨?_, ?_, ?_, ?_⟩, rfl⟩⟩
  · show ((true && PyData.showable (.int 0)) && true) = true
    decide
  · show (PyData.leavesShort 8 (.str z) && PyData.leavesShort 8 (.int 0) && true) = true
    rw [s.l]
    decide +kernel
  · show PyData.weight (.str z) + PyData.weight (.int 0) + 2 + 0 ≤ 8000
    have := s.w
    have e : PyData.weight (.int 0) = 0 := by decide
    omega
  · show max (max (PyData.depth (.str z)) (PyData.depth (.int 0))) 0 + 1 ≤ 40
    have e : PyData.depth (.int 0) = 0 := by decide
    have := s.d
    omega
theorem sx_lstrs {ws : List Str} (h : ∀ z ∈ ws, Asc 8 z) (hl : ws.length ≤ 6) : Sx (.list (ws.map PyData.str)) := by
  have k : PyData.weightAll (ws.map PyData.str) ≤ 9 * ws.length := by
    clear hl
    induction ws with
    | nil => decide
    | cons z r ih =>
      have i := ih fun x hx => h x (List.mem_cons_of_mem _ hx)
      have hz : z.cps.size ≤ 8 := (h z List.mem_cons_self).1
      show z.cps.size + 1 + PyData.weightAll (r.map PyData.str) ≤ 9 * (r.length + 1)
      omega
  have lo : ∀ z ∈ ws, (z.cps.toList.all fun c => decide (c < 16 ^ 8)) = true := fun z hz => by
    rw [List.all_eq_true]
    intro c hc
    exact decide_eq_true (Nat.lt_of_lt_of_le ((h z hz).2 c hc) (by decide))
  have ls : PyData.leavesShortAll 8 (ws.map PyData.str) = true := by
    clear k hl h
    induction ws with
    | nil => rfl
    | cons z r ih =>
      show ((z.cps.toList.all fun c => decide (c < 16 ^ 8)) && PyData.leavesShortAll 8 (r.map PyData.str)) = true
      rw [lo z List.mem_cons_self, ih fun x hx => lo x (List.mem_cons_of_mem _ hx)]; rfl
  have d1 := depth_strs ws
  have d0 : PyData.depthAll (ws.map PyData.str) = 0 := by
    clear k hl h ls lo d1
    induction ws with
    | nil => decide
    | cons z r ih =>
      show max (PyData.depth (.str z)) (PyData.depthAll (r.map PyData.str)) = 0
      rw [ih]
      simp [PyData.depth]
  refine ⟨show_strs ws, ls, ?_, ?_, rfl, .inl (nodict_strs ws)⟩
  · show PyData.weightAll (ws.map PyData.str) ≤ 60
    omega
  · show PyData.depthAll (ws.map PyData.str) + 1 ≤ 1
    omega
theorem cutV_to {l : List Str} {d : Int} (h : 0 ≤ d) : cutV (l.map V.str) none (some d) = (l.take d.toNat).map V.str := by
  obtain ⟨n, rfl⟩ : ∃ n : Nat, d = n := ⟨d.toNat, by omega⟩
  unfold cutV
  rw [HT.sIx_none, HT.sIx_nat, List.drop_zero, List.length_map, Nat.sub_zero, ← List.map_take, Int.toNat_natCast]
  congr 1
  by_cases c : n ≤ l.length
  · rw [Nat.min_eq_left c]
  · rw [Nat.min_eq_right (by omega), List.take_of_length_le (Nat.le_refl _), List.take_of_length_le (by omega)]
theorem cut_last {xs : List V} {x : V} : cutV (xs ++ [x]) none (some (-1)) = xs := by
  unfold cutV
  rw [HT.sIx_none, List.drop_zero]
  have e : HT.sIx (xs ++ [x]).length (xs ++ [x]).length (some (-1)) = xs.length := by
    unfold HT.sIx
    dsimp only
    rw [if_pos (by decide), List.length_append, List.length_singleton]
    omega
  rw [e, Nat.sub_zero]
  exact List.take_left' rfl
section
variable {P : Program} {w : World} {K : PySem.W.Frag} {mg : Str → Option Value} {base : Heap} {T : List Addr} {C D fLow fText fAre fTape fNext fInks fInit cLow PLow cAre PAre pWo fWo pWi fWi pO gO fLen DNa DNu DSp DTx DS fIs fMade fRight fWord fCh : Addr}
def spLawA (K : PySem.W.Frag) (T : List Addr) : Sp := fun vs H Q _ => ∃ (a : Addr) (ns : List Int), vs = [V.ref a] ∧ (∀ p ∈ T, TabG H p) ∧ SqL K H a (ns.map V.int) ∧ ns.length ≤ 63 ∧ ∀ H', Q (.bl true) H'
abbrev NLA : List Str := ["script", "k", "tape", "turn", "inks", "value", "made", "told", "width", "every", "many"]
theorem scLawA : FnScope NLA ["script"] (defScope sLawA) := ⟨rfl, rfl, rfl, by decide +kernel, rfl, by decide +kernel, by decide +kernel⟩
theorem ok_lawA {f : Addr} {fd fdW fdO fdTp fdNx fdIn fdR fdC fdWd : FuncData} (F : L2.Fun K "law" "law" sLawA f fd) (FTp : L2.Fun K "_law_tape" "_law_tape" sTape fTape fdTp) (FNx : L2.Fun K "_law_next" "_law_next" sNext fNext fdNx) (FIn : L2.Fun K "_law_inks" "_law_inks" sInks fInks fdIn)
    (FRi : L2.Fun K "_law_right" "_law_right" sRightA fRight fdR) (RR : FnG P w K mg base CX0 10 fRight fdR ["value"] (spRightA T)) (FCh : L2.Fun K "_law_changed" "_law_changed" sCh fCh fdC) (FWd : L2.Fun K "_law_word" "_law_word" sWord fWord fdWd)
    (FO : L2.Fun K "of" "Stamps.of" sOf gO fdO) (FI : FnR P w K mg base (L2.CX P w) 6 fInit (spInit K T C D)) (FW : L2.Fun K "words" "Stamps.words" sWords fWo fdW) (M : Mk K C fInit)
    (X : Txt K mg C fLow fText fAre fTape fNext fInks) (XA : TopA mg K fIs fMade fRight fWord fCh) (tup : mg "tuple" = none) (O : Own K C) (hp : PropOf K C "words" pWo fWo) (Er : ErrC K mg "InvalidStamps" D)
    (co : ClX.CMet K C (.type "type") "of" pO gO) (p2 : Pair2 K C C) (mst : ∃ u, Con K C "MOST" (.int 6) u) :
    FnG P w K mg base CX0 11 f fd ["script"] (spLawA K T) := by
  have TT : FnOk P w K mg base CX0 1 fTape fdTp ["script", "k"] (spTape K) := ok_tape FTp X
  have bT : Binds K fdTp ["script", "k"] [] := FTp.binds fun _ _ _ _ _ _ us hl => match us, hl with | [_, _], _ => rfl
  have I1 : FnOk P w K mg base CX0 2 fInks fdIn ["tape", "most"] (spInks K) := ok_inks FIn FNx X
  have bI : Binds K fdIn ["tape", "most"] [] := FIn.binds fun _ _ _ _ _ _ us hl => match us, hl with | [_, _], _ => rfl
  have CC : FnOk P w K mg base CX0 2 fCh fdC ["tape", "inks"] spCh := ok_ch FCh FNx FWd X XA
  have bC : Binds K fdC ["tape", "inks"] [] := FCh.binds fun _ _ _ _ _ _ us hl => match us, hl with | [_, _], _ => rfl
  have bWd : Binds K fdWd ["width", "step", "first"] [] := FWd.binds fun _ _ _ _ _ _ us hl => match us, hl with | [_, _, _], _ => rfl
  have OO : FnOk P w K mg base (L2.CX P w) 8 gO fdO ["cls", "words"] (spOf K T C D) := ok_of FO FI M X Er
  have OR : FnR P w K mg base (L2.CX P w) 8 gO (spOf K T C D) := (OO.raw (FO.binds fun _ _ _ _ _ _ us hl => match us, hl with | [_, _], _ => rfl) .nil).imp fun vs H Q E h => by rw [List.append_nil]; exact h
  have WW : FnOk P w K mg base CX0 1 fWo fdW ["self"] (spWords C) := ok_words FW X O
  have bW : Binds K fdW ["self"] [] := FW.binds fun _ _ _ _ _ _ us hl => match us, hl with | [_], _ => rfl
  have bR : Binds K fdR ["value"] [] := FRi.binds fun _ _ _ _ _ _ us hl => match us, hl with | [_], _ => rfl
  refine fun_okG F scLawA (fun vs H Q E h => ?_) (fun cdv A' outer s H vs Q E hg hr h => ?_)
  · obtain ⟨a, ns, rfl, _⟩ := h
    rfl
  · obtain ⟨a, ns, rfl, hT, hs, hn, q⟩ := h
    have hu := hr.units
    have hu0 : (A'.deeper (envOfC "law" (defScope sLawA) s.heap.objs.size f cdv)).units < cLine := by omega
    have WDt : FnOk P w K mg base CX0 1 fWord fdWd ["width", "step", "first"] spWord := ok_word FWd X
    refine ⟨_, (pss_cons (ps_for PassesOwn.never rfl (pi_range1 (by rfl) X.rng (pa_cons (pe_callB (call_max2 rfl) (by rfl) X.max boot_max (pa_cons pe_int (pa_cons (pe_callB (call_min2 rfl) (by rfl) X.min boot_min (pa_cons pe_int (pa_cons (pe_callB call_len_seq (by rfl) X.len boot_len (pa_cons (pv 0) pa_nil)) pa_nil))) pa_nil))) pa_nil)) (pg_name (i := 1) scLawA.nd rfl (Or.inl rfl)) (pss_cons (ps_set (i := 2) scLawA.nd rfl (.inl rfl) (pe_call TT (hr.mono (by decide)) (by rfl) X.gTape X.kTape bT .nil L2.pass0 (pa_cons (pv 0) (pa_cons (pv 1) pa_nil))))
      (pss_one (ps_for PassesOwn.never rfl (pi_range1 (by rfl) X.rng (pa_cons pe_int pa_nil)) (pg_name (i := 3) scLawA.nd rfl (Or.inl rfl)) (pss_cons (ps_set (i := 4) scLawA.nd rfl (.inl rfl) (pe_call I1 (hr.mono (by decide)) (by rfl) X.gInks X.kInks bI .nil L2.pass0 (pa_cons (pv 2) (pa_cons pe_int pa_nil))))
      (pss_cons (ps_for PassesOwn.never rfl (pi_list (pe_lst (pa_cons (pv 4) (pa_cons (pe_call CC (hr.mono (by decide)) (by rfl) XA.gCh XA.kCh bC .nil L2.pass0 (pa_cons (pv 2) (pa_cons (pv 4) pa_nil))) (pa_cons (pe_call CC (hr.mono (by decide)) (by rfl) XA.gCh XA.kCh bC .nil L2.pass0 (pa_cons (pv 2) (pa_cons (pv 4) pa_nil))) (pa_cons (pe_revL (pv 4)) (pa_cons (pe_op op_cat (pv 4) (pe_slice sl_list (pv 4) po_none (po_some pe_int))) pa_nil))))))) (pg_name (i := 5) scLawA.nd rfl (Or.inl rfl)) (pss_one (ps_if (pt_not (pt_val (pe_callG RR hg hr (by rfl) XA.gRight XA.kRight bR L2.pass0 (pa_cons (pv 5) pa_nil)))) (pss_one (ps_ret pe_bl)) pss_nil)))
      (pss_cons (ps_for PassesOwn.never rfl (pi_list (pe_lst (pa_cons (pe_callTy call_tuple_of (by rfl) tup (by decide +kernel) (pa_cons (pv 4) pa_nil)) (pa_cons (pe_disp (pps_cons (pe_ix ix_seq (pv 4) pe_int fun _ _ => rfl) pe_int pps_nil) rfl rfl (by simp) (by simp)) (pa_cons (pe_ix ix_seq (pv 4) pe_int fun _ _ => rfl) (pa_cons (pe_lst (pa_cons (pv 4) pa_nil)) (pa_cons (pe_op op_cat (pv 4) (pe_lst (pa_cons pe_non pa_nil))) pa_nil))))))) (pg_name (i := 5) scLawA.nd rfl (Or.inl rfl)) (pss_one (ps_if (pt_not (pt_val (pe_callG RR hg hr (by rfl) XA.gRight XA.kRight bR L2.pass0 (pa_cons (pv 5) pa_nil)))) (pss_one (ps_ret pe_bl)) pss_nil)))
      (pss_cons (ps_set (i := 6) scLawA.nd rfl (.inl rfl) (ClX.pe_cmeth (pe_glob (v := .ref C) (by rfl) X.gC rfl) X.rd co OR (hr.mono (by decide)) passL (pa_cons (pv 4) pa_nil)))
      (pss_cons (ps_set (i := 7) scLawA.nd rfl (.inl rfl) (pe_propX (p := pWo) (pv 6) WW (hr.mono (by decide)) bW .nil L2.pass0))
      (pss_cons (ps_expr (pe_bm PySem.F.plainAttrs_list PySem.F.slot_list_append PySem.F.type_list_append mt_append (pv 7) (pa_cons pe_str pa_nil)))
      (pss_cons (ps_asg pe_str (pg_sub (pv 7) pe_int set_list))
      (pss_cons (ps_expr (pe_bm PySem.F.plainAttrs_list PySem.F.slot_list_append PySem.F.type_list_append mt_append (pv 4) (pa_cons pe_str pa_nil)))
      (pss_one (ps_if ((pw_or (pt_cmpR (op_neD hu) (pe_propX (p := pWo) (pv 6) WW (hr.mono (by decide)) bW .nil L2.pass0) (pe_slice sl_list (pv 4) po_none (po_some (pe_un un_neg pe_int))) (by rfl)) (pw_or (pt_cmpR (op_eqS hu0) (pv 6) (ClX.pe_cmeth (pe_glob (v := .ref C) (by rfl) X.gC rfl) X.rd co OR (hr.mono (by decide)) passL (pa_cons (pe_slice sl_list (pv 4) po_none (po_some (pe_un un_neg pe_int))) pa_nil)) (by rfl)) (pw_or (pt_not (pt_cmpR (op_eqS hu0) (pv 6) (pv 6) (by rfl))) (pw_or1 (pt_cmpR op_ne (pe_con (pv 6) (by rfl)) pe_int (by rfl)))))).pt) (pss_one (ps_ret pe_bl)) pss_nil))))))))))))))
      (pss_cons (ps_for PassesOwn.never rfl (pi_range2 (by rfl) X.rng (pa_cons pe_int (pa_cons pe_int pa_nil))) (pg_name (i := 8) scLawA.nd rfl (Or.inr rfl)) (pss_cons (ps_set (i := 9) scLawA.nd rfl (.inr rfl) (pe_lc (own := [("turn", 3)]) (g := gName 3) (tt := tYes) (by rfl) scLawA.nd (pi_range1 (by rfl) X.rng (pa_cons pe_int pa_nil)) (blkOk_by (own := [("turn", 3)]) (N := NLA) (sc := defScope sLawA) (by decide +kernel)) (fun _ _ _ _ _ => pg_name (i := 3) scLawA.nd rfl (Or.inl rfl)) (fun _ _ _ _ _ => pts_nil) (fun _ _ _ _ _ => pe_call WDt (hr.mono (by decide)) (by rfl) XA.gWord XA.kWord bWd .nil L2.pass0 (pa_cons (pv 8) (pa_cons (pv 3) (pa_cons (pv 3) pa_nil))))))
      (pss_one (ps_if (pt_cmpR (op_neD hu) (pe_lc (own := [("many", 10)]) (g := gName 10) (by rfl) scLawA.nd (pi_range1 (by rfl) X.rng (pa_cons pe_int pa_nil)) (blkOk_by (own := [("many", 10)]) (N := NLA) (sc := defScope sLawA) (by decide +kernel)) (fun _ _ _ _ _ => pg_name (i := 10) scLawA.nd rfl (Or.inl rfl)) (fun _ _ _ _ _ => pts_one (pt_not (pt_val (pe_callG RR hg hr (by rfl) XA.gRight XA.kRight bR L2.pass0 (pa_cons (pe_slice (sl_K (K := K) rfl) (pv 9) po_none (po_some (pv 10))) pa_nil))))) (fun _ _ _ _ _ => pv 10)) (pe_lst pa_nil) (by rfl)) (pss_one (ps_ret pe_bl)) pss_nil))))
      (pss_cons (ps_for PassesOwn.never rfl (pi_list (pe_lst (pa_cons pe_non (pa_cons pe_int (pa_cons pe_bl (pa_cons pe_str (pa_cons pe_str (pa_cons (pe_tup pa_nil) (pa_cons pe_dnewK (pa_cons (pe_lst pa_nil) (pa_cons (pe_lst (pa_cons (pe_lst pa_nil) pa_nil)) (pa_cons (pe_lst (pa_cons pe_non pa_nil)) (pa_cons (pe_lst (pa_cons pe_str pa_nil)) (pa_cons (pe_lst (pa_cons pe_str (pa_cons pe_str pa_nil))) (pa_cons (pe_lst (pa_cons pe_str pa_nil)) (pa_cons (pe_lst (pa_cons pe_str (pa_cons pe_str pa_nil))) pa_nil)))))))))))))))) (pg_name (i := 5) scLawA.nd rfl (Or.inl rfl)) (pss_one (ps_if (pt_not (pt_val (pe_callG RR hg hr (by rfl) XA.gRight XA.kRight bR L2.pass0 (pa_cons (pv 5) pa_nil)))) (pss_one (ps_ret pe_bl)) pss_nil)))
      (pss_one (ps_ret (pe_cmpR op_eq (ClX.pe_cval (pe_glob (v := .ref C) (by rfl) X.gC rfl)) pe_int (by rfl))))))), ?_⟩
    --READ
    refine ⟨_, rfl, a, _, rfl, .inl hs, _, _, rfl, _, _, rfl, _, rfl, ?_, ?_, ?_⟩
    · rw [List.length_map]; split <;> omega
    · rw [List.length_map]; split <;> (try split) <;> omega
    rw [List.length_map]
    generalize hN : (if (if (ns.length : Int) < 4 then (ns.length : Int) else 4) > 1 then (if (ns.length : Int) < 4 then (ns.length : Int) else 4) else 1) = N
    have N4 : N ≤ 4 := by rw [← hN]; split <;> (try split) <;> omega
    refine for_range (lo := 0) (n := N.toNat) (fun k σ H' => (∃ v1 v2 v3 v4 v5 v6 v7, σ = [some (.ref a), v1, v2, v3, v4, v5, v6, v7, none, none, none]) ∧ Kep T H H') ⟨⟨_, _, _, _, _, _, _, rfl⟩, .refl hT⟩ (fun k σ H' hk p => ?_) (fun σ H' p => ?_)
    · obtain ⟨⟨v1, v2, v3, v4, v5, v6, v7, rfl⟩, kH⟩ := p
      refine ⟨_, rfl, _, rfl, a, ns, _, rfl, kH.seqL hT hs, by omega, by omega, fun t H1 ht tp1 but1 => ?_⟩
      have kB : Kep T H' H1 := Kep.btX kH.1 (.refl kH.1) ht but1.bt
      refine ⟨6, rfl, by decide, by decide, for_range (lo := 0) (n := 6) (fun j σ Hs => (∃ v3 v4 v5 v6 v7, σ = [some (.ref a), some (.int (0 + (k : Nat))), some (.ref t), v3, v4, v5, v6, v7, none, none, none]) ∧ Kep T H' Hs ∧ Tp Hs t (100 * j)) ⟨⟨_, _, _, _, _, rfl⟩, kB, tp1⟩ (fun j σ Hs hj p => ?_) (fun σ Hs p => ?_)⟩
      · obtain ⟨⟨v3, v4, v5, v6, v7, rfl⟩, kHs, tps⟩ := p
        have hTs := kHs.1
        have nt : t ∉ T := tps.nT hTs
        refine ⟨_, rfl, t, 8, 100 * j, rfl, tps, by omega, by decide, by decide, fun li ws H2 hli0 hli sv tp2 bt2 => ?_⟩
        have kx2 : KepX T t Hs H2 := bt2.kx hTs nt
        have lit : li ≠ t := (tps.ne hli0).symm
        have liT : li ∉ T := free_tab hTs hli0
        obtain ⟨W, g⟩ := good_of sv
        have n1 := g.n1
        have n6 := g.n6
        have W8 := g.w8
        have a8 : ∀ z ∈ ws, Asc 8 z := fun z hz => asc_low (g.all z hz).2 (by rw [(g.all z hz).1]; exact W8)
        have a60 : ∀ z ∈ ws, Asc 60 z := fun z hz => (a8 z hz).mono (by decide)
        have Vli : VS T t H2 (.ref li) := vs_strs kx2.1 hli lit a60 (by omega)
        refine ⟨_, rfl, _, rfl, _, rfl, t, li, ws, _, rfl, tp2, by omega, hli, sv, lit, fun r1 xs1 ds1 e1 H3 h1 i1 i2 i3 i4 i5 i6 r1t tp3 b3 => ?_⟩
        have gk1 := b3.kx kx2.1 nt
        have gr1 := kx2.trans gk1
        have li_g1 := b3 li _ lit hli
        have Vli_g1 := Vli.mono gk1
        have r1T : r1 ∉ T := not_tab gr1.1 h1 fun _ z => by cases z
        have Vr1 : VS T t H3 (.ref r1) := vs_list gr1.1 h1 r1t i1 i2 i3 i6 i4 i5
        refine ⟨_, rfl, _, rfl, t, li, ws, _, rfl, tp3, by omega, li_g1, sv, lit, fun r2 xs2 ds2 e2 H4 h2 j1 j2 j3 j4 j5 j6 r2t tp4 b4 => ?_⟩
        have gk2 := b4.kx gr1.1 nt
        have gr2 := gr1.trans gk2
        have li_g2 := b4 li _ lit li_g1
        have r1_g2 := b4 r1 _ r1t h1
        have Vli_g2 := Vli_g1.mono gk2
        have Vr1_g2 := Vr1.mono gk2
        have r2T : r2 ∉ T := not_tab gr2.1 h2 fun _ z => by cases z
        have Vr2 : VS T t H4 (.ref r2) := vs_list gr2.1 h2 r2t j1 j2 j3 j6 j4 j5
        refine ⟨_, rfl, li, _, rfl, .inl (.inl li_g2), fun p5 hp5 => ?_⟩
        rw [← List.map_reverse]
        have p5t : p5 ≠ t := (tp4.ne hp5).symm
        have p5T : p5 ∉ T := free_tab gr2.1 hp5
        have gr3 := gr2.new (o := .lst (ws.reverse.map V.str)) hp5
        have gk3 := Kep.new (o := .lst (ws.reverse.map V.str)) gr2.1 hp5
        have gtp3 := tp4.new (o := .lst (ws.reverse.map V.str)) hp5
        have p5nli : p5 ≠ li := (ne_of_none li_g2 hp5).symm
        have li_g3 := (upd_ne (o := .lst (ws.reverse.map V.str)) (ne_of_none li_g2 hp5)).trans li_g2
        have p5nr1 : p5 ≠ r1 := (ne_of_none r1_g2 hp5).symm
        have r1_g3 := (upd_ne (o := .lst (ws.reverse.map V.str)) (ne_of_none r1_g2 hp5)).trans r1_g2
        have p5nr2 : p5 ≠ r2 := (ne_of_none h2 hp5).symm
        have r2_g3 := (upd_ne (o := .lst (ws.reverse.map V.str)) (ne_of_none h2 hp5)).trans h2
        have p5_g3 : upd H4 p5 (.lst (ws.reverse.map V.str)) p5 = some (.lst (ws.reverse.map V.str)) := upd_same
        have Vli_g3 := Vli_g2.mono gk3.kx
        have Vr1_g3 := Vr1_g2.mono gk3.kx
        have Vr2_g3 := Vr2.mono gk3.kx
        generalize upd H4 p5 (.lst (ws.reverse.map V.str)) = G3 at gr3 gk3 gtp3 li_g3 r1_g3 r2_g3 p5_g3 Vli_g3 Vr1_g3 Vr2_g3 ⊢
        have Vp5 : VS T t G3 (.ref p5) := vs_strs gr3.1 p5_g3 p5t (fun z hz => a60 z (List.mem_reverse.mp hz)) (by rw [List.length_reverse]; omega)
        refine ⟨_, rfl, _, rfl, _, rfl, li, _, rfl, .inl (.inl li_g3), fun p6 hp6 => ?_⟩
        rw [cutV_to (by decide)]
        have p6t : p6 ≠ t := (gtp3.ne hp6).symm
        have p6T : p6 ∉ T := free_tab gr3.1 hp6
        have gr4 := gr3.new (o := .lst ((ws.take (1 : Int).toNat).map V.str)) hp6
        have gk4 := Kep.new (o := .lst ((ws.take (1 : Int).toNat).map V.str)) gr3.1 hp6
        have gtp4 := gtp3.new (o := .lst ((ws.take (1 : Int).toNat).map V.str)) hp6
        have p6nli : p6 ≠ li := (ne_of_none li_g3 hp6).symm
        have li_g4 := (upd_ne (o := .lst ((ws.take (1 : Int).toNat).map V.str)) (ne_of_none li_g3 hp6)).trans li_g3
        have p6nr1 : p6 ≠ r1 := (ne_of_none r1_g3 hp6).symm
        have r1_g4 := (upd_ne (o := .lst ((ws.take (1 : Int).toNat).map V.str)) (ne_of_none r1_g3 hp6)).trans r1_g3
        have p6nr2 : p6 ≠ r2 := (ne_of_none r2_g3 hp6).symm
        have r2_g4 := (upd_ne (o := .lst ((ws.take (1 : Int).toNat).map V.str)) (ne_of_none r2_g3 hp6)).trans r2_g3
        have p6np5 : p6 ≠ p5 := (ne_of_none p5_g3 hp6).symm
        have p5_g4 := (upd_ne (o := .lst ((ws.take (1 : Int).toNat).map V.str)) (ne_of_none p5_g3 hp6)).trans p5_g3
        have p6_g4 : upd G3 p6 (.lst ((ws.take (1 : Int).toNat).map V.str)) p6 = some (.lst ((ws.take (1 : Int).toNat).map V.str)) := upd_same
        have Vli_g4 := Vli_g3.mono gk4.kx
        have Vr1_g4 := Vr1_g3.mono gk4.kx
        have Vr2_g4 := Vr2_g3.mono gk4.kx
        have Vp5_g4 := Vp5.mono gk4.kx
        generalize upd G3 p6 (.lst ((ws.take (1 : Int).toNat).map V.str)) = G4 at gr4 gk4 gtp4 li_g4 r1_g4 r2_g4 p5_g4 p6_g4 Vli_g4 Vr1_g4 Vr2_g4 Vp5_g4 ⊢
        refine ⟨li, p6, _, _, rfl, rfl, li_g4, p6_g4, ?_, fun p7 hp7 => ?_⟩
        · rw [List.length_map, List.length_map, List.length_take]
          exact Nat.le_trans (by omega : _ ≤ 12) (by decide)
        rw [← List.map_append]
        have p7t : p7 ≠ t := (gtp4.ne hp7).symm
        have p7T : p7 ∉ T := free_tab gr4.1 hp7
        have gr5 := gr4.new (o := .lst ((ws ++ ws.take (1 : Int).toNat).map V.str)) hp7
        have gk5 := Kep.new (o := .lst ((ws ++ ws.take (1 : Int).toNat).map V.str)) gr4.1 hp7
        have gtp5 := gtp4.new (o := .lst ((ws ++ ws.take (1 : Int).toNat).map V.str)) hp7
        have p7nli : p7 ≠ li := (ne_of_none li_g4 hp7).symm
        have li_g5 := (upd_ne (o := .lst ((ws ++ ws.take (1 : Int).toNat).map V.str)) (ne_of_none li_g4 hp7)).trans li_g4
        have p7nr1 : p7 ≠ r1 := (ne_of_none r1_g4 hp7).symm
        have r1_g5 := (upd_ne (o := .lst ((ws ++ ws.take (1 : Int).toNat).map V.str)) (ne_of_none r1_g4 hp7)).trans r1_g4
        have p7nr2 : p7 ≠ r2 := (ne_of_none r2_g4 hp7).symm
        have r2_g5 := (upd_ne (o := .lst ((ws ++ ws.take (1 : Int).toNat).map V.str)) (ne_of_none r2_g4 hp7)).trans r2_g4
        have p7np5 : p7 ≠ p5 := (ne_of_none p5_g4 hp7).symm
        have p5_g5 := (upd_ne (o := .lst ((ws ++ ws.take (1 : Int).toNat).map V.str)) (ne_of_none p5_g4 hp7)).trans p5_g4
        have p7np6 : p7 ≠ p6 := (ne_of_none p6_g4 hp7).symm
        have p6_g5 := (upd_ne (o := .lst ((ws ++ ws.take (1 : Int).toNat).map V.str)) (ne_of_none p6_g4 hp7)).trans p6_g4
        have p7_g5 : upd G4 p7 (.lst ((ws ++ ws.take (1 : Int).toNat).map V.str)) p7 = some (.lst ((ws ++ ws.take (1 : Int).toNat).map V.str)) := upd_same
        have Vli_g5 := Vli_g4.mono gk5.kx
        have Vr1_g5 := Vr1_g4.mono gk5.kx
        have Vr2_g5 := Vr2_g4.mono gk5.kx
        have Vp5_g5 := Vp5_g4.mono gk5.kx
        generalize upd G4 p7 (.lst ((ws ++ ws.take (1 : Int).toNat).map V.str)) = G5 at gr5 gk5 gtp5 li_g5 r1_g5 r2_g5 p5_g5 p6_g5 p7_g5 Vli_g5 Vr1_g5 Vr2_g5 Vp5_g5 ⊢
        have Vp7 : VS T t G5 (.ref p7) := vs_strs gr5.1 p7_g5 p7t (fun z hz => (List.mem_append.mp hz).elim (a60 z) fun h => a60 z (List.mem_of_mem_take h)) (by rw [List.length_append, List.length_take]; omega)
        refine ⟨(by decide : 5 ≤ sizeLine), fun L1 hL1 => ?_⟩
        have L1t : L1 ≠ t := (gtp5.ne hL1).symm
        have L1T : L1 ∉ T := free_tab gr5.1 hL1
        have gr6 := gr5.new (o := .lst [.ref li, .ref r1, .ref r2, .ref p5, .ref p7]) hL1
        have gk6 := Kep.new (o := .lst [.ref li, .ref r1, .ref r2, .ref p5, .ref p7]) gr5.1 hL1
        have gtp6 := gtp5.new (o := .lst [.ref li, .ref r1, .ref r2, .ref p5, .ref p7]) hL1
        have L1nli : L1 ≠ li := (ne_of_none li_g5 hL1).symm
        have li_g6 := (upd_ne (o := .lst [.ref li, .ref r1, .ref r2, .ref p5, .ref p7]) (ne_of_none li_g5 hL1)).trans li_g5
        have L1nr1 : L1 ≠ r1 := (ne_of_none r1_g5 hL1).symm
        have r1_g6 := (upd_ne (o := .lst [.ref li, .ref r1, .ref r2, .ref p5, .ref p7]) (ne_of_none r1_g5 hL1)).trans r1_g5
        have L1nr2 : L1 ≠ r2 := (ne_of_none r2_g5 hL1).symm
        have r2_g6 := (upd_ne (o := .lst [.ref li, .ref r1, .ref r2, .ref p5, .ref p7]) (ne_of_none r2_g5 hL1)).trans r2_g5
        have L1np5 : L1 ≠ p5 := (ne_of_none p5_g5 hL1).symm
        have p5_g6 := (upd_ne (o := .lst [.ref li, .ref r1, .ref r2, .ref p5, .ref p7]) (ne_of_none p5_g5 hL1)).trans p5_g5
        have L1np6 : L1 ≠ p6 := (ne_of_none p6_g5 hL1).symm
        have p6_g6 := (upd_ne (o := .lst [.ref li, .ref r1, .ref r2, .ref p5, .ref p7]) (ne_of_none p6_g5 hL1)).trans p6_g5
        have L1np7 : L1 ≠ p7 := (ne_of_none p7_g5 hL1).symm
        have p7_g6 := (upd_ne (o := .lst [.ref li, .ref r1, .ref r2, .ref p5, .ref p7]) (ne_of_none p7_g5 hL1)).trans p7_g5
        have L1_g6 : upd G5 L1 (.lst [.ref li, .ref r1, .ref r2, .ref p5, .ref p7]) L1 = some (.lst [.ref li, .ref r1, .ref r2, .ref p5, .ref p7]) := upd_same
        have Vli_g6 := Vli_g5.mono gk6.kx
        have Vr1_g6 := Vr1_g5.mono gk6.kx
        have Vr2_g6 := Vr2_g5.mono gk6.kx
        have Vp5_g6 := Vp5_g5.mono gk6.kx
        have Vp7_g6 := Vp7.mono gk6.kx
        generalize upd G5 L1 (.lst [.ref li, .ref r1, .ref r2, .ref p5, .ref p7]) = G6 at gr6 gk6 gtp6 li_g6 r1_g6 r2_g6 p5_g6 p6_g6 p7_g6 L1_g6 Vli_g6 Vr1_g6 Vr2_g6 Vp5_g6 Vp7_g6 ⊢
        have allL1 : ∀ x ∈ ([.ref li, .ref r1, .ref r2, .ref p5, .ref p7] : List V), VS T t G6 x := fun x hx => by
          simp only [List.mem_cons, List.not_mem_nil, or_false] at hx
          rcases hx with rfl | rfl | rfl | rfl | rfl
          · exact Vli_g6
          · exact Vr1_g6
          · exact Vr2_g6
          · exact Vp5_g6
          · exact Vp7_g6
        refine ⟨L1, rfl, ⟨_, .inl (.inl L1_g6)⟩, for_list (xs := [.ref li, .ref r1, .ref r2, .ref p5, .ref p7]) (fun i σ Hx => (∃ v5, σ = [some (.ref a), some (.int (0 + (k : Nat))), some (.ref t), some (.int (0 + (j : Nat))), some (.ref li), v5, v6, v7, none, none, none]) ∧ Kep T G6 Hx) ⟨⟨_, rfl⟩, .refl gr6.1⟩ (fun i σ Hx _ p => .inl (.inl (p.2.2 L1 _ L1T L1_g6))) (fun i x σ Hx hx p => ?_) (fun σ HxL1 p => ?_)⟩
        · obtain ⟨⟨v5, rfl⟩, ki⟩ := p
          obtain ⟨dx, vl⟩ := allL1 x (List.mem_of_getElem? hx)
          refine ⟨_, rfl, x, dx, rfl, vl Hx ki.kx, ki.1, fun H5 k5 => ⟨_, rfl, iteF ?_⟩⟩
          exact ⟨⟨_, rfl⟩, ki.trans k5⟩
        obtain ⟨⟨v5, rfl⟩, kiL1⟩ := p
        have gr7 := gr6.trans kiL1.kx
        have li_g7 := kiL1.2 li _ liT li_g6
        have r1_g7 := kiL1.2 r1 _ r1T r1_g6
        have r2_g7 := kiL1.2 r2 _ r2T r2_g6
        have p5_g7 := kiL1.2 p5 _ p5T p5_g6
        have p6_g7 := kiL1.2 p6 _ p6T p6_g6
        have p7_g7 := kiL1.2 p7 _ p7T p7_g6
        have L1_g7 := kiL1.2 L1 _ L1T L1_g6
        have Vli_g7 := Vli_g6.mono kiL1.kx
        have Vr1_g7 := Vr1_g6.mono kiL1.kx
        have Vr2_g7 := Vr2_g6.mono kiL1.kx
        have Vp5_g7 := Vp5_g6.mono kiL1.kx
        have Vp7_g7 := Vp7_g6.mono kiL1.kx
        have gtp7 := gtp6.kx gr6.1 kiL1
        refine ⟨_, rfl, li, _, rfl, .inl ⟨.inl (.inl li_g7), fun q1 hq1 => ?_⟩⟩
        have q1t : q1 ≠ t := (gtp7.ne hq1).symm
        have q1T : q1 ∉ T := free_tab gr7.1 hq1
        have gr8 := gr7.new (o := .tup (ws.map V.str)) hq1
        have gk8 := Kep.new (o := .tup (ws.map V.str)) gr7.1 hq1
        have gtp8 := gtp7.new (o := .tup (ws.map V.str)) hq1
        have q1nli : q1 ≠ li := (ne_of_none li_g7 hq1).symm
        have li_g8 := (upd_ne (o := .tup (ws.map V.str)) (ne_of_none li_g7 hq1)).trans li_g7
        have q1_g8 : upd HxL1 q1 (.tup (ws.map V.str)) q1 = some (.tup (ws.map V.str)) := upd_same
        have Vli_g8 := Vli_g7.mono gk8.kx
        generalize upd HxL1 q1 (.tup (ws.map V.str)) = G8 at gr8 gk8 gtp8 li_g8 q1_g8 Vli_g8 ⊢
        have Vq1 : VS T t G8 (.ref q1) := vs_tup gr8.1 q1_g8 q1t a60 (by omega)
        intro q2 hq2
        refine ⟨_, rfl, .inl ⟨li, _, 0, .str ws[0], rfl, rfl, .inl (.inl ((upd_ne (ne_of_none li_g8 hq2)).trans li_g8)), at_0 n1, upd_same, [(.inr ws[0], .int 0)], rfl, by simp, ?_⟩⟩
        have eq2 : upd (upd G8 q2 (.dK [])) q2 (.dK (mergeK [] [(.inr ws[0], .int 0)])) = upd G8 q2 (.dK [(.inr ws[0], .int 0)]) := upd_upd
        rw [eq2]
        have q2t : q2 ≠ t := (gtp8.ne hq2).symm
        have q2T : q2 ∉ T := free_tab gr8.1 hq2
        have gr9 := gr8.new (o := .dK [(.inr ws[0], .int 0)]) hq2
        have gk9 := Kep.new (o := .dK [(.inr ws[0], .int 0)]) gr8.1 hq2
        have gtp9 := gtp8.new (o := .dK [(.inr ws[0], .int 0)]) hq2
        have q2nli : q2 ≠ li := (ne_of_none li_g8 hq2).symm
        have li_g9 := (upd_ne (o := .dK [(.inr ws[0], .int 0)]) (ne_of_none li_g8 hq2)).trans li_g8
        have q2nq1 : q2 ≠ q1 := (ne_of_none q1_g8 hq2).symm
        have q1_g9 := (upd_ne (o := .dK [(.inr ws[0], .int 0)]) (ne_of_none q1_g8 hq2)).trans q1_g8
        have q2_g9 : upd G8 q2 (.dK [(.inr ws[0], .int 0)]) q2 = some (.dK [(.inr ws[0], .int 0)]) := upd_same
        have Vli_g9 := Vli_g8.mono gk9.kx
        have Vq1_g9 := Vq1.mono gk9.kx
        generalize upd G8 q2 (.dK [(.inr ws[0], .int 0)]) = G9 at gr9 gk9 gtp9 li_g9 q1_g9 q2_g9 Vli_g9 Vq1_g9 ⊢
        have Vq2 : VS T t G9 (.ref q2) := vs_dict gr9.1 q2_g9 q2t (a60 _ (List.getElem_mem n1))
        have Vz : VS T t G9 (.str ws[0]) := vs_leaf (.str _) (sx_str (a60 _ (List.getElem_mem n1)))
        refine ⟨_, rfl, .inl ⟨li, _, 0, .str ws[0], rfl, rfl, .inl (.inl li_g9), at_0 n1, ?_⟩⟩
        refine ⟨_, rfl, (by decide : 1 ≤ sizeLine), fun q3 hq3 => ?_⟩
        have q3t : q3 ≠ t := (gtp9.ne hq3).symm
        have q3T : q3 ∉ T := free_tab gr9.1 hq3
        have gr10 := gr9.new (o := .lst [.ref li]) hq3
        have gk10 := Kep.new (o := .lst [.ref li]) gr9.1 hq3
        have gtp10 := gtp9.new (o := .lst [.ref li]) hq3
        have q3nli : q3 ≠ li := (ne_of_none li_g9 hq3).symm
        have li_g10 := (upd_ne (o := .lst [.ref li]) (ne_of_none li_g9 hq3)).trans li_g9
        have q3nq1 : q3 ≠ q1 := (ne_of_none q1_g9 hq3).symm
        have q1_g10 := (upd_ne (o := .lst [.ref li]) (ne_of_none q1_g9 hq3)).trans q1_g9
        have q3nq2 : q3 ≠ q2 := (ne_of_none q2_g9 hq3).symm
        have q2_g10 := (upd_ne (o := .lst [.ref li]) (ne_of_none q2_g9 hq3)).trans q2_g9
        have q3_g10 : upd G9 q3 (.lst [.ref li]) q3 = some (.lst [.ref li]) := upd_same
        have Vli_g10 := Vli_g9.mono gk10.kx
        have Vq1_g10 := Vq1_g9.mono gk10.kx
        have Vq2_g10 := Vq2.mono gk10.kx
        have Vz_g10 := Vz.mono gk10.kx
        generalize upd G9 q3 (.lst [.ref li]) = G10 at gr10 gk10 gtp10 li_g10 q1_g10 q2_g10 q3_g10 Vli_g10 Vq1_g10 Vq2_g10 Vz_g10 ⊢
        have Vq3 : VS T t G10 (.ref q3) := vs_list (e := .list (ws.map PyData.str)) gr10.1 q3_g10 q3t (.cons (.lst li_g10 (lf_strs ws)) .nil) (fun x hx => by
          rw [List.mem_singleton.mp hx]
          exact fun q => lit (V.ref.inj q)) (fun y hy => by
          rw [List.mem_singleton.mp hy]
          exact sx_lstrs a8 n6) (show 1 ≤ 100 by decide) (fun y hy => .inr (List.mem_singleton.mp hy)) (.inl (nodict_strs ws))
        refine ⟨_, rfl, (by decide : 1 ≤ sizeLine), fun q4 hq4 => ?_⟩
        have q4t : q4 ≠ t := (gtp10.ne hq4).symm
        have q4T : q4 ∉ T := free_tab gr10.1 hq4
        have gr11 := gr10.new (o := .lst [.non]) hq4
        have gk11 := Kep.new (o := .lst [.non]) gr10.1 hq4
        have gtp11 := gtp10.new (o := .lst [.non]) hq4
        have q4nli : q4 ≠ li := (ne_of_none li_g10 hq4).symm
        have li_g11 := (upd_ne (o := .lst [.non]) (ne_of_none li_g10 hq4)).trans li_g10
        have q4nq1 : q4 ≠ q1 := (ne_of_none q1_g10 hq4).symm
        have q1_g11 := (upd_ne (o := .lst [.non]) (ne_of_none q1_g10 hq4)).trans q1_g10
        have q4nq2 : q4 ≠ q2 := (ne_of_none q2_g10 hq4).symm
        have q2_g11 := (upd_ne (o := .lst [.non]) (ne_of_none q2_g10 hq4)).trans q2_g10
        have q4nq3 : q4 ≠ q3 := (ne_of_none q3_g10 hq4).symm
        have q3_g11 := (upd_ne (o := .lst [.non]) (ne_of_none q3_g10 hq4)).trans q3_g10
        have q4_g11 : upd G10 q4 (.lst [.non]) q4 = some (.lst [.non]) := upd_same
        have Vli_g11 := Vli_g10.mono gk11.kx
        have Vq1_g11 := Vq1_g10.mono gk11.kx
        have Vq2_g11 := Vq2_g10.mono gk11.kx
        have Vz_g11 := Vz_g10.mono gk11.kx
        have Vq3_g11 := Vq3.mono gk11.kx
        generalize upd G10 q4 (.lst [.non]) = G11 at gr11 gk11 gtp11 li_g11 q1_g11 q2_g11 q3_g11 q4_g11 Vli_g11 Vq1_g11 Vq2_g11 Vz_g11 Vq3_g11 ⊢
        refine ⟨li, q4, _, _, rfl, rfl, li_g11, q4_g11, ?_, fun q5 hq5 => ?_⟩
        · rw [List.length_map]
          exact Nat.le_trans (show ws.length + 1 ≤ 7 by omega) (by decide)
        have q5t : q5 ≠ t := (gtp11.ne hq5).symm
        have q5T : q5 ∉ T := free_tab gr11.1 hq5
        have gr12 := gr11.new (o := .lst (ws.map V.str ++ [.non])) hq5
        have gk12 := Kep.new (o := .lst (ws.map V.str ++ [.non])) gr11.1 hq5
        have gtp12 := gtp11.new (o := .lst (ws.map V.str ++ [.non])) hq5
        have q5nli : q5 ≠ li := (ne_of_none li_g11 hq5).symm
        have li_g12 := (upd_ne (o := .lst (ws.map V.str ++ [.non])) (ne_of_none li_g11 hq5)).trans li_g11
        have q5nq1 : q5 ≠ q1 := (ne_of_none q1_g11 hq5).symm
        have q1_g12 := (upd_ne (o := .lst (ws.map V.str ++ [.non])) (ne_of_none q1_g11 hq5)).trans q1_g11
        have q5nq2 : q5 ≠ q2 := (ne_of_none q2_g11 hq5).symm
        have q2_g12 := (upd_ne (o := .lst (ws.map V.str ++ [.non])) (ne_of_none q2_g11 hq5)).trans q2_g11
        have q5nq3 : q5 ≠ q3 := (ne_of_none q3_g11 hq5).symm
        have q3_g12 := (upd_ne (o := .lst (ws.map V.str ++ [.non])) (ne_of_none q3_g11 hq5)).trans q3_g11
        have q5nq4 : q5 ≠ q4 := (ne_of_none q4_g11 hq5).symm
        have q4_g12 := (upd_ne (o := .lst (ws.map V.str ++ [.non])) (ne_of_none q4_g11 hq5)).trans q4_g11
        have q5_g12 : upd G11 q5 (.lst (ws.map V.str ++ [.non])) q5 = some (.lst (ws.map V.str ++ [.non])) := upd_same
        have Vli_g12 := Vli_g11.mono gk12.kx
        have Vq1_g12 := Vq1_g11.mono gk12.kx
        have Vq2_g12 := Vq2_g11.mono gk12.kx
        have Vz_g12 := Vz_g11.mono gk12.kx
        have Vq3_g12 := Vq3_g11.mono gk12.kx
        generalize upd G11 q5 (.lst (ws.map V.str ++ [.non])) = G12 at gr12 gk12 gtp12 li_g12 q1_g12 q2_g12 q3_g12 q4_g12 q5_g12 Vli_g12 Vq1_g12 Vq2_g12 Vz_g12 Vq3_g12 ⊢
        have Vq5 : VS T t G12 (.ref q5) := vs_list (e := .none) gr12.1 q5_g12 q5t (ElAll.app (el_strs ws) (.cons (.lf .non) .nil)) (fun x hx => (List.mem_append.mp hx).elim (no_ref x) fun h => by rw [List.mem_singleton.mp h]; exact nofun)
          (fun y hy => (List.mem_append.mp hy).elim (fun h => (sx_strs a60 y h).1) fun h => by rw [List.mem_singleton.mp h]; exact sx_non) (by rw [List.length_append, List.length_map]; exact Nat.le_trans (show ws.length + 1 ≤ 7 by omega) (by decide))
          (fun y hy => (List.mem_append.mp hy).elim (fun h => .inl (sx_strs a60 y h).2) fun h => .inr (List.mem_singleton.mp h)) (.inl rfl)
        refine ⟨(by decide : 5 ≤ sizeLine), fun L2 hL2 => ?_⟩
        have L2t : L2 ≠ t := (gtp12.ne hL2).symm
        have L2T : L2 ∉ T := free_tab gr12.1 hL2
        have gr13 := gr12.new (o := .lst [.ref q1, .ref q2, .str ws[0], .ref q3, .ref q5]) hL2
        have gk13 := Kep.new (o := .lst [.ref q1, .ref q2, .str ws[0], .ref q3, .ref q5]) gr12.1 hL2
        have gtp13 := gtp12.new (o := .lst [.ref q1, .ref q2, .str ws[0], .ref q3, .ref q5]) hL2
        have L2nli : L2 ≠ li := (ne_of_none li_g12 hL2).symm
        have li_g13 := (upd_ne (o := .lst [.ref q1, .ref q2, .str ws[0], .ref q3, .ref q5]) (ne_of_none li_g12 hL2)).trans li_g12
        have L2nq1 : L2 ≠ q1 := (ne_of_none q1_g12 hL2).symm
        have q1_g13 := (upd_ne (o := .lst [.ref q1, .ref q2, .str ws[0], .ref q3, .ref q5]) (ne_of_none q1_g12 hL2)).trans q1_g12
        have L2nq2 : L2 ≠ q2 := (ne_of_none q2_g12 hL2).symm
        have q2_g13 := (upd_ne (o := .lst [.ref q1, .ref q2, .str ws[0], .ref q3, .ref q5]) (ne_of_none q2_g12 hL2)).trans q2_g12
        have L2nq3 : L2 ≠ q3 := (ne_of_none q3_g12 hL2).symm
        have q3_g13 := (upd_ne (o := .lst [.ref q1, .ref q2, .str ws[0], .ref q3, .ref q5]) (ne_of_none q3_g12 hL2)).trans q3_g12
        have L2nq4 : L2 ≠ q4 := (ne_of_none q4_g12 hL2).symm
        have q4_g13 := (upd_ne (o := .lst [.ref q1, .ref q2, .str ws[0], .ref q3, .ref q5]) (ne_of_none q4_g12 hL2)).trans q4_g12
        have L2nq5 : L2 ≠ q5 := (ne_of_none q5_g12 hL2).symm
        have q5_g13 := (upd_ne (o := .lst [.ref q1, .ref q2, .str ws[0], .ref q3, .ref q5]) (ne_of_none q5_g12 hL2)).trans q5_g12
        have L2_g13 : upd G12 L2 (.lst [.ref q1, .ref q2, .str ws[0], .ref q3, .ref q5]) L2 = some (.lst [.ref q1, .ref q2, .str ws[0], .ref q3, .ref q5]) := upd_same
        have Vli_g13 := Vli_g12.mono gk13.kx
        have Vq1_g13 := Vq1_g12.mono gk13.kx
        have Vq2_g13 := Vq2_g12.mono gk13.kx
        have Vz_g13 := Vz_g12.mono gk13.kx
        have Vq3_g13 := Vq3_g12.mono gk13.kx
        have Vq5_g13 := Vq5.mono gk13.kx
        generalize upd G12 L2 (.lst [.ref q1, .ref q2, .str ws[0], .ref q3, .ref q5]) = G13 at gr13 gk13 gtp13 li_g13 q1_g13 q2_g13 q3_g13 q4_g13 q5_g13 L2_g13 Vli_g13 Vq1_g13 Vq2_g13 Vz_g13 Vq3_g13 Vq5_g13 ⊢
        have allL2 : ∀ x ∈ ([.ref q1, .ref q2, .str ws[0], .ref q3, .ref q5] : List V), VS T t G13 x := fun x hx => by
          simp only [List.mem_cons, List.not_mem_nil, or_false] at hx
          rcases hx with rfl | rfl | rfl | rfl | rfl
          · exact Vq1_g13
          · exact Vq2_g13
          · exact Vz_g13
          · exact Vq3_g13
          · exact Vq5_g13
        refine ⟨L2, rfl, ⟨_, .inl (.inl L2_g13)⟩, for_list (xs := [.ref q1, .ref q2, .str ws[0], .ref q3, .ref q5]) (fun i σ Hx => (∃ v5, σ = [some (.ref a), some (.int (0 + (k : Nat))), some (.ref t), some (.int (0 + (j : Nat))), some (.ref li), v5, v6, v7, none, none, none]) ∧ Kep T G13 Hx) ⟨⟨_, rfl⟩, .refl gr13.1⟩ (fun i σ Hx _ p => .inl (.inl (p.2.2 L2 _ L2T L2_g13))) (fun i x σ Hx hx p => ?_) (fun σ HxL2 p => ?_)⟩
        · obtain ⟨⟨v5, rfl⟩, ki⟩ := p
          obtain ⟨dx, vl⟩ := allL2 x (List.mem_of_getElem? hx)
          refine ⟨_, rfl, x, dx, rfl, vl Hx ki.kx, ki.1, fun H5 k5 => ⟨_, rfl, iteF ?_⟩⟩
          exact ⟨⟨_, rfl⟩, ki.trans k5⟩
        obtain ⟨⟨v5, rfl⟩, kiL2⟩ := p
        have gr14 := gr13.trans kiL2.kx
        have li_g14 := kiL2.2 li _ liT li_g13
        have q1_g14 := kiL2.2 q1 _ q1T q1_g13
        have q2_g14 := kiL2.2 q2 _ q2T q2_g13
        have q3_g14 := kiL2.2 q3 _ q3T q3_g13
        have q4_g14 := kiL2.2 q4 _ q4T q4_g13
        have q5_g14 := kiL2.2 q5 _ q5T q5_g13
        have L2_g14 := kiL2.2 L2 _ L2T L2_g13
        have Vli_g14 := Vli_g13.mono kiL2.kx
        have Vq1_g14 := Vq1_g13.mono kiL2.kx
        have Vq2_g14 := Vq2_g13.mono kiL2.kx
        have Vz_g14 := Vz_g13.mono kiL2.kx
        have Vq3_g14 := Vq3_g13.mono kiL2.kx
        have Vq5_g14 := Vq5_g13.mono kiL2.kx
        have gtp14 := gtp13.kx gr13.1 kiL2
        have wdw : ∀ (G : Hp), ∀ x ∈ ws.map V.str, Wd K T G x := fun G x hx => by
          obtain ⟨z, hz, rfl⟩ := List.mem_map.mp hx
          exact .inl ⟨z, rfl, Nat.le_trans (a60 z hz).1 (by decide)⟩
        refine ⟨rfl, _, rfl, .ref li, rfl, .inl ⟨li, ws.map V.str, rfl, li_g14, gr14.1, by rw [List.length_map]; omega, wdw _, fun _ Hm m l dx hcm hcl _ mT lT st km => ?_, fun hf => by rw [sv] at hf; cases hf⟩⟩
        have mt : m ≠ t := (gtp14.ne hcm).symm
        have lt : l ≠ t := (gtp14.ne hcl).symm
        have linm : li ≠ m := ne_of_none li_g14 hcm
        have linl : li ≠ l := ne_of_none li_g14 hcl
        have gr15 := gr14.trans km.kx
        have li_g15 := km.2 li _ liT li_g14
        have gtp15 := gtp14.kx gr14.1 km
        refine ⟨_, rfl, m, C, dx, _, rfl, O.cls, hp, st.1, m, l, dx, _, rfl, ⟨st.1, st.2⟩, fun w0 hw0 => ?_⟩
        have w0t : w0 ≠ t := (gtp15.ne hw0).symm
        have w0T : w0 ∉ T := free_tab gr15.1 hw0
        have gr16 := gr15.new (o := .lst (ws.map V.str)) hw0
        have gk16 := Kep.new (o := .lst (ws.map V.str)) gr15.1 hw0
        have gtp16 := gtp15.new (o := .lst (ws.map V.str)) hw0
        have w0nli : w0 ≠ li := (ne_of_none li_g15 hw0).symm
        have li_g16 := (upd_ne (o := .lst (ws.map V.str)) (ne_of_none li_g15 hw0)).trans li_g15
        have w0nm : w0 ≠ m := (ne_of_none st.1 hw0).symm
        have m_g16 := (upd_ne (o := .lst (ws.map V.str)) (ne_of_none st.1 hw0)).trans st.1
        have w0nl : w0 ≠ l := (ne_of_none st.2 hw0).symm
        have l_g16 := (upd_ne (o := .lst (ws.map V.str)) (ne_of_none st.2 hw0)).trans st.2
        have w0_g16 : upd Hm w0 (.lst (ws.map V.str)) w0 = some (.lst (ws.map V.str)) := upd_same
        generalize upd Hm w0 (.lst (ws.map V.str)) = G16 at gr16 gk16 gtp16 li_g16 m_g16 l_g16 w0_g16 ⊢
        have w0s : Hs w0 = none := KepX.free (gr15) hTs w0t hw0
        refine ⟨_, rfl, .inl ⟨rfl, _, .inl (.inl w0_g16)⟩, w0, _, _, rfl, rfl, w0_g16, ?_, ?_⟩
        · rw [List.length_map]
          exact Nat.lt_of_le_of_lt n6 (by decide)
        have gr17 := gr16.put (o := .lst (ws.map V.str ++ [V.str "a"])) w0s w0T
        have li_g17 := (upd_ne (o := .lst (ws.map V.str ++ [V.str "a"])) w0nli.symm).trans li_g16
        have m_g17 := (upd_ne (o := .lst (ws.map V.str ++ [V.str "a"])) w0nm.symm).trans m_g16
        have l_g17 := (upd_ne (o := .lst (ws.map V.str ++ [V.str "a"])) w0nl.symm).trans l_g16
        have gtp17 := gtp16.at (upd_ne (o := .lst (ws.map V.str ++ [V.str "a"])) w0t.symm)
        have w0_g17 : upd G16 w0 (.lst (ws.map V.str ++ [V.str "a"])) w0 = some (.lst (ws.map V.str ++ [V.str "a"])) := upd_same
        generalize upd G16 w0 (.lst (ws.map V.str ++ [V.str "a"])) = G17 at gr17 li_g17 m_g17 l_g17 gtp17 w0_g17 ⊢
        refine ⟨_, rfl, w0, _, 0, 0, rfl, rfl, w0_g17, by simp [ixN], ?_⟩
        have gr18 := gr17.put (o := .lst ((ws.map V.str ++ [V.str "a"]).set 0 (V.str "b"))) w0s w0T
        have li_g18 := (upd_ne (o := .lst ((ws.map V.str ++ [V.str "a"]).set 0 (V.str "b"))) w0nli.symm).trans li_g17
        have m_g18 := (upd_ne (o := .lst ((ws.map V.str ++ [V.str "a"]).set 0 (V.str "b"))) w0nm.symm).trans m_g17
        have l_g18 := (upd_ne (o := .lst ((ws.map V.str ++ [V.str "a"]).set 0 (V.str "b"))) w0nl.symm).trans l_g17
        have gtp18 := gtp17.at (upd_ne (o := .lst ((ws.map V.str ++ [V.str "a"]).set 0 (V.str "b"))) w0t.symm)
        have w0_g18 : upd G17 w0 (.lst ((ws.map V.str ++ [V.str "a"]).set 0 (V.str "b"))) w0 = some (.lst ((ws.map V.str ++ [V.str "a"]).set 0 (V.str "b"))) := upd_same
        generalize upd G17 w0 (.lst ((ws.map V.str ++ [V.str "a"]).set 0 (V.str "b"))) = G18 at gr18 li_g18 m_g18 l_g18 gtp18 w0_g18 ⊢
        refine ⟨_, rfl, .inl ⟨rfl, _, .inl (.inl li_g18)⟩, li, _, _, rfl, rfl, li_g18, ?_, ?_⟩
        · rw [List.length_map]
          exact Nat.lt_of_le_of_lt n6 (by decide)
        have gr19 := gr18.put (o := .lst (ws.map V.str ++ [V.str "c"])) hli0 liT
        have m_g19 := (upd_ne (o := .lst (ws.map V.str ++ [V.str "c"])) linm.symm).trans m_g18
        have l_g19 := (upd_ne (o := .lst (ws.map V.str ++ [V.str "c"])) linl.symm).trans l_g18
        have w0_g19 := (upd_ne (o := .lst (ws.map V.str ++ [V.str "c"])) w0nli).trans w0_g18
        have gtp19 := gtp18.at (upd_ne (o := .lst (ws.map V.str ++ [V.str "c"])) lit.symm)
        have li_g19 : upd G18 li (.lst (ws.map V.str ++ [V.str "c"])) li = some (.lst (ws.map V.str ++ [V.str "c"])) := upd_same
        generalize upd G18 li (.lst (ws.map V.str ++ [V.str "c"])) = G19 at gr19 m_g19 l_g19 w0_g19 gtp19 li_g19 ⊢
        refine ⟨_, rfl, m, C, dx, _, rfl, O.cls, hp, m_g19, m, l, dx, _, rfl, ⟨m_g19, l_g19⟩, fun w2 hw2 => ?_⟩
        have w2t : w2 ≠ t := (gtp19.ne hw2).symm
        have w2T : w2 ∉ T := free_tab gr19.1 hw2
        have gr20 := gr19.new (o := .lst (ws.map V.str)) hw2
        have gk20 := Kep.new (o := .lst (ws.map V.str)) gr19.1 hw2
        have gtp20 := gtp19.new (o := .lst (ws.map V.str)) hw2
        have w2nm : w2 ≠ m := (ne_of_none m_g19 hw2).symm
        have m_g20 := (upd_ne (o := .lst (ws.map V.str)) (ne_of_none m_g19 hw2)).trans m_g19
        have w2nl : w2 ≠ l := (ne_of_none l_g19 hw2).symm
        have l_g20 := (upd_ne (o := .lst (ws.map V.str)) (ne_of_none l_g19 hw2)).trans l_g19
        have w2nli : w2 ≠ li := (ne_of_none li_g19 hw2).symm
        have li_g20 := (upd_ne (o := .lst (ws.map V.str)) (ne_of_none li_g19 hw2)).trans li_g19
        have w2_g20 : upd G19 w2 (.lst (ws.map V.str)) w2 = some (.lst (ws.map V.str)) := upd_same
        generalize upd G19 w2 (.lst (ws.map V.str)) = G20 at gr20 gk20 gtp20 m_g20 l_g20 li_g20 w2_g20 ⊢
        refine ⟨_, rfl, _, rfl, _, rfl, li, _, rfl, .inl (.inl li_g20), fun s1 hs1 => ?_⟩
        rw [cut_last]
        have s1t : s1 ≠ t := (gtp20.ne hs1).symm
        have s1T : s1 ∉ T := free_tab gr20.1 hs1
        have gr21 := gr20.new (o := .lst (ws.map V.str)) hs1
        have gk21 := Kep.new (o := .lst (ws.map V.str)) gr20.1 hs1
        have gtp21 := gtp20.new (o := .lst (ws.map V.str)) hs1
        have s1nm : s1 ≠ m := (ne_of_none m_g20 hs1).symm
        have m_g21 := (upd_ne (o := .lst (ws.map V.str)) (ne_of_none m_g20 hs1)).trans m_g20
        have s1nl : s1 ≠ l := (ne_of_none l_g20 hs1).symm
        have l_g21 := (upd_ne (o := .lst (ws.map V.str)) (ne_of_none l_g20 hs1)).trans l_g20
        have s1nli : s1 ≠ li := (ne_of_none li_g20 hs1).symm
        have li_g21 := (upd_ne (o := .lst (ws.map V.str)) (ne_of_none li_g20 hs1)).trans li_g20
        have s1nw2 : s1 ≠ w2 := (ne_of_none w2_g20 hs1).symm
        have w2_g21 := (upd_ne (o := .lst (ws.map V.str)) (ne_of_none w2_g20 hs1)).trans w2_g20
        have s1_g21 : upd G20 s1 (.lst (ws.map V.str)) s1 = some (.lst (ws.map V.str)) := upd_same
        generalize upd G20 s1 (.lst (ws.map V.str)) = G21 at gr21 gk21 gtp21 m_g21 l_g21 li_g21 w2_g21 s1_g21 ⊢
        have oks : ∀ z ∈ ws, PyData.strOk z = true := fun z hz => low_ok (g.all z hz).2
        refine ⟨dStrs ws, dStrs ws, .lst (.inl (.inl w2_g21)) (dp_strs _), .lst (.inl (.inl s1_g21)) (dp_strs _), shaped_strs oks, shaped_strs oks, _, rfl, iteF' (by rw [eqv_strs]; rfl) ?_⟩
        refine ⟨_, rfl, rfl, _, rfl, _, rfl, _, rfl, li, _, rfl, .inl (.inl li_g21), fun s2 hs2 => ?_⟩
        rw [cut_last]
        have s2t : s2 ≠ t := (gtp21.ne hs2).symm
        have s2T : s2 ∉ T := free_tab gr21.1 hs2
        have gr22 := gr21.new (o := .lst (ws.map V.str)) hs2
        have gk22 := Kep.new (o := .lst (ws.map V.str)) gr21.1 hs2
        have gtp22 := gtp21.new (o := .lst (ws.map V.str)) hs2
        have s2nm : s2 ≠ m := (ne_of_none m_g21 hs2).symm
        have m_g22 := (upd_ne (o := .lst (ws.map V.str)) (ne_of_none m_g21 hs2)).trans m_g21
        have s2nl : s2 ≠ l := (ne_of_none l_g21 hs2).symm
        have l_g22 := (upd_ne (o := .lst (ws.map V.str)) (ne_of_none l_g21 hs2)).trans l_g21
        have s2nli : s2 ≠ li := (ne_of_none li_g21 hs2).symm
        have li_g22 := (upd_ne (o := .lst (ws.map V.str)) (ne_of_none li_g21 hs2)).trans li_g21
        have s2nw2 : s2 ≠ w2 := (ne_of_none w2_g21 hs2).symm
        have w2_g22 := (upd_ne (o := .lst (ws.map V.str)) (ne_of_none w2_g21 hs2)).trans w2_g21
        have s2ns1 : s2 ≠ s1 := (ne_of_none s1_g21 hs2).symm
        have s1_g22 := (upd_ne (o := .lst (ws.map V.str)) (ne_of_none s1_g21 hs2)).trans s1_g21
        have s2_g22 : upd G21 s2 (.lst (ws.map V.str)) s2 = some (.lst (ws.map V.str)) := upd_same
        generalize upd G21 s2 (.lst (ws.map V.str)) = G22 at gr22 gk22 gtp22 m_g22 l_g22 li_g22 w2_g22 s1_g22 s2_g22 ⊢
        refine ⟨.ref s2, rfl, .inl ⟨s2, ws.map V.str, rfl, s2_g22, gr22.1, by rw [List.length_map]; omega, wdw _, fun _ Hn m2 l2 dx2 hcm2 _ _ _ _ st2 kn => ?_, fun hf => by rw [sv] at hf; cases hf⟩⟩
        have m2m : m2 ≠ m := (ne_of_none m_g22 hcm2).symm
        have gr23 := gr22.trans kn.kx
        have m_g23 := kn.2 m _ mT m_g22
        have l_g23 := kn.2 l _ lT l_g22
        have li_g23 := kn.2 li _ liT li_g22
        have w2_g23 := kn.2 w2 _ w2T w2_g22
        have s1_g23 := kn.2 s1 _ s1T s1_g22
        have s2_g23 := kn.2 s2 _ s2T s2_g22
        have gtp23 := gtp22.kx gr22.1 kn
        refine ⟨C, C, p2, m, m2, dx, dx2, _, _, rfl, rfl, m_g23, st2.1, _, rfl, iteF' (decide_eq_false fun z => m2m z.symm) ?_⟩
        refine ⟨_, rfl, _, rfl, C, C, p2, m, m, dx, dx, _, _, rfl, rfl, m_g23, m_g23, _, rfl, iteF' (by simp) ?_⟩
        obtain ⟨um, hum⟩ := mst
        refine ⟨_, rfl, m, C, dx, _, .int 6, um, rfl, m_g23, O.cls, hum, rfl, rfl, _, rfl, iteF' (by simp) ?_⟩
        exact ⟨⟨_, _, _, _, _, rfl⟩, KepX.kep kHs ht gr23, gtp23.mono (by omega)⟩
      · obtain ⟨⟨v3, v4, v5, v6, v7, rfl⟩, kHs, tps⟩ := p
        exact ⟨⟨_, _, _, _, _, _, _, rfl⟩, kH.trans kHs⟩
    · obtain ⟨⟨v1, v2, v3, v4, v5, v6, v7, rfl⟩, kH⟩ := p
      refine ⟨1, 10, rfl, ⟨by decide, by decide, by decide, by decide⟩, for_range (lo := 1) (n := 9) (fun i σ Hx => (∃ u3 u8 u9, σ = [some (.ref a), v1, v2, u3, v4, v5, v6, v7, u8, u9, none]) ∧ Kep T H' Hx) ⟨⟨_, _, _, rfl⟩, .refl kH.1⟩ (fun i σ Hx hi p => ?_) (fun σ Hx p => ?_)⟩
      · obtain ⟨⟨u3, u8, u9, rfl⟩, kx⟩ := p
        refine ⟨7, rfl, by decide, by decide, fun D hD => ?_⟩
        have DT : D ∉ T := free_tab kx.1 hD
        refine lc_range (lo := 0) (n := 7) (fun j H5 => ∃ ys : List Str, H5 D = some (.lst (ys.map V.str)) ∧ ys.length = j ∧ (∀ y ∈ ys, Asc 60 y) ∧ Kep T Hx H5) ⟨[], upd_same, rfl, fun y hy => by simp at hy, Kep.new kx.1 hD⟩ (fun j H5 hj p => ?_) (fun H5 p => ?_)
        · obtain ⟨ys, hD5, hyl, hy1, k5⟩ := p
          refine ⟨rfl, ?_⟩
          unfold tYes
          refine iteT' (b := true) rfl ?_
          refine ⟨_, rfl, _, rfl, _, rfl, 1 + (i : Nat), 0 + (j : Nat), 0 + (j : Nat), rfl, by omega, by omega, by omega, by omega, by omega, by omega, fun y H6 yl ylow sm => ?_⟩
          have k6 : Kep T H5 H6 := ⟨fun p hp => by
            obtain ⟨ps, h1, h2⟩ := k5.1 p hp
            exact ⟨ps, sm p _ h1, h2⟩, fun b o _ e => sm b o e⟩
          refine ⟨_, sm D _ hD5, by rw [List.length_map, hyl]; exact Nat.lt_of_lt_of_le hj (by decide), ys ++ [y], by rw [List.map_append]; exact upd_same, by simp [hyl], fun q hq => ?_, (k5.trans k6).put hD DT⟩
          rcases List.mem_append.mp hq with h | h
          · exact hy1 q h
          · rw [List.mem_singleton.mp h]
            exact asc_low ylow (by omega)
        · obtain ⟨ys, hD5, hyl, hy1, k5⟩ := p
          refine ⟨8, rfl, by decide, by decide, fun D2 hD2 => ?_⟩
          have D2T : D2 ∉ T := free_tab k5.1 hD2
          refine lc_range (lo := 0) (n := 8) (fun j H6 => H6 D2 = some (.lst []) ∧ Kep T H5 H6) ⟨upd_same, Kep.new k5.1 hD2⟩ (fun j H6 hj p => ?_) (fun H6 p => ?_)
          · obtain ⟨h2, k6⟩ := p
            refine ⟨rfl, ?_⟩
            refine ⟨_, rfl, _, rfl, _, rfl, D, _, rfl, .inl (.inl (k6.2 D _ DT hD5)), fun e he => ?_⟩
            rw [cutV_to (by omega)]
            have eD2 : D2 ≠ e := ne_of_none h2 he
            have q2 := (upd_ne (o := .lst ((ys.take (0 + (j : Int)).toNat).map V.str)) eD2).trans h2
            have k7 := k6.trans (Kep.new (o := .lst ((ys.take (0 + (j : Int)).toNat).map V.str)) k6.1 he)
            have q7 : upd H6 e (.lst ((ys.take (0 + (j : Int)).toNat).map V.str)) e = some (.lst ((ys.take (0 + (j : Int)).toNat).map V.str)) := upd_same
            generalize upd H6 e (.lst ((ys.take (0 + (j : Int)).toNat).map V.str)) = H7 at q2 k7 q7 ⊢
            have vl : Vl H7 (.ref e) (.list ((ys.take (0 + (j : Int)).toNat).map PyData.str)) := vl_list (d := .none) q7 (el_strs _) (fun y hy => (sx_strs (fun z hz => hy1 z (List.mem_of_mem_take hz)) y hy).1) (by rw [List.length_map, List.length_take]; omega) (fun y hy => .inl (sx_strs (fun z hz => hy1 z (List.mem_of_mem_take hz)) y hy).2) (.inl rfl)
            refine ⟨_, _, rfl, vl, k7.1, fun H8 k8 => ⟨_, rfl, iteF ?_⟩⟩
            exact ⟨k8.2 D2 _ D2T q2, k7.trans k8⟩
          · obtain ⟨h2, k6⟩ := p
            refine ⟨by decide, fun D3 hD3 => ?_⟩
            refine ⟨.list [], .list [], .lst (.inl (.inl ((upd_ne (ne_of_none h2 hD3)).trans h2))) .nil, .lst (.inl (.inl upd_same)) .nil, rfl, rfl, _, rfl, iteF' rfl ?_⟩
            exact ⟨⟨_, _, _, rfl⟩, ((kx.trans k5).trans k6).trans (Kep.new k6.1 hD3)⟩
      · obtain ⟨⟨u3, u8, u9, rfl⟩, kx⟩ := p
        have k0 := kH.trans kx
        refine ⟨(by decide : 0 ≤ sizeLine), fun c1 h1 => ?_⟩
        have c1T : c1 ∉ T := free_tab k0.1 h1
        have cr1 := k0.trans (Kep.new (o := .tup []) k0.1 h1)
        have ck1 := Kep.new (o := .tup []) k0.1 h1
        have c1_c1 : upd Hx c1 (.tup []) c1 = some (.tup []) := upd_same
        generalize upd Hx c1 (.tup []) = C1 at cr1 ck1 c1_c1 ⊢
        intro c2 h2
        have c2T : c2 ∉ T := free_tab cr1.1 h2
        have cr2 := cr1.trans (Kep.new (o := .dK []) cr1.1 h2)
        have ck2 := Kep.new (o := .dK []) cr1.1 h2
        have c2nc1 : c2 ≠ c1 := (ne_of_none c1_c1 h2).symm
        have c1_c2 := (upd_ne (o := .dK []) (ne_of_none c1_c1 h2)).trans c1_c1
        have c2_c2 : upd C1 c2 (.dK []) c2 = some (.dK []) := upd_same
        generalize upd C1 c2 (.dK []) = C2 at cr2 ck2 c1_c2 c2_c2 ⊢
        refine ⟨(by decide : 0 ≤ sizeLine), fun c3 h3 => ?_⟩
        have c3T : c3 ∉ T := free_tab cr2.1 h3
        have cr3 := cr2.trans (Kep.new (o := .lst []) cr2.1 h3)
        have ck3 := Kep.new (o := .lst []) cr2.1 h3
        have c3nc1 : c3 ≠ c1 := (ne_of_none c1_c2 h3).symm
        have c1_c3 := (upd_ne (o := .lst []) (ne_of_none c1_c2 h3)).trans c1_c2
        have c3nc2 : c3 ≠ c2 := (ne_of_none c2_c2 h3).symm
        have c2_c3 := (upd_ne (o := .lst []) (ne_of_none c2_c2 h3)).trans c2_c2
        have c3_c3 : upd C2 c3 (.lst []) c3 = some (.lst []) := upd_same
        generalize upd C2 c3 (.lst []) = C3 at cr3 ck3 c1_c3 c2_c3 c3_c3 ⊢
        refine ⟨(by decide : 0 ≤ sizeLine), fun c4 h4 => ?_⟩
        have c4T : c4 ∉ T := free_tab cr3.1 h4
        have cr4 := cr3.trans (Kep.new (o := .lst []) cr3.1 h4)
        have ck4 := Kep.new (o := .lst []) cr3.1 h4
        have c4nc1 : c4 ≠ c1 := (ne_of_none c1_c3 h4).symm
        have c1_c4 := (upd_ne (o := .lst []) (ne_of_none c1_c3 h4)).trans c1_c3
        have c4nc2 : c4 ≠ c2 := (ne_of_none c2_c3 h4).symm
        have c2_c4 := (upd_ne (o := .lst []) (ne_of_none c2_c3 h4)).trans c2_c3
        have c4nc3 : c4 ≠ c3 := (ne_of_none c3_c3 h4).symm
        have c3_c4 := (upd_ne (o := .lst []) (ne_of_none c3_c3 h4)).trans c3_c3
        have c4_c4 : upd C3 c4 (.lst []) c4 = some (.lst []) := upd_same
        generalize upd C3 c4 (.lst []) = C4 at cr4 ck4 c1_c4 c2_c4 c3_c4 c4_c4 ⊢
        refine ⟨(by decide : 1 ≤ sizeLine), fun c5 h5 => ?_⟩
        have c5T : c5 ∉ T := free_tab cr4.1 h5
        have cr5 := cr4.trans (Kep.new (o := .lst [.ref c4]) cr4.1 h5)
        have ck5 := Kep.new (o := .lst [.ref c4]) cr4.1 h5
        have c5nc1 : c5 ≠ c1 := (ne_of_none c1_c4 h5).symm
        have c1_c5 := (upd_ne (o := .lst [.ref c4]) (ne_of_none c1_c4 h5)).trans c1_c4
        have c5nc2 : c5 ≠ c2 := (ne_of_none c2_c4 h5).symm
        have c2_c5 := (upd_ne (o := .lst [.ref c4]) (ne_of_none c2_c4 h5)).trans c2_c4
        have c5nc3 : c5 ≠ c3 := (ne_of_none c3_c4 h5).symm
        have c3_c5 := (upd_ne (o := .lst [.ref c4]) (ne_of_none c3_c4 h5)).trans c3_c4
        have c5nc4 : c5 ≠ c4 := (ne_of_none c4_c4 h5).symm
        have c4_c5 := (upd_ne (o := .lst [.ref c4]) (ne_of_none c4_c4 h5)).trans c4_c4
        have c5_c5 : upd C4 c5 (.lst [.ref c4]) c5 = some (.lst [.ref c4]) := upd_same
        generalize upd C4 c5 (.lst [.ref c4]) = C5 at cr5 ck5 c1_c5 c2_c5 c3_c5 c4_c5 c5_c5 ⊢
        refine ⟨(by decide : 1 ≤ sizeLine), fun c6 h6 => ?_⟩
        have c6T : c6 ∉ T := free_tab cr5.1 h6
        have cr6 := cr5.trans (Kep.new (o := .lst [.non]) cr5.1 h6)
        have ck6 := Kep.new (o := .lst [.non]) cr5.1 h6
        have c6nc1 : c6 ≠ c1 := (ne_of_none c1_c5 h6).symm
        have c1_c6 := (upd_ne (o := .lst [.non]) (ne_of_none c1_c5 h6)).trans c1_c5
        have c6nc2 : c6 ≠ c2 := (ne_of_none c2_c5 h6).symm
        have c2_c6 := (upd_ne (o := .lst [.non]) (ne_of_none c2_c5 h6)).trans c2_c5
        have c6nc3 : c6 ≠ c3 := (ne_of_none c3_c5 h6).symm
        have c3_c6 := (upd_ne (o := .lst [.non]) (ne_of_none c3_c5 h6)).trans c3_c5
        have c6nc4 : c6 ≠ c4 := (ne_of_none c4_c5 h6).symm
        have c4_c6 := (upd_ne (o := .lst [.non]) (ne_of_none c4_c5 h6)).trans c4_c5
        have c6nc5 : c6 ≠ c5 := (ne_of_none c5_c5 h6).symm
        have c5_c6 := (upd_ne (o := .lst [.non]) (ne_of_none c5_c5 h6)).trans c5_c5
        have c6_c6 : upd C5 c6 (.lst [.non]) c6 = some (.lst [.non]) := upd_same
        generalize upd C5 c6 (.lst [.non]) = C6 at cr6 ck6 c1_c6 c2_c6 c3_c6 c4_c6 c5_c6 c6_c6 ⊢
        refine ⟨(by decide : 1 ≤ sizeLine), fun c7 h7 => ?_⟩
        have c7T : c7 ∉ T := free_tab cr6.1 h7
        have cr7 := cr6.trans (Kep.new (o := .lst [.str ""]) cr6.1 h7)
        have ck7 := Kep.new (o := .lst [.str ""]) cr6.1 h7
        have c7nc1 : c7 ≠ c1 := (ne_of_none c1_c6 h7).symm
        have c1_c7 := (upd_ne (o := .lst [.str ""]) (ne_of_none c1_c6 h7)).trans c1_c6
        have c7nc2 : c7 ≠ c2 := (ne_of_none c2_c6 h7).symm
        have c2_c7 := (upd_ne (o := .lst [.str ""]) (ne_of_none c2_c6 h7)).trans c2_c6
        have c7nc3 : c7 ≠ c3 := (ne_of_none c3_c6 h7).symm
        have c3_c7 := (upd_ne (o := .lst [.str ""]) (ne_of_none c3_c6 h7)).trans c3_c6
        have c7nc4 : c7 ≠ c4 := (ne_of_none c4_c6 h7).symm
        have c4_c7 := (upd_ne (o := .lst [.str ""]) (ne_of_none c4_c6 h7)).trans c4_c6
        have c7nc5 : c7 ≠ c5 := (ne_of_none c5_c6 h7).symm
        have c5_c7 := (upd_ne (o := .lst [.str ""]) (ne_of_none c5_c6 h7)).trans c5_c6
        have c7nc6 : c7 ≠ c6 := (ne_of_none c6_c6 h7).symm
        have c6_c7 := (upd_ne (o := .lst [.str ""]) (ne_of_none c6_c6 h7)).trans c6_c6
        have c7_c7 : upd C6 c7 (.lst [.str ""]) c7 = some (.lst [.str ""]) := upd_same
        generalize upd C6 c7 (.lst [.str ""]) = C7 at cr7 ck7 c1_c7 c2_c7 c3_c7 c4_c7 c5_c7 c6_c7 c7_c7 ⊢
        refine ⟨(by decide : 2 ≤ sizeLine), fun c8 h8 => ?_⟩
        have c8T : c8 ∉ T := free_tab cr7.1 h8
        have cr8 := cr7.trans (Kep.new (o := .lst [.str "a", .str "a"]) cr7.1 h8)
        have ck8 := Kep.new (o := .lst [.str "a", .str "a"]) cr7.1 h8
        have c8nc1 : c8 ≠ c1 := (ne_of_none c1_c7 h8).symm
        have c1_c8 := (upd_ne (o := .lst [.str "a", .str "a"]) (ne_of_none c1_c7 h8)).trans c1_c7
        have c8nc2 : c8 ≠ c2 := (ne_of_none c2_c7 h8).symm
        have c2_c8 := (upd_ne (o := .lst [.str "a", .str "a"]) (ne_of_none c2_c7 h8)).trans c2_c7
        have c8nc3 : c8 ≠ c3 := (ne_of_none c3_c7 h8).symm
        have c3_c8 := (upd_ne (o := .lst [.str "a", .str "a"]) (ne_of_none c3_c7 h8)).trans c3_c7
        have c8nc4 : c8 ≠ c4 := (ne_of_none c4_c7 h8).symm
        have c4_c8 := (upd_ne (o := .lst [.str "a", .str "a"]) (ne_of_none c4_c7 h8)).trans c4_c7
        have c8nc5 : c8 ≠ c5 := (ne_of_none c5_c7 h8).symm
        have c5_c8 := (upd_ne (o := .lst [.str "a", .str "a"]) (ne_of_none c5_c7 h8)).trans c5_c7
        have c8nc6 : c8 ≠ c6 := (ne_of_none c6_c7 h8).symm
        have c6_c8 := (upd_ne (o := .lst [.str "a", .str "a"]) (ne_of_none c6_c7 h8)).trans c6_c7
        have c8nc7 : c8 ≠ c7 := (ne_of_none c7_c7 h8).symm
        have c7_c8 := (upd_ne (o := .lst [.str "a", .str "a"]) (ne_of_none c7_c7 h8)).trans c7_c7
        have c8_c8 : upd C7 c8 (.lst [.str "a", .str "a"]) c8 = some (.lst [.str "a", .str "a"]) := upd_same
        generalize upd C7 c8 (.lst [.str "a", .str "a"]) = C8 at cr8 ck8 c1_c8 c2_c8 c3_c8 c4_c8 c5_c8 c6_c8 c7_c8 c8_c8 ⊢
        refine ⟨(by decide : 1 ≤ sizeLine), fun c9 h9 => ?_⟩
        have c9T : c9 ∉ T := free_tab cr8.1 h9
        have cr9 := cr8.trans (Kep.new (o := .lst [.str "A"]) cr8.1 h9)
        have ck9 := Kep.new (o := .lst [.str "A"]) cr8.1 h9
        have c9nc1 : c9 ≠ c1 := (ne_of_none c1_c8 h9).symm
        have c1_c9 := (upd_ne (o := .lst [.str "A"]) (ne_of_none c1_c8 h9)).trans c1_c8
        have c9nc2 : c9 ≠ c2 := (ne_of_none c2_c8 h9).symm
        have c2_c9 := (upd_ne (o := .lst [.str "A"]) (ne_of_none c2_c8 h9)).trans c2_c8
        have c9nc3 : c9 ≠ c3 := (ne_of_none c3_c8 h9).symm
        have c3_c9 := (upd_ne (o := .lst [.str "A"]) (ne_of_none c3_c8 h9)).trans c3_c8
        have c9nc4 : c9 ≠ c4 := (ne_of_none c4_c8 h9).symm
        have c4_c9 := (upd_ne (o := .lst [.str "A"]) (ne_of_none c4_c8 h9)).trans c4_c8
        have c9nc5 : c9 ≠ c5 := (ne_of_none c5_c8 h9).symm
        have c5_c9 := (upd_ne (o := .lst [.str "A"]) (ne_of_none c5_c8 h9)).trans c5_c8
        have c9nc6 : c9 ≠ c6 := (ne_of_none c6_c8 h9).symm
        have c6_c9 := (upd_ne (o := .lst [.str "A"]) (ne_of_none c6_c8 h9)).trans c6_c8
        have c9nc7 : c9 ≠ c7 := (ne_of_none c7_c8 h9).symm
        have c7_c9 := (upd_ne (o := .lst [.str "A"]) (ne_of_none c7_c8 h9)).trans c7_c8
        have c9nc8 : c9 ≠ c8 := (ne_of_none c8_c8 h9).symm
        have c8_c9 := (upd_ne (o := .lst [.str "A"]) (ne_of_none c8_c8 h9)).trans c8_c8
        have c9_c9 : upd C8 c9 (.lst [.str "A"]) c9 = some (.lst [.str "A"]) := upd_same
        generalize upd C8 c9 (.lst [.str "A"]) = C9 at cr9 ck9 c1_c9 c2_c9 c3_c9 c4_c9 c5_c9 c6_c9 c7_c9 c8_c9 c9_c9 ⊢
        refine ⟨(by decide : 2 ≤ sizeLine), fun ca ha => ?_⟩
        have caT : ca ∉ T := free_tab cr9.1 ha
        have cr10 := cr9.trans (Kep.new (o := .lst [.str "a", .str "bc"]) cr9.1 ha)
        have ck10 := Kep.new (o := .lst [.str "a", .str "bc"]) cr9.1 ha
        have canc1 : ca ≠ c1 := (ne_of_none c1_c9 ha).symm
        have c1_c10 := (upd_ne (o := .lst [.str "a", .str "bc"]) (ne_of_none c1_c9 ha)).trans c1_c9
        have canc2 : ca ≠ c2 := (ne_of_none c2_c9 ha).symm
        have c2_c10 := (upd_ne (o := .lst [.str "a", .str "bc"]) (ne_of_none c2_c9 ha)).trans c2_c9
        have canc3 : ca ≠ c3 := (ne_of_none c3_c9 ha).symm
        have c3_c10 := (upd_ne (o := .lst [.str "a", .str "bc"]) (ne_of_none c3_c9 ha)).trans c3_c9
        have canc4 : ca ≠ c4 := (ne_of_none c4_c9 ha).symm
        have c4_c10 := (upd_ne (o := .lst [.str "a", .str "bc"]) (ne_of_none c4_c9 ha)).trans c4_c9
        have canc5 : ca ≠ c5 := (ne_of_none c5_c9 ha).symm
        have c5_c10 := (upd_ne (o := .lst [.str "a", .str "bc"]) (ne_of_none c5_c9 ha)).trans c5_c9
        have canc6 : ca ≠ c6 := (ne_of_none c6_c9 ha).symm
        have c6_c10 := (upd_ne (o := .lst [.str "a", .str "bc"]) (ne_of_none c6_c9 ha)).trans c6_c9
        have canc7 : ca ≠ c7 := (ne_of_none c7_c9 ha).symm
        have c7_c10 := (upd_ne (o := .lst [.str "a", .str "bc"]) (ne_of_none c7_c9 ha)).trans c7_c9
        have canc8 : ca ≠ c8 := (ne_of_none c8_c9 ha).symm
        have c8_c10 := (upd_ne (o := .lst [.str "a", .str "bc"]) (ne_of_none c8_c9 ha)).trans c8_c9
        have canc9 : ca ≠ c9 := (ne_of_none c9_c9 ha).symm
        have c9_c10 := (upd_ne (o := .lst [.str "a", .str "bc"]) (ne_of_none c9_c9 ha)).trans c9_c9
        have ca_c10 : upd C9 ca (.lst [.str "a", .str "bc"]) ca = some (.lst [.str "a", .str "bc"]) := upd_same
        generalize upd C9 ca (.lst [.str "a", .str "bc"]) = C10 at cr10 ck10 c1_c10 c2_c10 c3_c10 c4_c10 c5_c10 c6_c10 c7_c10 c8_c10 c9_c10 ca_c10 ⊢
        refine ⟨(by decide : 14 ≤ sizeLine), fun cl hl => ?_⟩
        have clT : cl ∉ T := free_tab cr10.1 hl
        have cr11 := cr10.trans (Kep.new (o := .lst [.non, .int 0, .bl true, .str "", .str "ab", .ref c1, .ref c2, .ref c3, .ref c5, .ref c6, .ref c7, .ref c8, .ref c9, .ref ca]) cr10.1 hl)
        have ck11 := Kep.new (o := .lst [.non, .int 0, .bl true, .str "", .str "ab", .ref c1, .ref c2, .ref c3, .ref c5, .ref c6, .ref c7, .ref c8, .ref c9, .ref ca]) cr10.1 hl
        have clnc1 : cl ≠ c1 := (ne_of_none c1_c10 hl).symm
        have c1_c11 := (upd_ne (o := .lst [.non, .int 0, .bl true, .str "", .str "ab", .ref c1, .ref c2, .ref c3, .ref c5, .ref c6, .ref c7, .ref c8, .ref c9, .ref ca]) (ne_of_none c1_c10 hl)).trans c1_c10
        have clnc2 : cl ≠ c2 := (ne_of_none c2_c10 hl).symm
        have c2_c11 := (upd_ne (o := .lst [.non, .int 0, .bl true, .str "", .str "ab", .ref c1, .ref c2, .ref c3, .ref c5, .ref c6, .ref c7, .ref c8, .ref c9, .ref ca]) (ne_of_none c2_c10 hl)).trans c2_c10
        have clnc3 : cl ≠ c3 := (ne_of_none c3_c10 hl).symm
        have c3_c11 := (upd_ne (o := .lst [.non, .int 0, .bl true, .str "", .str "ab", .ref c1, .ref c2, .ref c3, .ref c5, .ref c6, .ref c7, .ref c8, .ref c9, .ref ca]) (ne_of_none c3_c10 hl)).trans c3_c10
        have clnc4 : cl ≠ c4 := (ne_of_none c4_c10 hl).symm
        have c4_c11 := (upd_ne (o := .lst [.non, .int 0, .bl true, .str "", .str "ab", .ref c1, .ref c2, .ref c3, .ref c5, .ref c6, .ref c7, .ref c8, .ref c9, .ref ca]) (ne_of_none c4_c10 hl)).trans c4_c10
        have clnc5 : cl ≠ c5 := (ne_of_none c5_c10 hl).symm
        have c5_c11 := (upd_ne (o := .lst [.non, .int 0, .bl true, .str "", .str "ab", .ref c1, .ref c2, .ref c3, .ref c5, .ref c6, .ref c7, .ref c8, .ref c9, .ref ca]) (ne_of_none c5_c10 hl)).trans c5_c10
        have clnc6 : cl ≠ c6 := (ne_of_none c6_c10 hl).symm
        have c6_c11 := (upd_ne (o := .lst [.non, .int 0, .bl true, .str "", .str "ab", .ref c1, .ref c2, .ref c3, .ref c5, .ref c6, .ref c7, .ref c8, .ref c9, .ref ca]) (ne_of_none c6_c10 hl)).trans c6_c10
        have clnc7 : cl ≠ c7 := (ne_of_none c7_c10 hl).symm
        have c7_c11 := (upd_ne (o := .lst [.non, .int 0, .bl true, .str "", .str "ab", .ref c1, .ref c2, .ref c3, .ref c5, .ref c6, .ref c7, .ref c8, .ref c9, .ref ca]) (ne_of_none c7_c10 hl)).trans c7_c10
        have clnc8 : cl ≠ c8 := (ne_of_none c8_c10 hl).symm
        have c8_c11 := (upd_ne (o := .lst [.non, .int 0, .bl true, .str "", .str "ab", .ref c1, .ref c2, .ref c3, .ref c5, .ref c6, .ref c7, .ref c8, .ref c9, .ref ca]) (ne_of_none c8_c10 hl)).trans c8_c10
        have clnc9 : cl ≠ c9 := (ne_of_none c9_c10 hl).symm
        have c9_c11 := (upd_ne (o := .lst [.non, .int 0, .bl true, .str "", .str "ab", .ref c1, .ref c2, .ref c3, .ref c5, .ref c6, .ref c7, .ref c8, .ref c9, .ref ca]) (ne_of_none c9_c10 hl)).trans c9_c10
        have clnca : cl ≠ ca := (ne_of_none ca_c10 hl).symm
        have ca_c11 := (upd_ne (o := .lst [.non, .int 0, .bl true, .str "", .str "ab", .ref c1, .ref c2, .ref c3, .ref c5, .ref c6, .ref c7, .ref c8, .ref c9, .ref ca]) (ne_of_none ca_c10 hl)).trans ca_c10
        have cl_c11 : upd C10 cl (.lst [.non, .int 0, .bl true, .str "", .str "ab", .ref c1, .ref c2, .ref c3, .ref c5, .ref c6, .ref c7, .ref c8, .ref c9, .ref ca]) cl = some (.lst [.non, .int 0, .bl true, .str "", .str "ab", .ref c1, .ref c2, .ref c3, .ref c5, .ref c6, .ref c7, .ref c8, .ref c9, .ref ca]) := upd_same
        generalize upd C10 cl (.lst [.non, .int 0, .bl true, .str "", .str "ab", .ref c1, .ref c2, .ref c3, .ref c5, .ref c6, .ref c7, .ref c8, .ref c9, .ref ca]) = C11 at cr11 ck11 c1_c11 c2_c11 c3_c11 c4_c11 c5_c11 c6_c11 c7_c11 c8_c11 c9_c11 ca_c11 cl_c11 ⊢
        have all : ∀ x ∈ ([.non, .int 0, .bl true, .str "", .str "ab", .ref c1, .ref c2, .ref c3, .ref c5, .ref c6, .ref c7, .ref c8, .ref c9, .ref ca] : List V), ∃ d, Vl C11 x d := fun x hx => by
          simp only [List.mem_cons, List.not_mem_nil, or_false] at hx
          rcases hx with rfl | rfl | rfl | rfl | rfl | rfl | rfl | rfl | rfl | rfl | rfl | rfl | rfl | rfl
          · exact ⟨_, vl_of (.el (.lf .non)) (by decide +kernel)⟩
          · exact ⟨_, vl_of (.el (.lf (.int 0))) (by decide +kernel)⟩
          · exact ⟨_, vl_of (.el (.lf (.bl true))) (by decide +kernel)⟩
          · exact ⟨_, vl_of (.el (.lf (.str ""))) (by decide +kernel)⟩
          · exact ⟨_, vl_of (.el (.lf (.str "ab"))) (by decide +kernel)⟩
          · exact ⟨_, vl_of (.el (.tup c1_c11 .nil)) (by decide +kernel)⟩
          · exact ⟨_, vl_of (.el (.dic (kvs := []) (ds := []) c2_c11 .nil)) (by decide +kernel)⟩
          · exact ⟨_, vl_of (.el (.lst c3_c11 .nil)) (by decide +kernel)⟩
          · exact ⟨_, vl_of (.lst c5_c11 (.cons (.lst c4_c11 .nil) .nil) (.inl rfl)) (by decide +kernel)⟩
          · exact ⟨_, vl_of (.el (.lst c6_c11 (.cons .non .nil))) (by decide +kernel)⟩
          · exact ⟨_, vl_of (.el (.lst c7_c11 (.cons (.str _) .nil))) (by decide +kernel)⟩
          · exact ⟨_, vl_of (.el (.lst c8_c11 (.cons (.str _) (.cons (.str _) .nil)))) (by decide +kernel)⟩
          · exact ⟨_, vl_of (.el (.lst c9_c11 (.cons (.str _) .nil))) (by decide +kernel)⟩
          · exact ⟨_, vl_of (.el (.lst ca_c11 (.cons (.str _) (.cons (.str _) .nil)))) (by decide +kernel)⟩
        refine ⟨cl, rfl, ⟨_, .inl (.inl cl_c11)⟩, for_list (xs := [.non, .int 0, .bl true, .str "", .str "ab", .ref c1, .ref c2, .ref c3, .ref c5, .ref c6, .ref c7, .ref c8, .ref c9, .ref ca]) (fun i σ Hy => (∃ v5', σ = [some (.ref a), v1, v2, u3, v4, v5', v6, v7, u8, u9, none]) ∧ Kep T C11 Hy) ⟨⟨_, rfl⟩, .refl cr11.1⟩ (fun i σ Hy _ p => .inl (.inl (p.2.2 cl _ clT cl_c11))) (fun i x σ Hy hx p => ?_) (fun σ Hy p => ?_)⟩
        · obtain ⟨⟨v5', rfl⟩, ki⟩ := p
          obtain ⟨dx, vl⟩ := all x (List.mem_of_getElem? hx)
          refine ⟨_, rfl, x, dx, rfl, vl.kep cr11.1 ki, ki.1, fun H5 k5 => ⟨_, rfl, iteF ?_⟩⟩
          exact ⟨⟨_, rfl⟩, ki.trans k5⟩
        · obtain ⟨tm, hm⟩ := X.most
          refine ⟨C, _, _, _, rfl, X.rd, hm, rfl, ?_⟩
          exact q _
end
end Ov

set_option Elab.async false
set_option linter.all false
set_option maxRecDepth 100000
set_option maxHeartbeats 4000000
namespace Ov
open PySem PySem.Spec PyProof.Rows L2 GxR
theorem kit_ref {K : PySem.W.Frag} {D C : Addr} {b : Bool} (hi : PySem.W.isClsIn K C = true) (ht : PySem.W.typeIn K (.ref C) = some (.type "type")) (hs : PySem.W.subIn K (.ref D) (.ref C) = some b) (hself : PySem.W.subIn K (.ref C) (.ref C) = some true) : PySem.W.kitOne K (.ref D) (.ref C) = some b := by
  unfold PySem.W.kitOne
  by_cases h : D = C
  · subst h
    rw [hs] at hself
    rw [if_pos (by simp), Option.some.inj hself]
  · rw [if_neg (by simp [h])]
    unfold PySem.W.kitCls
    have hi' : (PySem.W.clsIn K C).isSome = true := hi
    show (if ((PySem.W.clsIn K C).isSome && PySem.W.typeIn K (.ref C) == some (.type "type")) = true then PySem.W.subIn K (.ref D) (.ref C) else none) = some b
    rw [hi', ht, if_pos (by rfl)]
    exact hs
theorem kit_typ {K : PySem.W.Frag} {D : Addr} {T : String} {b : Bool} (hm : PySem.W.kitMeta T = true) (hs : PySem.W.subIn K (.ref D) (.type T) = some b) : PySem.W.kitOne K (.ref D) (.type T) = some b := by
  unfold PySem.W.kitOne
  rw [if_neg (by simp)]
  show (if PySem.W.kitMeta T = true then PySem.W.subIn K (.ref D) (.type T) else none) = some b
  rw [if_pos hm]
  exact hs
theorem tab_mk {K : PySem.W.Frag} {x : Str} {f c P : Addr} {o1 o2 : Value} {d1 d2 : Option Addr} {s1 s2 : Array (Option Value)} {fd : FuncData} {vs : Array Value} (a : PySem.W.nsIn K mainGlobals x = some (some (.ref f))) (l : K.lookup f = some ⟨o1, d1, .func fd, s1⟩) (e : fd.code = .ref c)
    (lc : K.lookup c = some ⟨o2, d2, .fields vs, s2⟩) (v : (vs[11]? : Option Value) = some (.ref P)) : PySem.W.tabIn K x = some (c, P) := by
  unfold PySem.W.tabIn
  simp only [a, l, e, lc, v]
theorem all_mk {P : Program} {w : World} {K : PySem.W.Frag} {h : Heap} {mg : Str → Option Value} {fa fLow cLow PLow fText fAre cAre PAre fTape fNext fInks fIs fMade fRight fWord fCh fLaw C fInit pO gO pWi fWi pWo fWo fLen D DNa DNu DSp DTx : Addr} {ocLow kVLow dcLow pmLow ctLow oqLow ocText kVText dcText pmText ctText cdText ocAre kVAre dcAre pmAre ctAre oqAre ocTape kVTape dcTape pmTape ctTape cdTape ocNext kVNext dcNext pmNext ctNext cdNext ocInks kVInks dcInks pmInks ctInks cdInks ocIs kVIs dcIs pmIs ctIs cdIs ocMade kVMade dcMade pmMade ctMade cdMade ocRight kVRight dcRight pmRight ctRight cdRight ocWord kVWord dcWord pmWord ctWord cdWord ocCh kVCh dcCh pmCh ctCh cdCh ocLaw kVLaw dcLaw pmLaw ctLaw cdLaw ocInit kVInit dcInit pmInit ctInit cdInit ocOf kVOf dcOf pmOf ctOf cdOf ocWi kVWi dcWi pmWi ctWi cdWi ocWo kVWo dcWo pmWo ctWo cdWo ocLen kVLen dcLen pmLen ctLen cdLen : Value} {odLow anLow oeLow odText anText odAre anAre oeAre odTape anTape odNext anNext odInks anInks odIs anIs odMade anMade odRight anRight odWord anWord odCh anCh odLaw anLaw odInit anInit odOf anOf odWi anWi odWo anWo odLen anLen : Option Addr} {slLow sqLow slText slAre sqAre slTape slNext slInks slIs slMade slRight slWord slCh slLaw slInit slOf slWi slWo slLen : Array (Option Value)} {tW tM tMost tMc : Tok} {restO restWi restWo : List Value} {vqLow vqAre : Array Value}
    (X : K.In h) (G : h.Ns mainGlobals mg) (hfa : mg "law" = some (.ref fa)) (q : Program) (tabs : TabsT q K h) (r0 : ((recsOf q).find? (fun e => e.name == ("is_lowercase" : Str))).isSome = true) (r1 : ((recsOf q).find? (fun e => e.name == ("are_stamps" : Str))).isSome = true)
    (aLow : PySem.W.nsIn K mainGlobals "is_lowercase" = some (some (.ref fLow)))
    (lLow : K.lookup fLow = some ⟨ocLow, odLow, .func (PySem.W.fnOf "is_lowercase" "is_lowercase" (defArgs sLow) (defBody sLow) (defScope sLow) .none kVLow dcLow pmLow anLow (.ref cLow) ctLow), slLow⟩)
    (coLow : PySem.W.codeIn K (.ref cLow) "is_lowercase" = true)
    (kLow : PySem.W.keepIn K (.ref fLow) = true)
    (tLow : K.lookup cLow = some ⟨oqLow, oeLow, .fields vqLow, sqLow⟩)
    (wLow : (vqLow[11]? : Option Value) = some (.ref PLow))
    (nLow : K.lookup PLow = none)
    (aText : PySem.W.nsIn K mainGlobals "is_text" = some (some (.ref fText)))
    (lText : K.lookup fText = some ⟨ocText, odText, .func (PySem.W.fnOf "is_text" "is_text" (defArgs sText) (defBody sText) (defScope sText) .none kVText dcText pmText anText cdText ctText), slText⟩)
    (coText : PySem.W.codeIn K cdText "is_text" = true)
    (kText : PySem.W.keepIn K (.ref fText) = true)
    (aAre : PySem.W.nsIn K mainGlobals "are_stamps" = some (some (.ref fAre)))
    (lAre : K.lookup fAre = some ⟨ocAre, odAre, .func (PySem.W.fnOf "are_stamps" "are_stamps" (defArgs sAre) (defBody sAre) (defScope sAre) .none kVAre dcAre pmAre anAre (.ref cAre) ctAre), slAre⟩)
    (coAre : PySem.W.codeIn K (.ref cAre) "are_stamps" = true)
    (kAre : PySem.W.keepIn K (.ref fAre) = true)
    (tAre : K.lookup cAre = some ⟨oqAre, oeAre, .fields vqAre, sqAre⟩)
    (wAre : (vqAre[11]? : Option Value) = some (.ref PAre))
    (nAre : K.lookup PAre = none)
    (aTape : PySem.W.nsIn K mainGlobals "_law_tape" = some (some (.ref fTape)))
    (lTape : K.lookup fTape = some ⟨ocTape, odTape, .func (PySem.W.fnOf "_law_tape" "_law_tape" (defArgs sTape) (defBody sTape) (defScope sTape) .none kVTape dcTape pmTape anTape cdTape ctTape), slTape⟩)
    (coTape : PySem.W.codeIn K cdTape "_law_tape" = true)
    (kTape : PySem.W.keepIn K (.ref fTape) = true)
    (aNext : PySem.W.nsIn K mainGlobals "_law_next" = some (some (.ref fNext)))
    (lNext : K.lookup fNext = some ⟨ocNext, odNext, .func (PySem.W.fnOf "_law_next" "_law_next" (defArgs sNext) (defBody sNext) (defScope sNext) .none kVNext dcNext pmNext anNext cdNext ctNext), slNext⟩)
    (coNext : PySem.W.codeIn K cdNext "_law_next" = true)
    (kNext : PySem.W.keepIn K (.ref fNext) = true)
    (aInks : PySem.W.nsIn K mainGlobals "_law_inks" = some (some (.ref fInks)))
    (lInks : K.lookup fInks = some ⟨ocInks, odInks, .func (PySem.W.fnOf "_law_inks" "_law_inks" (defArgs sInks) (defBody sInks) (defScope sInks) .none kVInks dcInks pmInks anInks cdInks ctInks), slInks⟩)
    (coInks : PySem.W.codeIn K cdInks "_law_inks" = true)
    (kInks : PySem.W.keepIn K (.ref fInks) = true)
    (aIs : PySem.W.nsIn K mainGlobals "_law_is_inks" = some (some (.ref fIs)))
    (lIs : K.lookup fIs = some ⟨ocIs, odIs, .func (PySem.W.fnOf "_law_is_inks" "_law_is_inks" (defArgs sIs) (defBody sIs) (defScope sIs) .none kVIs dcIs pmIs anIs cdIs ctIs), slIs⟩)
    (coIs : PySem.W.codeIn K cdIs "_law_is_inks" = true)
    (kIs : PySem.W.keepIn K (.ref fIs) = true)
    (aMade : PySem.W.nsIn K mainGlobals "_law_made" = some (some (.ref fMade)))
    (lMade : K.lookup fMade = some ⟨ocMade, odMade, .func (PySem.W.fnOf "_law_made" "_law_made" (defArgs sMade) (defBody sMade) (defScope sMade) .none kVMade dcMade pmMade anMade cdMade ctMade), slMade⟩)
    (coMade : PySem.W.codeIn K cdMade "_law_made" = true)
    (kMade : PySem.W.keepIn K (.ref fMade) = true)
    (aRight : PySem.W.nsIn K mainGlobals "_law_right" = some (some (.ref fRight)))
    (lRight : K.lookup fRight = some ⟨ocRight, odRight, .func (PySem.W.fnOf "_law_right" "_law_right" (defArgs sRightA) (defBody sRightA) (defScope sRightA) .none kVRight dcRight pmRight anRight cdRight ctRight), slRight⟩)
    (coRight : PySem.W.codeIn K cdRight "_law_right" = true)
    (kRight : PySem.W.keepIn K (.ref fRight) = true)
    (aWord : PySem.W.nsIn K mainGlobals "_law_word" = some (some (.ref fWord)))
    (lWord : K.lookup fWord = some ⟨ocWord, odWord, .func (PySem.W.fnOf "_law_word" "_law_word" (defArgs sWord) (defBody sWord) (defScope sWord) .none kVWord dcWord pmWord anWord cdWord ctWord), slWord⟩)
    (coWord : PySem.W.codeIn K cdWord "_law_word" = true)
    (kWord : PySem.W.keepIn K (.ref fWord) = true)
    (aCh : PySem.W.nsIn K mainGlobals "_law_changed" = some (some (.ref fCh)))
    (lCh : K.lookup fCh = some ⟨ocCh, odCh, .func (PySem.W.fnOf "_law_changed" "_law_changed" (defArgs sCh) (defBody sCh) (defScope sCh) .none kVCh dcCh pmCh anCh cdCh ctCh), slCh⟩)
    (coCh : PySem.W.codeIn K cdCh "_law_changed" = true)
    (kCh : PySem.W.keepIn K (.ref fCh) = true)
    (aLaw : PySem.W.nsIn K mainGlobals "law" = some (some (.ref fLaw)))
    (lLaw : K.lookup fLaw = some ⟨ocLaw, odLaw, .func (PySem.W.fnOf "law" "law" (defArgs sLawA) (defBody sLawA) (defScope sLawA) .none kVLaw dcLaw pmLaw anLaw cdLaw ctLaw), slLaw⟩)
    (coLaw : PySem.W.codeIn K cdLaw "law" = true)
    (kLaw : PySem.W.keepIn K (.ref fLaw) = true)
    (aWidest : PySem.W.nsIn K mainGlobals "WIDEST" = some (some (.int 8 tW)))
    (aMostL : PySem.W.nsIn K mainGlobals "MOST_LETTERS" = some (some (.int 36 tM)))
    (aC : PySem.W.nsIn K mainGlobals "Stamps" = some (some (.ref C)))
    (rdS : PySem.W.readsIn K C (.type "type") = true)
    (gaS : PySem.W.specialIn K (.ref C) "__getattribute__" = some (some (.builtin "type.__getattribute__")))
    (pgS : PySem.W.plainGet K C Str.empty = true)
    (hdS : PySem.W.hasDictIn K C = true)
    (poS : PySem.W.plainOver K C = true)
    (saS : PySem.W.findIn K (.ref C) "__setattr__" = some (some (.builtin "object.__setattr__")))
    (mkS : PySem.W.makesIn K C = true)
    (kcS : PySem.W.keepIn K (.ref C) = true)
    (iInit : PySem.W.findIn K (.ref C) "__init__" = some (some (.ref fInit)))
    (jInit : PySem.W.isFn K (.ref fInit) = true)
    (lInit : K.lookup fInit = some ⟨ocInit, odInit, .func (PySem.W.fnOf "__init__" "Stamps.__init__" (defArgs sInit) (defBody sInit) (defScope sInit) .none kVInit dcInit pmInit anInit cdInit ctInit), slInit⟩)
    (coInit : PySem.W.codeIn K cdInit "Stamps.__init__" = true)
    (kInit : PySem.W.keepIn K (.ref fInit) = true)
    (nW : PySem.W.findIn K (.ref C) "_words" = some none)
    (mst : PySem.W.findCls K (.ref C) (.type "type") "MOST" = some (.val (.int 6 tMost)))
    (mc1 : PySem.W.findIn K (.ref C) "MOST" = some (some (.int 6 tMc)))
    (mc2 : PySem.W.specialIn K (.int 6 tMc) "__get__" = some none)
    (oAOf : PySem.W.findCls K (.ref C) (.type "type") "of" = some (.get (.builtin "classmethod.__get__") (.ref pO) .none (.ref C)))
    (oROf : PySem.W.recIn K pO "classmethod" = some (.ref gO :: restO))
    (oFOf : PySem.W.fnIn K gO = true)
    (lOf : K.lookup gO = some ⟨ocOf, odOf, .func (PySem.W.fnOf "of" "Stamps.of" (defArgs sOf) (defBody sOf) (defScope sOf) .none kVOf dcOf pmOf anOf cdOf ctOf), slOf⟩)
    (coOf : PySem.W.codeIn K cdOf "Stamps.of" = true)
    (kOf : PySem.W.keepIn K (.ref gO) = true)
    (prWi : PySem.W.findIn K (.ref C) "width" = some (some (.ref pWi)))
    (pGWi : PySem.W.specialIn K (.ref pWi) "__get__" = some (some (.builtin "property.__get__")))
    (ptWi : PySem.W.takesIn K (.ref pWi) = some true)
    (pcWi : PySem.W.recIn K pWi "property" = some (.ref fWi :: restWi))
    (lWi : K.lookup fWi = some ⟨ocWi, odWi, .func (PySem.W.fnOf "width" "Stamps.width" (defArgs sWidth) (defBody sWidth) (defScope sWidth) .none kVWi dcWi pmWi anWi cdWi ctWi), slWi⟩)
    (coWi : PySem.W.codeIn K cdWi "Stamps.width" = true)
    (kWi : PySem.W.keepIn K (.ref fWi) = true)
    (prWo : PySem.W.findIn K (.ref C) "words" = some (some (.ref pWo)))
    (pGWo : PySem.W.specialIn K (.ref pWo) "__get__" = some (some (.builtin "property.__get__")))
    (ptWo : PySem.W.takesIn K (.ref pWo) = some true)
    (pcWo : PySem.W.recIn K pWo "property" = some (.ref fWo :: restWo))
    (lWo : K.lookup fWo = some ⟨ocWo, odWo, .func (PySem.W.fnOf "words" "Stamps.words" (defArgs sWords) (defBody sWords) (defScope sWords) .none kVWo dcWo pmWo anWo cdWo ctWo), slWo⟩)
    (coWo : PySem.W.codeIn K cdWo "Stamps.words" = true)
    (kWo : PySem.W.keepIn K (.ref fWo) = true)
    (dLen : PySem.W.findIn K (.ref C) "__len__" = some (some (.ref fLen)))
    (eLen : PySem.W.isFn K (.ref fLen) = true)
    (lLen : K.lookup fLen = some ⟨ocLen, odLen, .func (PySem.W.fnOf "__len__" "Stamps.__len__" (defArgs sLenI) (defBody sLenI) (defScope sLenI) .none kVLen dcLen pmLen anLen cdLen ctLen), slLen⟩)
    (coLen : PySem.W.codeIn K cdLen "Stamps.__len__" = true)
    (kLen : PySem.W.keepIn K (.ref fLen) = true)
    (eqS : PySem.W.findIn K (.ref C) "__eq__" = some (some (.builtin "object.__eq__")))
    (neS : PySem.W.findIn K (.ref C) "__ne__" = some (some (.builtin "object.__ne__")))
    (soS : PySem.W.subIn K (.ref C) (.type "object") = some true)
    (aD : PySem.W.nsIn K mainGlobals "InvalidStamps" = some (some (.ref D)))
    (xD : PySem.W.excIn K D [.type "ValueError", .type "Exception", .type "BaseException", .type "object"] "ValueError.__new__" = true)
    (kkD : PySem.W.keepIn K (.ref D) = true)
    (bD : PySem.W.subIn K (.ref D) (.type "BaseException") = some true)
    (tyD : PySem.W.typeIn K (.ref D) = some (.type "type"))
    (aDNa : PySem.W.nsIn K mainGlobals "InvalidName" = some (some (.ref DNa)))
    (aDNu : PySem.W.nsIn K mainGlobals "InvalidNumber" = some (some (.ref DNu)))
    (aDSp : PySem.W.nsIn K mainGlobals "InvalidStrip" = some (some (.ref DSp)))
    (aDTx : PySem.W.nsIn K mainGlobals "InvalidText" = some (some (.ref DTx)))
    (z_ValueError : PySem.W.nsIn K mainGlobals "ValueError" = some none)
    (u4D : PySem.W.hasDictIn K D = true)
    (snD_D : PySem.W.subIn K (.ref D) (.ref D) = some true)
    (e6 : PySem.W.specialIn K (.builtin "object.__class__") "__get__" = some (some (.builtin "getset_descriptor.__get__")))
    (e7 : PySem.W.takesIn K (.builtin "object.__class__") = some true)
    (u1D : PySem.W.findIn K (.ref D) "__getattribute__" = some (some (.builtin "BaseException.__getattribute__")))
    (u2D : PySem.W.findIn K (.ref D) "__getattr__" = some none)
    (u5D : PySem.W.findIn K (.ref D) "__class__" = some (some (.builtin "object.__class__")))
    (u8D : PySem.W.mroIn K D (.type "object") = some true)
    (icDNa : PySem.W.isClsIn K DNa = true)
    (tyDNa : PySem.W.typeIn K (.ref DNa) = some (.type "type"))
    (snD_DNa : PySem.W.subIn K (.ref D) (.ref DNa) = some false)
    (snDNa_DNa : PySem.W.subIn K (.ref DNa) (.ref DNa) = some true)
    (icDNu : PySem.W.isClsIn K DNu = true)
    (tyDNu : PySem.W.typeIn K (.ref DNu) = some (.type "type"))
    (snD_DNu : PySem.W.subIn K (.ref D) (.ref DNu) = some false)
    (snDNu_DNu : PySem.W.subIn K (.ref DNu) (.ref DNu) = some true)
    (icDSp : PySem.W.isClsIn K DSp = true)
    (tyDSp : PySem.W.typeIn K (.ref DSp) = some (.type "type"))
    (snD_DSp : PySem.W.subIn K (.ref D) (.ref DSp) = some false)
    (snDSp_DSp : PySem.W.subIn K (.ref DSp) (.ref DSp) = some true)
    (icDTx : PySem.W.isClsIn K DTx = true)
    (tyDTx : PySem.W.typeIn K (.ref DTx) = some (.type "type"))
    (snD_DTx : PySem.W.subIn K (.ref D) (.ref DTx) = some false)
    (snDTx_DTx : PySem.W.subIn K (.ref DTx) (.ref DTx) = some true)
    (svD_ValueError : PySem.W.subIn K (.ref D) (.type "ValueError") = some true)
    (z_all : PySem.W.nsIn K mainGlobals "all" = some none)
    (z_len : PySem.W.nsIn K mainGlobals "len" = some none)
    (z_isinstance : PySem.W.nsIn K mainGlobals "isinstance" = some none)
    (z_str : PySem.W.nsIn K mainGlobals "str" = some none)
    (z_list : PySem.W.nsIn K mainGlobals "list" = some none)
    (z_set : PySem.W.nsIn K mainGlobals "set" = some none)
    (z_abs : PySem.W.nsIn K mainGlobals "abs" = some none)
    (z_max : PySem.W.nsIn K mainGlobals "max" = some none)
    (z_min : PySem.W.nsIn K mainGlobals "min" = some none)
    (z_range : PySem.W.nsIn K mainGlobals "range" = some none)
    (z_repr : PySem.W.nsIn K mainGlobals "repr" = some none)
    (z_int : PySem.W.nsIn K mainGlobals "int" = some none)
    (z_tuple : PySem.W.nsIn K mainGlobals "tuple" = some none) (l : PySem.W.OpenLaw) (hl : l.prog = P) :
    LawAtG l w K 11 63 "script" mg fa h := by
  subst hl
  have ee := hfa.symm.trans (PySem.W.mg_of X G aLaw)
  cases ee
  have FLow : FunC K "is_lowercase" "is_lowercase" sLow fLow _ cLow := funC_mk lLow coLow kLow
  have FText := fun_mk (st := sText) lText coText kText
  have FAre : FunC K "are_stamps" "are_stamps" sAre fAre _ cAre := funC_mk lAre coAre kAre
  have FTape := fun_mk (st := sTape) lTape coTape kTape
  have FNext := fun_mk (st := sNext) lNext coNext kNext
  have FInks := fun_mk (st := sInks) lInks coInks kInks
  have FIs := fun_mk (st := sIs) lIs coIs kIs
  have FMade := fun_mk (st := sMade) lMade coMade kMade
  have FRight := fun_mk (st := sRightA) lRight coRight kRight
  have FWord := fun_mk (st := sWord) lWord coWord kWord
  have FCh := fun_mk (st := sCh) lCh coCh kCh
  have FLaw := fun_mk (st := sLawA) lLaw coLaw kLaw
  have FInit := fun_mk (st := sInit) lInit coInit kInit
  have FOf := fun_mk (st := sOf) lOf coOf kOf
  have FWi := fun_mk (st := sWidth) lWi coWi kWi
  have FWo := fun_mk (st := sWords) lWo coWo kWo
  have FLen := fun_mk (st := sLenI) lLen coLen kLen
  have TB0 := tabs _ _ _ r0 (tab_mk aLow lLow rfl tLow wLow)
  have TB1 := tabs _ _ _ r1 (tab_mk aAre lAre rfl tAre wAre)
  have X' : Txt K mg C fLow fText fAre fTape fNext fInks := ⟨(PySem.W.mg_none_of X G z_all), (PySem.W.mg_none_of X G z_len), (PySem.W.mg_none_of X G z_isinstance), (PySem.W.mg_none_of X G z_str), (PySem.W.mg_none_of X G z_list), (PySem.W.mg_none_of X G z_set), (PySem.W.mg_none_of X G z_abs), (PySem.W.mg_none_of X G z_max), (PySem.W.mg_none_of X G z_min), (PySem.W.mg_none_of X G z_range),
    (PySem.W.mg_of X G aTape), kTape, (PySem.W.mg_of X G aNext), kNext, (PySem.W.mg_of X G aInks), kInks, (PySem.W.mg_of X G aLow), kLow, (PySem.W.mg_of X G aText), kText, (PySem.W.mg_of X G aAre), kAre, (PySem.W.mg_of X G aC), ⟨_, (PySem.W.mg_of X G aWidest)⟩, ⟨_, (PySem.W.mg_of X G aMostL)⟩, ⟨rdS, gaS⟩, ⟨_, mst, ⟨_, rfl⟩⟩⟩
  have XA : TopA mg K fIs fMade fRight fWord fCh := ⟨(PySem.W.mg_none_of X G z_repr), (PySem.W.mg_none_of X G z_int), (PySem.W.mg_of X G aIs), kIs, (PySem.W.mg_of X G aMade), kMade, (PySem.W.mg_of X G aRight), kRight, (PySem.W.mg_of X G aWord), kWord, (PySem.W.mg_of X G aCh), kCh⟩
  have Er : ErrC K mg "InvalidStamps" D := ⟨xD, (PySem.W.mg_of X G aD), kkD, bD, tyD⟩
  have Em : ErrM K mg D DNa DNu DSp DTx := ⟨(PySem.W.mg_of X G aDNa), (PySem.W.mg_of X G aDNu), (PySem.W.mg_of X G aDSp), (PySem.W.mg_of X G aDTx), (PySem.W.mg_none_of X G z_ValueError), (PySem.W.exm_ref bD u4D tyD snD_D), ⟨u1D, u2D, bD, u4D, u5D, e6, e7, u8D⟩, (kit_ref icDNa tyDNa snD_DNa snDNa_DNa), (kit_ref icDNu tyDNu snD_DNu snDNu_DNu), (kit_ref icDSp tyDSp snD_DSp snDSp_DSp), (kit_ref icDTx tyDTx snD_DTx snDTx_DTx), (kit_typ (by decide +kernel) svD_ValueError)⟩
  have nq : NoEq2 K C := ⟨eqS, neS, soS⟩
  refine ⟨PySem.W.fnOf "law" "law" (defArgs sLawA) (defBody sLawA) (defScope sLawA) .none kVLaw dcLaw pmLaw anLaw cdLaw ctLaw, [(cLow, PLow), (cAre, PAre)], spLawA K [PLow, PAre], fun p hp => ?_, fun p hp => ?_, fun p hp => ?_, fun s u => .of_eq rfl, fun H a ns hn hH hS => ?_, fun base KB GB TB => ?_⟩
  · simp only [List.mem_cons, List.not_mem_nil, or_false] at hp
    rcases hp with rfl | rfl
    · exact TB0.2
    · exact TB1.2
  · simp only [List.mem_cons, List.not_mem_nil, or_false] at hp
    rcases hp with rfl | rfl
    · exact nLow
    · exact nAre
  · simp only [List.mem_cons, List.not_mem_nil, or_false] at hp
    rcases hp with rfl | rfl
    · exact TB0.1
    · exact TB1.1
  · refine ⟨a, ns, rfl, fun p hp => ?_, hS, hn, fun _ => rfl⟩
    have tr : TriplesOk (#[] : Array Value).toList := by first | trivial | simp [TriplesOk] | exact ⟨⟩
    simp only [List.mem_cons, List.not_mem_nil, or_false] at hp
    rcases hp with rfl | rfl
    · exact ⟨#[], hH (cLow, _) (by simp), tr⟩
    · exact ⟨#[], hH (cAre, _) (by simp), tr⟩
  · have TTB : ∀ c P', (c, P') ∈ ([(cLow, PLow), (cAre, PAre)] : List (Addr × Addr)) → TabB base mg c P' := fun c P' hm => (fun (z : LamX.TabB base mg c P') => ⟨z.code, z.bm, z.gP⟩) (TB (c, P') hm)
    have Tb : Tab base mg [PLow, PAre] cLow PLow cAre PAre := ⟨TTB cLow PLow (by simp), TTB cAre PAre (by simp), by simp, by simp⟩
    have O : Own K C := ⟨⟨pgS, hdS, poS, saS⟩, nW⟩
    have M : Mk K C fInit := ⟨mkS, iInit, jInit, kcS⟩
    have FI := ok_init (P := l.prog) (w := w) FInit FAre FText FLow X' Tb O Er
    have co : ClX.CMet K C (.type "type") "of" pO gO := ⟨oAOf, ⟨_, oROf⟩, oFOf⟩
    have pwo : PropOf K C "words" pWo fWo := ⟨prWo, pGWo, ptWo, ⟨_, pcWo⟩⟩
    have pwi : PropOf K C "width" pWi fWi := ⟨prWi, pGWi, ptWi, ⟨_, pcWi⟩⟩
    have MM := ok_made FMade FOf FI M FWo FWi FLen X' O pwo pwi ⟨dLen, eLen⟩ Er Em co
    have RR := ok_rightA FRight FIs FMade MM X' XA
    exact ok_lawA FLaw FTape FNext FInks FRight RR FCh FWord FOf FI FWo M X' XA (PySem.W.mg_none_of X G z_tuple) O pwo Er co ⟨nq, nq, fun z => absurd rfl z⟩ ⟨_, mc1, ⟨_, rfl⟩, mc2, by decide⟩
end Ov

open PySem PySem.W PyProof.Rows
set_option maxRecDepth 100000 in
set_option maxHeartbeats 0 in
theorem PySem.Challenge.cw_overstamps_k01_stamps_recognized_holds : PySem.Challenge.rw_overstamps_k01_stamps_recognized.Holds := by
  w_on; o_law; k_head; (case hw => w_witness2)
  k_fill
  refine Ov.walk_TG (l := PySem.Challenge.rw_overstamps_k01_stamps_recognized) (n := 63) (k := 11) (x := "script") rfl (by decide) rfl ⟨rfl, by decide, by decide⟩ (fun w h Y => PySem.W.kIn_of Y) ?F
  case F =>
    intro w mg fa h Y KX G hmg tabs
    refine' Ov.all_mk KX G hmg _ tabs ?r0 ?r1 ?aLow ?lLow ?coLow ?kLow ?tLow ?wLow ?nLow ?aText ?lText ?coText ?kText ?aAre ?lAre ?coAre ?kAre ?tAre ?wAre ?nAre ?aTape ?lTape ?coTape ?kTape ?aNext ?lNext ?coNext ?kNext ?aInks ?lInks ?coInks ?kInks ?aIs ?lIs ?coIs ?kIs ?aMade ?lMade ?coMade ?kMade ?aRight ?lRight ?coRight ?kRight ?aWord ?lWord ?coWord ?kWord ?aCh ?lCh ?coCh ?kCh ?aLaw ?lLaw ?coLaw ?kLaw ?aWidest ?aMostL ?aC ?rdS ?gaS ?pgS ?hdS ?poS ?saS ?mkS ?kcS ?iInit ?jInit ?lInit ?coInit ?kInit ?nW ?mst ?mc1 ?mc2 ?oAOf ?oROf ?oFOf ?lOf ?coOf ?kOf ?prWi ?pGWi ?ptWi ?pcWi ?lWi ?coWi ?kWi ?prWo ?pGWo ?ptWo ?pcWo ?lWo ?coWo ?kWo ?dLen ?eLen ?lLen ?coLen ?kLen ?eqS ?neS ?soS ?aD ?xD ?kkD ?bD ?tyD ?aDNa ?aDNu ?aDSp ?aDTx ?z_ValueError ?u4D ?snD_D ?e6 ?e7 ?u1D ?u2D ?u5D ?u8D ?icDNa ?tyDNa ?snD_DNa ?snDNa_DNa ?icDNu ?tyDNu ?snD_DNu ?snDNu_DNu ?icDSp ?tyDSp ?snD_DSp ?snDSp_DSp ?icDTx ?tyDTx ?snD_DTx ?snDTx_DTx ?svD_ValueError ?z_all ?z_len ?z_isinstance ?z_str ?z_list ?z_set ?z_abs ?z_max ?z_min ?z_range ?z_repr ?z_int ?z_tuple PySem.Challenge.rw_overstamps_k01_stamps_recognized rfl
    (case aLow => k_is)
    (case lLow => k_is)
    (case coLow => k_is)
    (case kLow => k_is)
    (case tLow => k_is)
    (case wLow => rfl)
    (case nLow => first | k_is | rfl)
    (case aText => k_is)
    (case lText => k_is)
    (case coText => k_is)
    (case kText => k_is)
    (case aAre => k_is)
    (case lAre => k_is)
    (case coAre => k_is)
    (case kAre => k_is)
    (case tAre => k_is)
    (case wAre => rfl)
    (case nAre => first | k_is | rfl)
    (case aTape => k_is)
    (case lTape => k_is)
    (case coTape => k_is)
    (case kTape => k_is)
    (case aNext => k_is)
    (case lNext => k_is)
    (case coNext => k_is)
    (case kNext => k_is)
    (case aInks => k_is)
    (case lInks => k_is)
    (case coInks => k_is)
    (case kInks => k_is)
    (case aIs => k_is)
    (case lIs => k_is)
    (case coIs => k_is)
    (case kIs => k_is)
    (case aMade => k_is)
    (case lMade => k_is)
    (case coMade => k_is)
    (case kMade => k_is)
    (case aRight => k_is)
    (case lRight => k_is)
    (case coRight => k_is)
    (case kRight => k_is)
    (case aWord => k_is)
    (case lWord => k_is)
    (case coWord => k_is)
    (case kWord => k_is)
    (case aCh => k_is)
    (case lCh => k_is)
    (case coCh => k_is)
    (case kCh => k_is)
    (case aLaw => k_is)
    (case lLaw => k_is)
    (case coLaw => k_is)
    (case kLaw => k_is)
    (case aWidest => k_is)
    (case aMostL => k_is)
    (case aC => k_is)
    (case rdS => k_is)
    (case gaS => k_is)
    (case pgS => k_is)
    (case hdS => k_is)
    (case poS => k_is)
    (case saS => k_is)
    (case mkS => k_is)
    (case kcS => k_is)
    (case iInit => k_is)
    (case jInit => k_is)
    (case lInit => k_is)
    (case coInit => k_is)
    (case kInit => k_is)
    (case nW => k_is)
    (case mst => k_is)
    (case mc1 => k_is)
    (case mc2 => k_is)
    (case oAOf => k_is)
    (case oROf => k_is)
    (case oFOf => k_is)
    (case lOf => k_is)
    (case coOf => k_is)
    (case kOf => k_is)
    (case prWi => k_is)
    (case pGWi => k_is)
    (case ptWi => k_is)
    (case pcWi => k_is)
    (case lWi => k_is)
    (case coWi => k_is)
    (case kWi => k_is)
    (case prWo => k_is)
    (case pGWo => k_is)
    (case ptWo => k_is)
    (case pcWo => k_is)
    (case lWo => k_is)
    (case coWo => k_is)
    (case kWo => k_is)
    (case dLen => k_is)
    (case eLen => k_is)
    (case lLen => k_is)
    (case coLen => k_is)
    (case kLen => k_is)
    (case eqS => k_is)
    (case neS => k_is)
    (case soS => k_is)
    (case aD => k_is)
    (case xD => k_exc)
    (case kkD => k_is)
    (case bD => k_is)
    (case tyD => k_is)
    (case aDNa => k_is)
    (case aDNu => k_is)
    (case aDSp => k_is)
    (case aDTx => k_is)
    (case z_ValueError => k_is)
    (case u4D => k_is)
    (case snD_D => k_is)
    (case e6 => k_is)
    (case e7 => k_is)
    (case u1D => k_is)
    (case u2D => k_is)
    (case u5D => k_is)
    (case u8D => k_is)
    (case icDNa => k_is)
    (case tyDNa => k_is)
    (case snD_DNa => k_is)
    (case snDNa_DNa => k_is)
    (case icDNu => k_is)
    (case tyDNu => k_is)
    (case snD_DNu => k_is)
    (case snDNu_DNu => k_is)
    (case icDSp => k_is)
    (case tyDSp => k_is)
    (case snD_DSp => k_is)
    (case snDSp_DSp => k_is)
    (case icDTx => k_is)
    (case tyDTx => k_is)
    (case snD_DTx => k_is)
    (case snDTx_DTx => k_is)
    (case svD_ValueError => k_is)
    (case z_all => k_is)
    (case z_len => k_is)
    (case z_isinstance => k_is)
    (case z_str => k_is)
    (case z_list => k_is)
    (case z_set => k_is)
    (case z_abs => k_is)
    (case z_max => k_is)
    (case z_min => k_is)
    (case z_range => k_is)
    (case z_repr => k_is)
    (case z_int => k_is)
    (case z_tuple => k_is)
    (case r0 => decide +kernel)
    (case r1 => decide +kernel)
