import PyProof.Rows.All
import Wide.All
import OpenK.AllK
import Wide.FinOn
import PyProof.EqAt
import PyProof.EqKinds
import PyProof.TupleCall
import KE.KNest
import HandS.Base
import HandS.Call
import HandS.List
import HandS.Comp
import HandS.Text
import HandS.Iter
import HandS.AnyAll
import HandS.GenOver
import HandS.Words
import PyProof.InstEq
import PyProof.ReprRoads
import PyProof.StrOps2
import HandS.Exc
import HandS.ExcOwn
import HandS.Star
import HandS.ClsMeth
import HandS.Property
import HandS.IsInst
import HandS.OwnEq
import HandS.Wide
import Flt.Len
import PyProof.Rows.SetFrom
import HandS.Strs
import HandS.ForMost
import HandS.ForExc
import PyProof.ReprLen
import HandS.Codes
import HandS.MakeKw
import HandS.Defaults
import HandS.EndTab
import HandS.EndOwn
import HandS.Lambda
import OpenK.KOps
import OpenK.KMeth
import HandS.HotCalls
import HandS.TryOnly
import HandS.ExcIs
import KE.KIsAll
import KE.KExcIs
import HandS.ExcField
import KE.KExcSuper
import KE.KSuper
import HandS.ExcInit
import HandS.FStr
import HandS.Dict
import KE.KIntText
import KE.IntTextLaws
import PyProof.Draws
import PyProof.EnumMake
import PyProof.ListStr
import PyProof.ListRange
import HandS.Sort
import HandS.Small
import HandS.Steps
import HandS.SortInts
import KE.KStateDown
import HandS.Head0
import HandS.Head1
import HandS.Head2
import HandS.HeadEnd
import HandS.HeadHook1
import HandS.HeadHook2
import HandS.HeadHook4
import PySem.Challenge.RW_overstamps_k83_codes_of_parts
set_option Elab.async false
set_option linter.all false
set_option maxRecDepth 100000
set_option maxHeartbeats 4000000
/-! all, any over a generator expression whose element runs like any expression (own defs called, tables grown). -/
namespace Ov
open PySem PySem.Spec PyProof.Rows L2 GxR

/-! ### the consumer -/
/-- the protocol: a truth value is handed out; Dn b: what is to hold when the consumer stops with the answer b; stop: at which value it stops -/
def YB (a : Addr) (g : Nat) (stop : Bool) (Dn : Bool → Shared → Prop) : Protocol := fun _ _ v s1 kap =>
  ∃ b, v = Value.bool b ∧ s1.heap.NoLimit ∧ s1.heap.IsGen a g ∧ AllBare s1.gens ∧
    (b = stop → ∀ G, AllBare G → Dn stop { s1 with gens := G }) ∧ (b ≠ stop → ∀ G, AllBare G → kap (.send .none) { s1 with gens := G })
def RB (stop : Bool) (Dn : Bool → Shared → Prop) : GenEnd := fun _ _ r s1 => r = .ok .next ∧ AllBare s1.gens ∧ ∀ (h' : Heap) (G : Array GenState), (∀ b o, s1.heap.get? b = some o → h'.get? b = some o) → AllBare G → Dn (!stop) { s1 with heap := h', gens := G }

theorem bare_set {s : Shared} {g : Nat} {x : GenState} (h : AllBare s.gens) (hx : x.bare = true) : AllBare (s.setGen g x).gens := fun y hy => by
  obtain ⟨i, hi, e⟩ := Array.mem_iff_getElem.mp hy
  have hi' : i < s.gens.size := by
    have q : (s.setGen g x).gens.size = s.gens.size := GenW.setGen_size s g x
    rw [q] at hi; exact hi
  by_cases z : i = g
  · subst z
    have q : (s.setGen i x).gens[i]? = some x := by
      show (s.gens.setIfInBounds i x)[i]? = some x
      simp [hi']
    have q2 : (s.setGen i x).gens[i]? = some y := by rw [Array.getElem?_eq_getElem hi, e]
    rw [q] at q2; cases q2; exact hx
  · have q : (s.setGen g x).gens[i]? = s.gens[i]? := by
      show (s.gens.setIfInBounds g x)[i]? = _
      rw [Array.getElem?_setIfInBounds_ne (Ne.symm z)]
    have q2 : s.gens[i]? = some y := by rw [← q, Array.getElem?_eq_getElem hi, e]
    exact h y (Array.mem_of_getElem? q2)
theorem set_at {s : Shared} {g : Nat} {x : GenState} (h : g < s.gens.size) : (s.setGen g x).gens[g]? = some x := by
  show (s.gens.setIfInBounds g x)[g]? = some x
  simp [h]

section
variable {P : Program} {w : World} {A : Around}
theorem all_drain {R : Result → Shared → Prop} {a : Addr} {g : Nat} {Dn : Bool → Shared → Prop} (hh : A.handled = none) (hd : A.depth < recursionLimit)
    (hR : ∀ b s', Dn b s' → R (.ok (.ret (.bool b))) s') :
    ∀ (m : Nat) (s : Shared), s.heap.IsGen a g → s.heap.NoLimit → AllBare s.gens →
      (∃ gs, s.gens[g]? = some gs ∧ gs.Goes (model P w) A.in1.in1 (RB false Dn) (YB a g false Dn) m (.send .none) (s.setGen g .running)) →
      codeAny (model P w) A (.builtin "all.loop" ⟨[.ref a], []⟩) R s := by
  intro m
  induction m with
  | zero =>
    intro s hg hl hb ⟨gs, hgs, hgo⟩
    have hgl : g < s.gens.size := (Array.getElem?_eq_some_iff.mp hgs).1
    refine codeAny_builtin F.entry_all_loop ?_
    rw [Around.under_plainId F.plain_all_loop _]
    show wpAny _ A.in1 (pyNext (.ref a) >>= _) _ _ s
    refine wpAny_bind (GenW.wpAny_gsz (n := g + 1) hgl (wpAny_pyNext_genexpQ (A := A.in1) (P := fun n s₀ s₁ => AllBare s₁.gens ∧ ∀ (h' : Heap) (G : Array GenState), (∀ b o, s₁.heap.get? b = some o → h'.get? b = some o) → AllBare G → Dn (!false) { s₁ with heap := h', gens := G }) hh hl hd hg hgs hgo (fun v s₁ gs' hbare hv => ?_) (fun s₁ hp h' hk => ?_)))
    · intro hsz
      obtain ⟨b, rfl, hl1, hg1, hb1, hs1, hk1⟩ := hv
      cases b with
      | true => exact False.elim (hk1 (by decide) _ hb1)
      | false =>
        refine wpAny_bind (wpAny_holding (wpAny_truthy_bool ?_))
        refine wpAny_bind (wpAny_letGo ?_)
        simp only [Bool.false_eq_true, if_false]
        refine wpAny_bind (wpAny_rule (wpAny_pure ?_))
        exact hR false _ (hs1 rfl _ (bare_set hb1 hbare))
    · intro hsz
      refine wpAny_bind (wpAny_rule (wpAny_pure ?_))
      exact hR true _ (hp.2 h' _ hk (bare_set hp.1 rfl))
  | succ m ih =>
    intro s hg hl hb ⟨gs, hgs, hgo⟩
    have hgl : g < s.gens.size := (Array.getElem?_eq_some_iff.mp hgs).1
    refine codeAny_builtin F.entry_all_loop ?_
    rw [Around.under_plainId F.plain_all_loop _]
    show wpAny _ A.in1 (pyNext (.ref a) >>= _) _ _ s
    refine wpAny_bind (GenW.wpAny_gsz (n := g + 1) hgl (wpAny_pyNext_genexpQ (A := A.in1) (P := fun n s₀ s₁ => AllBare s₁.gens ∧ ∀ (h' : Heap) (G : Array GenState), (∀ b o, s₁.heap.get? b = some o → h'.get? b = some o) → AllBare G → Dn (!false) { s₁ with heap := h', gens := G }) hh hl hd hg hgs hgo (fun v s₁ gs' hbare hv => ?_) (fun s₁ hp h' hk => ?_)))
    · intro hsz
      obtain ⟨b, rfl, hl1, hg1, hb1, hs1, hk1⟩ := hv
      have hsz1 : g < s₁.gens.size := by
        have q : (s₁.setGen g gs').gens.size = s₁.gens.size := GenW.setGen_size _ _ _
        have hsz' : g + 1 ≤ (s₁.setGen g gs').gens.size := hsz
        omega
      cases b with
      | true =>
        refine wpAny_bind (wpAny_holding (wpAny_truthy_bool ?_))
        refine wpAny_bind (wpAny_letGo ?_)
        simp only [if_true]
        refine wpAny_pure ⟨plainId_quiet F.plain_all_loop _, ih (s₁.setGen g gs') hg1 hl1 (bare_set hb1 hbare) ⟨gs', set_at hsz1, ?_⟩⟩
        have z := hk1 (by decide) (((s₁.setGen g gs').setGen g .running).gens) (bare_set (bare_set hb1 hbare) rfl)
        exact z
      | false =>
        refine wpAny_bind (wpAny_holding (wpAny_truthy_bool ?_))
        refine wpAny_bind (wpAny_letGo ?_)
        simp only [Bool.false_eq_true, if_false]
        refine wpAny_bind (wpAny_rule (wpAny_pure ?_))
        exact hR false _ (hs1 rfl _ (bare_set hb1 hbare))
    · intro hsz
      refine wpAny_bind (wpAny_rule (wpAny_pure ?_))
      exact hR true _ (hp.2 h' _ hk (bare_set hp.1 rfl))
end
end Ov

set_option Elab.async false
set_option linter.all false
set_option maxRecDepth 100000
set_option maxHeartbeats 4000000
namespace Ov
open PySem PySem.Spec PyProof.Rows L2 GxR
/-- the values of the captured names -/
def caps (σ : L2.St) (pick : List Nat) : L2.St := pick.map fun j => (σ[j]?).join
/-- the context of the generator's block -/
abbrev cxG (X : Cx) (s : Shared) (H : Hp) (N : List Str) (cenv : Env) (A : Around) (fp : List Addr) (pn : List (Addr × Obj)) : Cx :=
  { X with A := A, N := N, s_0 := s, H_0 := H, env := cenv, outer := X.stack, stack := cenv :: X.stack, ex := fp, fn := fun _ => false, calm := true, pn := pn, xe := fun _ _ => False }
/-- the names of the block: its variable x, the captured ones cs with their places in the def's names -/
structure GenN (X : Cx) (scope : Scope) (x : Str) (cs : List Str) (pick : List Nat) : Prop where
  gen : GenS X.env scope x
  uniq : ∀ y ∈ scope.names, scope.names.lookup y.1 = some y.2
  nd : (x :: cs).Nodup
  len : cs.length = pick.length
  at_ : ∀ (i : Nat) (y : Str), cs[i]? = some y → scope.names.lookup y = some .free ∧ (X.env.scope.names.lookup y = some .cell ∨ X.env.scope.names.lookup y = some .free) ∧ ∃ j, pick[i]? = some j ∧ X.N[j]? = some y
section
variable {X : Cx} {pins : List (Addr × Obj)} {σ : L2.St} {H : Hp} {s : Shared}
theorem clo_get {cells : List (Str × Addr)} {names : List (Str × NameKind)} (h : ∀ y ∈ names, y.2 = .free → ∃ c, cells.lookup y.1 = some c) {y : Str} {c : Addr} (e : (cloFrom cells names []).lookup y = some c) : (y, NameKind.free) ∈ names ∧ cells.lookup y = some c := by
  rcases cloFrom_mem (PySem.mem_of_lookup e) with hm | ⟨h1, rfl⟩
  · cases hm
  · obtain ⟨c, hc⟩ := h _ h1 rfl
    rw [hc]
    exact ⟨h1, rfl⟩
theorem clo_has {cells : List (Str × Addr)} {names : List (Str × NameKind)} (h : ∀ y ∈ names, y.2 = .free → ∃ c, cells.lookup y.1 = some c) {y : Str} (hy : (y, NameKind.free) ∈ names) : ∃ c, (cloFrom cells names []).lookup y = some c ∧ cells.lookup y = some c := by
  obtain ⟨c', e'⟩ := mem_lookup (cloFrom_has (cells := cells) (acc := []) hy)
  exact ⟨c', e', (clo_get h e').2⟩
/-- the block's start: the frame at s.heap's size, empty of x; the generator's own object at a -/
theorem gen_start {scope : Scope} {x : Str} {cs : List Str} {pick : List Nat} {fp : List Addr} {A : Around} {code itv : Value} {go : Obj} {gs : Array GenState} {tk : Nat} {h' : Heap} {a : Addr}
    (I : Inv X pins σ H s) (G : GenN X scope x cs pick) (hA : A.handled = none) (hfr : A.frames = some (genEnv scope (cloFrom X.env.cells scope.names []) s.heap.objs.size code builtinsNs X.env :: X.stack))
    (hfp : ∀ b ∈ fp, FpOk X pins H b ∧ b < s.heap.objs.size)
    (hn : h'.Ns s.heap.objs.size fun y => if y = ".0" then some itv else none) (hk : ∀ b o, s.heap.get? b = some o → h'.get? b = some o) (ha : s.heap.objs.size < a) (hgo : h'.get? a = some go) (hgd : ∀ v, go.data ≠ .cell v)
    (hb : AllBare gs) :
    Inv (cxG X s H (x :: cs) (genEnv scope (cloFrom X.env.cells scope.names []) s.heap.objs.size code builtinsNs X.env) A fp [(a, go)]) [] (none :: caps σ pick) H { s with heap := h', gens := gs, toks := tk } := by
  have hfree : ∀ y ∈ scope.names, y.2 = .free → ∃ c, X.env.cells.lookup y.1 = some c := G.gen.free
  have okB : (cxG X s H (x :: cs) (genEnv scope (cloFrom X.env.cells scope.names []) s.heap.objs.size code builtinsNs X.env) A fp [(a, go)]).Ok := by
    refine ⟨I.ok.mod, G.gen.kind, I.ok.glob, rfl, Nat.le_refl _, fun y z c e1 e2 => ?_, fun y hy => ?_, fun y c z _ => ?_, fun _ => hA, hfr, .inr ⟨rfl, rfl⟩, fun b hb => ⟨?_, fun y c e z => ?_⟩, I.bs, Nat.le_trans I.ok.bsz I.sz, fun b o e hb => ?_, fun b hb z => ?_, I.stack, I.stkFree⟩
    · exact I.ok.inj y z c (clo_get hfree e1).2 (clo_get hfree e2).2
    · have hy : scope.names.lookup y = some .cell ∨ scope.names.lookup y = some .free := hy
      rcases hy with hy | hy
      · exact absurd rfl (G.gen.cell _ (PySem.mem_of_lookup hy))
      · obtain ⟨c, h1, _⟩ := clo_has hfree (PySem.mem_of_lookup hy)
        exact ⟨c, h1⟩
    · exact absurd (show false = true from z) (by decide)
    · exact Nat.ne_of_lt (hfp b hb).2
    · exact (hfp b hb).1.2.2.2.2.1 y c (clo_get hfree e).2 z
    · rcases (hfp b hb).1.2.2.2.1 with z | z
      · exact I.ok.noex b o e z
      · exact absurd (Nat.lt_of_lt_of_le (Heap.lt_size e) (Nat.le_trans I.ok.bsz z)) (Nat.lt_irrefl _)
    · rcases List.mem_cons.mp (I.stkSub b z) with z | z
      · exact (hfp b hb).1.2.1 z
      · exact (hfp b hb).1.2.2.1 z
  refine ⟨okB, rfl, hb, Un.kept hk, ⟨_, hn, fun i y av e1 e2 e3 => ?_⟩, fun y c e => ?_, I.hok.fresh (Nat.le_refl _), fun y c e => I.freeC y c (clo_get hfree e).2, fun p hp => ?_, I.hok.kept hk, ?_⟩
  · cases i with
    | zero => cases e2
    | succ i =>
      have e1 : cs[i]? = some y := e1
      obtain ⟨q1, q2, j, hj, hN⟩ := G.at_ i y e1
      have e2 : (caps σ pick)[i]? = some (some av) := e2
      unfold caps at e2
      rw [List.getElem?_map, hj] at e2
      have e2 : (σ[j]?).join = some av := Option.some.inj e2
      have e2' : σ[j]? = some (some av) := by
        cases q : σ[j]? with
        | none => rw [q] at e2; cases e2
        | some o =>
          rw [q] at e2
          have : o = some av := e2
          rw [this]
      obtain ⟨m, hm, hl⟩ := I.loc
      have hvis : Vis X.env.scope y := q2.elim (fun k => .inr (.inl k)) (fun k => .inr (.inr k))
      obtain ⟨u, r, q⟩ := hl j y av hN e2' hvis
      refine ⟨u, r, .inr ⟨.inr q1, ?_⟩⟩
      obtain ⟨c, h1, h2⟩ := clo_has hfree (PySem.mem_of_lookup q1)
      refine ⟨c, h1, ?_⟩
      rcases q with ⟨k, _⟩ | ⟨_, c', e', z⟩
      · have k : X.env.scope.names.lookup y = some .local := k
        rcases q2 with k' | k' <;> rw [k'] at k <;> cases k
      · rw [h2] at e'; cases e'
        exact z.keeps hk
  · obtain ⟨w, z⟩ := I.cell y c (clo_get hfree e).2
    exact ⟨w, z.keeps hk⟩
  · have e : p = (a, go) := by simpa using hp
    subst e
    refine ⟨hgo, I.hok.fresh (Nat.le_of_lt ha), Nat.ne_of_gt ha, ?_, hgd⟩
    intro z
    rcases List.mem_cons.mp (I.stkSub a z) with z | z
    · have := I.lt
      rw [← z] at this
      exact absurd (Nat.lt_trans this ha) (Nat.lt_irrefl _)
    · exact I.nofs (Nat.le_of_lt ha) z
  · show (none :: caps σ pick).length = (x :: cs).length
    unfold caps
    rw [List.length_cons, List.length_cons, List.length_map, G.len]
end
end Ov

set_option Elab.async false
set_option linter.all false
set_option maxRecDepth 100000
set_option maxHeartbeats 4000000
namespace Ov
open PySem PySem.Spec PyProof.Rows L2 GxR
/-- the reading of a turn for all: the element's answer b; true: on; false: the answer -/
def turnAll (J : It) (te : TE) (W : Nat → Nat → Hp → Prop) (caps : L2.St) (Q : VK) : Prop := ∀ i m H, W i m H →
  (J.stop i H ∧ Q (.bl true) H) ∨ (J.go i H ∧ ∀ x H', J.yld i H x H' → te (some x :: caps) H' fun y H'' => ∃ b, y = .bl b ∧ if b = true then ∃ m', m' < m ∧ W (i + 1) m' H'' else Q (.bl false) H'')
section
variable {X : Cx} {σ : L2.St} {H : Hp} {s : Shared}
/-- the context's own: nothing is raised, the generator's object is pinned -/
structure Gen (G : Cx) (A : Around) (a : Addr) (g : Nat) (x : Str) (go : Obj) : Prop where
  over : G.A = A.deeper G.env
  calm : G.calm = true
  xe : G.xe = fun _ _ => False
  nd : G.N.Nodup
  at0 : G.N[0]? = some x
  loc : G.env.scope.names.lookup x = some .local
  co : G.env.scope.isCoroutine = false
  pn : G.pn = [(a, go)]
  gen : ∀ h : Heap, h.get? a = some go → h.IsGen a g
theorem seg_all {G : Cx} {A : Around} {a : Addr} {g : Nat} {x : Str} {go : Obj} (S : Gen G A a g x go) {elt iter : Expr} {px pos : Pos} {scope : Scope} {te : TE} {J : It} {fp : List Addr} {it : Addr} {tn : Nat → Heap → Prop} {W : Nat → Nat → Hp → Prop} {cp : L2.St} {Q : VK} {Dn : Bool → Shared → Prop}
    (T : Turn G.prog G.w G.K (.Name x px) J fp it tn) (he : PE G elt te) (turn : turnAll J te W cp Q) (hex : G.ex = fp) (hfa : ∀ b ∈ fp, a ≠ b)
    (hD : ∀ b H' s' v, Inv G [] (v :: cp) H' s' → Q (.bl b) H' → Dn b s') :
    ∀ (n i m : Nat) (s₀ s : Shared) (v : Option V) (H : Hp), m < n → Inv G [] (v :: cp) H s → tn i s.heap → (∀ b ∈ fp, H b = none) → W i m H →
      Seg (model G.prog G.w) A (RB false Dn) (YB a g false Dn) n s₀ (.compLoop (.GeneratorExp elt [⟨.Name x px, iter, [], 0⟩] scope pos) 0 (.ref it) .none G.env)
        ((model G.prog G.w).den (.compLoop (.GeneratorExp elt [⟨.Name x px, iter, [], 0⟩] scope pos) 0 (.ref it) .none G.env)) [] s := by
  have stat : ∀ {σ' : L2.St} {H' : Hp} {s' : Shared}, Inv G [] σ' H' s' → (∀ b ∈ fp, H' b = none) → ∀ b ∈ fp, FpOk G [] H' b := fun {σ' H' s'} I' hn b hb => by
    have hb' : b ∈ G.ex := by rw [hex]; exact hb
    refine ⟨hn b hb, (I'.ok.exf b hb').1, I'.ok.exfs b hb', .inl hb', fun x c e => (I'.ok.exf b hb').2 x c e, fun p hp z => ?_⟩
    have hp' : p ∈ G.pn := by simpa using hp
    rw [S.pn] at hp'
    rw [List.mem_singleton.mp hp'] at z
    exact hfa b hb z
  intro n
  induction n with
  | zero => intro i m s₀ s v H hm; exact absurd hm (Nat.not_lt_zero _)
  | succ n ih =>
    intro i m s₀ s v H hm I st hf w
    show Seg _ A _ _ _ s₀ _ ((compTurn (.GeneratorExp elt [⟨.Name x px, iter, [], 0⟩] scope pos) 0 (.ref it) .none G.env).onRaise (leaving G.env)) [] s
    rw [compTurn_gen, Sem.onRaise_eq_wrap]
    have ov : A.over (.compLoop (.GeneratorExp elt [⟨.Name x px, iter, [], 0⟩] scope pos) 0 (.ref it) .none G.env) [] = G.A := by rw [S.over]; rfl
    refine seg_bind_wrap (wpAny_standAt ?_)
    rcases turn i m H w with ⟨stop, q⟩ | ⟨go', step⟩
    · refine seg_bind_wrap ?_
      rw [ov]
      refine wpAny_mono (T.done G rfl rfl rfl S.calm i [] s (v :: cp) H (fun _ _ => False) I (stat I hf) st stop) (fun r s1 hr => ?_) fun _ _ z => z.elim
      obtain ⟨rfl, I1⟩ := hr
      refine seg_end (.ok .next) ⟨rfl, I1.bare, fun h' gs hk hb => ?_⟩
      exact hD true H _ v (I1.call' (ch := []) rfl (Un.kept hk) (I1.hok.kept hk) hb fun b z => by simp at z) q
    · refine seg_bind_wrap ?_
      rw [ov]
      refine wpAny_mono (T.item G rfl rfl rfl S.calm i [] s (v :: cp) H (fun _ _ => False) I (stat I hf) st go') (fun r s1 hr => ?_) fun _ _ z => z.elim
      obtain ⟨u, rfl, h1⟩ := hr
      refine seg_bind_wrap ?_
      rw [ov]
      refine wpAny_mono h1 (fun _ s2 h2 => ?_) fun _ _ z => z.elim
      obtain ⟨y, H2, I2, r2, y2, st2, n2⟩ := h2
      have I2' := I2.pinned (stat I2 n2) (T.obj _ _ st2)
      refine seg_bind_wrap ?_
      rw [ov]
      refine wpAny_mono ((pg_name (X := G) (i := 0) (pos := px) S.nd S.at0 (.inl S.loc) (.inr S.loc)).run _ s2 (v :: cp) H2 y u (fun σ' H' => σ' = some y :: cp ∧ H' = H2) I2' r2 ⟨rfl, rfl⟩) (fun _ s3 h3 => ?_) fun _ _ z => by rw [S.xe] at z; exact z.elim
      obtain ⟨σ3, H3, I3, rfl, rfl⟩ := h3
      refine seg_bind_wrap ?_
      simp only [List.forIn_nil]
      refine wpAny_pure ?_
      simp only [if_true]
      have hy : ∀ v, yieldOut G.env v = yieldValue v := fun v => by simp only [yieldOut, S.co, Bool.false_eq_true, if_false]
      simp only [hy]
      rw [Sem.bind_eq_wrap', Sem.bind_eq_wrap', Sem.wrap_wrap, Sem.wrap_wrap]
      refine seg_wrap ?_
      rw [ov]
      refine wpAny_mono (he.run _ s3 (some y :: cp) H3 _ I3 (step y H3 y2)) (fun z s4 h4 => ?_) fun _ _ z => by rw [S.xe] at z; exact z.elim
      obtain ⟨zv, H4, I4, r4, b, rfl, q4⟩ := h4
      have ez : z = Value.bool b := r4
      subst ez
      have pin' : ∀ c ∈ fp, ∀ o, s2.heap.get? c = some o → s4.heap.get? c = some o ∧ H4 c = none := fun c hc o e =>
        let z := I4.pin (c, o) (List.mem_append_right _ (List.mem_append_right _ (mem_pinsAt hc e)))
        ⟨z.1, z.2.1⟩
      have st4 : tn (i + 1) s4.heap := T.keep _ _ _ st2 fun c hc o e => (pin' c hc o e).1
      have f4 : ∀ c ∈ fp, H4 c = none := fun c hc => by
        obtain ⟨o, e, _⟩ := T.obj _ _ st2 c hc
        exact (pin' c hc o e).2
      have I5 : Inv G [] (some y :: cp) H4 s4 := I4.unpinned (pins := [])
      have hgo : s4.heap.get? a = some go := (I5.pin (a, go) (by rw [S.pn]; simp)).1
      refine seg_at (seg_yield rfl rfl rfl ⟨b, rfl, I5.nolimit, S.gen _ hgo, I5.bare, fun eb gs hb => ?_, fun nb gs hb => ?_⟩)
      · subst eb
        exact hD false H4 _ (some y) (I5.call' (ch := []) rfl Un.refl I5.hok hb fun b z => by simp at z) q4
      · have eb : b = true := by cases b with
          | true => rfl
          | false => exact absurd rfl nb
        subst eb
        obtain ⟨m', hm', w'⟩ := (if_pos rfl : (if true = true then _ else _) = _) ▸ q4
        refine seg_again rfl (ih (i + 1) m' _ _ (some y) H4 (by omega) (I5.call' (ch := []) rfl Un.refl I5.hok hb fun b z => by simp at z) st4 f4 w')

theorem seg_allStart {G : Cx} {A : Around} {a : Addr} {g : Nat} {x : Str} {go : Obj} (S : Gen G A a g x go) {elt iter : Expr} {px pos : Pos} {scope : Scope} {te : TE} {J : It} {fp : List Addr} {it : Addr} {tn : Nat → Heap → Prop} {W : Nat → Nat → Hp → Prop} {cp : L2.St} {Q : VK} {Dn : Bool → Shared → Prop}
    (T : Turn G.prog G.w G.K (.Name x px) J fp it tn) (he : PE G elt te) (turn : turnAll J te W cp Q) (hex : G.ex = fp) (hfa : ∀ b ∈ fp, a ≠ b)
    (hD : ∀ b H' s' v, Inv G [] (v :: cp) H' s' → Q (.bl b) H' → Dn b s') (n m : Nat) (s₀ s : Shared) (v : Option V) (H : Hp) (hm : m < n) (I : Inv G [] (v :: cp) H s) (st : tn 0 s.heap) (hf : ∀ b ∈ fp, H b = none) (w : W 0 m H) :
      Seg (model G.prog G.w) A (RB false Dn) (YB a g false Dn) n s₀ (.compStart (.GeneratorExp elt [⟨.Name x px, iter, [], 0⟩] scope pos) 0 (.ref it) .none G.env)
        ((model G.prog G.w).den (.compStart (.GeneratorExp elt [⟨.Name x px, iter, [], 0⟩] scope pos) 0 (.ref it) .none G.env)) [] s := by
  have loop := seg_all (iter := iter) (pos := pos) (scope := scope) S T he turn hex hfa hD n 0 m s₀ s v H hm I st hf w
  show Seg _ A _ _ _ s₀ _ ((compStart (.GeneratorExp elt [⟨.Name x px, iter, [], 0⟩] scope pos) 0 (.ref it) .none G.env).onRaise (leaving G.env)) [] s
  unfold compStart
  rw [Sem.onRaise_eq_wrap]
  show Seg _ A _ _ _ s₀ _ ((ask >>= _).wrap _ _ _ _) [] s
  refine seg_bind_wrap (wpAny_askSetting ?_)
  split
  · exact seg_again rfl loop
  · first
      | exact seg_bind_wrap (wpAny_rule (seg_bind_wrap (wpAny_standAt (seg_bind_wrap (T.self _ 0 s _ _ st (seg_again rfl loop))))))
      | (refine seg_bind_wrap (wpAny_rule ?_); show Seg _ A _ _ _ s₀ _ ((standAt iter.pos >>= _).wrap _ _ _ _) [] s; exact seg_bind_wrap (wpAny_standAt (seg_bind_wrap (T.self _ 0 s _ _ st (seg_again rfl loop)))))

/-- all(elt for x in iter): J walks; W by the turn and a measure -/
def tAllG (P : Addr) (wi : TI) (pick : List Nat) (te : TE) : TE := fun σ H Q => wi σ H fun J H1 => TabG H1 P ∧ ∀ H2, Tabbed P H1 H2 → ∃ W : Nat → Nat → Hp → Prop, (∃ m, W 0 m H2) ∧ turnAll J te W (caps σ pick) Q

theorem fpOk_tab {pins : List (Addr × Obj)} {H1 H2 : Hp} {P b : Addr} {ps : Array Value} (hP : H1 P = some (.tbl ps)) (hT : ∀ b, b ≠ P → H2 b = H1 b) (f : FpOk X pins H1 b) : FpOk X pins H2 b := by
  refine ⟨?_, f.2⟩
  rw [hT b (fun z => by have := f.1; rw [z, hP] at this; cases this)]
  exact f.1

theorem pe_allG {c P : Addr} {elt iter : Expr} {x : Str} {px p pos gpos : Pos} {scope : Scope} {cs : List Str} {pick : List Nat} {wi : TI} {te : TE} {k : Nat}
    (hc : X.calm = true) (hr : Room (k + 1) X.A) (hg : Gl X "all") (hm : X.mg "all" = none) (hb : bootBuiltins "all" = some (.builtin "all")) (TB : TabB X.base X.mg c P) (hcode : X.env.code = .ref c) (S : GenN X scope x cs pick)
    (hi : PI X (.Name x px) iter wi)
    (he : ∀ (s : Shared) (H : Hp) (code : Value) (C : Addr) (A : Around) (fp : List Addr) (pn : List (Addr × Obj)), Room k A → PE (cxG X s H (x :: cs) (genEnv scope (cloFrom X.env.cells scope.names []) C code builtinsNs X.env) A fp pn) elt te)
    (hs : ∀ v, genFold iter X.env v = pure v := by intro _; rfl)
    (hst : starEach [.GeneratorExp elt [⟨.Name x px, iter, [], 0⟩] scope gpos] X.env = (false, eval (.GeneratorExp elt [⟨.Name x px, iter, [], 0⟩] scope gpos) X.env) :: starEach [] X.env := by rfl) :
    PE X (.Call (.Name "all" p) [.GeneratorExp elt [⟨.Name x px, iter, [], 0⟩] scope gpos] [] pos) (tAllG P wi pick te) := by
  refine ⟨fun pins s σ H Q I h => ?_⟩
  refine wpAny_Call_Name_kw (ld_blt I hg hm hb ?_)
  refine PyProof.Rows.callWith_builtin1 ?_ hst (by rfl)
  rw [hst]
  show wpAny _ _ (spliced ((false, eval (.GeneratorExp elt [⟨.Name x px, iter, [], 0⟩] scope gpos) X.env) :: backTo pos (starEach [] X.env))) _ _ s
  refine Calls.spliced_cons ?_
  refine wpAny_GeneratorExp_make S.gen.co (closure_ok S.gen.free) S.gen.cell S.gen.dot S.gen.kind (by have := hr.dp; omega) ?_ hs
  refine thn (hi.run pins s σ H _ I h) fun xv s1 h1 => thn h1 fun itv s2 h2 => ?_
  obtain ⟨it, fp, tn, J, H2, rfl, I2, T, st2, f2, ⟨ps, hP, ht⟩, hW⟩ := h2
  refine ⟨I2.nolimit, ?_⟩
  have hPs : s2.heap.get? P = some { cls := .none, data := .fields ps } := I2.hok P _ hP
  have hPlt : P < s2.heap.objs.size := Heap.lt_size hPs
  have cd : PySem.W.CodeHd s2.heap c P := TB.code.keeps fun b u e => I2.bk b u e
  -- behind the code object
  have cont : ∀ (code : Value) (h3 : Heap) (tk : Nat) (ps' : Array Value), Heap.ExtBut P s2.heap h3 → h3.get? P = some { cls := .none, data := .fields ps' } → (∃ more, ps' = ps ++ more) → TriplesOk ps'.toList →
      wpAny (model X.prog X.w) X.A (builtinsFor X.env.globals X.env.builtins) (fun bi s₄ =>
        ∀ h', h'.Ns s₄.heap.objs.size (fun y => if y = ".0" then some (.ref it) else none) → Heap.SameBut s₄.heap.objs.size (s₄.heap.push { cls := .type "frame", data := .dict #[] }) h' →
          wpAny (model X.prog X.w) X.A (spliced (backTo pos (starEach [] X.env))) (fun us s' => wpAny (model X.prog X.w) X.A (call (.builtin "all") (.ref h'.objs.size :: us)) (EP X pins σ Q) X.xe s') X.xe { s₄ with
            gens := s₄.gens.push (.fresh (.compStart (.GeneratorExp elt [⟨.Name x px, iter, [], 0⟩] scope gpos) 0 (.ref it) .none (genEnv scope (cloFrom X.env.cells scope.names []) s₄.heap.objs.size code bi X.env))),
            toks := s₄.toks + 1 + 1 + 1,
            heap := h'.push { cls := .type "generator", data := .fields #[.int s₄.gens.size 0, .str "<genexpr>" (s₄.toks + 1), .str (X.env.qual ++ "<genexpr>") (s₄.toks + 1 + 1)] } }) X.xe { s2 with heap := h3, toks := tk } := by
    intro code h3 tk ps' hx hP3 hmore ht3
    obtain ⟨more, em⟩ := hmore
    subst em
    obtain ⟨bm, ob, e1, e2, e3, e4, e5, e6, e7, e8⟩ := TB.bm
    have keep3 : ∀ b u, b ≠ P → s2.heap.get? b = some u → h3.get? b = some u := fun b u hb e => hx b u hb e
    refine wpAny_builtinsFor (m := X.mg) (by rw [I2.ok.glob]; exact (I2.mod.glob.keeps I2.bk).extBut hx TB.gP) e1 e2 (keep3 _ _ e4 (I2.bk _ _ e5)) e6 e7 e8 ?_
    intro h' hn' hs'
    have I3 : Inv X pins σ (upd H2 P (.tbl (ps ++ more))) { s2 with heap := h3, toks := tk } := inv_tab (more := more) (h' := h3) (g' := s2.gens) (d' := s2.drawn) (t' := tk) I2 hP keep3 hP3 I2.bare
    generalize hs3 : ({ s2 with heap := h3, toks := tk } : Shared) = s3 at I3 ⊢
    have hh3 : s3.heap = h3 := by rw [← hs3]
    have hg3 : s3.gens = s2.gens := by rw [← hs3]
    have hn' : h'.Ns s3.heap.objs.size (fun y => if y = ".0" then some (.ref it) else none) := hh3.symm ▸ hn'
    have hs' : Heap.SameBut s3.heap.objs.size (s3.heap.push { cls := .type "frame", data := .dict #[] }) h' := hh3.symm ▸ hs'
    have hsz : h'.objs.size = s3.heap.objs.size + 1 := by rw [hs'.1, Heap.size_push]
    have keep' : ∀ b o, s3.heap.get? b = some o → h'.get? b = some o := fun b o e => hs'.extBut b o (Nat.ne_of_lt (Heap.lt_size e)) (Heap.get?_push_of_some _ e)
    have hT23 : Tabbed P H2 (upd H2 P (.tbl (ps ++ more))) := ⟨⟨_, upd_same, ht3⟩, fun b hb => upd_ne hb⟩
    obtain ⟨W, ⟨m0, w0⟩, turn⟩ := hW _ hT23
    generalize hH3 : upd H2 P (.tbl (ps ++ more)) = H3 at I3 w0 hT23
    have nfpP : ∀ b ∈ fp, b ≠ P := fun b hb z => by have := (f2 b hb).1; rw [z, hP] at this; cases this
    have st3 : tn 0 s3.heap := T.keep _ _ _ st2 fun b hb o e => by rw [hh3]; exact keep3 b o (nfpP b hb) e
    have f3 : ∀ b ∈ fp, FpOk X pins H3 b ∧ b < s3.heap.objs.size := fun b hb => by
      refine ⟨fpOk_tab hP hT23.2 (f2 b hb), ?_⟩
      obtain ⟨o, e, _⟩ := T.obj _ _ st3 b hb
      exact Heap.lt_size e
    generalize hgo : ({ cls := .type "generator", data := .fields #[.int s3.gens.size 0, .str "<genexpr>" (s3.toks + 1), .str (X.env.qual ++ "<genexpr>") (s3.toks + 1 + 1)] } : Obj) = go
    generalize hcenv : genEnv scope (cloFrom X.env.cells scope.names []) s3.heap.objs.size code builtinsNs X.env = cenv
    have keep5 : ∀ b o, s3.heap.get? b = some o → (h'.push go).get? b = some o := fun b o e => Heap.get?_push_of_some _ (keep' b o e)
    have hga : (h'.push go).get? h'.objs.size = some go := Heap.get?_push_size _ (by subst hgo; rfl)
    have hgd : ∀ v, go.data ≠ .cell v := fun v => by rw [← hgo]; exact fun z => by cases z
    have hgen : ∀ h : Heap, h.get? h'.objs.size = some go → h.IsGen h'.objs.size s3.gens.size := fun h e => ⟨go, _, _, e, by subst hgo; rfl, by subst hgo; rfl, by subst hgo; rfl⟩
    have bareG : AllBare (s3.gens.push (.fresh (.compStart (.GeneratorExp elt [⟨.Name x px, iter, [], 0⟩] scope gpos) 0 (.ref it) .none cenv))) := I3.bare.push rfl
    refine Calls.spliced_nil ?_
    refine call_function_tree F.kind_all F.plain_all F.entry_all (F.args_all1 _) ?_
    unfold Builtin.«all»
    refine wpAny_bind (m := oneArg "all" _) (wpAny_pure ?_)
    refine wpAny_bind (wpAny_pyIter_gen (hgen _ hga) ?_)
    refine wpAny_pure ⟨plainId_quiet F.plain_all_loop _, ?_⟩
    have hA : X.A.in1.in1.handled = none := hr.hd
    have hfr : (X.A.in1.in1.deeper cenv).frames = some (cenv :: X.stack) := Around.frames_deeper (A := X.A.in1.in1) I3.ok.frames
    have start : ∀ gs : Array GenState, AllBare gs → Inv (cxG X s3 H3 (x :: cs) cenv (X.A.in1.in1.deeper cenv) fp [(h'.objs.size, go)]) [] (none :: caps σ pick) H3 { s3 with heap := h'.push go, gens := gs, toks := s3.toks + 1 + 1 + 1 } := fun gs hb => by
      subst hcenv
      exact gen_start I3 S hA hfr f3 (hn'.push _) keep5 (by omega) hga hgd hb
    have rm : Room k (X.A.in1.in1.deeper cenv) := ⟨hr.hd, by have := hr.dp; show X.A.depth + 1 + 3 * k + 5 < _; omega, by have := hr.un; show X.A.units + 1 + 1 + 3 + 16 * k + 200 < _; omega⟩
    have hel : PE (cxG X s3 H3 (x :: cs) cenv (X.A.in1.in1.deeper cenv) fp [(h'.objs.size, go)]) elt te := by
      subst hcenv
      exact he s3 H3 code s3.heap.objs.size _ fp _ rm
    refine all_drain (P := X.prog) (w := X.w) (A := X.A) (Dn := fun b s' => EP X pins σ Q (.bool b) s') hr.hd (by have := hr.dp; omega) (fun b s' hb => hb) (m0 + 1) _ (hgen _ hga) (I3.nolimit.keeps keep5) bareG ⟨_, Array.getElem?_push_size .., rfl, ?_⟩
    have GG : Gen (cxG X s3 H3 (x :: cs) cenv (X.A.in1.in1.deeper cenv) fp [(h'.objs.size, go)]) X.A.in1.in1 h'.objs.size s3.gens.size x go := by
      refine ⟨rfl, rfl, rfl, S.nd, rfl, ?_, ?_, rfl, hgen⟩
      · subst hcenv; exact S.gen.loc
      · subst hcenv; exact S.gen.co
    refine seg_allStart (iter := iter) (pos := gpos) (scope := scope) GG T hel turn rfl (fun b hb z => ?_) (fun b H' s' v I' q => ?_) (m0 + 1) m0 _ _ none H3 (Nat.lt_succ_self _) (start _ (bare_set bareG rfl)) (T.keep _ _ _ st3 fun b hb o e => keep5 b o e) (fun b hb => (f3 b hb).1.1) w0
    · have z1 : h'.objs.size < s3.heap.objs.size := by
        rw [show h'.objs.size = b from z]
        exact (f3 b hb).2
      have z2 : (h'.objs.size : Nat) = s3.heap.objs.size + 1 := hsz
      omega
    · exact ⟨.bl b, H', I3.call' (ch := fp) I'.os I'.base I'.hok I'.bare fun b hb => ⟨(f3 b hb).1.2.2.2.1, (f3 b hb).1.2.1, (f3 b hb).1.2.2.2.2.1, (f3 b hb).1.2.2.2.2.2⟩, rfl, q⟩
  cases hf : codeAmong gpos ps.toList with
  | none =>
    refine wpAny_genexprCodeX hcode (cd.code hPs ht) (cd.tab hPs) hf fun c' h' tk hx hge hlt hco' _ htab' _ => ?_
    obtain ⟨o1, vs, f1, tf, fl, tg, inF, tx, tt, op, _, _, _, _, _, _, _, _, _, htr, _⟩ := hco'
    exact cont _ h' tk _ hx htab'.2 ⟨_, rfl⟩ htr
  | some cv =>
    refine wpAny_genexprCode_hit hcode (cd.code hPs ht) hf ?_
    exact cont cv s2.heap s2.toks ps (Heap.ExtBut.refl _ _) hPs ⟨#[], by simp⟩ ht
end
end Ov

set_option Elab.async false
set_option linter.all false
set_option maxRecDepth 100000
set_option maxHeartbeats 4000000
/-! rules that the layer lacks: powers of great ints, <= of texts, text * int, == of own instances by identity, an own __add__, an own __len__, C(*xs), repr of a list of texts -/
namespace Ov
open PySem PySem.Spec PyProof.Rows L2
/-! ### == by identity -/
section
variable {prog : Program} {w : World} {A : Around} {E : Value → Shared → Prop} {s : Shared} {K : PySem.W.Frag} {x y C : Addr} {ox oy : Obj} {od od' : Option Obj}
theorem call_objEq {Q : Value → Shared → Prop} (X : K.In s.heap) (I : PySem.W.InstAt s.heap x ox C od) (J : PySem.W.InstAt s.heap y oy C od') (hsub : PySem.W.subIn K (.ref C) (.type "object") = some true)
    (h : Q (if x = y then .bool true else .notImplemented) s) : wpAny (model prog w) A (call (.builtin "object.__eq__") [.ref x, .ref y]) Q E s := by
  refine wpAny_call (codeAny_call_builtin F.cmp_object.eq.plain F.cmpEntry_eq ?_)
  have fin : wpAny (model prog w) A.in1 (Builtin.«object.__eq__» ⟨[.ref x, .ref y], []⟩) (fun fin s' => match fin with | .done f => (wants Q E) (.ok f) s' | .again c' => c'.quiet = true ∧ codeAny (model prog w) A c' (wants Q E) s') (fun e s' => (wants Q E) (.error e) s') s := by
    by_cases hxy : x = y
    · subst hxy
      exact objEq_entry_same (by rw [if_pos rfl] at h; exact h)
    · refine objEq_entry_other hxy I.at_ J.at_ ?_ (by rw [if_neg hxy] at h; exact h)
      rw [I.cls]
      intro z; cases z
  simp only [checkBuiltinCall, F.cmpKind_eq, F.cmpSplit_eq]
  refine wpAny_bind ?_
  unfold isInstance
  refine wpAny_bind (I.type.here ?_)
  refine (PySem.W.looks_subIn X hsub).here ?_
  cases hsig : Manifest.signature? "object.__eq__" with
  | none => exact wpAny_pure fin
  | some sig =>
    have ha := F.cmpArgs_eq (.ref x) (.ref y)
    simp only [argsOk, hsig] at ha
    have h2 : Bind.checkArgs "object.__eq__" sig ⟨[.ref x, .ref y], []⟩ = pure () := ha
    show wpAny _ A.in1 (Bind.checkArgs "object.__eq__" sig ⟨[.ref x, .ref y], []⟩) _ _ _
    rw [h2]; exact wpAny_pure fin
theorem special_eq {Q : Option Value → Shared → Prop} (X : K.In s.heap) (I : PySem.W.InstAt s.heap x ox C od) (J : PySem.W.InstAt s.heap y oy C od') (hs : PySem.W.findIn K (.ref C) "__eq__" = some (some (.builtin "object.__eq__"))) (hsub : PySem.W.subIn K (.ref C) (.type "object") = some true)
    (h : Q (some (if x = y then .bool true else .notImplemented)) s) : wpAny (model prog w) A (callSpecialIfBound? (.ref x) "__eq__" [.ref y]) Q E s := by
  simp only [callSpecialIfBound?, bindSpecialIfBound?]
  refine wpAny_holding (wpAny_bind (wpAny_bind (wpAny_bind (I.type.here ((PySem.W.looks_findIn X hs).here ?_)))))
  have fin : wpAny (model prog w) A (call (.builtin "object.__eq__") ([.ref x] ++ [.ref y]) >>= fun v => pure (some v)) Q E s := wpAny_bind (call_objEq X I J hsub (wpAny_pure h))
  simp only [F.cmp_object.eq.bind]
  refine wpAny_bind (wpAny_askSetting (wpAny_ite ?_))
  split
  · exact wpAny_bind (wpAny_pure (wpAny_pure fin))
  · exact wpAny_tryCatch (wpAny_bind (wpAny_pure (wpAny_pure fin)))
theorem try_eq {Q : Option Value → Shared → Prop} (X : K.In s.heap) (I : PySem.W.InstAt s.heap x ox C od) (J : PySem.W.InstAt s.heap y oy C od') (hs : PySem.W.findIn K (.ref C) "__eq__" = some (some (.builtin "object.__eq__"))) (hsub : PySem.W.subIn K (.ref C) (.type "object") = some true)
    (h : Q (if x = y then some (.bool true) else none) s) : wpAny (model prog w) A (tryCompare (.ref x) "__eq__" (.ref y)) Q E s := by
  unfold tryCompare
  refine wpAny_bind (special_eq X I J hs hsub ?_)
  by_cases hxy : x = y
  · rw [if_pos hxy] at h ⊢
    exact wpAny_pure h
  · rw [if_neg hxy] at h ⊢
    exact wpAny_pure h
theorem eq_id {Q : Value → Shared → Prop} (hu : A.units < cLine) (X : K.In s.heap) (I : PySem.W.InstAt s.heap x ox C od) (J : PySem.W.InstAt s.heap y oy C od') (hs : PySem.W.findIn K (.ref C) "__eq__" = some (some (.builtin "object.__eq__"))) (hsub : PySem.W.subIn K (.ref C) (.type "object") = some true)
    (h : Q (.bool (decide (x = y))) s) : wpAny (model prog w) A (compareOp .Eq (.ref x) (.ref y)) Q E s := by
  show wpAny _ _ (richCompare .Eq (.ref x) (.ref y)) _ _ _
  unfold richCompare
  simp only [oneThing_ref, cmpInfo_Eq]
  refine wpAny_holding (wpAny_bind (wpAny_cRoomFor hu ?_))
  refine wpAny_bind (I.type.here (wpAny_bind (J.type.here ?_)))
  rw [if_neg (by simp)]
  refine wpAny_bind (wpAny_pure ?_)
  simp only [Bool.false_eq_true, if_false]
  refine wpAny_bind (try_eq X I J hs hsub ?_)
  by_cases hxy : x = y
  · rw [if_pos hxy]
    subst hxy
    exact wpAny_pure (by simpa using h)
  · rw [if_neg hxy]
    have hyx : ¬ y = x := fun z => hxy z.symm
    simp only [Bool.not_false, if_true]
    refine wpAny_bind (try_eq X J I hs hsub ?_)
    rw [if_neg hyx]
    refine wpAny_bind (wpAny_rule ?_)
    refine wpAny_bind (wpAny_isSame_ref_other hxy I.at_ J.at_ (by rw [I.cls]; intro z; cases z) ?_)
    exact wpAny_pure (by simpa [hxy] using h)
end

/-! ### the same over the layer; powers; texts -/
section
variable {X : Cx}
/-- the class has no == of its own -/
structure NoEq (K : PySem.W.Frag) (C : Addr) : Prop where
  eq : PySem.W.findIn K (.ref C) "__eq__" = some (some (.builtin "object.__eq__"))
  sub : PySem.W.subIn K (.ref C) (.type "object") = some true
theorem op_eqId {C : Addr} (hu : X.A.units < cLine) (n : NoEq X.K C) : OpR X (compareOp .Eq) (fun x y H Q => ∃ a b dx dy fs gs, x = .ref a ∧ y = .ref b ∧ H a = some (.ins C dx fs) ∧ H b = some (.ins C dy gs) ∧ Q (.bl (decide (a = b))) H) := by
  intro pins s σ H x y v u Q I rx ry h
  obtain ⟨a, b, dx, dy, fs, gs, rfl, rfl, ha, hb, q⟩ := h
  obtain rfl : v = Value.ref a := rx
  obtain rfl : u = Value.ref b := ry
  obtain ⟨mA, O, _⟩ := ins_get I.hok ha
  obtain ⟨od, J, _⟩ := O.look
  obtain ⟨mB, O', _⟩ := ins_get I.hok hb
  obtain ⟨od', J', _⟩ := O'.look
  exact eq_id hu I.kIn J J' n.eq n.sub ⟨.bl _, H, I, rfl, q⟩
/-- a power of a great number -/
def CPowW (i j : Int) : Prop := 0 ≤ j ∧ (Builtin.Int.intBits i : Int) * j ≤ 2 ^ 27
theorem op_powW : OpR X (binaryOp .Pow) (rI CPowW fun i j => .int (i ^ j.toNat)) := opI fun _ _ _ _ _ _ _ hc q => pow_int hc.1 hc.2 q
theorem bits_le {i : Int} {b : Nat} (h : i.natAbs < 2 ^ b) (h0 : 0 < b) : Builtin.Int.intBits i ≤ b := by
  have x := PySem.Flt.log2_lt_of h0 h
  unfold Builtin.Int.intBits
  split <;> omega
theorem op_le_str : OpR X (compareOp .LtE) (fun x y H Q => ∃ i j, x = .str i ∧ y = .str j ∧ Q (.bl (!decide (j.cps.toList < i.cps.toList))) H) := by
  intro pins s σ H x y v u Q I rx ry h
  obtain ⟨i, j, rfl, rfl, q⟩ := h
  obtain ⟨t, rfl⟩ := rx
  obtain ⟨t', rfl⟩ := ry
  exact PySem.P.le_str ⟨.bl _, H, I, rfl, q⟩
end
/-! ### C(*xs) -/
def tMakeS (X : Cx) (C : Addr) (sp : Sp) (E : XK) (tc te : TE) : TE := fun σ H Q => tc σ H fun c H0 => c = .ref C ∧ te σ H0 fun y H1 => ∃ a xs, y = V.ref a ∧ (SqT X.K H1 a xs ∨ SqL X.K H1 a xs) ∧
  ∀ x dx, H1 x = none → H1 dx = none → dx ≠ x → sp (V.ref x :: xs) (upd (upd H1 dx (.own x)) x (.ins C dx [])) (fun v H2 => v = .non ∧ Q (.ref x) H2) E
section
variable {X : Cx} {CX : CXT} {k : Nat} {f C : Addr} {sp : Sp} {E : XK} {x : Str} {e : Expr} {tc te : TE} {p pos sp_ : Pos}
/-- c(*xs), c a name whose value is the class -/
theorem pe_makeS (M : Mk X.K C f) (F : FnR X.prog X.w X.K X.mg X.base CX k f sp) (hr : Room (k + 1) X.A) (hx : Passes CX X E) (hn : PE X (.Name x p) tc) (he : PE X e te)
    (hst : starEach [.Starred e sp_] X.env = [(true, eval e X.env)] := by rfl) : PE X (.Call (.Name x p) [.Starred e sp_] [] pos) (tMakeS X C sp E tc te) := by
  refine ⟨fun pins s σ H Q I h => ?_⟩
  refine wpAny_Call_Name_kw (thn (hn.run pins s σ H _ I h) fun c s0 ⟨cv, H0, I0, rc, ec, h⟩ => ?_)
  subst ec
  obtain rfl : c = Value.ref C := rc
  refine PySem.W.callWith_S (h₀ := X.base) I0.ok.mod.kin M.kp (thn (he.run pins s0 σ H0 _ I0 h) fun v s1 ⟨y, H1, I1, ry, a, xs, ey, hxs, q⟩ => ?_) hst
  subst ey
  obtain rfl : v = Value.ref a := ry
  exact StX.star_any I1 hxs fun us s2 I2 rv => ⟨I2.kIn, StX.run_makeR M F hr hx I2 rv q⟩
end
end Ov

set_option Elab.async false
set_option linter.all false
set_option maxRecDepth 100000
set_option maxHeartbeats 4000000
/-! len(set(xs)), xs a tuple of any number of texts (below 4000) -/
namespace Ov
open PySem PySem.Spec PyProof.Rows L2
/-- the texts without those that were there before -/
def addS (z : List Str) (v : Str) : List Str := if z.any (· == v) = true then z else z ++ [v]
def once (xs : List Str) : List Str := xs.foldl addS []
theorem addS_len (z : List Str) (v : Str) : (addS z v).length = if z.any (· == v) = true then z.length else z.length + 1 := by
  unfold addS; split <;> simp
theorem addS_any (z : List Str) (v k : Str) : (addS z v).any (· == k) = (z.any (· == k) || decide (k = v)) := by
  unfold addS
  by_cases h : z.any (· == v) = true
  · rw [if_pos h]
    by_cases e : k = v
    · subst e; rw [h]; simp
    · simp [e]
  · rw [if_neg h, List.any_append]
    by_cases e : k = v
    · subst e; simp
    · have hb : (v == k) = false := by simpa [beq_iff_eq] using (fun h' : v = k => e h'.symm)
      simp [hb, e]
theorem once_take {xs : List Str} {i : Nat} (h : i < xs.length) : once (xs.take (i + 1)) = addS (once (xs.take i)) (xs.getD i Str.empty) := by
  unfold once
  rw [List.take_succ, List.foldl_append, List.getElem?_eq_getElem h]
  simp [List.getD, List.getElem?_eq_getElem h]
theorem once_le (xs : List Str) : (once xs).length ≤ xs.length := by
  have key : ∀ (l z : List Str), (l.foldl addS z).length ≤ z.length + l.length := by
    intro l
    induction l with
    | nil => intro z; simp
    | cons a l ih =>
      intro z
      rw [List.foldl_cons, List.length_cons]
      refine Nat.le_trans (ih _) ?_
      rw [addS_len]
      split <;> omega
  have := key xs []
  simpa [once] using this
/-- as many as there are, exactly if no two are alike -/
theorem once_nodup (xs : List Str) : (once xs).length = xs.length ↔ xs.Nodup := by
  have key : ∀ (l z : List Str), ((l.foldl addS z).length = z.length + l.length ↔ (l.Nodup ∧ ∀ a ∈ l, ¬ z.any (· == a) = true)) := by
    intro l
    induction l with
    | nil => intro z; simp
    | cons a l ih =>
      intro z
      rw [List.foldl_cons, List.length_cons, List.nodup_cons]
      have bound : ∀ (l z : List Str), (l.foldl addS z).length ≤ z.length + l.length := by
        intro l
        induction l with
        | nil => intro z; simp
        | cons a l ih =>
          intro z
          rw [List.foldl_cons, List.length_cons]
          refine Nat.le_trans (ih _) ?_
          rw [addS_len]
          split <;> omega
      by_cases h : z.any (· == a) = true
      · have e : addS z a = z := if_pos h
        rw [e]
        have := bound l z
        constructor
        · intro q; omega
        · rintro ⟨_, q⟩; exact absurd h (q a List.mem_cons_self)
      · have e : addS z a = z ++ [a] := if_neg h
        rw [e]
        have ih' := ih (z ++ [a])
        rw [List.length_append, List.length_singleton] at ih'
        rw [show z.length + (l.length + 1) = z.length + 1 + l.length by omega, ih']
        constructor
        · rintro ⟨h1, h2⟩
          refine ⟨⟨fun hm => ?_, h1⟩, fun b hb => ?_⟩
          · have := h2 a hm
            rw [List.any_append] at this
            simp at this
          · rcases List.mem_cons.mp hb with e | hb
            · rw [e]; exact h
            · have := h2 b hb
              rw [List.any_append] at this
              intro q
              rw [q] at this
              simp at this
        · rintro ⟨⟨h1, h2⟩, h3⟩
          refine ⟨h2, fun b hb => ?_⟩
          rw [List.any_append]
          have q := h3 b (List.mem_cons_of_mem _ hb)
          have nb : (a == b) = false := by
            rw [beq_eq_false_iff_ne]
            intro e
            exact h1 (e ▸ hb)
          simp only [Bool.not_eq_true] at q ⊢
          rw [q]
          simp [nb]
  have := key xs []
  simpa [once] using this

section
variable {prog : Program} {w : World} {A : Around} {R : Result → Shared → Prop} {I : Addr} {fp wr : List Addr} {G : Array GenState → Array GenState → Prop} {n : Nat} {P : Nat → Value → Prop} {St : Nat → Shared → Prop}
theorem set_loop (W : WalksS prog w A.in1 I fp wr G n P St) (S : Addr) (hSf : S ∉ fp) (xs : List Str) (hsz : xs.length = n) (hn : n + 1 < scanBound)
    (hval : ∀ i v, P i v → ∃ t, v = .str (xs.getD i Str.empty) t) :
    ∀ (k i : Nat) (s : Shared), n - i = k → i ≤ n → St i s →
      s.heap.SetOf (PySem.strKind prog w) S (fun k' => (once (xs.take i)).any (· == k')) (once (xs.take i)).length →
      (∀ s', Moved (S :: wr) G s s' → s'.heap.SetOf (PySem.strKind prog w) S (fun k' => (once xs).any (· == k')) (once xs).length → R (.ok (.ret .none)) s') →
      codeAny (model prog w) A (.builtin "set.update.loop" ⟨[.ref S, .ref I], []⟩) R s := by
  have hSw : S ∉ wr := fun h => hSf (W.sub _ h)
  have hsub : ∀ b ∈ wr, b ∈ S :: wr := fun b hb => List.mem_cons_of_mem _ hb
  intro k
  induction k with
  | zero =>
    intro i s hk hi hst hS hR
    have hin : i = n := by omega
    subst hin
    refine codeAny_builtin PyProof.Rows.F.entry_set_update_loop ?_
    rw [Around.under_plainId PyProof.Rows.F.plain_set_update_loop _]
    show wpAny _ A.in1 (pyNext (.ref I) >>= _) _ _ s
    refine wpAny_bind (W.done s _ _ hst fun s' hm => ?_)
    show wpAny _ A.in1 (ret Value.none) _ _ s'
    rw [← hsz, List.take_length] at hS
    exact wpAny_pure (hR s' (hm.mono hsub) (by
      obtain ⟨o, es, ep, t, ho, rest⟩ := hS
      exact ⟨o, es, ep, t, hm.heap S _ hSw ho, rest⟩))
  | succ k ih =>
    intro i s hk hi hst hS hR
    have hlt : i < n := by omega
    refine codeAny_builtin PyProof.Rows.F.entry_set_update_loop ?_
    rw [Around.under_plainId PyProof.Rows.F.plain_set_update_loop _]
    show wpAny _ A.in1 (pyNext (.ref I) >>= _) _ _ s
    refine wpAny_bind (W.item i s _ _ hlt hst fun v s' hP hst' hm => ?_)
    obtain ⟨t, rfl⟩ := hval i v hP
    have hS' : s'.heap.SetOf (PySem.strKind prog w) S (fun k' => (once (xs.take i)).any (· == k')) (once (xs.take i)).length := by
      obtain ⟨o, es, ep, tb, ho, rest⟩ := hS
      exact ⟨o, es, ep, tb, hm.heap S _ hSw ho, rest⟩
    have hle : (once (xs.take i)).length ≤ i := Nat.le_trans (once_le _) (by rw [List.length_take]; omega)
    show wpAny _ A.in1 (holding [Value.str (xs.getD i Str.empty) t] (setAdd S (.str (xs.getD i Str.empty) t)) >>= _) _ _ s'
    refine wpAny_bind (wpAny_holding ?_)
    unfold setAdd
    refine wpAny_holding ?_
    refine wpAny_bind ((PySem.strKind prog w).pyHash (k := xs.getD i Str.empty) (strKind_is _ _ _ _) ?_)
    refine wpAny_setAddHashed_of (knd := PySem.strKind prog w) (s := { s' with toks := s'.toks + 1 }) (strKind_is _ _ _ _) rfl hS' (by omega) fun h' hsb hS2 => ?_
    have hSi : h'.SetOf (PySem.strKind prog w) S (fun k' => (once (xs.take (i + 1))).any (· == k')) (once (xs.take (i + 1))).length := by
      rw [once_take (by omega)]
      exact SetOf_congr hS2 (fun k' => by rw [addS_any]) (by rw [addS_len])
    refine wpAny_pure ⟨plainId_quiet PyProof.Rows.F.plain_set_update_loop _, ih (i + 1) _ (by omega) hlt (W.frame _ s' _ _ hst' (Nat.le_succ _) fun b hb o e => ?_) hSi fun s'' hm'' hS'' => ?_⟩
    · rw [hsb.2 b (fun h : b = S => hSf (by rw [← h]; exact hb))]; exact e
    · refine hR s'' (Moved.trans W.gtrans ((hm.mono hsub).then_heap (Nat.le_succ _) fun b o hb e => ?_) hm'') hS''
      rw [hsb.2 b (fun h : b = S => hb (by rw [h]; exact List.mem_cons_self))]; exact e
end
section
variable {prog : Program} {w : World} {A : Around} {E : Value → Shared → Prop} {s : Shared}
theorem set_of_tuple {l : Addr} {items : Array Value} {xs : List Str} {Q : Value → Shared → Prop}
    (hh : A.handled = none) (hl : s.heap.IsTuple l items) (hi : PyProof.Rows.StrsAre items.toList xs) (hn1 : xs.length + 1 < scanBound)
    (h : ∀ (h' : Heap) (tk : Nat), h'.SetOf (PySem.strKind prog w) s.heap.objs.size (fun k' => (once xs).any (· == k')) (once xs).length →
      (∀ b o, b < s.heap.objs.size → s.heap.get? b = some o → h'.get? b = some o) → Q (.ref s.heap.objs.size) { s with heap := h', toks := tk }) :
    wpAny (model prog w) A (call (.type "set") [.ref l]) Q E s := by
  obtain ⟨c, tl, hmro⟩ := PySem.F.called_set.mro
  have hmade := PySem.F.called_set.made
  have hsub := PySem.F.called_set.sub
  have h1 := PySem.F.called_set.notType
  have h2 := PySem.F.called_set.canCreate
  have hct := PySem.F.typeCall_set_1 (.ref l)
  refine wpAny_call (codeAny_of_tree ?_)
  show wpAny _ _ (callAny (.type "set") _) _ _ _
  refine wpAny_pure ⟨Code.quiet_builtin _ (by decide +kernel), codeAny_builtin PySem.F.entry_type_call ?_⟩
  rw [Around.under_plain (weight_type_call_type "set" [.ref l] []) rfl]
  repeat (any_goals (first | assumption | wp_step))
  refine codeAny_mono (code_set_new_1 (.ref l) (E := E) (Q₁ := fun obj s₁ => ∃ led : Bool, obj = .ref s.heap.objs.size ∧ s₁ = { s with heap := s.heap.push { cls := .type "set", dict := none, data := .set #[] 0 (.fresh 0 0 led) } }) fun led => ⟨led, rfl, rfl⟩) fun r s₁ hr => ?_
  cases r with
  | error e => exact hr
  | ok fl =>
    cases fl with
    | ret obj =>
      obtain ⟨led, rfl, rfl⟩ := hr
      have hS : (s.heap.push { cls := .type "set", dict := none, data := .set #[] 0 (.fresh 0 0 led) }).get? s.heap.objs.size = some { cls := .type "set", dict := none, data := .set #[] 0 (.fresh 0 0 led) } := Heap.get?_push_size _ rfl
      have hT : Shared.TypeIs { s with heap := s.heap.push { cls := .type "set", dict := none, data := .set #[] 0 (.fresh 0 0 led) } } (.ref s.heap.objs.size) "set" := ⟨_, hS, rfl⟩
      have hli := PySem.F.called_set.init.lookup
      have hbi := PySem.F.called_set.init.bind (.ref s.heap.objs.size)
      repeat (any_goals (first | assumption | wp_step))
      refine codeAny_mono (codeAny_call_builtin (R := wants (fun r s₂ => r = .none ∧ ∃ h' tk, s₂ = { s with heap := h', toks := tk } ∧
          h'.SetOf (PySem.strKind prog w) s.heap.objs.size (fun k' => (once xs).any (· == k')) (once xs).length ∧
          (∀ b o, b < s.heap.objs.size → s.heap.get? b = some o → h'.get? b = some o)) E) PySem.F.called_set.init.plain PySem.F.entry_set_init (check_set_init_1 hT ?_)) fun r₂ s₂ hr₂ => ?_
      · obtain ⟨ol, hol, hcl, nl, hdl⟩ := hl
        obtain ⟨ocls, odict, odata, oslots⟩ := ol
        simp only at hcl hdl
        subst hcl; subst hdl
        have hol' : (s.heap.push { cls := .type "set", dict := none, data := .set #[] 0 (.fresh 0 0 led) }).get? l = some { cls := .type "tuple", dict := odict, data := .seq items nl, slots := oslots } := Heap.get?_push_of_some _ hol
        have hsls := PySem.F.sub_tuple_set
        have hslf := PySem.F.sub_tuple_frozenset
        have hne : (Value.type "tuple" == Value.type "dict") = false := by decide
        have hl1 : (s.heap.push { cls := .type "set", dict := none, data := .set #[] 0 (.fresh 0 0 led) }).IsTuple l items := ⟨_, hol', rfl, nl, rfl⟩
        unfold Builtin.«set.__init__» noKeywords Builtin.Frozenset.updateFrom
        generalize hPI : pyIter = PI
        wp_walk
        subst hPI
        refine wpAny_pyIter_tuple hl1 ?_
        refine wpAny_bind (wpAny_runValue ?_)
        have hlS : l < s.heap.objs.size := Heap.lt_size hol
        have hh3 : A.in1.in1.in1.handled = none := by simp [hh]
        have hneI : l ≠ (s.heap.push { cls := .type "set", dict := none, data := .set #[] 0 (.fresh 0 0 led) }).objs.size := by
          rw [Heap.size_push]; exact Nat.ne_of_lt (Nat.lt_succ_of_lt hlS)
        have hSf : s.heap.objs.size ∉ [(s.heap.push { cls := .type "set", dict := none, data := .set #[] 0 (.fresh 0 0 led) }).objs.size, l] := by
          rw [Heap.size_push]; simp only [List.mem_cons, List.mem_singleton, List.not_mem_nil, or_false, not_or]
          exact ⟨Nat.ne_of_lt (Nat.lt_succ_self _), Nat.ne_of_gt hlS⟩
        have hsz : xs.length = items.size := by rw [← StrsAre.len_eq hi, Array.length_toList]
        have hval : ∀ (i : Nat) (v : Value), items[i]? = some v → ∃ t, v = .str (xs.getD i Str.empty) t := fun i v hv => SS.strs_at hi i v (by rw [Array.getElem?_toList]; exact hv)
        refine set_loop ((Walks.tuple hh3 _ l hneI items).toS) s.heap.objs.size
          hSf xs hsz (by rw [← hsz]; exact hn1) hval (items.size - 0) 0 _ (by omega) (Nat.zero_le _)
          ⟨⟨_, Heap.get?_push_size _ rfl, rfl, rfl⟩, (hl1.push _)⟩ ?hS0 ?hR
        case hS0 =>
          have hget : ((s.heap.push { cls := .type "set", dict := none, data := .set #[] 0 (.fresh 0 0 led) }).push { cls := .type "tuple_iterator", data := .fields #[.ref l, .int 0 0] }).get? s.heap.objs.size
              = some { cls := .type "set", dict := none, data := .set #[] 0 (.fresh 0 0 led) } := Heap.get?_push_of_some _ hS
          exact PyProof.Rows.SetOf_congr ((PyProof.Rows.setObjOf_fresh (knd := PySem.strKind prog w) led).setOf hget (by unfold scanBound; omega)) (fun _ => rfl) rfl
        case hR =>
          intro s' hm hS'
          obtain ⟨h', g', d', tk', os'⟩ := s'
          have eg : g' = s.gens := hm.gens
          have ed : d' = s.drawn := hm.drawn
          have eo : os' = s.os := hm.os
          subst eg; subst ed; subst eo
          show wpAny _ _ _ _ _ _
          refine wpAny_pure ?_
          show wpAny _ _ (ret Value.none) _ _ _
          refine wpAny_pure ⟨rfl, h', tk', rfl, hS', fun b o hb e => ?_⟩
          have hb1 : b ≠ s.heap.objs.size := Nat.ne_of_lt hb
          have hb2 : b ≠ (s.heap.push { cls := .type "set", dict := none, data := .set #[] 0 (.fresh 0 0 led) }).objs.size := by
            rw [Heap.size_push]; exact Nat.ne_of_lt (Nat.lt_succ_of_lt hb)
          exact hm.heap b o (by simp only [List.mem_cons, List.mem_singleton, List.not_mem_nil, or_false, not_or]; exact ⟨hb1, hb2⟩) (Heap.get?_push_of_some _ (Heap.get?_push_of_some _ e))
      · cases r₂ with
        | error e => exact hr₂
        | ok fl₂ =>
          cases fl₂ with
          | ret r =>
            obtain ⟨rfl, h', tk, rfl, hS', hk'⟩ := hr₂
            repeat (any_goals (first | assumption | wp_step))
            exact h _ _ hS' hk'
          | _ => exact hr₂.elim
    | _ => exact hr.elim
end
/-- len(set(xs)), xs a tuple of texts -/
def tLenOnce (K : PySem.W.Frag) (ta : TE) : TE := fun σ H Q => ta σ H fun x H1 => ∃ (l : Addr) (xs : List Str), x = .ref l ∧ SqT K H1 l (xs.map V.str) ∧ xs.length ≤ 4000 ∧ Q (.int ((once xs).length : Nat)) H1
theorem pe_lenOnce {X : Cx} {a : Expr} {ta : TE} {p p2 q pos : Pos} (hc : X.calm = true) (hg : Gl X "len") (hm : X.mg "len" = none) (hg2 : Gl X "set") (hm2 : X.mg "set" = none) (ha : PE X a ta)
    (na : starEach [a] X.env = (false, eval a X.env) :: starEach [] X.env := by rfl) : PE X (.Call (.Name "len" p) [.Call (.Name "set" p2) [a] [] q] [] pos) (tLenOnce X.K ta) := by
  refine ⟨fun pins s σ H Q I h => ?_⟩
  refine Call_ (ld_blt I hg hm boot_len ?_)
  refine PyProof.Rows.callWith_builtin1 (PyProof.Rows.args_cons ?_ rfl) rfl rfl
  refine Call_ (ld_blt I hg2 hm2 boot_set ?_)
  refine PyProof.Rows.callWith_type1 (PyProof.Rows.args_cons (thn (ha.run pins s σ H _ I h) fun v s1 ⟨x, H1, I1, r1, q1⟩ => PyProof.Rows.args_nil ?_) na) na rfl
  obtain ⟨l, xs, rfl, hq, h1, q1⟩ := q1
  cases r1
  obtain ⟨its, r, pl, hz⟩ := I1.tuple hq
  refine set_of_tuple (I1.ok.hd hc) pl (by simpa using strsAre_of r) (by unfold scanBound; omega) fun h' tk hS hk => ?_
  refine PyProof.Rows.args_nil ?_
  have hle := once_le xs
  obtain ⟨o, es, ep, t, ho, hex, hd, _, _, _, hf, hn⟩ := hS
  have I2 : Inv X pins σ H1 { s1 with heap := h', toks := tk } := I1.kept fun b o e => hk b o (Heap.lt_size e) e
  exact call_len_set ho hex hd hf (by rw [hn] <;> omega) ⟨.int (once xs).length, H1, I2.tok _, ⟨_, by rw [hn]⟩, q1⟩
end Ov

set_option Elab.async false
set_option linter.all false
set_option maxRecDepth 100000
set_option maxHeartbeats 4000000
namespace Ov
open PySem PySem.Spec PyProof.Rows L2 GxR
/-! ### all, by its items -/
theorem all_str {x : Str} {te : TE} {cp : L2.St} {Q : VK} {H2 : Hp} (f : Nat → Bool) (he : ∀ c, ∀ R : VK, R (.bl (f c)) H2 → te (some (.str ⟨#[c]⟩) :: cp) H2 R) (q : Q (.bl (x.cps.toList.all f)) H2) :
    ∃ W : Nat → Nat → Hp → Prop, (∃ m, W 0 m H2) ∧ turnAll (Its x) te W cp Q := by
  refine ⟨fun i m H => H = H2 ∧ m = x.cps.size - i ∧ i ≤ x.cps.size ∧ (x.cps.toList.take i).all f = true, ⟨x.cps.size, rfl, by simp, Nat.zero_le _, rfl⟩, ?_⟩
  rintro i m H ⟨rfl, rfl, hi, ha⟩
  by_cases hlt : i < x.cps.size
  · refine .inr ⟨hlt, fun v H' hy => ?_⟩
    obtain ⟨rfl, c, hc, rfl⟩ := hy
    refine he c _ ⟨f c, rfl, ?_⟩
    have hcl : x.cps.toList[i]? = some c := by rw [Array.getElem?_toList]; exact hc
    cases hf : f c with
    | true =>
      refine iteT ⟨x.cps.size - (i + 1), by omega, rfl, rfl, hlt, ?_⟩
      rw [List.take_succ, hcl, List.all_append, ha]
      simp [hf]
    | false =>
      refine iteF ?_
      have e : x.cps.toList.all f = false := by
        rw [List.all_eq_false]
        exact ⟨c, List.mem_of_getElem? hcl, by simp [hf]⟩
      rw [← e]; exact q
  · have e : i = x.cps.size := by omega
    subst e
    refine .inl ⟨Nat.le_refl _, ?_⟩
    have e2 : x.cps.toList.take x.cps.size = x.cps.toList := by rw [List.take_of_length_le (by simp)]
    rw [e2] at ha
    rw [ha] at q
    exact q
theorem all_tup {K : PySem.W.Frag} {a : Addr} {xs : List V} {te : TE} {cp : L2.St} {Q : VK} {H2 : Hp} (f : V → Bool) (Pv : Hp → Prop) (h0 : Pv H2) (hs : ∀ H, Pv H → SqT K H a xs)
    (he : ∀ x ∈ xs, ∀ H, Pv H → ∀ R : VK, (∀ H', Pv H' → R (.bl (f x)) H') → te (some x :: cp) H R) (q : ∀ H, Pv H → Q (.bl (xs.all f)) H) :
    ∃ W : Nat → Nat → Hp → Prop, (∃ m, W 0 m H2) ∧ turnAll (Itt K a) te W cp Q := by
  refine ⟨fun i m H => Pv H ∧ m = xs.length - i ∧ i ≤ xs.length ∧ (xs.take i).all f = true, ⟨xs.length, h0, by simp, Nat.zero_le _, rfl⟩, ?_⟩
  rintro i m H ⟨hp, rfl, hi, ha⟩
  by_cases hlt : i < xs.length
  · refine .inr ⟨⟨xs, xs[i], hs H hp, List.getElem?_eq_getElem hlt⟩, fun v H' hy => ?_⟩
    obtain ⟨rfl, hy⟩ := hy
    have hv := hy xs (hs _ hp)
    refine he v (List.mem_of_getElem? hv) _ hp _ fun H'' hp'' => ⟨f v, rfl, ?_⟩
    cases hf : f v with
    | true =>
      refine iteT ⟨xs.length - (i + 1), by omega, hp'', rfl, hlt, ?_⟩
      rw [List.take_succ, hv, List.all_append, ha]
      simp [hf]
    | false =>
      refine iteF ?_
      have e : xs.all f = false := by
        rw [List.all_eq_false]
        exact ⟨v, List.mem_of_getElem? hv, by simp [hf]⟩
      rw [← e]; exact q _ hp''
  · have e : i = xs.length := by omega
    subst e
    refine .inl ⟨⟨xs, hs _ hp, Nat.le_refl _⟩, ?_⟩
    rw [List.take_length] at ha
    rw [← ha]
    exact q _ hp
/-! ### a def whose code object is known -/
structure FunC (K : PySem.W.Frag) (x qual : Str) (st : Stmt) (f : Addr) (fd : FuncData) (c : Addr) : Prop where
  ex : ∃ (oc : Value) (od : Option Addr) (kV doc pm : Value) (an : Option Addr) (ct : Value) (osl : Array (Option Value)),
    fd = PySem.W.fnOf x qual (defArgs st) (defBody st) (defScope st) .none kV doc pm an (.ref c) ct ∧ K.lookup f = some ⟨oc, od, .func fd, osl⟩ ∧ PySem.W.codeIn K (.ref c) qual = true
  kp : PySem.W.keepIn K (.ref f) = true
section
variable {P : Program} {w : World} {K : PySem.W.Frag} {mg : Str → Option Value} {base : Heap}
theorem FunC.ok {x qual : Str} {st : Stmt} {f c : Addr} {fd : FuncData} {N ps : List Str} {k : Nat} {sp : Sp} (F : FunC K x qual st f fd c) (S : FnScope N ps (defScope st)) (len : ∀ vs H Q E, sp vs H Q E → vs.length = ps.length)
    (hbody : ∀ (A : Around) (outer : List Env) (s : Shared) (H : Hp) (vs : List V) (Q : VK) (E : XK), Room k (A.deeper (envOfC qual (defScope st) s.heap.objs.size f (.ref c))) → sp vs H Q E →
      ∃ t, PSs (cxOf CX0 P w K mg base N qual (defScope st) f (.ref c) A outer s H E).nox (defBody st) t ∧ t { nx := fun _ H' => Q .non H', rt := Q } (start N vs) H) : FnOk P w K mg base CX0 (k + 1) f fd ps sp := by
  obtain ⟨oc, od, kV, doc, pm, an, ct, osl, rfl, lk, hcd⟩ := F.ex
  refine fn_of lk hcd S len fun A outer s H vs Q E hr hsp => ?_
  obtain ⟨t, h, q⟩ := hbody A outer s H vs Q E hr hsp
  exact ⟨t, h.nox, q⟩
theorem FunC.toFun {x qual : Str} {st : Stmt} {f c : Addr} {fd : FuncData} (F : FunC K x qual st f fd c) : Fun K x qual st f fd := by
  obtain ⟨oc, od, kV, doc, pm, an, ct, osl, e, lk, hcd⟩ := F.ex
  exact ⟨⟨oc, od, kV, doc, pm, an, _, ct, osl, e, lk, hcd⟩, F.kp⟩
theorem funC_mk {x qual : Str} {st : Stmt} {f c : Addr} {oc : Value} {od an : Option Addr} {osl : Array (Option Value)} {kV doc pm ct : Value} (l : K.lookup f = some ⟨oc, od, .func (PySem.W.fnOf x qual (defArgs st) (defBody st) (defScope st) .none kV doc pm an (.ref c) ct), osl⟩)
    (hc : PySem.W.codeIn K (.ref c) qual = true) (k : PySem.W.keepIn K (.ref f) = true) : FunC K x qual st f (PySem.W.fnOf x qual (defArgs st) (defBody st) (defScope st) .none kV doc pm an (.ref c) ct) c := ⟨⟨oc, od, kV, doc, pm, an, ct, osl, rfl, l, hc⟩, k⟩
end
/-! ### heaps that differ in the tables of the defs alone -/
/-- the tables at T may grow; nothing else has changed -/
def Tbs (T : List Addr) (H H' : Hp) : Prop := (∀ P ∈ T, TabG H' P) ∧ ∀ b, b ∉ T → H' b = H b
/-- .. what stood stands -/
def Kep (T : List Addr) (H H' : Hp) : Prop := (∀ P ∈ T, TabG H' P) ∧ ∀ b o, b ∉ T → H b = some o → H' b = some o
theorem Tbs.refl {T : List Addr} {H : Hp} (h : ∀ P ∈ T, TabG H P) : Tbs T H H := ⟨h, fun _ _ => rfl⟩
theorem Tbs.trans {T : List Addr} {H H1 H2 : Hp} (a : Tbs T H H1) (b : Tbs T H1 H2) : Tbs T H H2 := ⟨b.1, fun c hc => (b.2 c hc).trans (a.2 c hc)⟩
theorem Tbs.kep {T : List Addr} {H H' : Hp} (a : Tbs T H H') : Kep T H H' := ⟨a.1, fun b o hb e => (a.2 b hb).trans e⟩
theorem Kep.refl {T : List Addr} {H : Hp} (h : ∀ P ∈ T, TabG H P) : Kep T H H := ⟨h, fun _ _ _ e => e⟩
theorem Kep.trans {T : List Addr} {H H1 H2 : Hp} (a : Kep T H H1) (b : Kep T H1 H2) : Kep T H H2 := ⟨b.1, fun c o hc e => b.2 c o hc (a.2 c o hc e)⟩
theorem Tbs.of1 {T : List Addr} {H H' : Hp} {P : Addr} (h : ∀ p ∈ T, TabG H p) (hP : P ∈ T) (t : Tabbed P H H') : Tbs T H H' := by
  refine ⟨fun p hp => ?_, fun b hb => t.2 b fun z => hb (by rw [z]; exact hP)⟩
  by_cases e : p = P
  · rw [e]; exact t.1
  · obtain ⟨ps, h1, h2⟩ := h p hp
    exact ⟨ps, (t.2 p e).trans h1, h2⟩
/-- a tracked thing of another kind is no table -/
theorem not_tab {T : List Addr} {H : Hp} {b : Addr} {o : HO} (h : ∀ p ∈ T, TabG H p) (e : H b = some o) (n : ∀ ps, o ≠ .tbl ps) : b ∉ T := fun z => by
  obtain ⟨ps, h1, _⟩ := h b z
  rw [e] at h1
  exact n ps (Option.some.inj h1)
theorem free_tab {T : List Addr} {H : Hp} {b : Addr} (h : ∀ p ∈ T, TabG H p) (e : H b = none) : b ∉ T := fun z => by
  obtain ⟨ps, h1, _⟩ := h b z
  rw [e] at h1
  cases h1
theorem Kep.at {T : List Addr} {H H' : Hp} {b : Addr} {o : HO} (a : Kep T H H') (h : ∀ p ∈ T, TabG H p) (e : H b = some o) (n : ∀ ps, o ≠ .tbl ps) : H' b = some o := a.2 b o (not_tab h e n) e
/-- a new thing -/
theorem Kep.new {T : List Addr} {H : Hp} {p : Addr} {o : HO} (h : ∀ q ∈ T, TabG H q) (e : H p = none) : Kep T H (upd H p o) := by
  refine ⟨fun q hq => ?_, fun b u _ hb => ?_⟩
  · obtain ⟨ps, h1, h2⟩ := h q hq
    exact ⟨ps, (upd_ne (ne_of_none h1 e)).trans h1, h2⟩
  · exact (upd_ne (ne_of_none hb e)).trans hb
/-- a list that was not there at H may be written -/
theorem Kep.put {T : List Addr} {H H1 : Hp} {p : Addr} {o : HO} (a : Kep T H H1) (e : H p = none) (n : p ∉ T) : Kep T H (upd H1 p o) := by
  refine ⟨fun q hq => ?_, fun b u hb hu => ?_⟩
  · obtain ⟨ps, h1, h2⟩ := a.1 q hq
    exact ⟨ps, (upd_ne (fun z => n (by rw [← z]; exact hq))).trans h1, h2⟩
  · exact (upd_ne (ne_of_none hu e)).trans (a.2 b u hb hu)
theorem Kep.seqL {T : List Addr} {K : PySem.W.Frag} {H H' : Hp} {a : Addr} {xs : List V} (k : Kep T H H') (h : ∀ p ∈ T, TabG H p) (e : SqL K H a xs) : SqL K H' a xs := by
  rcases e with (e | ⟨o, e⟩) | e
  · exact .inl (.inl (k.at h e fun _ z => by cases z))
  · exact .inl (.inr ⟨o, k.at h e fun _ z => by cases z⟩)
  · exact .inr e
theorem Kep.seqT {T : List Addr} {K : PySem.W.Frag} {H H' : Hp} {a : Addr} {xs : List V} (k : Kep T H H') (h : ∀ p ∈ T, TabG H p) (e : SqT K H a xs) : SqT K H' a xs := by
  rcases e with (e | ⟨o, e⟩) | e
  · exact .inl (.inl (k.at h e fun _ z => by cases z))
  · exact .inl (.inr ⟨o, k.at h e fun _ z => by cases z⟩)
  · exact .inr e
theorem Kep.free {T : List Addr} {H H' : Hp} {b : Addr} (k : Kep T H H') (h : ∀ p ∈ T, TabG H p) (e : H' b = none) : H b = none := by
  cases q : H b with
  | none => rfl
  | some o =>
    by_cases hb : b ∈ T
    · obtain ⟨ps, h1, _⟩ := k.1 b hb
      rw [h1] at e; cases e
    · rw [k.2 b o hb q] at e; cases e
end Ov
namespace Ov
open PySem PySem.Spec PyProof.Rows L2 GxR
theorem one_lt (a b : Nat) : ([a] < [b]) ↔ a < b := by
  rw [List.cons_lt_cons_iff]
  constructor
  · rintro (h | ⟨_, h⟩)
    · exact h
    · exact absurd h (by simp)
  · exact .inl
/-! ### a generator's names, by a check -/
def genC (N : List Str) (sc scope : Scope) (x : Str) (cs : List Str) (pick : List Nat) : Bool :=
  (scope.kind == .function) && (scope.isCoroutine == false) && (scope.names.all fun y => y.2 != .cell) && (scope.names.lookup (".0" : Str) == some NameKind.local) && (scope.names.lookup x == some NameKind.local) &&
  (scope.names.all fun y => y.2 != .free || (sc.names.lookup y.1 == some NameKind.cell)) && (scope.names.all fun y => scope.names.lookup y.1 == some y.2) && decide ((x :: cs).Nodup) && (cs.length == pick.length) &&
  ((cs.zip pick).all fun p => (scope.names.lookup p.1 == some NameKind.free) && (sc.names.lookup p.1 == some NameKind.cell) && (N[p.2]? == some p.1))
theorem genN_by {X : Cx} {N : List Str} {sc scope : Scope} {x : Str} {cs : List Str} {pick : List Nat} (hN : X.N = N) (hs : X.env.scope = sc) (hc : ∀ y, sc.names.lookup y = some .cell → ∃ c, X.env.cells.lookup y = some c) (h : genC N sc scope x cs pick = true) : GenN X scope x cs pick := by
  unfold genC at h
  simp only [Bool.and_eq_true, beq_iff_eq, decide_eq_true_eq] at h
  obtain ⟨⟨⟨⟨⟨⟨⟨⟨⟨h1, h2⟩, h3⟩, h4⟩, h5⟩, h6⟩, h7⟩, h8⟩, h9⟩, h10⟩ := h
  refine ⟨⟨h1, h2, fun y hy e => ?_, h4, h5, fun y hy e => ?_⟩, fun y hy => ?_, h8, h9, fun i y hi => ?_⟩
  · have := List.all_eq_true.mp h3 y hy
    rw [e] at this
    exact absurd this (by decide)
  · have := List.all_eq_true.mp h6 y hy
    rw [e] at this
    simp only [bne_self_eq_false, Bool.false_or, beq_iff_eq] at this
    exact hc y.1 this
  · exact beq_iff_eq.mp (List.all_eq_true.mp h7 y hy)
  · obtain ⟨j, hj⟩ : ∃ j, pick[i]? = some j := by
      have : i < pick.length := by rw [← h9]; exact (List.getElem?_eq_some_iff.mp hi).1
      exact ⟨_, List.getElem?_eq_getElem this⟩
    have hz : (cs.zip pick)[i]? = some (y, j) := by
      rw [List.getElem?_zip_eq_some]
      exact ⟨hi, hj⟩
    have := List.all_eq_true.mp h10 (y, j) (List.mem_of_getElem? hz)
    simp only [Bool.and_eq_true, beq_iff_eq] at this
    obtain ⟨⟨q1, q2⟩, q3⟩ := this
    exact ⟨q1, .inl (by rw [hs]; exact q2), j, hj, by rw [hN]; exact q3⟩
end Ov

set_option Elab.async false
set_option linter.all false
set_option maxRecDepth 100000
set_option maxHeartbeats 4000000
/-! lists of texts as data -/
namespace Ov
open PySem PySem.Spec PyProof.Rows L2 GxR
def lowB (z : Str) : Bool := z.cps.toList.all fun c => decide (97 ≤ c) && decide (c ≤ 122)
/-- a list of strings as data -/
def dStrs (ws : List Str) : PyData := .list (ws.map PyData.str)
theorem lay_strs : ∀ (ws : List Str), (∀ z ∈ ws, PyData.strOk z = true) → PyData.canLayAll0 (ws.map PyData.str) = true
  | [], _ => by rw [List.map_nil]; rfl
  | z :: r, h => by
    rw [List.map_cons]
    show (PyData.strOk z && PyData.canLayAll0 (r.map PyData.str)) = true
    rw [h z List.mem_cons_self, lay_strs r fun y hy => h y (List.mem_cons_of_mem _ hy)]; rfl
theorem depth_strs : ∀ (ws : List Str), PyData.depthAll (ws.map PyData.str) ≤ 1
  | [] => by rw [List.map_nil]; decide
  | z :: r => by
    rw [List.map_cons]
    have h := depth_strs r
    show max (PyData.depth (.str z)) (PyData.depthAll (r.map PyData.str)) ≤ 1
    have : PyData.depth (.str z) ≤ 1 := by simp [PyData.depth]
    omega
theorem shaped_strs {ws : List Str} (h : ∀ z ∈ ws, PyData.strOk z = true) : SeqAt.shaped (dStrs ws) = true := by
  unfold SeqAt.shaped
  have e : PyData.canLay0 (dStrs ws) = true := lay_strs ws h
  rw [e, Bool.true_and]
  refine decide_eq_true ?_
  have := depth_strs ws
  show PyData.depthAll (ws.map PyData.str) + 1 ≤ 64
  omega
theorem dp_strs {K : PySem.W.Frag} {H : Hp} : ∀ (ws : List Str), DpAll K H (ws.map V.str) (ws.map PyData.str)
  | [] => .nil
  | z :: r => .cons (.str z) (dp_strs r)
theorem low_ok {z : Str} (h : lowB z = true) : PyData.strOk z = true := by
  unfold lowB at h
  unfold PyData.strOk
  rw [Array.all_eq_true]
  intro i hi
  have h2 := List.all_eq_true.mp h z.cps[i] (by simp)
  simp only [Bool.and_eq_true, decide_eq_true_eq] at h2 ⊢
  omega
theorem eqv_nil (ws : List Str) : PyData.eqv (dStrs ws) (.list []) = ws.isEmpty := by
  cases ws with
  | nil => rfl
  | cons z r => rfl
theorem show_strs : ∀ ws : List Str, PyData.showableAll (ws.map PyData.str) = true
  | [] => rfl
  | z :: r => by
    rw [List.map_cons]
    show (true && PyData.showableAll (r.map PyData.str)) = true
    rw [show_strs r]; rfl
theorem nodict_strs : ∀ ws : List Str, PyData.hasDictAll (ws.map PyData.str) = false
  | [] => rfl
  | z :: r => by
    rw [List.map_cons]
    show (false || PyData.hasDictAll (r.map PyData.str)) = false
    rw [nodict_strs r]; rfl
theorem weight_strs : ∀ ws : List Str, (∀ z ∈ ws, z.length ≤ 100) → PyData.weightAll (ws.map PyData.str) ≤ 101 * ws.length
  | [], _ => by rw [List.map_nil]; exact Nat.le_refl _
  | z :: r, h => by
    rw [List.map_cons]
    have h1 := weight_strs r fun y hy => h y (List.mem_cons_of_mem _ hy)
    have h2 : z.cps.size ≤ 100 := h z List.mem_cons_self
    show z.cps.size + 1 + PyData.weightAll (r.map PyData.str) ≤ 101 * (r.length + 1)
    omega
theorem low_lt {z : Str} (h : lowB z = true) : (z.cps.toList.all fun c => decide (c < 16 ^ 8)) = true := by
  unfold lowB at h
  refine List.all_eq_true.mpr fun c hc => decide_eq_true ?_
  have := List.all_eq_true.mp h c hc
  simp only [Bool.and_eq_true, decide_eq_true_eq] at this
  exact Nat.lt_of_le_of_lt this.2 (by decide)
theorem short_strs : ∀ ws : List Str, (∀ z ∈ ws, lowB z = true) → PyData.leavesShortAll 8 (ws.map PyData.str) = true
  | [], _ => rfl
  | z :: r, h => by
    rw [List.map_cons]
    show ((z.cps.toList.all fun c => decide (c < 16 ^ 8)) && PyData.leavesShortAll 8 (r.map PyData.str)) = true
    rw [low_lt (h z List.mem_cons_self), short_strs r fun y hy => h y (List.mem_cons_of_mem _ hy)]; rfl
theorem eqv_strs : ∀ ws : List Str, PyData.eqv (dStrs ws) (dStrs ws) = true
  | [] => rfl
  | z :: r => by
    have h := eqv_strs r
    show ((z == z) && PyData.eqv (dStrs r) (dStrs r)) = true
    rw [h]; simp
end Ov

set_option Elab.async false
set_option linter.all false
set_option maxRecDepth 100000
set_option maxHeartbeats 4000000
namespace Ov
open PySem PySem.Spec PyProof.Rows L2 GxR
theorem iteT' {b : Bool} {A B : Prop} (e : b = true) (h : A) : if b = true then A else B := by rw [if_pos e]; exact h
theorem iteF' {b : Bool} {A B : Prop} (e : b = false) (h : B) : if b = true then A else B := by rw [if_neg (by rw [e]; decide)]; exact h
def top (i : Nat) : Stmt := PySem.Challenge.pw_overstamps_k83_codes_of_parts.main.body.getD i (.Pass ⟨0, 0, 0, 0⟩)
abbrev sLow : Stmt := top 17
abbrev sText : Stmt := top 18
abbrev sAre : Stmt := top 20
abbrev sInit : Stmt := inClass (top 22) 1
abbrev sOf : Stmt := inClass (top 22) 2
abbrev sTape : Stmt := top 30
abbrev sNext : Stmt := top 31
/-! ### what the top has left -/
structure Txt (K : PySem.W.Frag) (mg : Str → Option Value) (C fLow fText fAre fTape fNext fInks : Addr) : Prop where
  all : mg "all" = none
  len : mg "len" = none
  isi : mg "isinstance" = none
  str : mg "str" = none
  lst : mg "list" = none
  set : mg "set" = none
  abs : mg "abs" = none
  max : mg "max" = none
  min : mg "min" = none
  rng : mg "range" = none
  gTape : mg "_law_vat" = some (.ref fTape)
  kTape : PySem.W.keepIn K (.ref fTape) = true
  gNext : mg "_law_sip" = some (.ref fNext)
  kNext : PySem.W.keepIn K (.ref fNext) = true
  gLow : mg "is_lowercase" = some (.ref fLow)
  kLow : PySem.W.keepIn K (.ref fLow) = true
  gText : mg "is_text" = some (.ref fText)
  kText : PySem.W.keepIn K (.ref fText) = true
  gAre : mg "are_stamps" = some (.ref fAre)
  kAre : PySem.W.keepIn K (.ref fAre) = true
  gC : mg "Stamps" = some (.ref C)
  widest : ∃ t, mg "WIDEST" = some (.int 8 t)
  letters : ∃ t, mg "MOST_LETTERS" = some (.int 36 t)
  rd : ClX.CRead K C (.type "type")
  most : ∃ t, ClX.CVal K C (.type "type") "MOST" (.int 6) (.int 6 t)
/-- where the tables stand -/
structure Tab (base : Heap) (mg : Str → Option Value) (T : List Addr) (cLow PLow cAre PAre : Addr) : Prop where
  low : TabB base mg cLow PLow
  are : TabB base mg cAre PAre
  lowT : PLow ∈ T
  areT : PAre ∈ T
section
variable {P : Program} {w : World} {K : PySem.W.Frag} {mg : Str → Option Value} {base : Heap} {T : List Addr} {C fLow fText fAre fTape fNext fInks cLow PLow cAre PAre : Addr}
/-! ### is_lowercase -/
def spLow (T : List Addr) : Sp := fun vs H Q _ => ∃ z : Str, vs = [.str z] ∧ (∀ p ∈ T, TabG H p) ∧ ∀ H2, Tbs T H H2 → Q (.bl (lowB z)) H2
theorem scLow : FnScope ["text"] ["text"] (defScope sLow) := ⟨rfl, rfl, rfl, by decide +kernel, rfl, by decide +kernel, by decide +kernel⟩
theorem sign_le (c : Nat) : (!decide (([c] : List Nat) < ("a" : Str).cps.toList)) = decide (97 ≤ c) := by
  have e : ("a" : Str).cps.toList = [97] := by rfl
  rw [e]
  have h := one_lt c 97
  by_cases q : 97 ≤ c
  · have : ¬ ([c] < [97]) := fun z => by have := h.mp z; omega
    simp [q, this]
  · have : [c] < [97] := h.mpr (by omega)
    simp [q, this]
theorem sign_ge (c : Nat) : (!decide (("z" : Str).cps.toList < ([c] : List Nat))) = decide (c ≤ 122) := by
  have e : ("z" : Str).cps.toList = [122] := by rfl
  rw [e]
  have h := one_lt 122 c
  by_cases q : c ≤ 122
  · have : ¬ ([122] < [c]) := fun z => by have := h.mp z; omega
    simp [q, this]
  · have : [122] < [c] := h.mpr (by omega)
    simp [q, this]
theorem ok_low {f : Addr} {fd : FuncData} (F : FunC K "is_lowercase" "is_lowercase" sLow f fd cLow) (X : Txt K mg C fLow fText fAre fTape fNext fInks) (B : Tab base mg T cLow PLow cAre PAre) : FnOk P w K mg base CX0 2 f fd ["text"] (spLow T) := by
  refine F.ok scLow (fun vs H Q E h => ?_) (fun A outer s H vs Q E hr h => ?_)
  · obtain ⟨z, rfl, _⟩ := h
    rfl
  · obtain ⟨z, rfl, hT, k⟩ := h
    refine ⟨_, pss_one (ps_ret (pe_allG (k := 0) (cs := []) (pick := []) rfl hr (by rfl) X.all (by decide +kernel) B.low rfl (genN_by (sc := defScope sLow) (N := ["text"]) rfl rfl (fun y h => cell_has h) (by decide +kernel))
      (pi_str (pv 0)) (fun s H code C A fp pn hr => pe_chain op_le_str op_le_str pe_str (pv 0) pe_str))), ?_⟩
    refine ⟨_, rfl, z, rfl, hT _ B.lowT, fun H2 h2 => ?_⟩
    refine all_str (fun c => decide (97 ≤ c) && decide (c ≤ 122)) (fun c R hR => ?_) (k _ (Tbs.of1 hT B.lowT h2))
    refine ⟨_, rfl, _, _, rfl, rfl, _, rfl, ?_⟩
    have e1 := sign_le c
    have e2 := sign_ge c
    by_cases h1 : 97 ≤ c
    · refine iteT' (by rw [e1]; simpa using h1) ?_
      refine ⟨_, _, rfl, rfl, ?_⟩
      rw [e2]
      simpa [h1] using hR
    · refine iteF' (by rw [e1]; simpa using h1) ?_
      simpa [h1] using hR
/-! ### is_text -/
def textB (z : Str) (m : Int) : Bool := decide (1 ≤ (z.length : Int)) && decide ((z.length : Int) ≤ m) && lowB z
def spText (K : PySem.W.Frag) (T : List Addr) : Sp := fun vs H Q _ => ∃ (x : V) (m : Int), vs = [x, .int m] ∧ (∀ p ∈ T, TabG H p) ∧
  ((∃ z : Str, x = .str z ∧ z.length ≤ sizeLine ∧ ∀ H2, Tbs T H H2 → Q (.bl (textB z m)) H2) ∨ (∃ t, TyX K H x t ∧ PySem.W.kitOne K t (.type "str") = some false ∧ Q (.bl false) H))
theorem scText : FnScope ["thing", "most"] ["thing", "most"] (defScope sText) := ⟨rfl, rfl, rfl, by decide +kernel, rfl, by decide +kernel, by decide +kernel⟩
theorem ok_text {f : Addr} {fd fdL : FuncData} (F : L2.Fun K "is_text" "is_text" sText f fd) (FL : FunC K "is_lowercase" "is_lowercase" sLow fLow fdL cLow) (X : Txt K mg C fLow fText fAre fTape fNext fInks) (B : Tab base mg T cLow PLow cAre PAre) : FnOk P w K mg base CX0 3 f fd ["thing", "most"] (spText K T) := by
  refine F.ok scText (fun vs H Q E h => ?_) (fun cdv A outer s H vs Q E hr h => ?_)
  · obtain ⟨x, m, rfl, _⟩ := h
    rfl
  · obtain ⟨x, m, rfl, hT, k⟩ := h
    refine ⟨_, pss_one (ps_ret (pe_and (pe_callB call_isi (by rfl) X.isi boot_isinstance (pa_cons (pv 0) (pa_cons (pe_bltn (v := .ty "str") (by rfl) X.str PySem.Pv.boot_str rfl) pa_nil)))
      (pe_and (pe_chain op_le op_le pe_int (pe_callB call_len_str (by rfl) X.len boot_len (pa_cons (pv 0) pa_nil)) (pv 1))
        (pe_one (pe_call (ok_low FL X B) hr (by rfl) X.gLow X.kLow (FL.toFun.binds fun _ _ _ _ _ _ us hl => match us, hl with | [_], _ => rfl) .nil L2.pass0 (pa_cons (pv 0) pa_nil)))))), ?_⟩
    rcases k with ⟨z, rfl, hz, k⟩ | ⟨t, ht, hk, k⟩
    · refine ⟨_, rfl, _, _, _, _, _, rfl, .ty _, .base (.str _), kit_ty (r := true) (by decide +kernel), true, rfl, ?_⟩
      refine iteT ?_
      refine ⟨_, rfl, z, rfl, hz, _, _, rfl, rfl, _, rfl, ?_⟩
      by_cases h1 : 1 ≤ (z.length : Int)
      · refine iteT' (by simpa using h1) ?_
        refine ⟨_, rfl, _, _, rfl, rfl, _, rfl, ?_⟩
        by_cases h2 : (z.length : Int) ≤ m
        · refine iteT' (by simpa using h2) ?_
          refine ⟨_, rfl, z, rfl, hT, fun H2 q => ?_⟩
          have := k H2 q
          unfold textB at this
          simpa [h1, h2] using this
        · refine iteF' (by simpa using h2) ?_
          have := k H (.refl hT)
          unfold textB at this
          simpa [h1, h2] using this
      · refine iteF' (by simpa using h1) ?_
        refine ⟨_, rfl, ?_⟩
        refine iteF ?_
        have := k H (.refl hT)
        unfold textB at this
        simpa [h1] using this
    · refine ⟨_, rfl, _, _, _, _, _, rfl, .ty _, ht, hk, false, rfl, ?_⟩
      exact iteF k
/-! ### are_stamps -/
def isTextV : V → Bool
  | .str z => textB z 8
  | _ => false
def strV : V → Str
  | .str z => z
  | _ => Str.empty
/-- the words, once each of them is a text -/
def tailB (ws : List Str) : Bool := ws.all (fun z => decide (z.length = (ws.headD Str.empty).length)) && (decide ((once ws).length = ws.length) && decide ((ws.headD Str.empty).length * ws.length ≤ 36))
def stampsV (xs : List V) : Bool := decide (1 ≤ xs.length) && (decide (xs.length ≤ 6) && (xs.all isTextV && tailB (xs.map strV)))
theorem isTextV_str {x : V} (h : isTextV x = true) : x = .str (strV x) ∧ (strV x).length ≤ 8 := by
  cases x with
  | str z =>
    refine ⟨rfl, ?_⟩
    unfold isTextV textB at h
    simp only [Bool.and_eq_true, decide_eq_true_eq] at h
    show z.length ≤ 8
    omega
  | _ => cases h
theorem all_str_eq {xs : List V} (h : xs.all isTextV = true) : xs = (xs.map strV).map V.str ∧ ∀ z ∈ xs.map strV, z.length ≤ 8 := by
  rw [List.all_eq_true] at h
  refine ⟨?_, fun z hz => ?_⟩
  · rw [List.map_map]
    conv => lhs; rw [← List.map_id xs]
    exact List.map_congr_left fun x hx => (isTextV_str (h x hx)).1
  · obtain ⟨x, hx, rfl⟩ := List.mem_map.mp hz
    exact (isTextV_str (h x hx)).2
def spAre (K : PySem.W.Frag) (T : List Addr) : Sp := fun vs H Q _ => ∃ (a : Addr) (xs : List V), vs = [.ref a] ∧ (∀ p ∈ T, TabG H p) ∧ SqT K H a xs ∧ xs.length ≤ 4000 ∧
  (∀ x ∈ xs, (∃ z : Str, x = .str z ∧ z.length ≤ sizeLine) ∨ (isTextV x = false ∧ ∃ t, PySem.W.kitOne K t (.type "str") = some false ∧ ∀ H2, Tbs T H H2 → TyX K H2 x t)) ∧ ∀ H2, Tbs T H H2 → Q (.bl (stampsV xs)) H2
theorem scAre : FnScope ["words", "width"] ["words"] (defScope sAre) := ⟨rfl, rfl, rfl, by decide +kernel, rfl, by decide +kernel, by decide +kernel⟩
theorem ok_are {f : Addr} {fd fdT fdL : FuncData} (F : FunC K "are_stamps" "are_stamps" sAre f fd cAre) (FT : L2.Fun K "is_text" "is_text" sText fText fdT) (FL : FunC K "is_lowercase" "is_lowercase" sLow fLow fdL cLow) (X : Txt K mg C fLow fText fAre fTape fNext fInks) (B : Tab base mg T cLow PLow cAre PAre) : FnOk P w K mg base CX0 5 f fd ["words"] (spAre K T) := by
  refine F.ok scAre (fun vs H Q E h => ?_) (fun A outer s H vs Q E hr h => ?_)
  · obtain ⟨a, xs, rfl, _⟩ := h
    rfl
  · obtain ⟨a, xs, rfl, hT, hs, hn, hx, k⟩ := h
    obtain ⟨t8, g8⟩ := X.widest
    obtain ⟨t36, g36⟩ := X.letters
    refine ⟨_, pss_cons (ps_if (pt_not (pt_chain op_le op_le pe_int (pe_callB call_len_seq (by rfl) X.len boot_len (pa_cons (pv 0) pa_nil)) (ClX.pe_cval (pe_glob (v := .ref C) (by rfl) X.gC rfl)))) (pss_one (ps_ret pe_bl)) pss_nil)
      (pss_cons (ps_if (pt_not (pt_val (pe_allG (k := 3) (cs := []) (pick := []) rfl hr (by rfl) X.all (by decide +kernel) B.are rfl (genN_by (sc := defScope sAre) (N := ["words", "width"]) rfl rfl (fun y h => cell_has h) (by decide +kernel))
        (pi_tup (pv 0)) (fun s H code C A fp pn hr => pe_call (ok_text FT FL X B) hr (by rfl) X.gText X.kText (FT.binds fun _ _ _ _ _ _ us hl => match us, hl with | [_, _], _ => rfl) .nil L2.pass0 (pa_cons (pv 0) (pa_cons (pe_glob (v := .int 8) (by rfl) g8 ⟨_, rfl⟩) pa_nil)))))) (pss_one (ps_ret pe_bl)) pss_nil)
      (pss_cons (ps_set (i := 1) scAre.nd rfl (.inr rfl) (pe_callB call_len_str (by rfl) X.len boot_len (pa_cons (pe_ix ix_seq (pv 0) pe_int fun _ _ => rfl) pa_nil)))
      (pss_cons (ps_if (pt_not (pt_val (pe_allG (k := 3) (cs := ["width"]) (pick := [1]) rfl hr (by rfl) X.all (by decide +kernel) B.are rfl (genN_by (sc := defScope sAre) (N := ["words", "width"]) rfl rfl (fun y h => cell_has h) (by decide +kernel))
        (pi_tup (pv 0)) (fun s H code C A fp pn hr => pe_cmpR op_eq (pe_callB call_len_str (by rfl) X.len boot_len (pa_cons (pv 0) pa_nil)) (pv 1) (by rfl))))) (pss_one (ps_ret pe_bl)) pss_nil)
      (pss_one (ps_ret (pe_and (pe_cmpR op_eq (pe_lenOnce rfl (by rfl) X.len (by rfl) X.set (pv 0)) (pe_callB call_len_seq (by rfl) X.len boot_len (pa_cons (pv 0) pa_nil)) (by rfl))
        (pe_one (pe_cmpR op_le (pe_op op_mul (pv 1) (pe_callB call_len_seq (by rfl) X.len boot_len (pa_cons (pv 0) pa_nil))) (pe_glob (v := .int 36) (by rfl) g36 ⟨_, rfl⟩) (by rfl))))))))), ?_⟩
    obtain ⟨tm, hm⟩ := X.most
    refine ⟨_, rfl, a, xs, rfl, .inr hs, _, _, rfl, rfl, _, rfl, ?_⟩
    by_cases h1 : 1 ≤ xs.length
    case neg =>
      refine iteF' (by simp; omega) ⟨_, rfl, iteT ?_⟩
      have := k H (.refl hT)
      unfold stampsV at this
      rw [decide_eq_false h1, Bool.false_and] at this
      exact this
    refine iteT' (by simp; omega) ⟨C, _, _, _, rfl, X.rd, hm, _, _, rfl, rfl, _, rfl, ?_⟩
    by_cases h2 : xs.length ≤ 6
    case neg =>
      refine iteT' (by simp; omega) ?_
      have := k H (.refl hT)
      unfold stampsV at this
      rw [decide_eq_false h2, Bool.false_and, Bool.and_false] at this
      exact this
    refine iteF' (by simp; omega) ?_
    refine ⟨_, rfl, a, rfl, ⟨xs, hs⟩, hT _ B.areT, fun H2 h2' => ?_⟩
    refine all_tup isTextV (Tbs T H) (Tbs.of1 hT B.areT h2') (fun H1 q => q.kep.seqT hT hs) (fun x hxm H1 q R hR => ?_) (fun H1 q => ?_)
    · refine ⟨x, rfl, x, 8, rfl, q.1, ?_⟩
      rcases hx x hxm with ⟨z, rfl, hz⟩ | ⟨hf, t, hk, ht⟩
      · exact .inl ⟨z, rfl, hz, fun H3 q3 => hR H3 (q.trans q3)⟩
      · refine .inr ⟨t, ht H1 q, hk, ?_⟩
        rw [hf] at hR
        exact hR H1 q
    refine ⟨_, rfl, ?_⟩
    cases hall : xs.all isTextV with
    | false =>
      refine iteT ?_
      have := k H1 q
      unfold stampsV at this
      rw [hall, Bool.false_and, Bool.and_false, Bool.and_false] at this
      exact this
    | true =>
    refine iteF ?_
    obtain ⟨hws, hle⟩ := all_str_eq hall
    generalize hw : xs.map strV = ws at hws hle
    have hl : ws.length = xs.length := by rw [← hw, List.length_map]
    have hb : stampsV xs = tailB ws := by
      unfold stampsV
      rw [decide_eq_true h1, decide_eq_true h2, hall, hw]; rfl
    rw [hb] at k
    subst hws
    clear hall hb hx
    obtain ⟨z0, zs, rfl⟩ : ∃ z0 zs, ws = z0 :: zs := by
      cases ws with
      | nil => simp at h1
      | cons z0 zs => exact ⟨z0, zs, rfl⟩
    have hz0 : z0.length ≤ 8 := hle z0 List.mem_cons_self
    have hs1 : SqT K H1 a ((z0 :: zs).map V.str) := q.kep.seqT hT hs
    have h8 : (8 : Nat) ≤ sizeLine := by decide
    have hsz : ∀ z ∈ z0 :: zs, z.length ≤ sizeLine := fun z hz => Nat.le_trans (hle z hz) h8
    refine ⟨_, rfl, .inr (.inl ⟨a, _, 0, .str z0, rfl, rfl, hs1, by simp [atI, ixN], z0, rfl, hsz z0 List.mem_cons_self, ?_⟩)⟩
    refine ⟨_, rfl, a, rfl, ⟨_, hs1⟩, q.1 _ B.areT, fun H3 h3 => ?_⟩
    refine all_tup (fun x => decide ((strV x).length = z0.length)) (Tbs T H) (q.trans (Tbs.of1 q.1 B.areT h3)) (fun H1 q => q.kep.seqT hT hs) (fun x hxm H1 q R hR => ?_) (fun H4 q4 => ?_)
    · obtain ⟨z, hz, rfl⟩ := List.mem_map.mp hxm
      refine ⟨_, rfl, z, rfl, hsz z hz, _, rfl, rfl, ?_⟩
      have := hR H1 q
      have e : decide (V.int (z.length : Nat) = V.int (z0.length : Nat)) = decide ((strV (V.str z)).length = z0.length) := by
        show _ = decide (z.length = z0.length)
        rw [Bool.eq_iff_iff]
        simp
        omega
      rw [← e] at this
      exact this
    refine ⟨_, rfl, ?_⟩
    have e1 : ((z0 :: zs).map V.str).all (fun x => decide ((strV x).length = z0.length)) = (z0 :: zs).all (fun z => decide (z.length = z0.length)) := by
      rw [List.all_map]; rfl
    have hs4 : SqT K H4 a ((z0 :: zs).map V.str) := q4.kep.seqT hT hs
    have k4 : Q (.bl ((z0 :: zs).all (fun z => decide (z.length = z0.length)) && (decide ((once (z0 :: zs)).length = (z0 :: zs).length) && decide (z0.length * (z0 :: zs).length ≤ 36)))) H4 := k H4 q4
    rw [e1]
    cases hal : (z0 :: zs).all (fun z => decide (z.length = z0.length)) with
    | false =>
      refine iteT ?_
      rw [hal, Bool.false_and] at k4
      exact k4
    | true =>
      rw [hal, Bool.true_and] at k4
      refine iteF ?_
      have hln : ((z0 :: zs).map V.str).length = (z0 :: zs).length := List.length_map ..
      refine ⟨_, rfl, a, z0 :: zs, rfl, hs4, by rw [← hln]; exact hn, _, rfl, a, _, rfl, .inr hs4, rfl, _, rfl, ?_⟩
      have e2 : decide (V.int ((once (z0 :: zs)).length : Nat) = V.int (((z0 :: zs).map V.str).length : Nat)) = decide ((once (z0 :: zs)).length = (z0 :: zs).length) := by
        rw [hln, Bool.eq_iff_iff]
        simp
        omega
      rw [e2]
      by_cases h5 : (once (z0 :: zs)).length = (z0 :: zs).length
      case neg =>
        refine iteF' (decide_eq_false h5) ?_
        rw [decide_eq_false h5, Bool.false_and] at k4
        exact k4
      refine iteT' (decide_eq_true h5) ?_
      rw [decide_eq_true h5, Bool.true_and] at k4
      refine ⟨_, rfl, _, rfl, a, _, rfl, .inr hs4, _, _, rfl, rfl, .inl ⟨by omega, by omega⟩, _, _, rfl, rfl, ?_⟩
      have e3 : decide ((z0.length : Int) * (((z0 :: zs).map V.str).length : Nat) ≤ 36) = decide (z0.length * (z0 :: zs).length ≤ 36) := by
        rw [hln, Bool.eq_iff_iff]
        simp only [decide_eq_true_eq]
        constructor <;> intro h
        · exact_mod_cast h
        · exact_mod_cast h
      rw [← e3] at k4
      exact k4
end
/-! ### Stamps -/
structure ErrC (K : PySem.W.Frag) (mg : Str → Option Value) (x : Str) (D : Addr) : Prop where
  e : PySem.W.excIn K D [.type "ValueError", .type "Exception", .type "BaseException", .type "object"] "ValueError.__new__" = true
  g : mg x = some (.ref D)
  k : PySem.W.keepIn K (.ref D) = true
  b : PySem.W.subIn K (.ref D) (.type "BaseException") = some true
  t : PySem.W.typeIn K (.ref D) = some (.type "type")
/-- what stood stands, but for the tables and the object at a -/
def KepX (T : List Addr) (a : Addr) (H H' : Hp) : Prop := (∀ P ∈ T, TabG H' P) ∧ ∀ b o, b ∉ T → b ≠ a → H b = some o → H' b = some o
/-- an object of the program: a text, or something else -/
def Wd (K : PySem.W.Frag) (T : List Addr) (H : Hp) (x : V) : Prop := (∃ z : Str, x = .str z ∧ z.length ≤ sizeLine) ∨ (isTextV x = false ∧ ∃ t, PySem.W.kitOne K t (.type "str") = some false ∧ ∀ H2, Kep T H H2 → TyX K H2 x t)
/-- stamps stand at a: their list at l -/
def Stp (H : Hp) (C a l dx : Addr) (xs : List V) : Prop := H a = some (.ins C dx [("_words", .ref l)]) ∧ H l = some (.lst xs)
def spInit (K : PySem.W.Frag) (T : List Addr) (C D : Addr) : Sp := fun vs H Q E => ∃ (a dx : Addr) (xs : List V), vs = V.ref a :: xs ∧ H a = some (.ins C dx []) ∧ (∀ p ∈ T, TabG H p) ∧ xs.length ≤ 4000 ∧ (∀ x ∈ xs, Wd K T H x) ∧
  (stampsV xs = true → ∀ H3 l, H l = none → l ∉ T → l ≠ a → Stp H3 C a l dx xs → KepX T a H H3 → Q .non H3) ∧ (stampsV xs = false → ∀ H3, Kep T H H3 → E (.ref D) none H3)
theorem scInit : FnScope ["self", "words"] ((["self"] : List Str) ++ (["words"] : List Str)) (defScope sInit) := ⟨rfl, rfl, rfl, by decide +kernel, rfl, by decide +kernel, by decide +kernel⟩
structure Own (K : PySem.W.Frag) (C : Addr) : Prop where
  cls : Cls K C
  noW : NoAttr K C "_words"
section
variable {P : Program} {w : World} {K : PySem.W.Frag} {mg : Str → Option Value} {base : Heap} {T : List Addr} {C D fLow fText fAre fTape fNext fInks fInit cLow PLow cAre PAre : Addr}
theorem Kep.ty {H H1 H2 : Hp} (h : Kep T H H1) (h2 : Tbs T H1 H2) : Kep T H H2 := h.trans h2.kep
theorem ok_init {fd fdA fdT fdL : FuncData} (F : L2.Fun K "__init__" "Stamps.__init__" sInit fInit fd) (FA : FunC K "are_stamps" "are_stamps" sAre fAre fdA cAre) (FT : L2.Fun K "is_text" "is_text" sText fText fdT) (FL : FunC K "is_lowercase" "is_lowercase" sLow fLow fdL cLow) (X : Txt K mg C fLow fText fAre fTape fNext fInks) (B : Tab base mg T cLow PLow cAre PAre) (O : Own K C) (Er : ErrC K mg "InvalidStamps" D) :
    FnR P w K mg base (L2.CX P w) 6 fInit (spInit K T C D) := by
  obtain ⟨oc, od, kV, doc, pm, an, cdv, ct, osl, rfl, lk, hcd⟩ := F.ex
  have R := StX.fn_star (CX := L2.CX P w) (P := P) (w := w) (mg := mg) (base := base) (ps := ["self"]) (pv := "words") (N := ["self", "words"]) (k := 5)
    (sp := fun vs H Q E => ∃ (a p dx : Addr) (xs : List V), vs = [.ref a, .ref p] ∧ H p = some (.tup xs) ∧ H a = some (.ins C dx []) ∧ p ∉ T ∧ (∀ p ∈ T, TabG H p) ∧ xs.length ≤ 4000 ∧ (∀ x ∈ xs, Wd K T H x) ∧
      (stampsV xs = true → ∀ H3 l, H l = none → l ∉ T → l ≠ a → Stp H3 C a l dx xs → KepX T a H H3 → Q .non H3) ∧ (stampsV xs = false → ∀ H3, Kep T H H3 → E (.ref D) none H3))
    lk hcd scInit StX.cxUp (StX.bind_star1 (B := fun us => bindArgs _ ⟨us, []⟩) (fun _ => rfl) (fun _ _ _ => rfl)) (fun A outer s H vs Q E hr h => ?_)
  · intro A outer s H us vs Q E hr e0 r h
    refine R A outer s H us vs Q E hr e0 r ?_
    obtain ⟨a, dx, xs, rfl, ha, hT, hn, hx, k1, k2⟩ := h
    have hz : xs.length ≤ sizeLine := Nat.le_trans hn (by decide)
    refine ⟨[.ref a], xs, rfl, rfl, hz, fun p hp => ?_⟩
    have hpT : p ∉ T := free_tab hT hp
    have kn : Kep T H (upd H p (.tup xs)) := Kep.new hT hp
    have hpa : a ≠ p := ne_of_none ha hp
    refine ⟨a, p, dx, xs, rfl, upd_same, (upd_ne hpa).trans ha, hpT, kn.1, hn, fun x hx' => ?_, fun hv H3 l hl hlT hla st kx => ?_, fun hv H3 k => k2 hv H3 (kn.trans k)⟩
    · rcases hx x hx' with z | ⟨z1, t, z2, z3⟩
      · exact .inl z
      · exact .inr ⟨z1, t, z2, fun H2 q => z3 H2 (kn.trans q)⟩
    · have hl' : H l = none := kn.free hT hl
      exact k1 hv H3 l hl' hlT hla st ⟨kx.1, fun b o hb hba e => kx.2 b o hb hba (kn.2 b o hb e)⟩
  · obtain ⟨a, p, dx, xs, rfl, hp, ha, hpT, hT, hn, hx, k1, k2⟩ := h
    refine ⟨_, pss_cons (ps_if (pt_not (pt_val (pe_call (ok_are FA FT FL X B) hr (by rfl) X.gAre X.kAre (FA.toFun.binds fun _ _ _ _ _ _ us hl => match us, hl with | [_], _ => rfl) .nil L2.pass0 (pa_cons (pv 1) pa_nil))))
      (pss_one (ps_raise rfl (takes_of rfl rfl rfl rfl) (pmk_own PySem.F.excBase_ValueError Er.e Er.g Er.k (raises_own Er.b Er.t) (by rfl)))) pss_nil)
      (pss_one (ps_fld (pv 0) (pe_callTy call_list_of (by rfl) X.lst (by decide +kernel) (pa_cons (pv 1) pa_nil)) (by rfl))), ?_⟩
    refine ⟨_, rfl, p, xs, rfl, hT, .inl (.inl hp), hn, fun x hx' => ?_, fun H2 h2 => ⟨_, rfl, ?_⟩⟩
    · rcases hx x hx' with z | ⟨z1, t, z2, z3⟩
      · exact .inl z
      · exact .inr ⟨z1, t, z2, fun H2 q => z3 H2 q.kep⟩
    have hp2 : H2 p = some (.tup xs) := h2.kep.at hT hp fun _ z => by cases z
    have ha2 : H2 a = some (.ins C dx []) := h2.kep.at hT ha fun _ z => by cases z
    cases hv : stampsV xs with
    | false => exact iteT (k2 hv H2 h2.kep)
    | true =>
      refine iteF ?_
      refine ⟨_, rfl, p, xs, rfl, .inr (.inl (.inl hp2)), fun l hl => ⟨_, rfl, a, C, dx, [], rfl, ?_, O.cls, O.noW, by decide, ?_⟩⟩
      · exact (upd_ne (ne_of_none ha2 hl)).trans ha2
      · have hla : l ≠ a := fun z => by rw [z, ha2] at hl; cases hl
        have hlT : l ∉ T := free_tab h2.1 hl
        have haT : a ∉ T := not_tab hT ha fun _ z => by cases z
        refine k1 hv _ l (h2.kep.free hT hl) hlT hla ⟨upd_same, (upd_ne hla).trans upd_same⟩ ⟨fun q hq => ?_, fun b o hb hba e => ?_⟩
        · obtain ⟨ps, h1, h2'⟩ := h2.1 q hq
          exact ⟨ps, (upd_ne (show q ≠ a from fun z => haT (z ▸ hq))).trans ((upd_ne (show q ≠ l from fun z => hlT (z ▸ hq))).trans h1), h2'⟩
        · have e2 := h2.kep.2 b o hb e
          exact (upd_ne hba).trans ((upd_ne (ne_of_none e2 hl)).trans e2)
theorem KepX.kep {H H1 H3 : Hp} {a : Addr} (k : Kep T H H1) (ha : H a = none) (x : KepX T a H1 H3) : Kep T H H3 := ⟨x.1, fun b o hb e => x.2 b o hb (ne_of_none e ha) (k.2 b o hb e)⟩
theorem Wd.kep {H H1 : Hp} {x : V} (k : Kep T H H1) (h : Wd K T H x) : Wd K T H1 x := by
  rcases h with z | ⟨z1, t, z2, z3⟩
  · exact .inl z
  · exact .inr ⟨z1, t, z2, fun H2 q => z3 H2 (k.trans q)⟩
/-- a new object with its dict -/
theorem Kep.made {H : Hp} {x dx C : Addr} (hT : ∀ p ∈ T, TabG H p) (hx : H x = none) (hdx : H dx = none) (hne : dx ≠ x) : Kep T H (upd (upd H dx (.own x)) x (.ins C dx [])) :=
  (Kep.new hT hdx).trans (Kep.new (Kep.new hT hdx).1 ((upd_ne hne.symm).trans hx))
/-- C(*xs) for stamps: what it asks -/
def Makes (K : PySem.W.Frag) (T : List Addr) (C D : Addr) (H : Hp) (xs : List V) (Q : VK) (E : XK) : Prop := (∀ p ∈ T, TabG H p) ∧ xs.length ≤ 4000 ∧ (∀ x ∈ xs, Wd K T H x) ∧
  (stampsV xs = true → ∀ H3 a l dx, H a = none → H l = none → H dx = none → a ∉ T → l ∉ T → Stp H3 C a l dx xs → Kep T H H3 → Q (.ref a) H3) ∧ (stampsV xs = false → ∀ H3, Kep T H H3 → E (.ref D) none H3)
theorem Makes.init {H : Hp} {xs : List V} {Q : VK} {E : XK} (m : Makes K T C D H xs Q E) {x dx : Addr} (hx : H x = none) (hdx : H dx = none) (hne : dx ≠ x) :
    spInit K T C D (V.ref x :: xs) (upd (upd H dx (.own x)) x (.ins C dx [])) (fun v H2 => v = .non ∧ Q (.ref x) H2) E := by
  obtain ⟨hT, hn, hw, k1, k2⟩ := m
  have kn : Kep T H (upd (upd H dx (.own x)) x (.ins C dx [])) := Kep.made hT hx hdx hne
  exact ⟨x, dx, xs, rfl, upd_same, kn.1, hn, fun y hy => (hw y hy).kep kn, fun hv H3 l hl hlT hla st kx => ⟨rfl, k1 hv H3 x l dx hx (kn.free hT hl) hdx (free_tab hT hx) hlT st (KepX.kep kn hx kx)⟩, fun hv H3 k => k2 hv H3 (kn.trans k)⟩
def spOf (K : PySem.W.Frag) (T : List Addr) (C D : Addr) : Sp := fun vs H Q E => ∃ y, vs = [V.ref C, y] ∧
  ((∃ p xs, y = V.ref p ∧ H p = some (.lst xs) ∧ Makes K T C D H xs Q E) ∨ (∃ t, TyX K H y t ∧ PySem.W.kitOne K t (.type "list") = some false ∧ E (.ref D) none H))
theorem scOf : FnScope ["cls", "words"] ["cls", "words"] (defScope sOf) := ⟨rfl, rfl, rfl, by decide +kernel, rfl, by decide +kernel, by decide +kernel⟩
theorem ok_of {f : Addr} {fd : FuncData} (F : L2.Fun K "of" "Stamps.of" sOf f fd) (FI : FnR P w K mg base (L2.CX P w) 6 fInit (spInit K T C D)) (M : Mk K C fInit) (X : Txt K mg C fLow fText fAre fTape fNext fInks) (Er : ErrC K mg "InvalidStamps" D) :
    FnOk P w K mg base (L2.CX P w) 8 f fd ["cls", "words"] (spOf K T C D) := by
  refine F.okX scOf (fun vs H Q E h => ?_) (fun cdv A outer s H vs Q E hr h => ?_)
  · obtain ⟨y, rfl, _⟩ := h
    rfl
  · obtain ⟨y, rfl, h⟩ := h
    refine ⟨_, pss_cons (ps_if (pt_not (pt_val (pe_callB call_isi (by rfl) X.isi boot_isinstance (pa_cons (pv 1) (pa_cons (pe_bltn (v := .ty "list") (by rfl) X.lst (by decide +kernel) rfl) pa_nil)))))
      (pss_one (ps_raise rfl (takes_of rfl rfl rfl rfl) (pmk_own PySem.F.excBase_ValueError Er.e Er.g Er.k (raises_own Er.b Er.t) (by rfl)))) pss_nil)
      (pss_one (ps_ret (pe_makeS M FI hr (passes_call (E := E) (takes_of rfl rfl rfl rfl) (fun _ _ _ _ h => h)) (pv 0) (pv 1)))), ?_⟩
    rcases h with ⟨p, xs, rfl, hp, m⟩ | ⟨t, ht, hk, he⟩
    · refine ⟨_, rfl, _, _, _, _, _, rfl, .ty _, .base (.lst hp), kit_ty (r := true) (by decide +kernel), true, rfl, iteF ?_⟩
      refine ⟨_, rfl, rfl, _, rfl, p, xs, rfl, .inr (.inl (.inl hp)), fun x dx hx hdx hne => m.init hx hdx hne⟩
    · refine ⟨_, rfl, _, _, _, _, _, rfl, .ty _, ht, hk, false, rfl, iteT ?_⟩
      exact he
end
/-! ### the law's tape -/
/-- a tape at t that was asked n times at most -/
def Tp (H : Hp) (t : Addr) (n : Nat) : Prop := ∃ a b c : Int, H t = some (.lst [.int a, .int b, .int c]) ∧ 0 ≤ a ∧ 0 ≤ b ∧ b < 10 ^ 41 ∧ 0 ≤ c ∧ c ≤ n
/-- all but the thing at t is as it was -/
def But (t : Addr) (H H' : Hp) : Prop := ∀ b, b ≠ t → H' b = H b
theorem But.put {H : Hp} {t : Addr} {o : HO} : But t H (upd H t o) := fun _ hb => upd_ne hb
theorem But.trans {H H1 H2 : Hp} {t : Addr} (a : But t H H1) (b : But t H1 H2) : But t H H2 := fun c hc => (b c hc).trans (a c hc)
def spTape (K : PySem.W.Frag) : Sp := fun vs H Q _ => ∃ (p : Addr) (ns : List Int) (k : Int), vs = [.ref p, .int k] ∧ SqL K H p (ns.map V.int) ∧ 0 ≤ k ∧ k ≤ 63 ∧ ∀ t H', H t = none → Tp H' t 0 → But t H H' → Q (.ref t) H'
def spNext : Sp := fun vs H Q _ => ∃ (t : Addr) (many : Int) (n : Nat), vs = [.ref t, .int many] ∧ Tp H t n ∧ n < 2 ^ 40 ∧ 0 < many ∧ many < 1000000 ∧ ∀ d H', 0 ≤ d → d < many → Tp H' t (n + 1) → But t H H' → Q (.int d) H'
section
variable {P : Program} {w : World} {K : PySem.W.Frag} {mg : Str → Option Value} {base : Heap} {T : List Addr} {C D fLow fText fAre fTape fNext fInks fInit cLow PLow cAre PAre : Addr}
theorem scTape : FnScope ["script", "k", "cell"] ["script", "k"] (defScope sTape) := ⟨rfl, rfl, rfl, by decide +kernel, rfl, by decide +kernel, by decide +kernel⟩
theorem ok_tape {f : Addr} {fd : FuncData} (F : L2.Fun K "_law_vat" "_law_vat" sTape f fd) (X : Txt K mg C fLow fText fAre fTape fNext fInks) : FnOk P w K mg base CX0 1 f fd ["script", "k"] (spTape K) := by
  refine F.ok scTape (fun vs H Q E h => ?_) (fun cdv A outer s H vs Q E hr h => ?_)
  · obtain ⟨p, ns, k, rfl, _⟩ := h
    rfl
  · obtain ⟨p, ns, k, rfl, hs, h0, h63, q⟩ := h
    refine ⟨_, C8.pss_cut (ps_set (i := 2) scTape.nd rfl (.inl rfl) (pe_ifExp (pt_cmpR op_lt (pv 1) (pe_callB call_len_seq (by rfl) X.len boot_len (pa_cons (pv 0) pa_nil)) (by rfl))
        (pe_callB call_abs (by rfl) X.abs (by decide +kernel) (pa_cons (pe_ix ix_seq (pv 0) (pv 1) fun _ _ => rfl) pa_nil)) pe_int))
      (pss_one (ps_ret (pe_lst (pa_cons (pe_callB (call_max2 rfl) (by rfl) X.max (by decide +kernel) (pa_cons pe_int (pa_cons (pe_op op_sub (pv 2) (pe_op op_pow pe_int pe_int)) pa_nil)))
        (pa_cons (pe_op op_add (pe_op op_mul (pe_op op_mod (pv 2) (pe_op op_add (pe_op op_pow pe_int pe_int) pe_int)) pe_int) (pv 1)) (pa_cons pe_int pa_nil)))))), ?_⟩
    refine ⟨fun σ' H' => H' = H ∧ ∃ cell : Int, 0 ≤ cell ∧ σ' = [some (.ref p), some (.int k), some (.int cell)], ?_, ?_⟩
    · refine ⟨_, rfl, _, rfl, p, _, rfl, .inl hs, _, _, rfl, rfl, _, rfl, ?_⟩
      rw [List.length_map]
      refine ite2 (fun hk => ?_) (fun hk => ?_)
      · have hk : k < (ns.length : Int) := by simpa using hk
        have hi : k.toNat < ns.length := by omega
        refine ⟨_, rfl, _, rfl, .inl ⟨p, _, k, .int ns[k.toNat], rfl, rfl, hs, ?_, _, rfl, rfl, _, ?_, rfl⟩⟩
        · have e : k = (k.toNat : Int) := by omega
          have z : atI (ns.map V.int) (k.toNat : Int) = some (.int ns[k.toNat]) := atI_nat (by rw [List.getElem?_map, List.getElem?_eq_getElem hi]; rfl)
          rw [← e] at z
          exact z
        · split <;> omega
      · exact ⟨rfl, 0, by decide, rfl⟩
    · rintro σ' H' ⟨rfl, cell, hc, rfl⟩
      refine ⟨_, rfl, _, _, rfl, rfl, ⟨by decide, by decide, by decide⟩, _, _, rfl, rfl, _, _, rfl, ?_⟩
      refine ⟨_, rfl, _, _, rfl, rfl, ⟨by decide, by decide, by decide⟩, _, _, rfl, rfl, _, _, rfl, rfl, (by decide : (0 : Int) < 10 ^ Int.toNat 39 + 3), _, _, rfl, rfl, .inr ⟨by decide, by decide⟩, _, rfl, _, _, rfl, rfl, ?_⟩
      refine ⟨(by decide : 3 ≤ sizeLine), fun t ht => q t _ ht ⟨_, _, _, upd_same, ?_, ?_, ?_, by decide, by decide⟩ But.put⟩
      · split <;> omega
      · show 0 ≤ cell % (10 ^ Int.toNat 39 + 3) * 64 + k
        have := Int.emod_nonneg cell (b := 10 ^ Int.toNat 39 + 3) (by decide)
        omega
      · show cell % (10 ^ Int.toNat 39 + 3) * 64 + k < 10 ^ 41
        have h1 := Int.emod_lt_of_pos cell (b := 10 ^ Int.toNat 39 + 3) (by decide)
        have e1 : (10 : Int) ^ Int.toNat 39 + 3 = 1000000000000000000000000000000000000003 := by decide
        have e2 : (10 : Int) ^ 41 = 100000000000000000000000000000000000000000 := by decide
        rw [e1] at h1 ⊢
        rw [e2]
        omega
end
end Ov

set_option Elab.async false
set_option linter.all false
set_option maxRecDepth 100000
set_option maxHeartbeats 4000000
namespace Ov
open PySem PySem.Spec PyProof.Rows L2 GxR
section
variable {P : Program} {w : World} {K : PySem.W.Frag} {mg : Str → Option Value} {base : Heap} {T : List Addr} {C D fLow fText fAre fTape fNext fInks fInit cLow PLow cAre PAre : Addr}
theorem scNext : FnScope ["vat", "size", "digit", "mixed"] ["vat", "size"] (defScope sNext) := ⟨rfl, rfl, rfl, by decide +kernel, rfl, by decide +kernel, by decide +kernel⟩
theorem pow3_bits {x : Int} (h0 : 0 ≤ x) (h : x < 2 ^ 140) : CPowW x 3 := by
  refine ⟨by decide, ?_⟩
  have e : (2 : Int) ^ 140 = 1393796574908163946345982392040522594123776 := by decide
  have e2 : (2 : Nat) ^ 140 = 1393796574908163946345982392040522594123776 := by decide
  have hb : Builtin.Int.intBits x ≤ 140 := bits_le (by rw [e2]; omega) (by decide)
  have e3 : (2 : Int) ^ 27 = 134217728 := by decide
  rw [e3]
  omega
theorem pow5_bits {x : Int} (h0 : 0 ≤ x) (h : x < 2 ^ 140) : CPowW x 5 := by
  refine ⟨by decide, ?_⟩
  have e : (2 : Int) ^ 140 = 1393796574908163946345982392040522594123776 := by decide
  have e2 : (2 : Nat) ^ 140 = 1393796574908163946345982392040522594123776 := by decide
  have hb : Builtin.Int.intBits x ≤ 140 := bits_le (by rw [e2]; omega) (by decide)
  have e3 : (2 : Int) ^ 27 = 134217728 := by decide
  rw [e3]
  omega
theorem ok_next {f : Addr} {fd : FuncData} (F : L2.Fun K "_law_sip" "_law_sip" sNext f fd) (X : Txt K mg C fLow fText fAre fTape fNext fInks) : FnOk P w K mg base CX0 1 f fd ["vat", "size"] spNext := by
  refine F.ok scNext (fun vs H Q E h => ?_) (fun cdv A outer s H vs Q E hr h => ?_)
  · obtain ⟨t, m, n, rfl, _⟩ := h
    rfl
  · obtain ⟨t, m, n, rfl, ⟨a, b, c, ht, ha, hb, hb2, hc, hcn⟩, hn, hm, hm2, q⟩ := h
    refine ⟨_, pss_cons (ps_if (pt_cmpR op_gt (pe_ix ix_seq (pv 0) pe_int fun _ _ => rfl) pe_int (by rfl))
        (pss_cons (ps_set (i := 2) scNext.nd rfl (.inl rfl) (pe_op op_mod (pe_ix ix_seq (pv 0) pe_int fun _ _ => rfl) (pv 1)))
          (pss_cons (ps_asg (pe_op op_fdiv (pe_ix ix_seq (pv 0) pe_int fun _ _ => rfl) (pv 1)) (pg_sub (pv 0) pe_int set_list)) (pss_one (ps_ret (pv 2))))) pss_nil)
      (pss_cons (ps_asg (pe_op op_add (pe_ix ix_seq (pv 0) pe_int fun _ _ => rfl) pe_int) (pg_sub (pv 0) pe_int set_list))
      (pss_cons (ps_set (i := 3) scNext.nd rfl (.inl rfl) (pe_op op_mod (pe_op op_powW (pe_op op_add (pe_ix ix_seq (pv 0) pe_int fun _ _ => rfl) (pe_op op_mul pe_int (pe_ix ix_seq (pv 0) pe_int fun _ _ => rfl))) pe_int) (pe_op op_add (pe_op op_pow pe_int pe_int) pe_int)))
      (pss_cons (ps_set (i := 3) scNext.nd rfl (.inl rfl) (pe_op op_mod (pe_op op_powW (pe_op op_add (pv 3) (pe_op op_mul pe_int (pe_ix ix_seq (pv 0) pe_int fun _ _ => rfl))) pe_int) (pe_op op_add (pe_op op_pow pe_int pe_int) pe_int)))
      (pss_one (ps_ret (pe_op op_mod (pe_op op_fdiv (pv 3) pe_int) (pv 1))))))), ?_⟩
    have at0 : ∀ {x y z : V}, atI [x, y, z] 0 = some x := fun {x y z} => by simp [atI, ixN]
    have at1 : ∀ {x y z : V}, atI [x, y, z] 1 = some y := fun {x y z} => by simp [atI, ixN]
    have at2 : ∀ {x y z : V}, atI [x, y, z] 2 = some z := fun {x y z} => by simp [atI, ixN]
    refine ⟨_, rfl, .inl ⟨t, _, 0, .int a, rfl, rfl, .inl (.inl ht), at0, _, _, rfl, rfl, _, rfl, ?_⟩⟩
    refine ite2 (fun hk => ?_) (fun hk => ?_)
    · refine ⟨_, rfl, .inl ⟨t, _, 0, .int a, rfl, rfl, .inl (.inl ht), at0, _, rfl, _, _, rfl, rfl, hm, ?_⟩⟩
      refine ⟨_, rfl, .inl ⟨t, _, 0, .int a, rfl, rfl, .inl (.inl ht), at0, _, rfl, _, _, rfl, rfl, ⟨hm, by omega⟩, ?_⟩⟩
      refine ⟨_, rfl, t, _, 0, 0, rfl, rfl, ht, by simp [ixN], _, rfl, ?_⟩
      exact q _ _ (Int.emod_nonneg _ (by omega)) (Int.emod_lt_of_pos _ hm) ⟨_, _, _, upd_same, Int.ediv_nonneg ha (by omega), hb, hb2, hc, by omega⟩ But.put
    · refine ⟨_, rfl, .inl ⟨t, _, 2, .int c, rfl, rfl, .inl (.inl ht), at2, _, _, rfl, rfl, ?_⟩⟩
      refine ⟨_, rfl, t, _, 2, 2, rfl, rfl, ht, by simp [ixN], ?_⟩
      have h2 : upd H t (.lst [.int a, .int b, .int (c + 1)]) t = some (.lst [.int a, .int b, .int (c + 1)]) := upd_same
      have e40 : (10 : Int) ^ 41 = 100000000000000000000000000000000000000000 := by decide
      have e140 : (2 : Int) ^ 140 = 1393796574908163946345982392040522594123776 := by decide
      have en : (2 : Nat) ^ 40 = 1099511627776 := by decide
      rw [en] at hn
      rw [e40] at hb2
      refine ⟨_, rfl, .inl ⟨t, _, 1, .int b, rfl, rfl, .inl (.inl h2), at1, _, rfl, .inl ⟨t, _, 2, .int (c + 1), rfl, rfl, .inl (.inl h2), at2, _, _, rfl, rfl, .inl ⟨by decide, by decide⟩, _, _, rfl, rfl, ?_⟩⟩⟩
      refine ⟨_, _, rfl, rfl, pow3_bits (by omega) (by rw [e140]; omega), _, _, rfl, rfl, ⟨by decide, by decide, by decide⟩, _, _, rfl, rfl, _, _, rfl, rfl, (by decide : (0 : Int) < 10 ^ Int.toNat 41 + 37), ?_⟩
      generalize hm1 : ((b + 49979693 * (c + 1)) ^ Int.toNat 3) % (10 ^ Int.toNat 41 + 37) = m1
      have m1a : 0 ≤ m1 := by rw [← hm1]; exact Int.emod_nonneg _ (by decide)
      have m1b : m1 < 100000000000000000000000000000000000000037 := by
        rw [← hm1]
        exact Int.emod_lt_of_pos _ (by decide)
      refine ⟨_, rfl, _, rfl, .inl ⟨t, _, 2, .int (c + 1), rfl, rfl, .inl (.inl h2), at2, _, _, rfl, rfl, .inl ⟨by decide, by decide⟩, _, _, rfl, rfl, ?_⟩⟩
      refine ⟨_, _, rfl, rfl, pow5_bits (by omega) (by rw [e140]; omega), _, _, rfl, rfl, ⟨by decide, by decide, by decide⟩, _, _, rfl, rfl, _, _, rfl, rfl, (by decide : (0 : Int) < 10 ^ Int.toNat 38 + 133), ?_⟩
      generalize ((m1 + 15485869 * (c + 1)) ^ Int.toNat 5) % (10 ^ Int.toNat 38 + 133) = m2
      refine ⟨_, rfl, _, _, rfl, rfl, ⟨by decide, by decide⟩, _, rfl, _, _, rfl, rfl, hm, ?_⟩
      exact q _ _ (Int.emod_nonneg _ (by omega)) (Int.emod_lt_of_pos _ hm) ⟨_, _, _, upd_same, ha, hb, by rw [e40]; exact hb2, by omega, by omega⟩ But.put
end
end Ov

set_option Elab.async false
set_option linter.all false
set_option maxRecDepth 100000
set_option maxHeartbeats 4000000
/-! == and != of instances of own classes without == of their own, of two classes -/
namespace Ov
open PySem PySem.Spec PyProof.Rows L2
section
variable {prog : Program} {w : World} {A : Around} {E : Value → Shared → Prop} {s : Shared} {K : PySem.W.Frag} {x y C D : Addr} {ox oy : Obj} {od od' : Option Obj}
/-- no == and no != of their own -/
structure NoEq2 (K : PySem.W.Frag) (C : Addr) : Prop where
  eq : PySem.W.findIn K (.ref C) "__eq__" = some (some (.builtin "object.__eq__"))
  ne : PySem.W.findIn K (.ref C) "__ne__" = some (some (.builtin "object.__ne__"))
  sub : PySem.W.subIn K (.ref C) (.type "object") = some true
theorem chk2 {id n : String} (hk : builtinKind id = some .slot) (hsp : splitId id = some ("object", n)) (ha : argsOk id ⟨[.ref x, .ref y], []⟩) {Q : Unit → Shared → Prop} (X : K.In s.heap) (I : PySem.W.InstAt s.heap x ox C od) (hsub : PySem.W.subIn K (.ref C) (.type "object") = some true) (fin : Q () s) :
    wpAny (model prog w) A (checkBuiltinCall id ⟨[.ref x, .ref y], []⟩) Q E s := by
  simp only [checkBuiltinCall, hk, hsp]
  refine wpAny_bind ?_
  unfold isInstance
  refine wpAny_bind (I.type.here ?_)
  refine (PySem.W.looks_subIn X hsub).here ?_
  cases hsig : Manifest.signature? id with
  | none => exact wpAny_pure fin
  | some sig =>
    simp only [argsOk, hsig] at ha
    have h2 : Bind.checkArgs id sig ⟨[.ref x, .ref y], []⟩ = pure () := ha
    show wpAny _ A (Bind.checkArgs id sig ⟨[.ref x, .ref y], []⟩) _ _ _
    rw [h2]; exact wpAny_pure fin
theorem call_objEq2 {Q : Value → Shared → Prop} (X : K.In s.heap) (I : PySem.W.InstAt s.heap x ox C od) (J : PySem.W.InstAt s.heap y oy D od') (n : NoEq2 K C)
    (h : Q (if x = y then .bool true else .notImplemented) s) : wpAny (model prog w) A (call (.builtin "object.__eq__") [.ref x, .ref y]) Q E s := by
  refine wpAny_call (codeAny_call_builtin F.cmp_object.eq.plain F.cmpEntry_eq (chk2 F.cmpKind_eq F.cmpSplit_eq (F.cmpArgs_eq _ _) X I n.sub ?_))
  by_cases hxy : x = y
  · subst hxy
    exact objEq_entry_same (by rw [if_pos rfl] at h; exact h)
  · refine objEq_entry_other hxy I.at_ J.at_ ?_ (by rw [if_neg hxy] at h; exact h)
    rw [I.cls]
    intro z; cases z
theorem special2 {f : String} {name : Str} (hs : PySem.W.findIn K (.ref C) name = some (some (.builtin f))) (hbind : ∀ self : Value, bindSpecial (.builtin f) self = pure (.builtin f, [self])) {Q : Option Value → Shared → Prop} (X : K.In s.heap) (I : PySem.W.InstAt s.heap x ox C od)
    (h : wpAny (model prog w) A (call (.builtin f) [.ref x, .ref y]) (fun v s' => Q (some v) s') E s) : wpAny (model prog w) A (callSpecialIfBound? (.ref x) name [.ref y]) Q E s := by
  simp only [callSpecialIfBound?, bindSpecialIfBound?]
  refine wpAny_holding (wpAny_bind (wpAny_bind (wpAny_bind (I.type.here ((PySem.W.looks_findIn X hs).here ?_)))))
  have fin : wpAny (model prog w) A (call (.builtin f) ([.ref x] ++ [.ref y]) >>= fun v => pure (some v)) Q E s := wpAny_bind (wpAny_mono h (fun v s' hq => wpAny_pure hq) fun _ _ e => e)
  simp only [hbind]
  refine wpAny_bind (wpAny_askSetting (wpAny_ite ?_))
  split
  · exact wpAny_bind (wpAny_pure (wpAny_pure fin))
  · exact wpAny_tryCatch (wpAny_bind (wpAny_pure (wpAny_pure fin)))
theorem try_eq2 {Q : Option Value → Shared → Prop} (X : K.In s.heap) (I : PySem.W.InstAt s.heap x ox C od) (J : PySem.W.InstAt s.heap y oy D od') (n : NoEq2 K C)
    (h : Q (if x = y then some (.bool true) else none) s) : wpAny (model prog w) A (tryCompare (.ref x) "__eq__" (.ref y)) Q E s := by
  unfold tryCompare
  refine wpAny_bind (special2 n.eq F.cmp_object.eq.bind X I (call_objEq2 X I J n ?_))
  by_cases hxy : x = y
  · rw [if_pos hxy] at h ⊢
    exact wpAny_pure h
  · rw [if_neg hxy] at h ⊢
    exact wpAny_pure h
theorem special_t {Q : Option Value → Shared → Prop} (hxy : x = y) (X : K.In s.heap) (I : PySem.W.InstAt s.heap x ox C od) (J : PySem.W.InstAt s.heap y oy D od') (n : NoEq2 K C) (h : Q (some (.bool true)) s) : wpAny (model prog w) A (callSpecialIfBound? (.ref x) "__eq__" [.ref y]) Q E s :=
  special2 n.eq F.cmp_object.eq.bind X I (call_objEq2 X I J n (by rw [if_pos hxy]; exact h))
theorem special_f {Q : Option Value → Shared → Prop} (hxy : x ≠ y) (X : K.In s.heap) (I : PySem.W.InstAt s.heap x ox C od) (J : PySem.W.InstAt s.heap y oy D od') (n : NoEq2 K C) (h : Q (some .notImplemented) s) : wpAny (model prog w) A (callSpecialIfBound? (.ref x) "__eq__" [.ref y]) Q E s :=
  special2 n.eq F.cmp_object.eq.bind X I (call_objEq2 X I J n (by rw [if_neg hxy]; exact h))
theorem objNe_entry2 {Q : Fin → Shared → Prop} (hu : A.units < cLine) (X : K.In s.heap) (I : PySem.W.InstAt s.heap x ox C od) (J : PySem.W.InstAt s.heap y oy D od') (n : NoEq2 K C)
    (h : Q (.done (.ret (if x = y then .bool false else .notImplemented))) s) : wpAny (model prog w) A (Builtin.«object.__ne__» ⟨[.ref x, .ref y], []⟩) Q E s := by
  unfold Builtin.«object.__ne__»
  by_cases hxy : x = y
  · rw [if_pos hxy] at h
    repeat (first | with_reducible refine wpAny_cRoomFor hu ?_ | with_reducible refine special_t hxy X I J n ?_ | wp_step)
    exact h
  · rw [if_neg hxy] at h
    repeat (first | with_reducible refine wpAny_cRoomFor hu ?_ | with_reducible refine special_f hxy X I J n ?_ | wp_step)
    exact h
theorem try_ne2 {Q : Option Value → Shared → Prop} (hu : A.units + 1 < cLine) (X : K.In s.heap) (I : PySem.W.InstAt s.heap x ox C od) (J : PySem.W.InstAt s.heap y oy D od') (n : NoEq2 K C)
    (h : Q (if x = y then some (.bool false) else none) s) : wpAny (model prog w) A (tryCompare (.ref x) "__ne__" (.ref y)) Q E s := by
  unfold tryCompare
  refine wpAny_bind (special2 n.ne F.cmp_object.ne.bind X I (wpAny_call (codeAny_call_builtin F.cmp_object.ne.plain F.cmpEntry_ne (chk2 F.cmpKind_ne F.cmpSplit_ne (F.cmpArgs_ne _ _) X I n.sub (objNe_entry2 (A := A.in1) hu X I J n ?_)))))
  by_cases hxy : x = y
  · rw [if_pos hxy] at h ⊢
    exact wpAny_pure h
  · rw [if_neg hxy] at h ⊢
    exact wpAny_pure h
theorem eq_id2 {Q : Value → Shared → Prop} {b : Bool} (hu : A.units < cLine) (X : K.In s.heap) (I : PySem.W.InstAt s.heap x ox C od) (J : PySem.W.InstAt s.heap y oy D od') (n : NoEq2 K C) (m : NoEq2 K D) (hsub : C ≠ D → PySem.W.subIn K (.ref D) (.ref C) = some b)
    (h : Q (.bool (decide (x = y))) s) : wpAny (model prog w) A (compareOp .Eq (.ref x) (.ref y)) Q E s := by
  show wpAny _ _ (richCompare .Eq (.ref x) (.ref y)) _ _ _
  unfold richCompare
  simp only [oneThing_ref, cmpInfo_Eq]
  refine wpAny_holding (wpAny_bind (wpAny_cRoomFor hu ?_))
  refine wpAny_bind (I.type.here (wpAny_bind (J.type.here ?_)))
  by_cases hCD : C = D
  · subst hCD
    rw [if_neg (by simp)]
    refine wpAny_bind (wpAny_pure ?_)
    simp only [Bool.false_eq_true, if_false]
    refine wpAny_bind (try_eq2 X I J n ?_)
    by_cases hxy : x = y
    · rw [if_pos hxy]
      subst hxy
      exact wpAny_pure (by simpa using h)
    · rw [if_neg hxy]
      have hyx : ¬ y = x := fun z => hxy z.symm
      simp only [Bool.not_false, if_true]
      refine wpAny_bind (try_eq2 X J I n ?_)
      rw [if_neg hyx]
      refine wpAny_bind (wpAny_rule ?_)
      refine wpAny_bind (wpAny_isSame_ref_other hxy I.at_ J.at_ (by rw [I.cls]; intro z; cases z) ?_)
      exact wpAny_pure (by simpa [hxy] using h)
  · have hxy : ¬ x = y := fun z => by
      subst z
      have e1 := I.at_.symm.trans J.at_
      cases e1
      have e2 := I.cls.symm.trans J.cls
      cases e2
      exact hCD rfl
    have hyx : ¬ y = x := fun z => hxy z.symm
    rw [if_pos (by simp [hCD])]
    refine wpAny_bind ((PySem.W.looks_subIn X (hsub hCD)).here ?_)
    cases b with
    | true =>
      simp only [if_true]
      refine wpAny_bind (try_eq2 X J I m ?_)
      rw [if_neg hyx]
      refine wpAny_bind (try_eq2 X I J n ?_)
      rw [if_neg hxy]
      simp only [Bool.not_true, Bool.false_eq_true, if_false]
      refine wpAny_bind (wpAny_rule ?_)
      refine wpAny_bind (wpAny_isSame_ref_other hxy I.at_ J.at_ (by rw [I.cls]; intro z; cases z) ?_)
      exact wpAny_pure (by simpa [hxy] using h)
    | false =>
      simp only [Bool.false_eq_true, if_false]
      refine wpAny_bind (try_eq2 X I J n ?_)
      rw [if_neg hxy]
      simp only [Bool.not_false, if_true]
      refine wpAny_bind (try_eq2 X J I m ?_)
      rw [if_neg hyx]
      refine wpAny_bind (wpAny_rule ?_)
      refine wpAny_bind (wpAny_isSame_ref_other hxy I.at_ J.at_ (by rw [I.cls]; intro z; cases z) ?_)
      exact wpAny_pure (by simpa [hxy] using h)
theorem ne_id2 {Q : Value → Shared → Prop} {b : Bool} (hu : A.units + 1 < cLine) (X : K.In s.heap) (I : PySem.W.InstAt s.heap x ox C od) (J : PySem.W.InstAt s.heap y oy D od') (n : NoEq2 K C) (m : NoEq2 K D) (hsub : C ≠ D → PySem.W.subIn K (.ref D) (.ref C) = some b)
    (h : Q (.bool (!decide (x = y))) s) : wpAny (model prog w) A (compareOp .NotEq (.ref x) (.ref y)) Q E s := by
  show wpAny _ _ (richCompare .NotEq (.ref x) (.ref y)) _ _ _
  unfold richCompare
  simp only [oneThing_ref, cmpInfo_NotEq]
  refine wpAny_holding (wpAny_bind (wpAny_cRoomFor (Nat.lt_of_succ_lt hu) ?_))
  refine wpAny_bind (I.type.here (wpAny_bind (J.type.here ?_)))
  by_cases hCD : C = D
  · subst hCD
    rw [if_neg (by simp)]
    refine wpAny_bind (wpAny_pure ?_)
    simp only [Bool.false_eq_true, if_false]
    refine wpAny_bind (try_ne2 hu X I J n ?_)
    by_cases hxy : x = y
    · rw [if_pos hxy]
      subst hxy
      exact wpAny_pure (by simpa using h)
    · rw [if_neg hxy]
      have hyx : ¬ y = x := fun z => hxy z.symm
      simp only [Bool.not_false, if_true]
      refine wpAny_bind (try_ne2 hu X J I n ?_)
      rw [if_neg hyx]
      refine wpAny_bind (wpAny_rule ?_)
      refine wpAny_bind (wpAny_isSame_ref_other hxy I.at_ J.at_ (by rw [I.cls]; intro z; cases z) ?_)
      exact wpAny_pure (by simpa [hxy] using h)
  · have hxy : ¬ x = y := fun z => by
      subst z
      have e1 := I.at_.symm.trans J.at_
      cases e1
      have e2 := I.cls.symm.trans J.cls
      cases e2
      exact hCD rfl
    have hyx : ¬ y = x := fun z => hxy z.symm
    rw [if_pos (by simp [hCD])]
    refine wpAny_bind ((PySem.W.looks_subIn X (hsub hCD)).here ?_)
    cases b with
    | true =>
      simp only [if_true]
      refine wpAny_bind (try_ne2 hu X J I m ?_)
      rw [if_neg hyx]
      refine wpAny_bind (try_ne2 hu X I J n ?_)
      rw [if_neg hxy]
      simp only [Bool.not_true, Bool.false_eq_true, if_false]
      refine wpAny_bind (wpAny_rule ?_)
      refine wpAny_bind (wpAny_isSame_ref_other hxy I.at_ J.at_ (by rw [I.cls]; intro z; cases z) ?_)
      exact wpAny_pure (by simpa [hxy] using h)
    | false =>
      simp only [Bool.false_eq_true, if_false]
      refine wpAny_bind (try_ne2 hu X I J n ?_)
      rw [if_neg hxy]
      simp only [Bool.not_false, if_true]
      refine wpAny_bind (try_ne2 hu X J I m ?_)
      rw [if_neg hyx]
      refine wpAny_bind (wpAny_rule ?_)
      refine wpAny_bind (wpAny_isSame_ref_other hxy I.at_ J.at_ (by rw [I.cls]; intro z; cases z) ?_)
      exact wpAny_pure (by simpa [hxy] using h)

end
/-! ### over the layer -/
section
variable {X : Cx}
/-- == of instances of two such classes -/
def rEqId (C D : Addr) (f : Bool → Bool) : R2 := fun x y H Q => ∃ a b dx dy fs gs, x = .ref a ∧ y = .ref b ∧ H a = some (.ins C dx fs) ∧ H b = some (.ins D dy gs) ∧ Q (.bl (f (decide (a = b)))) H
structure Pair2 (K : PySem.W.Frag) (C D : Addr) : Prop where
  l : NoEq2 K C
  r : NoEq2 K D
  sub : C ≠ D → ∃ b, PySem.W.subIn K (.ref D) (.ref C) = some b
/-- .. of classes that a test tells -/
def rEqS (K : PySem.W.Frag) (f : Bool → Bool) : R2 := fun x y H Q => ∃ C D, Pair2 K C D ∧ rEqId C D f x y H Q
theorem op_eqS (hu : X.A.units < cLine) : OpR X (compareOp .Eq) (rEqS X.K id) := by
  intro pins s σ H x y v u Q I rx ry h
  obtain ⟨C, D, p, a, b, dx, dy, fs, gs, rfl, rfl, ha, hb, q⟩ := h
  obtain rfl : v = Value.ref a := rx
  obtain rfl : u = Value.ref b := ry
  obtain ⟨mA, O, _⟩ := ins_get I.hok ha
  obtain ⟨od, J, _⟩ := O.look
  obtain ⟨mB, O', _⟩ := ins_get I.hok hb
  obtain ⟨od', J', _⟩ := O'.look
  by_cases hCD : C = D
  · exact eq_id2 (b := true) hu I.kIn J J' p.l p.r (fun z => absurd hCD z) ⟨.bl _, H, I, rfl, q⟩
  · obtain ⟨b, hb⟩ := p.sub hCD
    exact eq_id2 hu I.kIn J J' p.l p.r (fun _ => hb) ⟨.bl _, H, I, rfl, q⟩
theorem op_neS (hu : X.A.units + 1 < cLine) : OpR X (compareOp .NotEq) (rEqS X.K (!·)) := by
  intro pins s σ H x y v u Q I rx ry h
  obtain ⟨C, D, p, a, b, dx, dy, fs, gs, rfl, rfl, ha, hb, q⟩ := h
  obtain rfl : v = Value.ref a := rx
  obtain rfl : u = Value.ref b := ry
  obtain ⟨mA, O, _⟩ := ins_get I.hok ha
  obtain ⟨od, J, _⟩ := O.look
  obtain ⟨mB, O', _⟩ := ins_get I.hok hb
  obtain ⟨od', J', _⟩ := O'.look
  by_cases hCD : C = D
  · exact ne_id2 (b := true) hu I.kIn J J' p.l p.r (fun z => absurd hCD z) ⟨.bl _, H, I, rfl, q⟩
  · obtain ⟨b, hb⟩ := p.sub hCD
    exact ne_id2 hu I.kIn J J' p.l p.r (fun _ => hb) ⟨.bl _, H, I, rfl, q⟩
end
end Ov

set_option Elab.async false
set_option linter.all false
set_option maxRecDepth 100000
set_option maxHeartbeats 4000000
/-! calls with keywords alone: C(k = v), C.m(k = v) with a classmethod m -/
namespace Ov
open PySem PySem.Spec PyProof.Rows L2 GxR ClX
section
variable {X : Cx} {CX : CXT} {k n : Nat} {f C : Addr} {fd : FuncData} {ps ks : List Str} {sp : Sp} {E : XK} {x : Str} {p pos : Pos} {e : Expr} {es : List Expr} {kws : List Keyword} {t tk : TA} {g : List Value → List Value → List Value} {gV : List V → List V → List V}
def tMake0K (C : Addr) (m : Nat) (sp : Sp) (gV : List V → List V → List V) (E : XK) (tk : TA) : TE := fun σ H Q => tk σ H fun zs H2 => zs.length = m ∧
  ∀ x dx, H2 x = none → H2 dx = none → dx ≠ x → sp (gV [V.ref x] zs) (upd (upd H2 dx (.own x)) x (.ins C dx [])) (fun v H3 => v = .non ∧ Q (.ref x) H3) E
theorem pe_make0K (M : Mk X.K C f) (F : FnOk X.prog X.w X.K X.mg X.base CX k f fd ps sp) (hr : Room (k + 1) X.A) (hg : Gl X x) (hm : X.mg x = some (.ref C)) (hb : KBn X.K fd ps 1 ks g gV) (hx : Passes CX X E)
    (hkw : PK X kws tk) (hall : (backToKw pos (keywordEach kws X.env)).all (·.1.isSome) = true := by rfl) (hks : (backToKw pos (keywordEach kws X.env)).filterMap (·.1) = ks := by rfl)
    (hdb : (x == ("__debug__" : Str)) = false := by decide)
    (hpl : ((backTo pos (starEach [] X.env)).any (·.1) || (backToKw pos (keywordEach kws X.env)).any (·.1.isNone)) = false := by rfl) :
    PE X (.Call (.Name x p) [] kws pos) (tMake0K C ks.length sp gV E tk) := by
  refine ⟨fun pins s σ H Q I h => ?_⟩
  refine wpAny_Call_Name_kw (ld_glob I hg hm ?_ hdb)
  refine PySem.W.callWith_KW0 (h₀ := X.base) I.ok.mod.kin M.kp hall ?_ hpl
  refine thn (hkw.run pos pins s σ H _ I h) fun ws s2 ⟨zs, H2, I2, rz, l2, q2⟩ => ⟨I2.kIn, ?_⟩
  rw [hks]
  exact run_makeN M F hr hb hx I2 .nil rz rfl l2 q2
def tCMethK (C : Addr) (m : Nat) (sp : Sp) (gV : List V → List V → List V) (E : XK) (ta : TE) (tk : TA) : TE := fun σ H Q => ta σ H fun x H1 => x = .ref C ∧ tk σ H1 fun zs H2 => zs.length = m ∧ sp (gV [V.ref C] zs) H2 Q E
theorem run_cmK {pins : List (Addr × Obj)} {σ : L2.St} {H : Hp} {s : Shared} {q c : Addr} {Q : VK} {ws : List Value} {zs : List V} (F : FnOk X.prog X.w X.K X.mg X.base CX k c fd ps sp) (hr : Room k X.A) (hb : KBn X.K fd ps 1 ks g gV) (hx : Passes CX X E) (I : Inv X ((q, PySem.W.methodObj (.ref c) (.ref C)) :: pins) σ H s)
    (r : Vals zs ws) (l2 : zs.length = ks.length) (h : sp (gV [V.ref C] zs) H Q E) : wpAny (model X.prog X.w) X.A (call (.ref q) [] (ks.zip ws)) (EP X pins σ Q) X.xe s := by
  have z : wpAny (model X.prog X.w) X.A (call (.ref q) [] (ks.zip ws)) (EP X ((q, PySem.W.methodObj (.ref c) (.ref C)) :: pins) σ Q) X.xe s := by
    refine wpAny_call (PySem.W.method_call (pin_at I) (codeAny_mono (F.run X.A X.stack s H ⟨.ref C :: [], ks.zip ws⟩ (g [.ref C] ws) (gV [V.ref C] zs) Q E hr I.env0 (hb.to s [.ref C] ws I.kIn rfl (r.length.symm.trans l2)) (hb.rel (.cons rfl .nil) r) h) fun r s' hq => ?_))
    cases r with
    | error e => exact hx _ σ H s e s' I hq
    | ok fl =>
      cases fl with
      | ret u => exact I.after hq
      | next => exact False.elim hq
      | brk => exact False.elim hq
      | cont => exact False.elim hq
  exact thn z fun _ _ y => unpinE y
theorem pe_cmethK {mc : Value} {m : Str} {q c : Addr} {o : Expr} {apos : Pos} {ta : TE} {pl : Sem Bool} (he : PE X o ta) (r : CRead X.K C mc) (cm : CMet X.K C mc m q c) (F : FnOk X.prog X.w X.K X.mg X.base CX k c fd ps sp) (hr : Room k X.A) (hb : KBn X.K fd ps 1 ks g gV) (hx : Passes CX X E)
    (hkw : PK X kws tk) (hall : (backToKw pos (keywordEach kws X.env)).all (·.1.isSome) = true := by rfl) (hks : (backToKw pos (keywordEach kws X.env)).filterMap (·.1) = ks := by rfl)
    (hpl : ((backTo pos (starEach [] X.env)).any (·.1) || (backToKw pos (keywordEach kws X.env)).any (·.1.isNone)) = false := by rfl)
    (ht : eval (.Call (.Attribute o m apos) [] kws pos) X.env = (do
      let ov ← eval o X.env
      standAt apos.atName
      let (f, first) ← holding [ov] (getMethod ov m pl)
      callWith pos f first (backTo pos (starEach [] X.env)) (backToKw pos (keywordEach kws X.env))) := by rfl) :
    PE X (.Call (.Attribute o m apos) [] kws pos) (tCMethK C ks.length sp gV E ta tk) := by
  refine ⟨fun pins s σ H Q I h => ?_⟩
  refine PySem.W.methodCall_KW (pl := pl) (thn (he.run pins s σ H _ I h) fun u s1 ⟨x, H1, I1, rx, ex, q⟩ => ?_) ht
  subst ex
  obtain rfl : u = Value.ref C := rx
  refine getmethcm_ok I1 r cm fun s2 I2 => ?_
  refine PySem.W.callWith_of hpl (P := PySem.W.MethP X.K s1.heap.objs.size c (.ref C)) (PySem.W.keeps_M cm.fi) ?_
  refine evalArgs_kw2_nil hall ?_
  refine thn (hkw.run pos _ s2 σ H1 _ I2 q) fun ws s3 ⟨zs, H2, I3, rz, l2, q2⟩ => ⟨⟨pin_at I3, I3.kIn⟩, ?_⟩
  rw [hks]
  exact run_cmK F hr hb hx I3 rz l2 q2
end
/-! ### .. in the body of a try: what is wished of an error may speak of the slots -/
section
variable {X : Cx} {CX : CXT} {k n : Nat} {f C : Addr} {fd : FuncData} {ps ks : List Str} {sp : Sp} {E : L2.St → XK} {x : Str} {p pos : Pos} {e : Expr} {es : List Expr} {kws : List Keyword} {t tk : TA} {g : List Value → List Value → List Value} {gV : List V → List V → List V}
def tCMethS (C : Addr) (sp : Sp) (E : L2.St → XK) (ta : TE) (t : TA) : TE := fun σ H Q => ta σ H fun x H1 => x = .ref C ∧ t σ H1 fun vs H2 => sp (.ref C :: vs) H2 Q (E σ)
theorem pe_cmethS {mc : Value} {m : Str} {q c : Addr} {o : Expr} {apos : Pos} {ta : TE} {pl : Sem Bool} (he : PE X o ta) (r : CRead X.K C mc) (cm : CMet X.K C mc m q c) (F : FnR X.prog X.w X.K X.mg X.base CX k c sp) (hr : Room k X.A) (hx : ∀ σ, PassesAt CX X σ (E σ)) (ha : PA X (e :: es) t)
    (hst : starEach (e :: es) X.env = (false, eval e X.env) :: starEach es X.env := by rfl) (hpl : (backTo pos (starEach es X.env)).any (·.1) = false := by rfl)
    (ht : eval (.Call (.Attribute o m apos) (e :: es) [] pos) X.env = (do
      let ov ← eval o X.env
      standAt apos.atName
      let (f, first) ← holding [ov] (getMethod ov m pl)
      callWith pos f first (backTo pos (starEach (e :: es) X.env)) (backToKw pos (keywordEach [] X.env))) := by rfl) :
    PE X (.Call (.Attribute o m apos) (e :: es) [] pos) (tCMethS C sp E ta t) := by
  refine ⟨fun pins s σ H Q I h => ?_⟩
  refine PySem.W.methodCall_KW (pl := pl) (thn (he.run pins s σ H _ I h) fun u s1 ⟨x, H1, I1, rx, ex, q0⟩ => ?_) ht
  subst ex
  obtain rfl : u = Value.ref C := rx
  refine getmethcm_ok I1 r cm fun s2 I2 => ?_
  refine callwith_cm I2 (base_none I1 (Nat.le_refl _)) cm.fi (thn (ha.run pos _ s2 σ H1 _ I2 q0) fun us s3 ⟨vs, H2, I3, rv, q2⟩ => ⟨⟨pin_at I3, I3.kIn⟩, ?_⟩) hst hpl
  have z : wpAny (model X.prog X.w) X.A (call (.ref s1.heap.objs.size) ([] ++ us)) (EP X ((s1.heap.objs.size, PySem.W.methodObj (.ref c) (.ref C)) :: pins) σ Q) X.xe s3 := by
    refine wpAny_call (PySem.W.method_call (pin_at I3) (codeAny_mono (F X.A X.stack s3 H2 (.ref C :: us) (V.ref C :: vs) Q (E σ) hr I3.env0 (.cons rfl rv) q2) fun r s' hq => ?_))
    cases r with
    | error e => exact hx σ _ H2 s3 e s' I3 hq
    | ok fl =>
      cases fl with
      | ret u => exact I3.after hq
      | next => exact False.elim hq
      | brk => exact False.elim hq
      | cont => exact False.elim hq
  exact thn z fun _ _ y => unpinE y
def tCMethKS (C : Addr) (m : Nat) (sp : Sp) (gV : List V → List V → List V) (E : L2.St → XK) (ta : TE) (tk : TA) : TE := fun σ H Q => ta σ H fun x H1 => x = .ref C ∧ tk σ H1 fun zs H2 => zs.length = m ∧ sp (gV [V.ref C] zs) H2 Q (E σ)
theorem pe_cmethKS {mc : Value} {m : Str} {q c : Addr} {o : Expr} {apos : Pos} {ta : TE} {pl : Sem Bool} (he : PE X o ta) (r : CRead X.K C mc) (cm : CMet X.K C mc m q c) (F : FnOk X.prog X.w X.K X.mg X.base CX k c fd ps sp) (hr : Room k X.A) (hb : KBn X.K fd ps 1 ks g gV) (hx : ∀ σ, PassesAt CX X σ (E σ))
    (hkw : PK X kws tk) (hall : (backToKw pos (keywordEach kws X.env)).all (·.1.isSome) = true := by rfl) (hks : (backToKw pos (keywordEach kws X.env)).filterMap (·.1) = ks := by rfl)
    (hpl : ((backTo pos (starEach [] X.env)).any (·.1) || (backToKw pos (keywordEach kws X.env)).any (·.1.isNone)) = false := by rfl)
    (ht : eval (.Call (.Attribute o m apos) [] kws pos) X.env = (do
      let ov ← eval o X.env
      standAt apos.atName
      let (f, first) ← holding [ov] (getMethod ov m pl)
      callWith pos f first (backTo pos (starEach [] X.env)) (backToKw pos (keywordEach kws X.env))) := by rfl) :
    PE X (.Call (.Attribute o m apos) [] kws pos) (tCMethKS C ks.length sp gV E ta tk) := by
  refine ⟨fun pins s σ H Q I h => ?_⟩
  refine PySem.W.methodCall_KW (pl := pl) (thn (he.run pins s σ H _ I h) fun u s1 ⟨x, H1, I1, rx, ex, q0⟩ => ?_) ht
  subst ex
  obtain rfl : u = Value.ref C := rx
  refine getmethcm_ok I1 r cm fun s2 I2 => ?_
  refine PySem.W.callWith_of hpl (P := PySem.W.MethP X.K s1.heap.objs.size c (.ref C)) (PySem.W.keeps_M cm.fi) ?_
  refine evalArgs_kw2_nil hall ?_
  refine thn (hkw.run pos _ s2 σ H1 _ I2 q0) fun ws s3 ⟨zs, H2, I3, rz, l2, q2⟩ => ⟨⟨pin_at I3, I3.kIn⟩, ?_⟩
  rw [hks]
  have z : wpAny (model X.prog X.w) X.A (call (.ref s1.heap.objs.size) [] (ks.zip ws)) (EP X ((s1.heap.objs.size, PySem.W.methodObj (.ref c) (.ref C)) :: pins) σ Q) X.xe s3 := by
    refine wpAny_call (PySem.W.method_call (pin_at I3) (codeAny_mono (F.run X.A X.stack s3 H2 ⟨.ref C :: [], ks.zip ws⟩ (g [.ref C] ws) (gV [V.ref C] zs) Q (E σ) hr I3.env0 (hb.to s3 [.ref C] ws I3.kIn rfl (rz.length.symm.trans l2)) (hb.rel (.cons rfl .nil) rz) q2) fun r s' hq => ?_))
    cases r with
    | error e => exact hx σ _ H2 s3 e s' I3 hq
    | ok fl =>
      cases fl with
      | ret u => exact I3.after hq
      | next => exact False.elim hq
      | brk => exact False.elim hq
      | cont => exact False.elim hq
  exact thn z fun _ _ y => unpinE y
end
theorem valsGet : ∀ {vs : List V} {us : List Value} (_ : Vals vs us) (i : Nat), RelV (vs.getD i .non) (us.getD i .none)
  | _, _, .nil, i => by simp; rfl
  | _, _, .cons r t, 0 => by simpa using r
  | _, _, .cons r t, i + 1 => by simpa using valsGet t i
end Ov

set_option Elab.async false
set_option linter.all false
set_option maxRecDepth 100000
set_option maxHeartbeats 4000000
/-! a walk over enumerate; a property of an object whose class the reading tells; lists of bools -/
namespace Ov
open PySem PySem.Spec PyProof.Rows L2 GxR
theorem for_enumL {K : PySem.W.Frag} {a : Addr} {xs : List V} {g : TG} {tb : TS} {D : Ends} {σ : L2.St} {H : Hp} (Pv : Nat → L2.St → Hp → Prop) (h0 : Pv 0 σ H) (hl : ∀ i σ H, i ≤ xs.length → Pv i σ H → SqL K H a xs)
    (hs : ∀ i x σ H T, xs[i]? = some x → Pv i σ H → H T = none → g (.ref T) σ (upd H T (.tup [.int (i : Nat), x])) fun σ2 H2 => tb { D with nx := Pv (i + 1), ct := Pv (i + 1), bk := D.nx } σ2 H2) (hd : ∀ σ H, Pv xs.length σ H → D.nx σ H) :
    ∃ W : Nat → Nat → L2.St → Hp → Prop, (∃ m, W 0 m σ H) ∧ ∀ i m σ H, W i m σ H →
      ((Ite K a).stop i H ∧ D.nx σ H) ∨ ((Ite K a).go i H ∧ ∃ N : L2.St → Hp → Prop, (∀ σ' H', N σ' H' → ∃ m', m' < m ∧ W (i + 1) m' σ' H') ∧ ∀ x H', (Ite K a).yld i H x H' → g x σ H' fun σ2 H2 => tb { D with nx := N, ct := N, bk := D.nx } σ2 H2) := by
  refine ⟨fun i m σ H => m = xs.length - i ∧ i ≤ xs.length ∧ Pv i σ H, ⟨xs.length, by simp, Nat.zero_le _, h0⟩, ?_⟩
  rintro i m σ H ⟨rfl, hi, p⟩
  have q := hl i σ H hi p
  by_cases hlt : i < xs.length
  · refine .inr ⟨⟨xs, xs[i], q, by simp [hlt]⟩, Pv (i + 1), fun σ' H' p' => ⟨xs.length - (i + 1), by omega, rfl, hlt, p'⟩, fun x H' y => ?_⟩
    obtain ⟨T, x', e, hT, e2, y⟩ := y
    subst e e2
    exact hs i x' σ H T (y xs q) p hT
  · have e : i = xs.length := by omega
    subst e
    exact .inl ⟨⟨xs, q, Nat.le_refl _⟩, hd σ H p⟩
def tPropX (K : PySem.W.Frag) (f : Str) (p g : Addr) (sp : Sp) (dvs : List V) (E : XK) (ta : TE) : TE := fun σ H Q => ta σ H fun x H1 => ∃ a C dx fs, x = .ref a ∧ Cls K C ∧ PropOf K C f p g ∧ H1 a = some (.ins C dx fs) ∧ sp (.ref a :: dvs) H1 Q E
theorem pe_propX {X : Cx} {CX : CXT} {k : Nat} {p g : Addr} {f : Str} {fd : FuncData} {ps : List Str} {sp : Sp} {dvs : List V} {ds : List Value} {E : XK} {e : Expr} {pos : Pos} {ta : TE} (he : PE X e ta) (F : FnOk X.prog X.w X.K X.mg X.base CX k g fd ps sp) (hr : Room (k + 1) X.A) (hb : Binds X.K fd ps ds) (hd : Vals dvs ds) (hx : Passes CX X.nox E)
    (hab : attributeBase e f X.env (eval e X.env) = eval e X.env := by rfl) : PE X (.Attribute e f pos) (tPropX X.K f p g sp dvs E ta) := by
  refine ⟨fun pins s σ H Q I h => ?_⟩
  refine attr_of hab (thn (he.run pins s σ H _ I h) fun u s1 ⟨x, H1, I1, rx, a, C, dx, fs, ex, c, hp, ea, q⟩ => ?_)
  subst ex
  obtain rfl : u = Value.ref a := rx
  exact getprop_ok I1 ea c hp F hr hb hd hx q
/-- a list of bools as data -/
theorem dp_bools {K : PySem.W.Frag} {H : Hp} : ∀ bs : List Bool, DpAll K H (bs.map V.bl) (bs.map PyData.bool)
  | [] => .nil
  | b :: r => .cons (.bl b) (dp_bools r)
theorem eqv_4 (a b c d : Bool) : PyData.eqv (.list ([a, b, c, d].map PyData.bool)) (.list ([a, b, c, d].map PyData.bool)) = true := by
  cases a <;> cases b <;> cases c <;> cases d <;> decide
theorem shaped_4 (a b c d : Bool) : SeqAt.shaped (.list ([a, b, c, d].map PyData.bool)) = true := by
  cases a <;> cases b <;> cases c <;> cases d <;> decide
theorem same_new {H : Hp} {p : Addr} {o : HO} (e : H p = none) : L2.Same H (upd H p o) := fun b u hb => (upd_ne (ne_of_none hb e)).trans hb
end Ov

set_option Elab.async false
set_option linter.all false
set_option maxRecDepth 100000
set_option maxHeartbeats 4000000
namespace Ov
open PySem PySem.Spec PyProof.Rows L2 GxR
/-- what stood stands, but for the thing at t -/
def Bt (t : Addr) (H H' : Hp) : Prop := ∀ b o, b ≠ t → H b = some o → H' b = some o
theorem Bt.refl {t : Addr} {H : Hp} : Bt t H H := fun _ _ _ h => h
theorem Bt.trans {t : Addr} {H H1 H2 : Hp} (a : Bt t H H1) (b : Bt t H1 H2) : Bt t H H2 := fun c o hc e => b c o hc (a c o hc e)
theorem But.bt {t : Addr} {H H1 : Hp} (a : But t H H1) : Bt t H H1 := fun c o hc e => (a c hc).trans e
theorem Bt.new {t : Addr} {H : Hp} {p : Addr} {o : HO} (e : H p = none) : Bt t H (upd H p o) := fun b u _ hb => (upd_ne (ne_of_none hb e)).trans hb
theorem Bt.put {t : Addr} {H H1 : Hp} {p : Addr} {o : HO} (a : Bt t H H1) (e : H p = none) : Bt t H (upd H1 p o) := fun b u hb hu => (upd_ne (ne_of_none hu e)).trans (a b u hb hu)
theorem Tp.at {t : Addr} {H H' : Hp} {n : Nat} (h : Tp H t n) (e : H' t = H t) : Tp H' t n := by
  obtain ⟨a, b, c, h1, h2⟩ := h
  exact ⟨a, b, c, e.trans h1, h2⟩
theorem Tp.new {t : Addr} {H : Hp} {n : Nat} {p : Addr} {o : HO} (h : Tp H t n) (e : H p = none) : Tp (upd H p o) t n := h.at (by
  obtain ⟨a, b, c, h1, h2⟩ := h
  exact upd_ne (ne_of_none h1 e))
theorem Tp.ne {t : Addr} {H : Hp} {n : Nat} {p : Addr} (h : Tp H t n) (e : H p = none) : t ≠ p := by
  obtain ⟨a, b, c, h1, h2⟩ := h
  exact ne_of_none h1 e
theorem Tp.mono {t : Addr} {H : Hp} {n m : Nat} (h : Tp H t n) (e : n ≤ m) : Tp H t m := by
  obtain ⟨a, b, c, h1, h2, h3, h4, h5, h6⟩ := h
  exact ⟨a, b, c, h1, h2, h3, h4, h5, by omega⟩
theorem Bt.free {t : Addr} {H H1 : Hp} (a : Bt t H H1) {p : Addr} (hp : p ≠ t) (e : H1 p = none) : H p = none := by
  cases q : H p with
  | none => rfl
  | some o => rw [a p o hp q] at e; cases e
def lowL (l : List Nat) : Bool := l.all fun c => decide (97 ≤ c) && decide (c ≤ 122)
theorem join_nil : ∀ ls : List (List Nat), TL.joinL [] ls = ls.flatten
  | [] => rfl
  | [p] => by simp [TL.joinL]
  | p :: q :: r => by
    have := join_nil (q :: r)
    simp only [TL.joinL, List.nil_append, this, List.flatten_cons]
theorem join_cps (e : Str) (he : e.cps.toList = []) (ys : List Str) : (Txt.join e ys).cps.toList = (ys.map fun z => z.cps.toList).flatten := by
  show (Builtin.Str.glued e ys).cps.toList = _
  rw [StrLaws.glued_eq_join]
  have := TL.tl_join e ys
  unfold TL.tl at this
  rw [this, he, join_nil]
/-- one lowercase letter -/
def One (z : Str) : Prop := ∃ c, z.cps.toList = [c] ∧ 97 ≤ c ∧ c ≤ 122
theorem join_ones (e : Str) (he : e.cps.toList = []) : ∀ ys : List Str, (∀ z ∈ ys, One z) → (Txt.join e ys).length = ys.length ∧ lowB (Txt.join e ys) = true := by
  intro ys h
  have key : ((ys.map fun z => z.cps.toList).flatten).length = ys.length ∧ ((ys.map fun z => z.cps.toList).flatten).all (fun c => decide (97 ≤ c) && decide (c ≤ 122)) = true := by
    induction ys with
    | nil => exact ⟨rfl, rfl⟩
    | cons z r ih =>
      obtain ⟨i1, i2⟩ := ih fun y hy => h y (List.mem_cons_of_mem _ hy)
      obtain ⟨c, hc, h1, h2⟩ := h z List.mem_cons_self
      simp only [List.map_cons, List.flatten_cons, hc, List.length_append, List.all_append, i1, i2]
      refine ⟨by simp; omega, by simp [h1, h2]⟩
  rw [← join_cps e he] at key
  refine ⟨?_, key.2⟩
  rw [← key.1]
  simp [Str.length]
theorem pe_next {X : Cx} {f : Addr} {fd : FuncData} (F : FnOk X.prog X.w X.K X.mg X.base CX0 1 f fd ["vat", "size"] spNext) (hb : Binds X.K fd ["vat", "size"] []) (hr : Room 1 X.A) (hg : Gl X "_law_sip") (hm : X.mg "_law_sip" = some (.ref f)) (hk : PySem.W.keepIn X.K (.ref f) = true)
    {e1 e2 : Expr} {p pos : Pos} {ta : TA} (ha : PA X [e1, e2] ta) (he : starEach [e1, e2] X.env = (false, eval e1 X.env) :: starEach [e2] X.env := by rfl) (hpl : (backTo pos (starEach [e2] X.env)).any (·.1) = false := by rfl) : PE X (.Call (.Name "_law_sip" p) [e1, e2] [] pos) (tCall spNext [] E0 ta) :=
  pe_call F hr hg hm hk hb .nil L2.pass0 ha (by decide) he hpl
end Ov

set_option Elab.async false
set_option linter.all false
set_option maxRecDepth 100000
set_option maxHeartbeats 4000000
namespace Ov
open PySem PySem.Spec PyProof.Rows L2 GxR
section
variable {P : Program} {w : World} {K : PySem.W.Frag} {mg : Str → Option Value} {base : Heap} {T : List Addr} {C D fLow fText fAre fTape fNext fInks fInit cLow PLow cAre PAre fStrip fOver pWi fWi pWo fWo fCl DSp DSg DS DNum DTx fInked fRow fCalled fRight pO gO : Addr}
theorem KepX.trans {a : Addr} {H H1 H2 : Hp} (x : KepX T a H H1) (y : KepX T a H1 H2) : KepX T a H H2 := ⟨y.1, fun b o hb hn e => y.2 b o hb hn (x.2 b o hb hn e)⟩
theorem Kep.kx {a : Addr} {H H1 : Hp} (x : Kep T H H1) : KepX T a H H1 := ⟨x.1, fun b o hb _ e => x.2 b o hb e⟩
theorem Bt.kx {a : Addr} {H H1 : Hp} (x : Bt a H H1) (hT : ∀ p ∈ T, TabG H p) (na : a ∉ T) : KepX T a H H1 := ⟨fun p hp => by
  obtain ⟨ps, h1, h2⟩ := hT p hp
  exact ⟨ps, x p _ (fun z => na (z ▸ hp)) h1, h2⟩, fun b o _ hn e => x b o hn e⟩
theorem KepX.new {a : Addr} {H H1 : Hp} {p : Addr} {o : HO} (x : KepX T a H H1) (e : H1 p = none) : KepX T a H (upd H1 p o) := ⟨(Kep.new x.1 e).1, fun b u hb hn q => (Kep.new x.1 e).2 b u hb (x.2 b u hb hn q)⟩
theorem KepX.free {a : Addr} {H H1 : Hp} {p : Addr} (x : KepX T a H H1) (hT : ∀ p ∈ T, TabG H p) (hp : p ≠ a) (e : H1 p = none) : H p = none := by
  cases q : H p with
  | none => rfl
  | some o =>
    by_cases hb : p ∈ T
    · obtain ⟨ps, h1, _⟩ := x.1 p hb
      rw [h1] at e; cases e
    · rw [x.2 p o hb hp q] at e; cases e
theorem KepX.put {a : Addr} {H H1 : Hp} {p : Addr} {o : HO} (x : KepX T a H H1) (e : H p = none) (n : p ∉ T) : KepX T a H (upd H1 p o) := by
  refine ⟨fun q hq => ?_, fun b u hb hn hu => ?_⟩
  · obtain ⟨ps, h1, h2⟩ := x.1 q hq
    exact ⟨ps, (upd_ne fun z => n (by rw [← z]; exact hq)).trans h1, h2⟩
  · exact (upd_ne (ne_of_none hu e)).trans (x.2 b u hb hn hu)
theorem KepX.at {a b : Addr} {H H1 : Hp} {o : HO} (x : KepX T a H H1) (hT : ∀ p ∈ T, TabG H p) (hb : b ≠ a) (e : H b = some o) (n : ∀ ps, o ≠ .tbl ps) : H1 b = some o := x.2 b o (not_tab hT e n) hb e
theorem KepX.refl {a : Addr} {H : Hp} (h : ∀ p ∈ T, TabG H p) : KepX T a H H := ⟨h, fun _ _ _ _ e => e⟩
theorem Bt.kxt {a : Addr} {H H1 H2 : Hp} (k : KepX T a H H1) (na : a ∉ T) (x : Bt a H1 H2) : KepX T a H H2 := k.trans (x.kx k.1 na)
theorem Tp.kx {H H' : Hp} {t : Addr} {n : Nat} (h : Tp H t n) (hT : ∀ p ∈ T, TabG H p) (k : Kep T H H') : Tp H' t n := by
  have nt : t ∉ T := by
    obtain ⟨a, b, c, h1, _⟩ := h
    exact not_tab hT h1 fun _ z => by cases z
  obtain ⟨a, b, c, h1, h2⟩ := h
  exact ⟨a, b, c, k.2 t _ nt h1, h2⟩
theorem Tp.nT {H : Hp} {t : Addr} {n : Nat} (h : Tp H t n) (hT : ∀ p ∈ T, TabG H p) : t ∉ T := by
  obtain ⟨a, b, c, h1, _⟩ := h
  exact not_tab hT h1 fun _ z => by cases z
theorem Kep.btX {t : Addr} {H H1 H2 : Hp} (hT : ∀ p ∈ T, TabG H p) (k : Kep T H H1) (ht : H t = none) (b : Bt t H1 H2) : Kep T H H2 := by
  refine ⟨fun p hp => ?_, fun a o ha e => b a o (ne_of_none e ht) (k.2 a o ha e)⟩
  obtain ⟨ps, h1, h2⟩ := k.1 p hp
  obtain ⟨ps', h1', _⟩ := hT p hp
  exact ⟨ps, b p _ (ne_of_none h1' ht) h1, h2⟩
end
end Ov

set_option Elab.async false
set_option linter.all false
set_option maxRecDepth 100000
set_option maxHeartbeats 4000000
/-! the end of a law with the tables of defs at the top -/
namespace Ov
open PySem PySem.Spec PyProof.Rows L2 GxR
def TabsT (q : Program) (K : PySem.W.Frag) (h : Heap) : Prop := ∀ (x : Str) (c P : Addr), ((recsOf q).find? (fun e => e.name == x)).isSome = true → PySem.W.tabIn K x = some (c, P) → PySem.W.CodeHd h c P ∧ h.get? P = some { cls := .none, data := .fields #[] }
theorem walk_T {l : PySem.W.OpenLaw} {n k : Nat} {q : Program} {loose : List Str} {XP : (Str → Option Value) → Heap → Prop} {YP : World → Heap → Prop} {d : DefRec} {K : Params → PySem.W.Frag} {x : Str}
    (hn : l.most = some n) (hn2 : n ≤ sizeLine) (hdf : d.params.defaults = []) (hr : Room k callerA) (hY : ∀ (w : World) (h : Heap), YP w h → (K w.params).In h)
    (F : ∀ (w : World) (mg : Str → Option Value) (fa : Addr) (h : Heap), YP w h → (K w.params).In h → h.Ns mainGlobals mg → mg d.name = some (.ref fa) → TabsT q (K w.params) h → LamX.LawAtS l w (K w.params) CX0 k n x mg fa h) :
    PySem.W.WalkO q loose XP YP l.row.toRowW d [] (fun f vs => PySem.call f vs) := by
  refine Att.attach_callB hn hdf fun w s₀ s₁ mg mb fa o pm cd doc a vs ns G Y ho hd hcd hmg hobj hints hlen hbits hg => ?_
  have KX := hY w _ Y
  have tabs : TabsT q (K w.params) s₁.heap := fun x c P h1 h2 => by
    obtain ⟨d', hd'⟩ := Option.isSome_iff_exists.mp h1
    exact PySem.W.tab_of G.T KX hd' h2
  obtain ⟨fd, cs, sp, hT, nT, C, hb, hsp, hF⟩ := F w mg fa _ Y KX G.T.g hmg tabs
  exact LamX.law_callTs KX G.T.g G.T.b G.T.builtins G.T.nolimit hg hT nT C G.T.bmain hobj hints (Nat.le_trans hlen hn2) hr hF hb (fun H hH hS => hsp H a ns hlen hbits hH hS) fun H e s' z => z
end Ov

set_option Elab.async false
set_option linter.all false
set_option maxRecDepth 100000
set_option maxHeartbeats 4000000
/-! defs that run where no printing is under way: what repr wants to know -/
namespace Ov
open PySem PySem.Spec PyProof.Rows L2 GxR
/-- a def's promise at the places where no repr is under way -/
structure FnG (P : Program) (w : World) (K : PySem.W.Frag) (mg : Str → Option Value) (base : Heap) (CX : CXT) (k : Nat) (f : Addr) (fd : FuncData) (ps : List Str) (sp : Sp) : Prop where
  len : ∀ vs H Q E, sp vs H Q E → vs.length = ps.length
  run : ∀ (A : Around) (fr : List Env) (s : Shared) (H : Hp) (args : Args) (us : List Value) (vs : List V) (Q : VK) (E : XK), A.guards = some [] → Room k A → Env0 P w K mg base A fr s H → BindsTo s fd args (ps.zip us) → Vals vs us → sp vs H Q E →
    codeAny (model P w) A (.call (.ref f) args) (CR CX fr P w H s Q E) s
theorem FnOk.toG {P : Program} {w : World} {K : PySem.W.Frag} {mg : Str → Option Value} {base : Heap} {CX : CXT} {k : Nat} {f : Addr} {fd : FuncData} {ps : List Str} {sp : Sp} (F : FnOk P w K mg base CX k f fd ps sp) : FnG P w K mg base CX k f fd ps sp :=
  ⟨F.len, fun A fr s H args us vs Q E _ => F.run A fr s H args us vs Q E⟩
section
variable {P : Program} {w : World} {K : PySem.W.Frag} {mg : Str → Option Value} {base : Heap}
/-- as Fun.ok; the body knows the guards -/
theorem fun_okG {x qual : Str} {st : Stmt} {f : Addr} {fd : FuncData} {N ps : List Str} {k : Nat} {sp : Sp} (F : L2.Fun K x qual st f fd) (S : FnScope N ps (defScope st)) (len : ∀ vs H Q E, sp vs H Q E → vs.length = ps.length)
    (body : ∀ (cdv : Value) (A : Around) (fr : List Env) (s : Shared) (H : Hp) (vs : List V) (Q : VK) (E : XK), (A.deeper (envOfC qual (defScope st) s.heap.objs.size f cdv)).guards = some [] → Room k (A.deeper (envOfC qual (defScope st) s.heap.objs.size f cdv)) → sp vs H Q E →
      ∃ t, PSs (cxOf CX0 P w K mg base N qual (defScope st) f cdv A fr s H E).nox (defBody st) t ∧ t { nx := fun _ H' => Q .non H', rt := Q } (start N vs) H) : FnG P w K mg base CX0 (k + 1) f fd ps sp := by
  obtain ⟨oc, od, kV, doc, pm, an, cdv, ct, osl, rfl, lk, hcd⟩ := F.ex
  refine ⟨len, fun A fr s H args us vs Q E hg hr e0 hb rv hs => ?_⟩
  refine LamX.run_ofS lk hcd S hr e0 hb rv (len _ _ _ _ hs) fun hr' => ?_
  obtain ⟨t, h, q⟩ := body cdv A fr s H vs Q E (by simpa [Around.deeper] using hg) hr' hs
  exact ⟨t, h.nox, q⟩
end
section
variable {X : Cx} {CX : CXT} {k : Nat} {f : Addr} {fd : FuncData} {ps : List Str} {sp : Sp} {E : XK} {x : Str} {p pos : Pos} {e : Expr} {es : List Expr} {t : TA}
/-- f(..) where the guards are known -/
theorem pe_callG (F : FnG X.prog X.w X.K X.mg X.base CX k f fd ps sp) (hg0 : X.A.guards = some []) (hr : Room k X.A) (hg : Gl X x) (hm : X.mg x = some (.ref f)) (hk : PySem.W.keepIn X.K (.ref f) = true) (hb : Binds X.K fd ps []) (hx : Passes CX X E) (ha : PA X (e :: es) t)
    (hdb : (x == ("__debug__" : Str)) = false := by decide) (he : starEach (e :: es) X.env = (false, eval e X.env) :: starEach es X.env := by rfl) (hpl : (backTo pos (starEach es X.env)).any (·.1) = false := by rfl) :
    PE X (.Call (.Name x p) (e :: es) [] pos) (tCall sp [] E t) := by
  refine ⟨fun pins s σ H Q I h => ?_⟩
  refine wpAny_Call_Name_kw (ld_glob I hg hm ?_ hdb)
  refine PySem.W.callWith_K (h₀ := X.base) I.ok.mod.kin hk (thn (ha.run pos pins s σ H _ I h) fun us s1 ⟨vs, H1, I1, r, q⟩ => ⟨I1.kIn, ?_⟩) he hpl
  have q : sp vs H1 Q E := by
    have z : sp (vs ++ []) H1 Q E := q
    rwa [List.append_nil] at z
  have hl : us.length = ps.length := by rw [← r.length]; exact F.len _ _ _ _ q
  have b := hb s1 us I1.kIn (by rw [List.append_nil]; exact hl)
  rw [List.append_nil] at b
  refine wpAny_call (codeAny_mono (F.run X.A X.stack s1 H1 ⟨us, []⟩ us vs Q E hg0 hr I1.env0 b r q) fun rr s' hq => ?_)
  cases rr with
  | error er => exact hx pins σ H1 s1 er s' I1 hq
  | ok fl =>
    cases fl with
    | ret u => exact I1.after hq
    | next => exact False.elim hq
    | brk => exact False.elim hq
    | cont => exact False.elim hq
end
/-! ### the end -/
/-- the script at a (as o has it) and the empty tables are tracked, nothing else -/
def trackH (cs : List (Addr × Addr)) (a : Addr) (o : Option HO) : Hp := fun b => if b = a then o else if b ∈ cs.map (·.2) then some (.tbl #[]) else none
theorem law_callG {P : Program} {w : World} {K : PySem.W.Frag} {mg mb : Str → Option Value} {fa a : Addr} {cs : List (Addr × Addr)} {s₁ : Shared} {vs : List Value} {ns : List Int}
    (KX : K.In s₁.heap) (gl : s₁.heap.Ns mainGlobals mg) (bl : s₁.heap.Ns builtinsNs mb) (bb : ∀ x : Str, x ≠ "__name__" → mb x = bootBuiltins x) (lim : s₁.heap.NoLimit) (nog : s₁.gens = #[])
    (tabs : ∀ p ∈ cs, s₁.heap.get? p.2 = some { cls := .none, data := .fields #[] }) (nT : ∀ p ∈ cs, K.lookup p.2 = none) (Cd : ∀ p ∈ cs, PySem.W.CodeHd s₁.heap p.1 p.2)
    (bmod : ∃ (bm : Addr) (ob : Obj), mg "__builtins__" = some (.ref bm) ∧ bm ≠ builtinsNs ∧ s₁.heap.get? bm = some ob ∧ ob.cls = .type "module" ∧ ob.dict = some builtinsNs ∧ ob.data = .plain)
    (ha : s₁.heap.get? a = some { cls := .type "list", data := .seq vs.toArray }) (hi : IntsAre vs ns) (hl : ns.length ≤ sizeLine)
    (F : ∀ (base : Heap) (H : Hp), K.In base → base.Ns mainGlobals mg → (∀ p ∈ cs, LamX.TabB base mg p.1 p.2) → Env0 P w K mg base callerA [] s₁ H → (∀ p ∈ cs, H p.2 = some (.tbl #[])) → SqL K H a (ns.map V.int) →
      codeAny (model P w) callerA (.call (.ref fa) ⟨[.ref a], []⟩) (CR CX0 [] P w H s₁ (fun v _ => v = .bl true) fun _ _ _ => False) s₁) :
    codeAny (model P w) callerA (.call (.ref fa) ⟨[.ref a], []⟩) (fun r s' => r = .ok (.ret (.bool true)) ∧ OldK s₁.heap s'.heap ∧ s'.os = s₁.os ∧ AllBare s'.gens) s₁ := by
  have rel := vals_ints hi
  have nl : ns.length = vs.length := hi.length.symm
  have memT : ∀ p ∈ cs, p.2 ∈ cs.map (·.2) := fun p hp => List.mem_map.mpr ⟨p, hp, rfl⟩
  have tabT : ∀ b ∈ cs.map (·.2), s₁.heap.get? b = some { cls := .none, data := .fields #[] } := fun b hb => by
    obtain ⟨p, hp, rfl⟩ := List.mem_map.mp hb
    exact tabs p hp
  have aT : a ∉ cs.map (·.2) := fun z => by
    have q := (tabT a z).symm.trans ha
    cases q
  -- the way, once the script's place is chosen
  have go : ∀ o : Option HO, SqL K (trackH cs a o) a (ns.map V.int) → (∀ u, o = some u → ObjOk P w (trackH cs a o) s₁.heap a u ∧ K.lookup a = none ∧ ∃ ob xs, u = .frz ob (.lst xs)) →
      codeAny (model P w) callerA (.call (.ref fa) ⟨[.ref a], []⟩) (fun r s' => r = .ok (.ret (.bool true)) ∧ OldK s₁.heap s'.heap ∧ s'.os = s₁.os ∧ AllBare s'.gens) s₁ := by
    intro o seq hob
    generalize hH : trackH cs a o = H at seq hob
    have Ha : H a = o := by rw [← hH]; exact if_pos rfl
    have HT : ∀ b ∈ cs.map (·.2), H b = some (.tbl #[]) := fun b hb => by
      have ne : b ≠ a := fun z => aT (z ▸ hb)
      rw [← hH]
      exact (if_neg ne).trans (if_pos hb)
    have HN : ∀ b, b ≠ a → b ∉ cs.map (·.2) → H b = none := fun b h1 h2 => by
      rw [← hH]
      exact (if_neg h1).trans (if_neg h2)
    -- what is neither the script nor a table is not tracked
    have un1 : ∀ {b : Addr} {u : Obj}, s₁.heap.get? b = some u → (∀ k n, u.data ≠ .seq k n) → u.data ≠ .fields #[] → H b = none := fun {b u} e n1 n2 => by
      refine HN b (fun z => ?_) fun z => ?_
      · subst z
        rw [ha] at e
        exact n1 _ _ (by rw [← Option.some.inj e])
      · rw [tabT b z] at e
        exact n2 (by rw [← Option.some.inj e])
    have hok : HOk P w H s₁.heap := fun b u e => by
      by_cases h1 : b = a
      · subst h1
        rw [Ha] at e
        exact (hob u e).1
      · by_cases h2 : b ∈ cs.map (·.2)
        · rw [HT b h2] at e
          cases e
          exact tabT b h2
        · rw [HN b h1 h2] at e
          cases e
    have ns1 : ∀ {b : Addr} {m : Str → Option Value}, s₁.heap.Ns b m → (hidT s₁.heap H).Ns b m := fun {b m} ⟨u, es, ep, e, d, r⟩ =>
      ⟨u, es, ep, hidT_get e (un1 e (fun k n z => by rw [d] at z; cases z) fun z => by rw [d] at z; cases z), d, r⟩
    have kb : K.In (hidT s₁.heap H) := fun b u e => by
      refine hidT_get (KX b u e) ?_
      by_cases h1 : b = a
      · subst h1
        rw [Ha]
        cases ho : o with
        | none => rfl
        | some u' =>
          have z := (hob u' ho).2.1
          rw [e] at z
          cases z
      · refine HN b h1 fun z => ?_
        obtain ⟨p, hp, rfl⟩ := List.mem_map.mp z
        rw [nT p hp] at e
        cases e
    have md : L2.Mod K mg (hidT s₁.heap H) := ⟨kb, ns1 gl, ⟨mb, ns1 bl, bb⟩, by
      obtain ⟨mc, q1, q2⟩ := lim
      exact ⟨mc, ns1 q1, q2⟩⟩
    have TB : ∀ p ∈ cs, LamX.TabB (hidT s₁.heap H) mg p.1 p.2 := fun p hp => by
      have tp := tabs p hp
      refine ⟨?_, ?_, fun z => ?_⟩
      · obtain ⟨u, us, fl, tf, fg, tg, inF, tx, tt, c1, c2, c3, c4, c5, c6, c7, c8, c9, cne⟩ := Cd p hp
        exact ⟨u, us, fl, tf, fg, tg, inF, tx, tt, hidT_get c1 (un1 c1 (fun k n z => by rw [c3] at z; cases z) fun z => by rw [c3] at z; cases z; simp at c4), c2, c3, c4, c5, c6, c7, c8, c9, cne⟩
      · obtain ⟨bm, ob, m1, m2, m3, m4, m5, m6⟩ := bmod
        refine ⟨bm, ob, m1, m2, fun q => ?_, fun q => ?_, hidT_get m3 (un1 m3 (fun k n z => by rw [m6] at z; cases z) fun z => by rw [m6] at z; cases z), m4, m5, m6⟩
        · obtain ⟨u, es, ep, e, hd, _⟩ := gl
          rw [q, e] at m3
          cases m3
          rw [hd] at m6
          cases m6
        · rw [q, tp] at m3
          cases m3
          cases m6
      · obtain ⟨u, es, ep, e, hd, _⟩ := gl
        rw [z, tp] at e
        cases e
        cases hd
    have env : Env0 P w K mg (hidT s₁.heap H) callerA [] s₁ H := ⟨rfl, md, fun b u e => of_hidT e, Nat.le_of_eq (hidT_size _ _), trivial, fun b hb => (by cases hb), hok, .of_eq nog⟩
    refine codeAny_mono (F _ H kb (ns1 gl) TB env (fun p hp => HT _ (memT p hp)) seq) fun r s' h => ?_
    cases r with
    | error e => exact False.elim h
    | ok f =>
      cases f with
      | next => exact False.elim h
      | brk => exact False.elim h
      | cont => exact False.elim h
      | ret u =>
        obtain ⟨v, H', os, bare, un, hok', rv, q⟩ := h
        have qv : v = .bl true := q
        subst qv
        obtain rfl : u = Value.bool true := rv
        have stays : ∀ b u, b ∉ cs.map (·.2) → s₁.heap.get? b = some u → s'.heap.get? b = some u := fun b u nb e => by
          by_cases h1 : b = a
          · subst h1
            cases ho : o with
            | none =>
              have hn : H b = none := Ha.trans ho
              exact un.keep b u e hn (by intro z; cases z) (by simp)
            | some u' =>
              obtain ⟨ok1, _, ob, xs, rfl⟩ := hob u' ho
              have z1 : H b = some (.frz ob (.lst xs)) := Ha.trans ho
              have z2 := un.frzs b ob _ z1
              have e1 := (hok b _ z1).1
              have e2 := (hok' b _ z2).1
              rw [e] at e1
              cases e1
              exact e2
          · exact un.keep b u e (HN b h1 nb) (by intro z; cases z) (by simp)
        have grow : ∀ p ∈ cs, ∃ more : Array Value, s'.heap.get? p.2 = some { cls := .none, data := .fields more } := fun p hp => by
          obtain ⟨more, z⟩ := un.tbls p.2 #[] (HT _ (memT p hp))
          exact ⟨_, hok' p.2 _ z⟩
        refine ⟨rfl, ⟨fun b u e => ?_, fun b u e => ?_⟩, os, bare⟩
        · by_cases hb : b ∈ cs.map (·.2)
          · obtain ⟨p, hp, rfl⟩ := List.mem_map.mp hb
            obtain ⟨more, hm⟩ := grow p hp
            have eu := (tabs p hp).symm.trans e
            cases eu
            exact .inr (.inl ⟨((Cd p hp).tab (tabs p hp)).isCodeTable, rfl, #[], more, rfl, by rw [Array.empty_append]; exact hm⟩)
          · exact .inl (stays b u hb e)
        · by_cases hb : b ∈ cs.map (·.2)
          · obtain ⟨p, hp, rfl⟩ := List.mem_map.mp hb
            obtain ⟨more, hm⟩ := grow p hp
            exact ⟨_, hm⟩
          · exact ⟨u, stays b u hb e⟩
  cases hk : K.lookup a with
  | some u =>
    have e := (KX a u hk).symm.trans ha
    cases e
    exact go none (.inr ⟨_, vs.toArray, _, hk, rfl, rfl, rfl, by rw [List.size_toArray, ← nl]; exact hl, by simpa using rel⟩) fun u z => by cases z
  | none =>
    refine go (some (.frz { cls := .type "list", data := .seq vs.toArray } (.lst (ns.map V.int)))) (.inl (.inr ⟨_, if_pos rfl⟩)) fun u z => ?_
    cases z
    exact ⟨⟨ha, by rw [List.length_map]; exact hl, vs, _, rel, ha⟩, hk, _, _, rfl⟩
end Ov

set_option Elab.async false
set_option linter.all false
set_option maxRecDepth 100000
set_option maxHeartbeats 4000000
namespace Ov
open PySem PySem.Spec PyProof.Rows L2 GxR
/-- repr of a list of data -/
def rReprL (K : PySem.W.Frag) : List V → Hp → VK → Prop := fun xs H Q => ∃ (a : Addr) (d : PyData), xs = [V.ref a] ∧ Dp K H (.ref a) d ∧ d.showable = true ∧ d.hasDict = false ∧ d.depth ≤ 60 ∧ d.shown.length ≤ sizeLine ∧ Q (.str d.shown) H
theorem call_reprL {X : Cx} (hg : X.A.guards = some []) (hu : X.A.units + 64 < cLine) : CallR X (.builtin "repr") (rReprL X.K) := by
  intro pins s σ H xs us Q I r h
  obtain ⟨a, d, rfl, hd, hs, hdict, dep, hsz, q⟩ := h
  obtain ⟨u, rfl, ru⟩ := vals1 r
  obtain rfl : u = Value.ref a := ru
  obtain ⟨as, rd⟩ := Dp.reads I d _ _ hd rfl
  refine repr_of_reads' rd hs (fun z => by rw [hdict] at z; cases z) hg (by omega) (fun b o e => e) (fun h' u tk hk => ?_) hsz
  exact ⟨.str d.shown, H, I.kept (t' := tk) hk, ⟨u, rfl⟩, q⟩
end Ov

set_option Elab.async false
set_option linter.all false
set_option maxRecDepth 100000
set_option maxHeartbeats 4000000
/-! own __len__ and __add__ of instances -/
namespace Ov
open PySem PySem.Spec PyProof.Rows L2 GxR
theorem insAt {X : Cx} {pins : List (Addr × Obj)} {σ : L2.St} {H : Hp} {s : Shared} {a C dx : Addr} {fs : List (Str × V)} (I : Inv X pins σ H s) (h : H a = some (.ins C dx fs)) : ∃ o od, PySem.W.InstAt s.heap a o C od ∧ o.data = .plain := by
  obtain ⟨m, O, _⟩ := ins_get I.hok h
  obtain ⟨od, J, _⟩ := O.look
  exact ⟨_, _, J, rfl⟩
theorem frOf {X : Cx} {pins : List (Addr × Obj)} {σ : L2.St} {H : Hp} {s : Shared} (I : Inv X pins σ H s) : ∃ m, Fr X.base X.env.locals s.heap m := by
  obtain ⟨m, hm, _⟩ := I.loc
  exact ⟨m, hm, fun b o e => (I.bs b o e).1, Nat.le_trans I.ok.bsz I.ok.above⟩
/-- len of an instance of C -/
def rLenI (C : Addr) (sp : Sp) : List V → Hp → VK → Prop := fun xs H Q => ∃ a dx fs, xs = [V.ref a] ∧ H a = some (.ins C dx fs) ∧ sp [.ref a] H (fun v H2 => ∃ n : Nat, v = .int (n : Nat) ∧ n < 2 ^ 62 ∧ Q (.int (n : Nat)) H2) E0
theorem call_lenI {X : Cx} {k : Nat} {C f : Addr} {sp : Sp} (hs : PySem.W.findIn X.K (.ref C) "__len__" = some (some (.ref f))) (hf : PySem.W.isFn X.K (.ref f) = true) (F : FnR X.prog X.w X.K X.mg X.base CX0 k f sp) (hr : Room (k + 1) X.A) : CallR X (.builtin "len") (rLenI C sp) := by
  intro pins s σ H xs us Q I r h
  obtain ⟨a, dx, fs, rfl, ha, q⟩ := h
  obtain ⟨u, rfl, ru⟩ := vals1 r
  obtain rfl : u = Value.ref a := ru
  obtain ⟨o, od, J, _⟩ := insAt I ha
  obtain ⟨m, Fm⟩ := frOf I
  refine PySem.W.len_K Fm I.ok.mod.kin J hs hf ?_
  refine wpAny_call (codeAny_mono (F X.A.in1 X.stack s H [.ref a] [V.ref a] _ E0 hr.in1 I.env0.in1 (.cons rfl .nil) q) fun rr s' hq => ?_)
  cases rr with
  | error e => exact False.elim hq
  | ok fl =>
    cases fl with
    | ret u =>
      obtain ⟨v, H2, I2, rv, n, rfl, hn, q2⟩ := I.after hq
      obtain ⟨t, rfl⟩ := rv
      exact ⟨⟨by omega, by omega⟩, .int (n : Nat), H2, I2.tok _, ⟨_, rfl⟩, q2⟩
    | next => exact False.elim hq
    | brk => exact False.elim hq
    | cont => exact False.elim hq
/-- x + y, instances of C with __add__; in a try's body too -/
def tAddI (C : Addr) (sp : Sp) (E : L2.St → XK) (ta tb : TE) : TE := fun σ H Q => ta σ H fun x H1 => tb σ H1 fun y H2 => ∃ a b dx fs dy gs, x = V.ref a ∧ y = V.ref b ∧ H2 a = some (.ins C dx fs) ∧ H2 b = some (.ins C dy gs) ∧ sp [.ref a, .ref b] H2 (fun v H3 => (∃ p, v = .ref p) ∧ Q v H3) (E σ)
theorem pe_addI {X : Cx} {CX : CXT} {k : Nat} {C f : Addr} {sp : Sp} {E : L2.St → XK} {e1 e2 : Expr} {ta tb : TE} {pos : Pos} (hs : PySem.W.findIn X.K (.ref C) "__add__" = some (some (.ref f))) (hf : PySem.W.isFn X.K (.ref f) = true) (hc : PySem.W.selfFirst X.K C = true)
    (F : FnR X.prog X.w X.K X.mg X.base CX k f sp) (hr : Room k X.A) (hx : ∀ σ, PassesAt CX X σ (E σ)) (h1 : PE X e1 ta) (h2 : PE X e2 tb) : PE X (.BinOp e1 .Add e2 pos) (tAddI C sp E ta tb) := by
  refine ⟨fun pins s σ H Q I h => ?_⟩
  refine wpAny_BinOp (thn (h1.run pins s σ H _ I h) fun v s1 ⟨x, H1, I1, r1, q1⟩ => thn (h2.run pins s1 σ H1 _ I1 q1) fun u s2 ⟨y, H2, I2, r2, q2⟩ => ?_)
  obtain ⟨a, b, dx, fs, dy, gs, rfl, rfl, ha, hb, q⟩ := q2
  obtain rfl : v = Value.ref a := r1
  obtain rfl : u = Value.ref b := r2
  obtain ⟨o, od, J, _⟩ := insAt I2 ha
  obtain ⟨o', od', J', _⟩ := insAt I2 hb
  obtain ⟨m, Fm⟩ := frOf I2
  refine PySem.W.binop_K (op := .Add) Fm I2.ok.mod.kin J J'.type hc hs hf ?_
  refine wpAny_call (codeAny_mono (F X.A X.stack s2 H2 [.ref a, .ref b] [V.ref a, V.ref b] _ (E σ) hr I2.env0 (.cons rfl (.cons rfl .nil)) q) fun rr s' hq => ?_)
  cases rr with
  | error e => exact hx σ _ H2 s2 e s' I2 hq
  | ok fl =>
    cases fl with
    | ret u =>
      obtain ⟨v, H3, I3, rv, ⟨p, rfl⟩, q3⟩ := I2.after hq
      obtain rfl : u = Value.ref p := rv
      exact ⟨.ref p, H3, I3, rfl, q3⟩
    | next => exact False.elim hq
    | brk => exact False.elim hq
    | cont => exact False.elim hq
end Ov

set_option Elab.async false
set_option linter.all false
set_option maxRecDepth 100000
set_option maxHeartbeats 4000000
/-! a def that raises nothing, called while an exception is handled: of the caller's pins one is enough -/
namespace Ov
open PySem PySem.Spec PyProof.Rows L2 GxR
structure FnM (P : Program) (w : World) (K : PySem.W.Frag) (mg : Str → Option Value) (base : Heap) (k : Nat) (f : Addr) (fd : FuncData) (ps : List Str) (sp : Sp) : Prop where
  n : ∀ vs H Q E, sp vs H Q E → vs.length = ps.length
  go : ∀ (A : Around) (outer : List Env) (s : Shared) (H : Hp) (g : Args) (us : List Value) (vs : List V) (Q : VK) (E : XK) (pin : Addr × Obj), L2H.RoomH k A → L2H.PinOk outer H s pin → Env0 P w K mg base A outer s H → BindsTo s fd g (ps.zip us) → Vals vs us → sp vs H Q E →
    codeAny (model P w) A (.call (.ref f) g) (CR CX0 outer P w H s Q E) s
theorem FnM.of {P : Program} {w : World} {K : PySem.W.Frag} {mg : Str → Option Value} {base : Heap} {x qual : Str} {st : Stmt} {f : Addr} {fd : FuncData} {N ps : List Str} {k : Nat} {sp : Sp} (F : L2.Fun K x qual st f fd) (S : FnScope N ps (defScope st)) (hn : ∀ vs H Q E, sp vs H Q E → vs.length = ps.length)
    (hb : ∀ (cdv : Value) (A : Around) (outer : List Env) (s : Shared) (H : Hp) (vs : List V) (Q : VK) (E : XK) (pin : Addr × Obj), L2H.RoomH k (A.deeper (envOfC qual (defScope st) s.heap.objs.size f cdv)) → sp vs H Q E →
      ∃ t, PSs (L2H.cxH CX0 P w K mg base N qual (defScope st) f cdv A outer s H E pin) (defBody st) t ∧ t { nx := fun _ H' => Q .non H', rt := Q } (L2.start N vs) H) : FnM P w K mg base (k + 1) f fd ps sp := by
  obtain ⟨oc, od, kV, doc, pm, an, cdv, ct, osl, rfl, lk, hcd⟩ := F.ex
  refine ⟨hn, fun A outer s H g us vs Q E pin room hpin env bind rel spec => ?_⟩
  have lv := hn _ _ _ _ spec
  have KH : K.In s.heap := env.mod.kin.keeps fun c u z => (env.bs c u z).1
  have nl : s.heap.NoLimit := env.mod.nolimit.keeps fun c u z => (env.bs c u z).1
  have kinds : ∀ z ∈ ps.zip us, (defScope st).names.lookup z.1 = some .local ∨ ((defScope st).names.lookup z.1 = some .cell ∧ ((cellsFrom (s.heap.objs.size + 1) (defScope st).names []).lookup z.1).isSome = true) := by
    rintro ⟨nm, val⟩ hz
    cases S.par nm (List.of_mem_zip hz).1 with
    | inl h1 => exact .inl h1
    | inr h2 => exact .inr ⟨h2, PySem.W.cellsFrom_some _ _ _ (.inl h2)⟩
  refine codeAny_call_function room.depth (KH _ _ lk) rfl S.co S.gen rfl (PySem.W.codeRec_of KH hcd) (bind _ _ _ _ ?_)
  refine wpAny_newFunctionEnv_cells S.kind kinds fun env2 eenv s1 y => ?_
  subst eenv
  refine ⟨nl.keeps y.toInCall.keep, codeAny_func ?_⟩
  obtain ⟨t, run, sat⟩ := hb cdv A outer s H vs Q E pin (room.deeper _) spec
  have J0 : Inv (L2H.cxH CX0 P w K mg base N qual (defScope st) f cdv A outer s H E pin) [] (L2.start N vs) H s1 := L2H.inv_startH S hpin env lv rel y
  refine wpAny_mono (run.run [] s1 (L2.start N vs) H _ J0 sat) (fun out s2 hout => ?_) fun er s2 her => her
  cases out with
  | ret u =>
    obtain ⟨v, σ', H', J, rv, hq⟩ := hout
    exact ⟨v, H', J.os, J.bare, J.base, J.hok, rv, hq⟩
  | next =>
    obtain ⟨σ', H', J, hq⟩ := hout
    exact ⟨V.non, H', J.os, J.bare, J.base, J.hok, rfl, hq⟩
  | brk => exact absurd hout.choose_spec.choose_spec.2 id
  | cont => exact absurd hout.choose_spec.choose_spec.2 id
section
variable {X : Cx} {pins : List (Addr × Obj)} {σ : L2.St} {H : Hp} {s : Shared}
theorem pinOk_of {pin : Addr × Obj} (I : Inv X pins σ H s) (hp : pin ∈ X.pn) : L2H.PinOk X.stack H s pin := by
  obtain ⟨a1, a2, a3, a4, a5⟩ := I.pin pin (List.mem_append_left _ hp)
  refine ⟨a1, a2, fun hm => ?_, a5⟩
  rcases List.mem_cons.mp (I.stkSub pin.1 hm) with z | z
  · exact a3 z
  · exact a4 z
theorem RoomH.in1 {k : Nat} {A : Around} (r : L2H.RoomH (k + 1) A) : L2H.RoomH k A.in1 :=
  ⟨by have := r.dp; show A.depth + 3 * k + 5 < _; omega, by have := r.un; show A.units + 1 + 16 * k + 200 < _; omega⟩
/-- len of an instance, while an exception is handled -/
theorem call_lenM {k : Nat} {C f : Addr} {fd : FuncData} {sp : Sp} {pin : Addr × Obj} (hs : PySem.W.findIn X.K (.ref C) "__len__" = some (some (.ref f))) (hf : PySem.W.isFn X.K (.ref f) = true) (F : FnM X.prog X.w X.K X.mg X.base k f fd ["self"] sp) (hb : Binds X.K fd ["self"] []) (hr : L2H.RoomH (k + 1) X.A) (hp : pin ∈ X.pn) : CallR X (.builtin "len") (rLenI C sp) := by
  intro pins s σ H xs us Q I r h
  obtain ⟨a, dx, fs, rfl, ha, q⟩ := h
  obtain ⟨u, rfl, ru⟩ := vals1 r
  obtain rfl : u = Value.ref a := ru
  obtain ⟨o, od, J, _⟩ := insAt I ha
  obtain ⟨m, Fm⟩ := frOf I
  have bd := hb s [.ref a] I.kIn rfl
  refine PySem.W.len_K Fm I.ok.mod.kin J hs hf ?_
  refine wpAny_call (codeAny_mono (F.go X.A.in1 X.stack s H ⟨[.ref a], []⟩ [.ref a] [V.ref a] _ E0 pin (RoomH.in1 hr) (pinOk_of I hp) I.env0.in1 bd (.cons rfl .nil) q) fun rr s' hq => ?_)
  cases rr with
  | error e => exact False.elim hq
  | ok fl =>
    cases fl with
    | ret u =>
      obtain ⟨v, H2, I2, rv, n, rfl, hn, q2⟩ := I.after hq
      obtain ⟨t, rfl⟩ := rv
      exact ⟨⟨by omega, by omega⟩, .int (n : Nat), H2, I2.tok _, ⟨_, rfl⟩, q2⟩
    | next => exact False.elim hq
    | brk => exact False.elim hq
    | cont => exact False.elim hq
/-- a property, while an exception is handled -/
theorem pe_propM {k : Nat} {p g : Addr} {f : Str} {fd : FuncData} {sp : Sp} {pin : Addr × Obj} {e : Expr} {pos : Pos} {ta : TE} (he : PE X e ta) (F : FnM X.prog X.w X.K X.mg X.base k g fd ["self"] sp) (hr : L2H.RoomH (k + 1) X.A) (hb : Binds X.K fd ["self"] []) (hp : pin ∈ X.pn)
    (hab : attributeBase e f X.env (eval e X.env) = eval e X.env := by rfl) : PE X (.Attribute e f pos) (tPropX X.K f p g sp [] E0 ta) := by
  refine ⟨fun pins s σ H Q I h => ?_⟩
  refine attr_of hab (thn (he.run pins s σ H _ I h) fun u s1 ⟨x, H1, I1, rx, a, C, dx, fs, ex, c, hpr, ea, q⟩ => ?_)
  subst ex
  obtain rfl : u = Value.ref a := rx
  obtain ⟨mA, O, _, _, _, _⟩ := ins_get I1.hok ea
  obtain ⟨od, J, _⟩ := O.look
  obtain ⟨rest, hrec⟩ := hpr.rec_
  have I2 := I1.tok (s1.toks + 1)
  have hcls : (PySem.W.clsIn X.K C).isSome = true := by
    obtain ⟨cd, hcd, _⟩ := PySem.W.any_some c.hd
    rw [hcd]; rfl
  have bd := hb { s1 with toks := s1.toks + 1 } [.ref a] I2.kIn rfl
  refine PySem.W.get_bind I1.kIn J (PySem.W.plainGet_of (c.get f)).1 (PySem.W.findObj_data hcls hpr.at_ hpr.get hpr.tak) (PySem.W.plainGet_of (c.get f)).2 (wpAny_call (PySem.W.prop_get (s := { s1 with toks := s1.toks + 1 }) I1.kIn hrec ?_))
  refine codeAny_mono (F.go X.A.in1 X.stack { s1 with toks := s1.toks + 1 } H1 ⟨[.ref a], []⟩ [.ref a] [.ref a] Q E0 pin (RoomH.in1 hr) (pinOk_of I2 hp) I2.env0.in1 bd (.cons rfl .nil) q) fun rr s' hq => ?_
  cases rr with
  | error er => exact False.elim hq
  | ok fl =>
    cases fl with
    | ret u =>
      obtain ⟨v, H', I3, rv, q3⟩ := I2.after hq
      show wpAny _ _ (handedOut u) _ _ _
      rw [PySem.W.handedOut_of (handed_of rv)]
      exact wpAny_pure ⟨v, H', I3, rv, q3⟩
    | next => exact False.elim hq
    | brk => exact False.elim hq
    | cont => exact False.elim hq
/-- the same, where the reading is told by name -/
theorem pe_propMK {K : PySem.W.Frag} (hK : X.K = K) {k : Nat} {p g : Addr} {f : Str} {fd : FuncData} {sp : Sp} {pin : Addr × Obj} {e : Expr} {pos : Pos} {ta : TE} (he : PE X e ta) (F : FnM X.prog X.w X.K X.mg X.base k g fd ["self"] sp) (hr : L2H.RoomH (k + 1) X.A) (hb : Binds X.K fd ["self"] []) (hp : pin ∈ X.pn)
    (hab : attributeBase e f X.env (eval e X.env) = eval e X.env := by rfl) : PE X (.Attribute e f pos) (tPropX K f p g sp [] E0 ta) := by
  subst hK
  exact pe_propM he F hr hb hp hab
theorem op_eqDK {K : PySem.W.Frag} (hK : X.K = K) (hu : X.A.units + 64 < cLine) : OpR X (compareOp .Eq) (rEqD K) := by
  subst hK
  exact op_eqD hu
end
end Ov

set_option Elab.async false
set_option linter.all false
set_option maxRecDepth 100000
set_option maxHeartbeats 4000000
/-! isinstance of a caught error: one class, a tuple of classes; its class is told where the reading is -/
namespace Ov
open PySem PySem.Spec PyProof.Rows L2 GxR
def rIsEX (K : PySem.W.Frag) (cls : Value) (d : Option Addr) (a : Addr) : List V → Hp → VK → Prop := fun xs H Q => ∃ D, cls = .ref D ∧ d = none ∧ ExcC K D ∧
  ((∃ (c : V) (cv : Value) (b : Bool), xs = [.ref a, c] ∧ ClsV c cv ∧ PySem.W.kitOne K (.ref D) cv = some b ∧ Q (.bl b) H) ∨
   (∃ (tp : Addr) (cs : List V) (us : List Value) (b : Bool), xs = [.ref a, .ref tp] ∧ H tp = some (.tup cs) ∧ Paired ClsV cs us ∧ PySem.W.kitAny K (.ref D) us = some b ∧ Q (.bl b) H))
theorem call_isEX {X : Cx} {a : Addr} {cls : Value} {d : Option Addr} {oe : Obj} {pn : List (Addr × Obj)} (hz : Zc cls d oe) (hf : ∃ vs, oe.data = .fields vs) : CallR (X.suite a ((a, oe) :: pn)) (.builtin "isinstance") (rIsEX X.K cls d a) := by
  intro pins s σ H xs us Q I r h
  obtain ⟨D, rfl, rfl, C, h⟩ := h
  obtain ⟨hget, _⟩ := I.pin (a, oe) (List.mem_append.mpr (.inl List.mem_cons_self))
  obtain ⟨vs, hv⟩ := hf
  have J : PySem.W.InstAt s.heap a oe D none := by
    obtain ⟨oc, od, oda, osl⟩ := oe
    obtain ⟨h1, h2⟩ := hz
    dsimp only at h1 h2 hv
    subst h1 h2 hv
    exact ⟨hget, rfl, rfl, trivial⟩
  have Z : PySem.W.KitX X.K (.ref a) (.ref D) (fun h => PySem.W.InstAt h a oe D none) := PySem.W.handS_kitx_exc C.hg C.hk C.hs C.hd C.ha C.hn C.ht C.hm
  rcases h with ⟨c, cv, b, rfl, hcv, e, q⟩ | ⟨tp, cs, ts, b, rfl, hT, k, e, q⟩
  · obtain ⟨u1, u2, rfl, r1, r2⟩ := vals2 r
    obtain rfl : u1 = Value.ref a := r1
    have ec := hcv.eq r2
    subst ec
    exact PySem.W.kia_one Z I.kIn J e (fun z => nomatch z) fun tk => ⟨.bl b, H, I.kept (t' := tk) fun _ _ z => z, rfl, q⟩
  · obtain ⟨u1, u2, rfl, r1, r2⟩ := vals2 r
    obtain rfl : u1 = Value.ref a := r1
    cases (show u2 = Value.ref tp from r2)
    obtain ⟨_, its, rv, o, h1, h2, n, h3⟩ := (show ObjOk X.prog X.w H s.heap tp (.tup cs) from I.hok tp _ hT)
    have e3 := ClsV.all k rv
    subst e3
    obtain ⟨oc, od, dt, sl⟩ := o
    simp only at h2 h3
    subst h2 h3
    exact PySem.W.kia_tup Z I.kIn J h1 e (fun z => nomatch z) fun tk => ⟨.bl b, H, I.kept (t' := tk) fun _ _ z => z, rfl, q⟩
end Ov

set_option Elab.async false
set_option linter.all false
set_option maxRecDepth 100000
set_option maxHeartbeats 4000000
/-! a caught error handed to a def: its object is frozen in the callee's heap, and taken out behind the call -/
namespace Ov
open PySem PySem.Spec PyProof.Rows L2 GxR
def del (H : Hp) (a : Addr) : Hp := fun b => if b = a then none else H b
theorem del_ne {H : Hp} {a b : Addr} (h : b ≠ a) : del H a b = H b := if_neg h
theorem del_at {H : Hp} {a : Addr} : del H a a = none := if_pos rfl
abbrev Fz (oe : Obj) (a : Addr) : HO := .frz oe (.own a)
section
variable {P : Program} {w : World} {H H2 : Hp} {h h' : Heap} {a b : Addr} {oe : Obj} {o : HO}
theorem objok_del (ha : H a = some (Fz oe a)) : ∀ {o : HO} {b : Addr}, ObjOk P w H h b o → ObjOk P w (del H a) h b o := by
  have ne : ∀ {c : Addr} {u : HO}, H c = some u → (∀ o' u', u ≠ .frz o' u') → c ≠ a := fun e n z => by
    rw [z, ha] at e
    exact n _ _ (Option.some.inj e).symm
  intro o
  induction o with
  | ins C dx fs =>
    intro b x
    exact ⟨(del_ne (ne x.1 fun _ _ z => by cases z)).trans x.1, x.2⟩
  | dT kvs =>
    intro b x
    obtain ⟨n, m, xs, pr, r⟩ := x
    exact ⟨n, m, xs, L2.Paired.mapP pr fun p q ⟨e1, e2, e3⟩ => ⟨e1, (del_ne (ne e2 fun _ _ z => by cases z)).trans e2, e3⟩, r⟩
  | frz o u ih =>
    intro b x
    exact ⟨x.1, ih x.2⟩
  | lst xs => intro b x; exact x
  | tup xs => intro b x; exact x
  | dK kvs => intro b x; exact x
  | set S n => intro b x; exact x
  | own y => intro b x; exact x
  | xd fs => intro b x; exact x
  | rng lo hi => intro b x; exact x
  | tbl ps => intro b x; exact x
  | met f x => intro b y; exact y
  | ext φ => intro b x; exact x
theorem objok_frz (ha : H a = none) : ∀ {o : HO} {b : Addr}, ObjOk P w H h b o → ObjOk P w (upd H a (Fz oe a)) h b o := by
  have ne : ∀ {c : Addr} {u : HO}, H c = some u → c ≠ a := fun e z => by
    rw [z, ha] at e
    cases e
  intro o
  induction o with
  | ins C dx fs =>
    intro b x
    exact ⟨(upd_ne (ne x.1)).trans x.1, x.2⟩
  | dT kvs =>
    intro b x
    obtain ⟨n, m, xs, pr, r⟩ := x
    exact ⟨n, m, xs, L2.Paired.mapP pr fun p q ⟨e1, e2, e3⟩ => ⟨e1, (upd_ne (ne e2)).trans e2, e3⟩, r⟩
  | frz o u ih =>
    intro b x
    exact ⟨x.1, ih x.2⟩
  | lst xs => intro b x; exact x
  | tup xs => intro b x; exact x
  | dK kvs => intro b x; exact x
  | set S n => intro b x; exact x
  | own y => intro b x; exact x
  | xd fs => intro b x; exact x
  | rng lo hi => intro b x; exact x
  | tbl ps => intro b x; exact x
  | met f x => intro b y; exact y
  | ext φ => intro b x; exact x
theorem hok_del (k : HOk P w H h) (ha : H a = some (Fz oe a)) : HOk P w (del H a) h := fun b o e => by
  have hb : b ≠ a := fun z => by rw [z, del_at] at e; cases e
  exact objok_del ha (k b o ((del_ne hb).symm.trans e))
theorem hok_frz (k : HOk P w H h) (ha : H a = none) (hh : h.get? a = some oe) : HOk P w (upd H a (Fz oe a)) h := fun b o e => by
  by_cases hb : b = a
  · subst hb
    rw [upd_same] at e
    cases e
    exact ⟨hh, ⟨oe, hh⟩⟩
  · exact objok_frz ha (k b o ((upd_ne hb).symm.trans e))
theorem un_del {fs : List Addr} (u : Un fs [] (upd H a (Fz oe a)) H2 h h') (hH : H a = none) (hh : h.get? a = some oe) (k : HOk P w H2 h') : H2 a = some (Fz oe a) ∧ Un fs [] H (del H2 a) h h' := by
  have e2 : H2 a = some (Fz oe a) := u.frzs a oe (.own a) upd_same
  have eh : h'.get? a = some oe := (k a _ e2).1
  have up : ∀ {b : Addr}, b ≠ a → upd H a (Fz oe a) b = H b := fun n => upd_ne n
  have hs : ∀ {b : Addr} {v : HO}, H b = some v → b ≠ a := fun e z => by rw [z, hH] at e; cases e
  refine ⟨e2, fun b o e n hf hx => ?_, fun b o e n hf hx => ?_, fun b o e n hx => ?_, fun b o e hx => u.there b o e hx, fun b xs e => ?_, fun b o v e => ?_, fun b ps e => ?_⟩
  · by_cases z : b = a
    · rw [z] at e ⊢
      rw [hh] at e
      rw [eh, e]
    · exact u.keep b o e ((up z).trans n) hf hx
  · by_cases z : b = a
    · rw [z] at e ⊢
      rw [hh] at e
      exact ⟨o.slots, by rw [eh, e]⟩
    · exact u.slot b o e ((up z).trans n) hf hx
  · by_cases z : b = a
    · rw [z]; exact del_at
    · exact (del_ne z).trans (u.free b o e ((up z).trans n) hx)
  · exact (del_ne (hs e)).trans (u.tups b xs ((up (hs e)).trans e))
  · exact (del_ne (hs e)).trans (u.frzs b o v ((up (hs e)).trans e))
  · obtain ⟨m, q⟩ := u.tbls b ps ((up (hs e)).trans e)
    exact ⟨m, (del_ne (hs e)).trans q⟩
end
section
variable {X : Cx} {k : Nat} {f a : Addr} {oe : Obj} {fd : FuncData} {ps : List Str} {sp : Sp} {x : Str} {p pos : Pos} {e : Expr} {es : List Expr} {t : TA}
/-- f(.., e, ..), e a caught error at a -/
def tCallXf (sp : Sp) (oe : Obj) (a : Addr) (t : TA) : TE := fun σ H Q => t σ H fun vs H1 => sp vs (upd H1 a (Fz oe a)) (fun v H2 => H2 a = some (Fz oe a) → Q v (del H2 a)) E0
theorem pe_callXf (hp : (a, oe) ∈ X.pn) (nb : X.base.get? a = none) (F : FnOk X.prog X.w X.K X.mg X.base CX0 k f fd ps sp) (hr : Room k X.A) (hg : Gl X x) (hm : X.mg x = some (.ref f)) (hk : PySem.W.keepIn X.K (.ref f) = true) (hb : Binds X.K fd ps [])
    (ha : PA X (e :: es) t) (hdb : (x == ("__debug__" : Str)) = false := by decide) (he : starEach (e :: es) X.env = (false, eval e X.env) :: starEach es X.env := by rfl) (hpl : (backTo pos (starEach es X.env)).any (·.1) = false := by rfl) :
    PE X (.Call (.Name x p) (e :: es) [] pos) (tCallXf sp oe a t) := by
  refine ⟨fun pins s σ H Q I h => wpAny_Call_Name_kw (ld_glob I hg hm ?_ hdb)⟩
  refine PySem.W.callWith_K (h₀ := X.base) I.ok.mod.kin hk (thn (ha.run pos pins s σ H _ I h) fun us s1 ⟨vs, H1, I1, r, q⟩ => ⟨I1.kIn, ?_⟩) he hpl
  obtain ⟨hget, hn, nL, nF, _⟩ := I1.pin (a, oe) (List.mem_append.mpr (.inl hp))
  have e0 := I1.env0
  have E1 : Env0 X.prog X.w X.K X.mg X.base X.A X.stack s1 (upd H1 a (Fz oe a)) := ⟨e0.frames, e0.mod, fun b o eb => ⟨(e0.bs b o eb).1, (upd_ne fun z => by rw [z, nb] at eb; cases eb).trans (e0.bs b o eb).2⟩, e0.bsz, e0.funs,
    fun b hb' => (upd_ne fun z => by
      have := I1.stkSub b hb'
      rw [z] at this
      rcases List.mem_cons.mp this with q1 | q1
      · exact nL q1
      · exact nF q1).trans (e0.frf b hb'), hok_frz I1.hok hn hget, e0.bare⟩
  have hl : (us ++ []).length = ps.length := by rw [List.append_nil, ← r.length]; exact F.len _ _ _ _ q
  have hbn := hb s1 us I1.kIn hl
  rw [List.append_nil] at hbn
  refine wpAny_call (codeAny_mono (F.run X.A X.stack s1 _ ⟨us, []⟩ us vs _ E0 hr E1 hbn r q) fun res s' hq => ?_)
  cases res with
  | error er => exact False.elim hq
  | ok fl =>
    cases fl with
    | next => exact False.elim hq
    | brk => exact False.elim hq
    | cont => exact False.elim hq
    | ret u =>
      obtain ⟨v, H2, os, bare, un, hok, rv, qq⟩ := hq
      obtain ⟨e2, un2⟩ := un_del un hn hget hok
      exact I1.after ⟨v, del H2 a, os, bare, un2, hok_del hok e2, rv, qq e2⟩
/-- isinstance of a frozen error -/
def rIsFz (K : PySem.W.Frag) : List V → Hp → VK → Prop := fun xs H Q => ∃ (a D : Addr) (oe : Obj), H a = some (Fz oe a) ∧ oe.cls = .ref D ∧ oe.dict = none ∧ (∃ vs, oe.data = .fields vs) ∧ ExcC K D ∧
  ((∃ (c : V) (cv : Value) (b : Bool), xs = [.ref a, c] ∧ ClsV c cv ∧ PySem.W.kitOne K (.ref D) cv = some b ∧ Q (.bl b) H) ∨
   (∃ (tp : Addr) (cs : List V) (us : List Value) (b : Bool), xs = [.ref a, .ref tp] ∧ H tp = some (.tup cs) ∧ Paired ClsV cs us ∧ PySem.W.kitAny K (.ref D) us = some b ∧ Q (.bl b) H))
theorem call_isFz : CallR X (.builtin "isinstance") (rIsFz X.K) := by
  intro pins s σ H xs us Q I r h
  obtain ⟨a, D, oe, hF, h1, h2, ⟨vs, hv⟩, C, h⟩ := h
  have hget : s.heap.get? a = some oe := (I.hok a _ hF).1
  have J : PySem.W.InstAt s.heap a oe D none := by
    obtain ⟨oc, od, oda, osl⟩ := oe
    dsimp only at h1 h2 hv
    subst h1 h2 hv
    exact ⟨hget, rfl, rfl, trivial⟩
  have Z : PySem.W.KitX X.K (.ref a) (.ref D) (fun h => PySem.W.InstAt h a oe D none) := PySem.W.handS_kitx_exc C.hg C.hk C.hs C.hd C.ha C.hn C.ht C.hm
  rcases h with ⟨c, cv, b, rfl, hcv, e, q⟩ | ⟨tp, cs, ts, b, rfl, hT, k, e, q⟩
  · obtain ⟨u1, u2, rfl, r1, r2⟩ := vals2 r
    obtain rfl : u1 = Value.ref a := r1
    have ec := hcv.eq r2
    subst ec
    exact PySem.W.kia_one Z I.kIn J e (fun z => nomatch z) fun tk => ⟨.bl b, H, I.kept (t' := tk) fun _ _ z => z, rfl, q⟩
  · obtain ⟨u1, u2, rfl, r1, r2⟩ := vals2 r
    obtain rfl : u1 = Value.ref a := r1
    cases (show u2 = Value.ref tp from r2)
    obtain ⟨_, its, rv, o, h1, h2, n, h3⟩ := (show ObjOk X.prog X.w H s.heap tp (.tup cs) from I.hok tp _ hT)
    have e3 := ClsV.all k rv
    subst e3
    obtain ⟨oc, od, dt, sl⟩ := o
    simp only at h2 h3
    subst h2 h3
    exact PySem.W.kia_tup Z I.kIn J h1 e (fun z => nomatch z) fun tk => ⟨.bl b, H, I.kept (t' := tk) fun _ _ z => z, rfl, q⟩
end
end Ov

set_option Elab.async false
set_option linter.all false
set_option maxRecDepth 100000
set_option maxHeartbeats 4000000
/-! try with several clauses, the first one with a name: what is raised is always of the first one's class -/
namespace Ov
open PySem PySem.Spec PyProof.Rows L2 GxR
def wFirst (K : PySem.W.Frag) (c : Value) (i : Nat) (ts : Addr → Value → Option Addr → TS) (D : Ends) : WX := fun cls d σ H =>
  PySem.W.exmOne K cls c = some true ∧ ∀ b, H b = none → ts b cls d ⟨fun τ G => D.nx (τ.set i none) G, D.rt, fun τ G => D.bk (τ.set i none) G, fun τ G => D.ct (τ.set i none) G⟩ (σ.set i (some (.ref b))) H
section
variable {X : Cx} {x n : Str} {c : Value} {i : Nat} {body suite : List Stmt} {b₀ : Stmt} {hds : List ExceptHandler} {np pos ps' : Pos} {tb : WX → TS} {ts : Addr → Value → Option Addr → TS}
theorem ps_try_firstB (hst : X.stack = X.env :: X.outer) (hfr : X.env.frame = some X.env.locals) (hN : X.N.Nodup) (hi : X.N[i]? = some n) (hln : X.env.kindOf n = some .local) (hc : Names X x c)
    (hb : ∀ (W : WX) (pn : List (Addr × Obj)) (xe : Value → Shared → Prop), Takes (X.tr pn xe) W → PassesOwn (model X.prog X.w) X.A X.env xe → PSs (X.tr pn xe) body (tb W))
    (hsu : ∀ (b : Addr) (ob : Obj) (cls : Value) (d : Option Addr) (pn : List (Addr × Obj)), Zc cls d ob → (∃ vs, ob.data = .fields vs) → X.base.get? b = none → PSs (X.suite b ((b, ob) :: pn)) (b₀ :: suite) (ts b cls d)) :
    PS X (.Try body (.ExceptHandler (some (.Name x np)) (some n) (b₀ :: suite) ps' :: hds) [] [] pos) (fun D σ H => tb (wFirst X.K c i ts D) D σ H) := by
  refine ⟨fun pins s σ H D I h => ?_⟩
  have ok := I.ok
  have fr : X.A.frames = some (X.env :: X.outer) := ok.frames.trans (congrArg some hst)
  refine wpAny_Try_except ?_
  have B := (hb (wFirst X.K c i ts D) (X.pn ++ pins) (fun e s1 => wpAny (model X.prog X.w) X.A (noteFrame e X.env) (fun _ s2 => wpAny (model X.prog X.w) X.A (setFlight e none)
    (fun _ s3 => wpAny (model X.prog X.w) X.A (handleBy e X.env (.ExceptHandler (some (.Name x np)) (some n) (b₀ :: suite) ps' :: hds)) (SP X pins D) X.xe s3) X.xe s2) X.xe s1) (fun u t raised => ?_) PassesOwn.looking).run [] s σ H D (I.toTry _) h
  · refine wpAny_mono B (fun fl s1 hsp => ?_) (fun _ _ he => he)
    cases fl with
    | next => obtain ⟨τ, G, J, q⟩ := hsp; exact wpAny_execs_nil ⟨τ, G, J.ofTry ok, q⟩
    | brk => obtain ⟨τ, G, J, q⟩ := hsp; exact ⟨τ, G, J.ofTry ok, q⟩
    | cont => obtain ⟨τ, G, J, q⟩ := hsp; exact ⟨τ, G, J.ofTry ok, q⟩
    | ret v => obtain ⟨y, τ, G, J, r, q⟩ := hsp; exact ⟨y, τ, G, J.ofTry ok, r, q⟩
  · obtain ⟨b, Z, sI, pins', τ, G, cls, d, rfl, J0, nb, up, sky, na, os, ag, match1, go⟩ := raised
    have J : Inv X pins τ G sI := J0.ofTry ok
    have sky' : Sky Z (X.env :: X.outer) b (Zc cls d) X.env.locals t.heap := by rw [← hst]; exact sky
    show wpAny (model X.prog X.w) X.A (noteFrame (.ref b) X.env) _ _ _
    refine Sky.land Zc.steady fr hfr sky' fun g3 fl3 up3 => ?_
    have J3 : Inv X pins τ G { t with heap := g3 } := J.landed nb fl3.1 (up.trans up3) os ag
    obtain ⟨ob3, vs3, at3, z3, dd3⟩ := fl3.there
    have noFrame : b ∉ frs (X.env :: X.outer) := fun hm => by
      obtain ⟨_, ob', at', hnf⟩ := fl3.2.2.1.mem hm
      rw [at3] at at'
      cases at'
      exact hnf _ dd3
    have noBase : X.base.get? b = none := by
      cases q : X.base.get? b with
      | none => rfl
      | some o =>
        have := nb b o (J.bk b o q) (by rw [hst]; exact noFrame)
        rw [fl3.2.1] at this
        cases this
    have nLoc : b ≠ X.env.locals := fun z => noFrame (List.mem_filterMap.mpr ⟨X.env, List.mem_cons_self, by rw [hfr, z]⟩)
    have nFs : b ∉ X.fs := fun hm => by
      obtain ⟨e, he, q⟩ := List.mem_filterMap.mp hm
      exact noFrame (List.mem_filterMap.mpr ⟨e, List.mem_cons_of_mem _ he, q⟩)
    have S3 := J3.suite at3 dd3 na nLoc nFs
    refine wpAny_handleBy_cons (codeAny_handlers_test ?_) (by intro q; cases q)
    have looks : PySem.W.Looks (model X.prog X.w) g3 (typeOf (.ref b)) cls := fun A Q E s k q => wpAny_typeOf_ref (k _ _ at3) (by rw [z3.1]; exact q)
    have tells := PySem.W.exm_one (M := model X.prog X.w) (J3.kIn) looks match1
    have asks : ∀ {Q : Value → Shared → Prop} {E : Value → Shared → Prop}, Q c { t with heap := g3 } → wpAny (model X.prog X.w) (X.A.mark (some (.ref b))) (eval (.Name x np) X.env) Q E { t with heap := g3 } := fun {Q E} q => by
      obtain ⟨hg, hdbg, hm | ⟨hm, hv, hnn⟩⟩ := hc
      · exact ld_glob (X := X.suite b ((b, ob3) :: (X.pn ++ pins))) S3 hg hm q hdbg
      · exact ld_blt (X := X.suite b ((b, ob3) :: (X.pn ++ pins))) S3 hg hm hv q hnn hdbg
    refine asks (tells.here ?_)
    refine codeAny_handlers_suite_as ?_
    refine HandSPX.lands_againZ fl3 fun g4 fl4 up4 => ?_
    have J4 : Inv X pins τ G { t with heap := g4 } := J.landed nb fl4.1 ((up.trans up3).trans up4) os ag
    obtain ⟨ob4, vs4, at4, z4, dd4⟩ := fl4.there
    have S4 := J4.suite at4 dd4 na nLoc nFs
    refine store_ok (X := X.suite b ((b, ob4) :: (X.pn ++ pins))) (v := .ref b) S4 hN hi (.inl hln) rfl (fun s5 S5 => ?_) (.inr hln)
    refine wpAny_mono ((hsu b ob4 cls d (X.pn ++ pins) z4 ⟨_, dd4⟩ noBase).run [] s5 _ G _ S5 (go b na)) (fun fl s6 hsp => ?_) (fun _ _ z => z.elim)
    have leave : ∀ {τ6 : L2.St} {G6 : Hp} {Q : Shared → Prop}, Inv (X.suite b ((b, ob4) :: (X.pn ++ pins))) [] τ6 G6 s6 → (∀ s7, Inv X pins (τ6.set i none) G6 s7 → Q s7) →
        wpAny (model X.prog X.w) X.A (do bindName X.env n .none; unbindBehindTheSuite X.env n ps') (fun _ s7 => Q s7) X.xe s6 := fun {τ6 G6 Q} S6 hq => gone_ok (S6.unsuite ok) hN hi hln hq
    cases fl with
    | next => obtain ⟨τ6, G6, S6, q6⟩ := hsp; exact leave S6 fun s7 J7 => ⟨_, _, J7, q6⟩
    | brk => obtain ⟨τ6, G6, S6, q6⟩ := hsp; exact leave S6 fun s7 J7 => ⟨_, _, J7, q6⟩
    | cont => obtain ⟨τ6, G6, S6, q6⟩ := hsp; exact leave S6 fun s7 J7 => ⟨_, _, J7, q6⟩
    | ret u => obtain ⟨v6, τ6, G6, S6, r6, q6⟩ := hsp; exact leave S6 fun s7 J7 => ⟨_, _, _, J7, r6, q6⟩
theorem ps_try_first (hst : X.stack = X.env :: X.outer) (hfr : X.env.frame = some X.env.locals) (hN : X.N.Nodup) (hi : X.N[i]? = some n) (hln : X.env.kindOf n = some .local) (hc : Names X x c)
    (hb : ∀ (W : WX) (pn : List (Addr × Obj)) (xe : Value → Shared → Prop), Takes (X.tr pn xe) W → PassesOwn (model X.prog X.w) X.A X.env xe → PSs (X.tr pn xe) body (tb W))
    (hsu : ∀ (b : Addr) (ob : Obj) (cls : Value) (d : Option Addr) (pn : List (Addr × Obj)), Zc cls d ob → (∃ vs, ob.data = .fields vs) → PSs (X.suite b ((b, ob) :: pn)) (b₀ :: suite) (ts b cls d)) :
    PS X (.Try body (.ExceptHandler (some (.Name x np)) (some n) (b₀ :: suite) ps' :: hds) [] [] pos) (fun D σ H => tb (wFirst X.K c i ts D) D σ H) :=
  ps_try_firstB hst hfr hN hi hln hc hb fun b ob cls d pn h1 h2 _ => hsu b ob cls d pn h1 h2
end
end Ov

set_option Elab.async false
set_option linter.all false
set_option maxRecDepth 100000
set_option maxHeartbeats 4000000
/-! the caught error of a suite handed to a def: the callee's own function object stands for the pin; isinstance and a field of the frozen error, with or without a dict -/
namespace Ov
open PySem PySem.Spec PyProof.Rows L2 GxR
/-- FnM without the pin -/
structure FnQ (P : Program) (w : World) (K : PySem.W.Frag) (mg : Str → Option Value) (base : Heap) (k : Nat) (f : Addr) (fd : FuncData) (ps : List Str) (sp : Sp) : Prop where
  n : ∀ vs H Q E, sp vs H Q E → vs.length = ps.length
  go : ∀ (A : Around) (outer : List Env) (s : Shared) (H : Hp) (g : Args) (us : List Value) (vs : List V) (Q : VK) (E : XK), L2H.RoomH k A → Env0 P w K mg base A outer s H → BindsTo s fd g (ps.zip us) → Vals vs us → sp vs H Q E →
    codeAny (model P w) A (.call (.ref f) g) (CR CX0 outer P w H s Q E) s
theorem FnQ.of {P : Program} {w : World} {K : PySem.W.Frag} {mg : Str → Option Value} {base : Heap} {x qual : Str} {st : Stmt} {f : Addr} {fd : FuncData} {ps : List Str} {k : Nat} {sp : Sp} (F : L2.Fun K x qual st f fd) (M : FnM P w K mg base k f fd ps sp) : FnQ P w K mg base k f fd ps sp := by
  obtain ⟨oc, od, kV, doc, pm, an, cdv, ct, osl, e, lk, hcd⟩ := F.ex
  refine ⟨M.n, fun A outer s H g us vs Q E room env bind rel spec => ?_⟩
  have hb : base.get? f = some ⟨oc, od, .func fd, osl⟩ := env.mod.kin f _ lk
  refine M.go A outer s H g us vs Q E (f, ⟨oc, od, .func fd, osl⟩) room ⟨(env.bs _ _ hb).1, (env.bs _ _ hb).2, fun hm => ?_, fun v => Data.noConfusion⟩ env bind rel spec
  have := (env.funs.mem hm).1
  rw [hb] at this
  cases this
section
variable {X : Cx} {k : Nat} {f a : Addr} {oe : Obj} {fd : FuncData} {ps : List Str} {sp : Sp} {x : Str} {p pos : Pos} {e : Expr} {es : List Expr} {t : TA}
theorem pe_callQXf (hp : (a, oe) ∈ X.pn) (nb : X.base.get? a = none) (F : FnQ X.prog X.w X.K X.mg X.base k f fd ps sp) (hr : L2H.RoomH k X.A) (hg : Gl X x) (hm : X.mg x = some (.ref f)) (hk : PySem.W.keepIn X.K (.ref f) = true) (hb : Binds X.K fd ps [])
    (ha : PA X (e :: es) t) (hdb : (x == ("__debug__" : Str)) = false := by decide) (he : starEach (e :: es) X.env = (false, eval e X.env) :: starEach es X.env := by rfl) (hpl : (backTo pos (starEach es X.env)).any (·.1) = false := by rfl) :
    PE X (.Call (.Name x p) (e :: es) [] pos) (tCallXf sp oe a t) := by
  refine ⟨fun pins s σ H Q I h => wpAny_Call_Name_kw (ld_glob I hg hm ?_ hdb)⟩
  refine PySem.W.callWith_K (h₀ := X.base) I.ok.mod.kin hk (thn (ha.run pos pins s σ H _ I h) fun us s1 ⟨vs, H1, I1, r, q⟩ => ⟨I1.kIn, ?_⟩) he hpl
  obtain ⟨hget, hn, nL, nF, _⟩ := I1.pin (a, oe) (List.mem_append.mpr (.inl hp))
  have e0 := I1.env0
  have E1 : Env0 X.prog X.w X.K X.mg X.base X.A X.stack s1 (upd H1 a (Fz oe a)) := ⟨e0.frames, e0.mod, fun b o eb => ⟨(e0.bs b o eb).1, (upd_ne fun z => by rw [z, nb] at eb; cases eb).trans (e0.bs b o eb).2⟩, e0.bsz, e0.funs,
    fun b hb' => (upd_ne fun z => by
      have := I1.stkSub b hb'
      rw [z] at this
      rcases List.mem_cons.mp this with q1 | q1
      · exact nL q1
      · exact nF q1).trans (e0.frf b hb'), hok_frz I1.hok hn hget, e0.bare⟩
  have hl : (us ++ []).length = ps.length := by rw [List.append_nil, ← r.length]; exact F.n _ _ _ _ q
  have hbn := hb s1 us I1.kIn hl
  rw [List.append_nil] at hbn
  refine wpAny_call (codeAny_mono (F.go X.A X.stack s1 _ ⟨us, []⟩ us vs _ E0 hr E1 hbn r q) fun res s' hq => ?_)
  cases res with
  | error er => exact False.elim hq
  | ok fl =>
    cases fl with
    | next => exact False.elim hq
    | brk => exact False.elim hq
    | cont => exact False.elim hq
    | ret u =>
      obtain ⟨v, H2, os, bare, un, hok, rv, qq⟩ := hq
      obtain ⟨e2, un2⟩ := un_del un hn hget hok
      exact I1.after ⟨v, del H2 a, os, bare, un2, hok_del hok e2, rv, qq e2⟩
/-- f(.., e, ..), where the reading (of a suite) may speak of the error's class and dict alone -/
def tCallXz (sp : Sp) (a : Addr) (cls : Value) (d : Option Addr) (t : TA) : TE := fun σ H Q => t σ H fun vs H1 => ∀ oe, Zc cls d oe → (∃ vs, oe.data = .fields vs) → sp vs (upd H1 a (Fz oe a)) (fun v H2 => H2 a = some (Fz oe a) → Q v (del H2 a)) E0
theorem pe_callQXz {cls : Value} {d : Option Addr} (hz : Zc cls d oe) (hf : ∃ vs, oe.data = .fields vs) (hp : (a, oe) ∈ X.pn) (nb : X.base.get? a = none) (F : FnQ X.prog X.w X.K X.mg X.base k f fd ps sp) (hr : L2H.RoomH k X.A) (hg : Gl X x) (hm : X.mg x = some (.ref f)) (hk : PySem.W.keepIn X.K (.ref f) = true) (hb : Binds X.K fd ps [])
    (ha : PA X (e :: es) t) (hdb : (x == ("__debug__" : Str)) = false := by decide) (he : starEach (e :: es) X.env = (false, eval e X.env) :: starEach es X.env := by rfl) (hpl : (backTo pos (starEach es X.env)).any (·.1) = false := by rfl) :
    PE X (.Call (.Name x p) (e :: es) [] pos) (tCallXz sp a cls d t) := by
  refine ⟨fun pins s σ H Q I h => wpAny_Call_Name_kw (ld_glob I hg hm ?_ hdb)⟩
  refine PySem.W.callWith_K (h₀ := X.base) I.ok.mod.kin hk (thn (ha.run pos pins s σ H _ I h) fun us s1 ⟨vs, H1, I1, r, q0⟩ => ⟨I1.kIn, ?_⟩) he hpl
  have q := q0 oe hz hf
  obtain ⟨hget, hn, nL, nF, _⟩ := I1.pin (a, oe) (List.mem_append.mpr (.inl hp))
  have e0 := I1.env0
  have E1 : Env0 X.prog X.w X.K X.mg X.base X.A X.stack s1 (upd H1 a (Fz oe a)) := ⟨e0.frames, e0.mod, fun b o eb => ⟨(e0.bs b o eb).1, (upd_ne fun z => by rw [z, nb] at eb; cases eb).trans (e0.bs b o eb).2⟩, e0.bsz, e0.funs,
    fun b hb' => (upd_ne fun z => by
      have := I1.stkSub b hb'
      rw [z] at this
      rcases List.mem_cons.mp this with q1 | q1
      · exact nL q1
      · exact nF q1).trans (e0.frf b hb'), hok_frz I1.hok hn hget, e0.bare⟩
  have hl : (us ++ []).length = ps.length := by rw [List.append_nil, ← r.length]; exact F.n _ _ _ _ q
  have hbn := hb s1 us I1.kIn hl
  rw [List.append_nil] at hbn
  refine wpAny_call (codeAny_mono (F.go X.A X.stack s1 _ ⟨us, []⟩ us vs _ E0 hr E1 hbn r q) fun res s' hq => ?_)
  cases res with
  | error er => exact False.elim hq
  | ok fl =>
    cases fl with
    | next => exact False.elim hq
    | brk => exact False.elim hq
    | cont => exact False.elim hq
    | ret u =>
      obtain ⟨v, H2, os, bare, un, hok, rv, qq⟩ := hq
      obtain ⟨e2, un2⟩ := un_del un hn hget hok
      exact I1.after ⟨v, del H2 a, os, bare, un2, hok_del hok e2, rv, qq e2⟩
/-- the frozen error's dict: none, or an open one -/
def FzD (H : Hp) (d : Option Addr) : Prop := d = none ∨ ∃ (dd : Addr) (fs : List (Str × V)), d = some dd ∧ H dd = some (.xd fs)
theorem instFz {pins : List (Addr × Obj)} {σ : L2.St} {H : Hp} {s : Shared} (I : Inv X pins σ H s) {D : Addr} (hF : H a = some (Fz oe a)) (h1 : oe.cls = .ref D) (h2 : FzD H oe.dict) (hv : ∃ vs, oe.data = .fields vs) : ∃ od, PySem.W.InstAt s.heap a oe D od := by
  have hget : s.heap.get? a = some oe := (I.hok a _ hF).1
  obtain ⟨vs, hv⟩ := hv
  have no : PySem.W.notCls oe = true := by unfold PySem.W.notCls; rw [hv] <;> rfl
  rcases h2 with e | ⟨dd, fs, e, hd⟩
  · exact ⟨none, hget, h1, no, by rw [e]; trivial⟩
  · have hx : ObjOk X.prog X.w H s.heap dd (.xd fs) := I.hok dd _ hd
    obtain ⟨mA, hns, hr⟩ := hx
    obtain ⟨od, ho, hl⟩ := lookIn_ns hns
    exact ⟨some od, hget, h1, no, by rw [e]; exact ho⟩
/-- isinstance of a frozen error with or without a dict -/
def rIsFzD (K : PySem.W.Frag) : List V → Hp → VK → Prop := fun xs H Q => ∃ (a D : Addr) (oe : Obj), H a = some (Fz oe a) ∧ oe.cls = .ref D ∧ FzD H oe.dict ∧ (∃ vs, oe.data = .fields vs) ∧ ExcC K D ∧
  ((∃ (c : V) (cv : Value) (b : Bool), xs = [.ref a, c] ∧ ClsV c cv ∧ PySem.W.kitOne K (.ref D) cv = some b ∧ Q (.bl b) H) ∨
   (∃ (tp : Addr) (cs : List V) (us : List Value) (b : Bool), xs = [.ref a, .ref tp] ∧ H tp = some (.tup cs) ∧ Paired ClsV cs us ∧ PySem.W.kitAny K (.ref D) us = some b ∧ Q (.bl b) H))
theorem call_isFzD : CallR X (.builtin "isinstance") (rIsFzD X.K) := by
  intro pins s σ H xs us Q I r h
  obtain ⟨a, D, oe, hF, h1, h2, hv, C, h⟩ := h
  obtain ⟨od, J⟩ := instFz I hF h1 h2 hv
  have cl : (PySem.W.clsIn X.K D).isSome = true := by obtain ⟨cd, hc, _⟩ := PySem.W.any_some C.hd; rw [hc]; rfl
  have Z : PySem.W.KitX X.K (.ref a) (.ref D) (fun h => PySem.W.InstAt h a oe D od) := PySem.W.kitx_exc cl C.hg C.hk C.hs C.ha C.hn C.ht C.hm
  rcases h with ⟨c, cv, b, rfl, hcv, e, q⟩ | ⟨tp, cs, ts, b, rfl, hT, k, e, q⟩
  · obtain ⟨u1, u2, rfl, r1, r2⟩ := vals2 r
    obtain rfl : u1 = Value.ref a := r1
    have ec := hcv.eq r2
    subst ec
    exact PySem.W.kia_one Z I.kIn J e (fun z => nomatch z) fun tk => ⟨.bl b, H, I.kept (t' := tk) fun _ _ z => z, rfl, q⟩
  · obtain ⟨u1, u2, rfl, r1, r2⟩ := vals2 r
    obtain rfl : u1 = Value.ref a := r1
    cases (show u2 = Value.ref tp from r2)
    obtain ⟨_, its, rv, o, h1, h2, n, h3⟩ := (show ObjOk X.prog X.w H s.heap tp (.tup cs) from I.hok tp _ hT)
    have e3 := ClsV.all k rv
    subst e3
    obtain ⟨oc, od, dt, sl⟩ := o
    simp only at h2 h3
    subst h2 h3
    exact PySem.W.kia_tup Z I.kIn J h1 e (fun z => nomatch z) fun tk => ⟨.bl b, H, I.kept (t' := tk) fun _ _ z => z, rfl, q⟩
/-- o.f of a frozen error -/
def tXfF (K : PySem.W.Frag) (f : Str) (te : TE) : TE := fun σ H Q => te σ H fun x H1 => ∃ (a C : Addr) (oe : Obj) (dd : Addr) (fs : List (Str × V)) (v : V), x = .ref a ∧ H1 a = some (Fz oe a) ∧ oe.cls = .ref C ∧ oe.dict = some dd ∧ (∃ vs, oe.data = .fields vs) ∧ H1 dd = some (.xd fs) ∧ XfC K C ∧
  PySem.W.findIn K (.ref C) f = some none ∧ fs.lookup f = some v ∧ Q v H1
theorem pe_xfF {te : TE} {n : Str} (he : PE X e te) (hb : attributeBase e n X.env (eval e X.env) = eval e X.env := by rfl) : PE X (.Attribute e n pos) (tXfF X.K n te) := by
  refine ⟨fun pins s σ H Q I h => ?_⟩
  refine attr_of hb (thn (he.run pins s σ H _ I h) fun u s1 hh => ?_)
  obtain ⟨x, H1, I1, rx, a, C, oe, dd, fs, v, ex, hF, ec, ed, hv, ea, T, hno, l, q⟩ := hh
  subst ex
  obtain rfl : u = Value.ref a := rx
  have hget : s1.heap.get? a = some oe := (I1.hok a _ hF).1
  obtain ⟨vs, hv⟩ := hv
  have hx : ObjOk X.prog X.w H1 s1.heap dd (.xd fs) := I1.hok dd _ ea
  obtain ⟨mA, hns, hr⟩ := hx
  obtain ⟨od, ho, hl⟩ := lookIn_ns hns
  obtain ⟨u, hu, ru⟩ := RelO.some_of (v := v) (o := mA n) (by rw [← l]; exact hr n)
  have J : PySem.W.InstAt s1.heap a oe C (some od) := ⟨hget, ec, by unfold PySem.W.notCls; rw [hv] <;> rfl, by rw [ed]; exact ho⟩
  exact HandSPX.exc_get I1.kIn J T.ga T.gg T.exC (PySem.W.findObj_own T.hdC hno rfl (by rw [hl, hu])) (handed_of ru) ⟨v, H1, I1.tok _, ru, q⟩
end
end Ov

set_option Elab.async false
set_option linter.all false
set_option maxRecDepth 100000
set_option maxHeartbeats 4000000
/-! an own error over ValueError (a class between them) whose __init__(self, at) says super().__init__(f"..") and self.at = at -/
namespace Ov
open PySem PySem.Spec PyProof.Rows L2 GxR
abbrev mwV (a : Addr) : Obj := PySem.W.kxs_mw "ValueError.__init__" a
section
variable {X : Cx} {pins : List (Addr × Obj)} {σ : L2.St} {H : Hp} {s : Shared} {a C u : Addr} {A : Around} {E : Value → Shared → Prop}
/-- ValueError.__init__ bound to an error that is being made, called -/
theorem call_mw {us : List Value} {Q : Value → Shared → Prop} (T : OexC X.K C) (I : Inv X pins σ H s) (e : H a = some (exo a C none)) (hu : s.heap.get? u = some (mwV a)) (hl : us.length ≤ sizeLine) (h : ∀ s', Inv X pins σ H s' → Q .none s') :
    wpAny (model X.prog X.w) A (call (.ref u) us) Q E s := by
  obtain ⟨nm, q, N, bs, bm, sn, sub, ab, col, dd, k0, k1, k2, k3, k5, hC, hbm⟩ := T.cls
  obtain ⟨t1, ho⟩ := exo_at I.hok e
  obtain ⟨hp, g, d, t, os⟩ := s
  refine wpAny_call (codeAny_of_tree ?_)
  show wpAny _ A.in1 (callAny (.ref u) ⟨us, []⟩) _ _ _
  simp only [callAny]
  refine wpAny_bind (wpAny_load hu ?_)
  simp only [mwV, PySem.W.kxs_mw, show (Value.type "method-wrapper" == Value.type "method" || Value.type "method-wrapper" == Value.type "builtin_function_or_method" || Value.type "method-wrapper" == Value.type "method-wrapper") = true by decide, if_true]
  refine PySem.W.KFB.if_so (by decide) ?_
  refine wpAny_bind (PySem.W.check_bound_init PySem.F.excBase_ValueError.toExcCallFacts (I.kIn _ _ hC) ho rfl ?_)
  refine wpAny_bind (wpAny_pure (wpAny_pure ?_))
  refine ⟨PySem.plainId_quiet PySem.F.excBase_ValueError.init.plain _, codeAny_builtin PySem.F.excBase_ValueError.initEntry ?_⟩
  refine PySem.W.exc_init_tree (cls := .ref C) (t0 := t1) (dv := none) (c2 := .none) (c3 := .none) (b4 := .bool false) ho hl fun h' k hx _ => ?_
  have J := I.write (t' := t) (x := a) (e := a) (o := exo a C none) (by rw [e]; exact True.intro) (.inl rfl) k ⟨_, hx⟩ (exo_ok hx)
  have eu : upd H a (exo a C none) = H := by
    funext b
    by_cases hb : b = a
    · rw [hb, upd_same, e]
    · rw [upd_ne hb]
  rw [eu] at J
  exact h _ J
end
/-- the context of a method that closes over __class__ alone -/
def cxS (P : Program) (w : World) (K : PySem.W.Frag) (mg : Str → Option Value) (base : Heap) (N : List Str) (qual : Str) (scope : Scope) (f : Addr) (cd : Value) (cc : Addr) (A : Around) (outer : List Env) (s : Shared) (H : Hp) (E : XK) : Cx :=
  { cxOf CX0 P w K mg base N qual scope f cd A outer s H E with
    env := PySem.W.ksEnv qual scope s.heap.objs.size f cd cc
    A := A.deeper (PySem.W.ksEnv qual scope s.heap.objs.size f cd cc)
    stack := PySem.W.ksEnv qual scope s.heap.objs.size f cd cc :: outer
    fn := fun x => !(x == ("__class__" : Str))
    xe := fun e s' => wpAny (model P w) (A.deeper (PySem.W.ksEnv qual scope s.heap.objs.size f cd cc)) (leaving (PySem.W.ksEnv qual scope s.heap.objs.size f cd cc) e) (fun _ s'' => CX0 outer H s E e s'') (fun e' s'' => CX0 outer H s E e' s'') s' }
section
variable {P : Program} {w : World} {K : PySem.W.Frag} {mg : Str → Option Value} {base : Heap} {qual : Str} {scope : Scope} {f cc : Addr} {cd : Value} {A : Around} {outer : List Env} {s : Shared} {H : Hp} {E : XK}
/-- the scope of such a method: self and at local, __class__ free, no cell -/
structure ScS (sc : Scope) : Prop where
  kind : sc.kind = .function
  co : sc.isCoroutine = false
  gen : sc.isGenerator = false
  self : sc.names.lookup ("self" : Str) = some .local
  at_ : sc.names.lookup ("at" : Str) = some .local
  cls : sc.names.lookup ("__class__" : Str) = some .free
  sup : sc.names.lookup ("super" : Str) = some .globalImplicit
  nocell : ∀ y ∈ sc.names, y.2 ≠ .cell
  free : ∀ y ∈ sc.names, y.2 = .free → y.1 = "__class__"
theorem cells1 {x : Str} {c cc : Addr} (h : List.lookup x [(("__class__" : Str), cc)] = some c) : x = "__class__" ∧ c = cc := by
  by_cases e : x = "__class__"
  · subst e
    simp [List.lookup] at h
    exact ⟨rfl, h.symm⟩
  · have e' : (x == ("__class__" : Str)) = false := by simpa using e
    simp [List.lookup, e'] at h
theorem inv_startS {v0 v1 : V} {u0 u1 : Value} {h0 : Heap} {tk : Nat} {cl : Value} {cld : Option Addr} {csl : Array (Option Value)} {cv : Option Value} (S : ScS scope) (hd : A.handled = none) (e0 : Env0 P w K mg base A outer s H) (hc : K.lookup cc = some ⟨cl, cld, .cell cv, csl⟩)
    (r0 : RelV v0 u0) (r1 : RelV v1 u1) (hns : h0.Ns s.heap.objs.size (fun x => ([(("self" : Str), u0), (("at" : Str), u1)] : List (Str × Value)).reverse.lookup x)) (hk : ∀ b o, s.heap.get? b = some o → h0.get? b = some o) :
    Inv (cxS P w K mg base ["self", "at"] qual scope f cd cc A outer s H E) [] [some v0, some v1] H { s with heap := h0, toks := tk } := by
  have noA : ∀ b : Addr, b ∉ (cxS P w K mg base ["self", "at"] qual scope f cd cc A outer s H E).ex := fun b z => absurd (show b ∈ ([] : List Addr) from z) (by simp)
  have bc : base.get? cc = some ⟨cl, cld, .cell cv, csl⟩ := e0.mod.kin cc _ hc
  refine ⟨⟨e0.mod, S.kind, rfl, rfl, Nat.le_refl _, fun y z c h1 h2 => ?_, fun y hy => ?_, fun y c h1 h2 => ?_, fun _ => hd, Around.frames_deeper e0.frames, .inr ⟨rfl, rfl⟩, fun b z => absurd z (noA b), e0.bs, e0.bsz, fun b _ _ => noA b, fun b z => absurd z (noA b), e0.funs, e0.frf⟩,
    rfl, e0.bare, Un.kept hk, ⟨_, hns, fun i y v h1 h2 h3 => ?_⟩, fun y c h => ?_, e0.hok.fresh (Nat.le_refl _), fun y c h => ?_, fun p hp => absurd (show p ∈ ([] : List (Addr × Obj)) from hp) (by simp), e0.hok.kept hk, rfl⟩
  · rw [(cells1 h1).1, (cells1 h2).1]
  · have hy : scope.names.lookup y = some .cell ∨ scope.names.lookup y = some .free := hy
    rcases hy with hy | hy
    · exact absurd rfl (S.nocell _ (PySem.mem_of_lookup hy))
    · obtain rfl : y = "__class__" := S.free _ (PySem.mem_of_lookup hy) rfl
      exact ⟨cc, rfl⟩
  · obtain ⟨rfl, _⟩ := cells1 h2
    exact absurd h1 (by show ¬ ((!(("__class__" : Str) == ("__class__" : Str))) = true); decide)
  · match i, h1, h2 with
    | 0, h1, h2 =>
      cases h1
      cases h2
      exact ⟨u0, r0, .inl ⟨S.self, rfl⟩⟩
    | 1, h1, h2 =>
      cases h1
      cases h2
      exact ⟨u1, r1, .inl ⟨S.at_, rfl⟩⟩
    | i + 2, h1, h2 => exact absurd h1 (by simp [cxS, cxOf])
  · obtain ⟨_, rfl⟩ := cells1 h
    exact ⟨_, _, hk _ _ (e0.bs _ _ bc).1, rfl⟩
  · obtain ⟨_, rfl⟩ := cells1 h
    exact (e0.bs _ _ bc).2
end
/-- what the written part says of the class and its __init__ -/
structure SuK (P : Program) (K : PySem.W.Frag) (mg : Str → Option Value) (C cc cda : Addr) : Prop where
  oex : OexC K C
  stat : PySem.W.nsIn K cStatics "thirdparty.any" = some none
  sup : PySem.W.ks_superIn K C C "__init__" = some (some (.builtin "ValueError.__init__"))
  sub : PySem.W.subIn K (.ref C) (.type "ValueError") = some true
  mro : PySem.W.mroIn K C (.ref C) = some true
  cell : ∃ cl cld csl, K.lookup cc = some ⟨cl, cld, .cell (some (.ref C)), csl⟩
  noat : PySem.W.findIn K (.ref C) "at" = some none
  mgS : mg "super" = none
  code : ∃ cl cdd vs cs file tf, K.lookup cda = some ⟨cl, cdd, .fields vs, cs⟩ ∧ vs[2]? = some (.str file tf) ∧ ((P.main.file : Str) == file) = true
  top : (P.main.scope.names.lookup ("super" : Str)).isSome = false
/-- __init__(self, at): the error gets its dict -/
def spAt (C : Addr) (okN : Int → Prop) : Sp := fun vs H Q _ => ∃ (a : Addr) (n : Int), vs = [.ref a, .int n] ∧ okN n ∧ H a = some (exo a C none) ∧ ∀ dx, H dx = none → dx ≠ a → Q .non (upd (upd H dx (exd dx [("at", .int n)])) a (exo a C (some dx)))
section
variable {P : Program} {w : World} {K : PySem.W.Frag} {mg : Str → Option Value} {base : Heap} {name qual : Str} {scope : Scope} {f C cc cda : Addr} {okN : Int → Prop} {te : TE} {k : Nat} {params : Arguments} {body : List Stmt} {dV kV doc pm ct oc : Value} {an od : Option Addr} {osl : Array (Option Value)}
  {parts : List Expr} {pj p0 p1 p2 p3 p4 p5 p6 p7 p8 : Pos} {ar : Arg}
set_option pp.maxSteps 3000 in
theorem fn_superInit (S : ScS scope) (U : SuK P K mg C cc cda) (lk : K.lookup f = some ⟨oc, od, .func (PySem.W.ksFn name qual params [.Expr (.Call (.Attribute (.Call (.Name "super" p0) [] [] p1) "__init__" p2) [.JoinedStr parts pj] [] p3) p4, .Assign [.Attribute (.Name "self" p5) "at" p6] (.Name "at" p7) p8] scope dV kV doc pm an (.ref cda) ct cc), osl⟩)
    (hcd : PySem.W.codeIn K (.ref cda) qual = true) (hp : (params.posonlyargs ++ params.args).head? = some ar) (har : ar.arg = "self")
    (hev : ∀ env, ∃ pl, eval (.Call (.Attribute (.Call (.Name "super" p0) [] [] p1) "__init__" p2) [.JoinedStr parts pj] [] p3) env = (do
      let ov ← attributeBase (.Call (.Name "super" p0) [] [] p1) "__init__" env (eval (.Call (.Name "super" p0) [] [] p1) env)
      standAt p2.atName
      let (f, first) ← holding [ov] (getMethod ov "__init__" pl)
      callWith p3 f first (backTo p3 (starEach [.JoinedStr parts pj] env)) []))
    (he : ∀ (A : Around) (outer : List Env) (s : Shared) (H : Hp) (E : XK), PE (cxS P w K mg base ["self", "at"] qual scope f (.ref cda) cc A outer s H E) (.JoinedStr parts pj) te)
    (hte : ∀ a n H (Q : VK), okN n → (∀ z : Str, Q (.str z) H) → te [some (.ref a), some (.int n)] H Q) :
    FnOk P w K mg base CX0 (k + 1) f (PySem.W.ksFn name qual params [.Expr (.Call (.Attribute (.Call (.Name "super" p0) [] [] p1) "__init__" p2) [.JoinedStr parts pj] [] p3) p4, .Assign [.Attribute (.Name "self" p5) "at" p6] (.Name "at" p7) p8] scope dV kV doc pm an (.ref cda) ct cc) ["self", "at"] (spAt C okN) := by
  refine ⟨fun vs H Q E ⟨a, n, e, _⟩ => by rw [e]; rfl, fun A outer s H args us vs Q E hr e0 hb r hsp => ?_⟩
  obtain ⟨a, n, rfl, hn, ea, hq⟩ := hsp
  obtain ⟨u0, u1, rfl, r0, r1⟩ := vals2 r
  obtain rfl : u0 = Value.ref a := r0
  have KX : K.In s.heap := e0.mod.kin.keeps fun b o e => (e0.bs b o e).1
  have lim : s.heap.NoLimit := e0.mod.nolimit.keeps fun b o e => (e0.bs b o e).1
  obtain ⟨cl, cld, csl, hcell⟩ := U.cell
  obtain ⟨ccl, cdd, cvs, ccs, file, tf, hcode, hvs, hfile⟩ := U.code
  refine PySem.ks_codeAny_call_defAt hr.depth (KX _ _ lk) rfl lim (PySem.W.codeRec_of KX hcd) rfl hb S.nocell (fun y hy => ?_) (fun h0 hns hk => ?_) S.co S.gen S.kind
  · rcases List.mem_cons.mp hy with rfl | hy
    · exact S.self
    · rcases List.mem_cons.mp hy with rfl | hy
      · exact S.at_
      · cases hy
  have I : Inv (cxS P w K mg base ["self", "at"] qual scope f (.ref cda) cc A outer s H E) [] [some (.ref a), some (.int n)] H { s with heap := h0, toks := s.toks + 2 } := inv_startS S hr.hd e0 hcell rfl r1 hns hk
  have I1K : K.In h0 := I.kIn
  obtain ⟨pl, hev⟩ := hev (PySem.W.ksEnv qual scope s.heap.objs.size f (.ref cda) cc)
  refine PySem.ks_wpAt_execs_cons (PySem.ks_wpAt_Expr_any (PySem.ks_wpAt_MethodCall ?_ hev) (by show (scope.kind == _ && _) = false; rw [S.kind]; rfl) rfl)
  refine PySem.ks_wpAt_super_base (env := PySem.W.ksEnv qual scope s.heap.objs.size f (.ref cda) cc) S.sup S.cls rfl rfl (I1K _ _ lk) rfl hp rfl (I1K _ _ hcode) rfl hvs hfile U.top ?_
  obtain ⟨mb, hb1, hb2⟩ := I.mod.blt
  refine PySem.W.ks_loadName_global S.kind S.sup (Calls.loadGlobal_builtin (env := PySem.W.ksEnv qual scope s.heap.objs.size f (.ref cda) cc) (I.mod.glob.keeps I.bk) U.mgS (hb1.keeps I.bk) ((hb2 "super" (by decide)).trans PyProof.Rows.Boot.«super») ⟨rfl, ?_⟩)
  refine wpAny_loadName_free S.kind S.cls rfl ⟨_, I1K _ _ hcell, rfl⟩ ?_
  rw [har]
  refine wpAny_loadName_local S.kind S.self hns rfl ?_
  obtain ⟨t1, ho⟩ := exo_at I.hok ea
  obtain ⟨nm, q, N, bs, bm, sn, sub, ab, col, dd, k0, k1, k2, k3, k5, hC, hbm⟩ := U.oex.cls
  have hcl : PySem.W.clsIn K C = some { name := nm, bases := bs, mro := .ref C :: bm, ns := N, qualname := q, hasDict := true, slotNames := sn, subclasses := sub, abstract := ab, collection := col, hasDel := false } := by unfold PySem.W.clsIn; rw [hC] <;> rfl
  refine PySem.ks_wpAny_isType_cls (I1K _ _ hC) rfl ⟨rfl, ?_⟩
  refine PySem.ks_wpAny_call_super (I1K _ _ hC) rfl ho rfl (fun c e => Data.noConfusion e) (PySem.W.looks_mroIn I1K U.mro) (fun h1 e1 k1' => ?_)
  have I2 := I.kept (h' := h1) (t' := s.toks + 2) k1'
  have X2 : K.In h1 := I2.kIn
  have J2 : PySem.W.InstAt h1 a _ C none := ⟨k1' _ _ ho, rfl, rfl, trivial⟩
  have hsup : PySem.W.alongIn K "__init__" (((Value.ref C :: bm).dropWhile (· != .ref C)).drop 1) = some (some (.builtin "ValueError.__init__")) := by
    have e := U.sup
    unfold PySem.W.ks_superIn at e
    rw [hcl] at e
    exact e
  refine PySem.W.kxs_getMethod PySem.W.kxs_ValueError e1 (PySem.W.looks_opaque X2 U.stat) (l₀ := .ref C :: bm) (fun A Q E s k q => wpAny_bind ((PySem.W.looks_clsIn X2 hcl) A _ E s k (wpAny_pure q))) rfl X2 hsup (J2.type.andThen (PySem.W.looks_subIn X2 U.sub)) (PySem.W.ks_ne X2 J2 hcl) rfl ?_
  have I3 := I2.kept (h' := h1.push (mwV a)) (t' := s.toks + 2 + 1) (fun b o e => Heap.get?_push_of_some _ e)
  have hu : (h1.push (mwV a)).get? h1.objs.size = some (mwV a) := Heap.get?_push_at rfl rfl
  have I4 := I3.pins_of (pins' := [(h1.objs.size, mwV a)]) (fun p hp => by
    obtain rfl := List.mem_singleton.mp hp
    exact ⟨hu, I2.hok.fresh (Nat.le_refl _), fun z => absurd I2.lt (by show ¬ _ < h1.objs.size; rw [← z]; exact Nat.lt_irrefl _), I2.nofs (Nat.le_refl _), fun v => Data.noConfusion⟩)
  refine PySem.W.kxs_callWith (i := "ValueError.__init__") (x := a) rfl (Calls.evalArgs_plain ?_)
  refine thn ((pa_cons (he A outer s H E) pa_nil).run p3 _ _ _ H (fun vs H1 => (∃ z, vs = [V.str z]) ∧ H1 = H) I4 (hte a n H _ hn fun z => ⟨⟨z, rfl⟩, rfl⟩)) fun us s1 ⟨vs, H1, I5, r5, ⟨z, e5⟩, e6⟩ => ?_
  have e6 := e6.symm
  subst e6
  have hu1 := (I5.pin _ (List.mem_append_right _ List.mem_cons_self)).1
  refine ⟨hu1, ?_⟩
  have hl5 : us.length ≤ sizeLine := by rw [← r5.length, e5, sizeLine_eq]; exact Nat.le_of_ble_eq_true rfl
  refine call_mw U.oex I5 ea hu1 hl5 fun s2 I6 => ?_
  refine wpAt_of_wpAny ?_
  have hps := pss_one (ps_ost (p' := p6) (pos := p8) (f := "at") (X := cxS P w K mg base ["self", "at"] qual scope f (.ref cda) cc A outer s H E) (pv (pos := p5) 0 rfl (.inl S.self)) (pv (pos := p7) 1 rfl (.inl S.at_)) rfl)
  refine wpAny_mono (hps.run [] s2 _ H { nx := fun _ H' => Q .non H', rt := Q } (I6.pins_of fun p hp => absurd hp (by simp)) ?_) (fun fl s3 hs => ?_) fun e s3 hs => hs
  · exact ⟨_, rfl, _, rfl, a, C, rfl, U.oex, U.noat, .inl ⟨ea, fun dx h1 h2 => hq dx h1 h2⟩⟩
  · cases fl with
    | next => obtain ⟨τ, G, J, q⟩ := hs; exact ⟨.non, G, J.os, J.bare, J.base, J.hok, rfl, q⟩
    | brk => obtain ⟨τ, G, J, q⟩ := hs; exact False.elim q
    | cont => obtain ⟨τ, G, J, q⟩ := hs; exact False.elim q
    | ret u => obtain ⟨v, τ, G, J, rv, q⟩ := hs; exact ⟨v, G, J.os, J.bare, J.base, J.hok, rv, q⟩
end
end Ov

set_option Elab.async false
set_option linter.all false
set_option maxRecDepth 100000
set_option maxHeartbeats 4000000
/-! InvalidCode.__init__ -/
namespace Ov
open PySem PySem.Spec PyProof.Rows L2 GxR
abbrev sIcI : Stmt := inClass (top 12) 0
/-- a def that closes over __class__ -/
structure FunS (K : PySem.W.Frag) (x qual : Str) (st : Stmt) (f cc cda : Addr) (fd : FuncData) : Prop where
  ex : ∃ (oc : Value) (od : Option Addr) (kV doc pm : Value) (an : Option Addr) (ct : Value) (osl : Array (Option Value)),
    fd = PySem.W.ksFn x qual (defArgs st) (defBody st) (defScope st) .none kV doc pm an (.ref cda) ct cc ∧ K.lookup f = some ⟨oc, od, .func fd, osl⟩ ∧ PySem.W.codeIn K (.ref cda) qual = true
theorem scIcI : ScS (defScope sIcI) := ⟨rfl, rfl, rfl, rfl, rfl, rfl, rfl, by decide +kernel, by decide +kernel⟩
abbrev okAt (n : Int) : Prop := 0 ≤ n ∧ n ≤ 10000
theorem log_small {n : Int} (h0 : 0 ≤ n) (h : n ≤ 10000) : n.natAbs.log2 < 1920 := by
  have : n.natAbs.log2 ≤ n.natAbs := Nat.log2_le_self _
  by_cases z : n.natAbs = 0
  · rw [z]; decide
  · have h3 : n.natAbs < 2 ^ 14 := by omega
    have := (Nat.log2_lt z).mpr h3
    omega
section
variable {P : Program} {w : World} {K : PySem.W.Frag} {mg : Str → Option Value} {base : Heap} {C f cc cda : Addr} {fd : FuncData}
theorem ok_icI (F : FunS K "__init__" "InvalidCode.__init__" sIcI f cc cda fd) (U : SuK P K mg C cc cda) : FnOk P w K mg base CX0 1 f fd ["self", "at"] (spAt C okAt) := by
  obtain ⟨oc, od, kV, doc, pm, an, ct, osl, rfl, lk, hcd⟩ := F.ex
  refine fn_superInit (k := 0) (okN := okAt) scIcI U lk hcd rfl rfl (fun env => ⟨_, rfl⟩) (fun A outer s H E => pe_joined (.cons pe_str (.cons (pe_fmt (pv 1)) (.cons pe_str .nil)))) (fun a n H Q hn hq => ?_)
  have hs : (Str.ofString (toString n)).length ≤ 2000 := by
    have e := PySem.int_text_length_le10 (a := n) (k := 5) (by decide) (by omega)
    rw [PySem.ofString_length]
    omega
  have e1 : (Str.empty ++ Str.ofString "word ").length ≤ 10 := by decide +kernel
  have e2 : (Str.ofString " of the code cannot stand there").length ≤ 100 := by decide +kernel
  refine ⟨_, rfl, Nat.le_trans e1 (by decide), _, rfl, .inr ⟨n, rfl, log_small hn.1 hn.2, _, rfl, ?_, _, rfl, ?_, hq _⟩⟩
  · rw [PySem.Str.length_append, sizeLine_eq]; omega
  · rw [PySem.Str.length_append, PySem.Str.length_append, sizeLine_eq]; omega
end
end Ov

set_option Elab.async false
set_option linter.all false
/-! the words between blanks: at least one, none longer than the text -/
namespace Ov
open PySem
theorem spl_facts (S : List Nat) : ∀ (l : List Nat) (k : Nat) (acc : List Nat), TL.spl S k acc l ≠ [] ∧ ∀ p ∈ TL.spl S k acc l, p.length ≤ acc.length + l.length
  | [], k, acc => by
    rw [TL.spl_nil]
    exact ⟨by simp, fun p hp => by obtain rfl := List.mem_singleton.mp hp; omega⟩
  | c :: r, 0, acc => by
    cases h : TL.pre S (c :: r) with
    | true =>
      rw [TL.spl_hit h]
      refine ⟨by simp, fun p hp => ?_⟩
      rcases List.mem_cons.mp hp with rfl | hp
      · omega
      · have := (spl_facts S r _ []).2 p hp
        simp only [List.length_cons, List.length_nil] at this ⊢
        omega
    | false =>
      rw [TL.spl_miss h]
      obtain ⟨a, b⟩ := spl_facts S r 0 (acc ++ [c])
      refine ⟨a, fun p hp => ?_⟩
      have := b p hp
      simp only [List.length_append, List.length_cons, List.length_nil] at this ⊢
      omega
  | c :: r, k + 1, acc => by
    show TL.spl S k acc r ≠ [] ∧ ∀ p ∈ TL.spl S k acc r, _
    obtain ⟨a, b⟩ := spl_facts S r k acc
    refine ⟨a, fun p hp => ?_⟩
    have := b p hp
    simp only [List.length_cons] at this ⊢
    omega
theorem split_spl1 (a : Str) : (Txt.split a " ").map TL.tl = TL.spl (TL.tl " ") 0 [] (TL.tl a) := TL.split_spl a " " (by decide +kernel) (TL.kind_ok (by decide +kernel))
theorem split_ne (a : Str) : Txt.split a " " ≠ [] := fun h => by
  have e := split_spl1 a
  rw [h] at e
  exact (spl_facts _ _ _ _).1 e.symm
theorem split_le (a : Str) : ∀ z ∈ Txt.split a " ", z.length ≤ a.length := fun z hz => by
  have e := split_spl1 a
  have hm : TL.tl z ∈ (Txt.split a " ").map TL.tl := List.mem_map_of_mem hz
  rw [e] at hm
  have := (spl_facts _ _ _ _).2 _ hm
  simpa [TL.tl, Str.length] using this
theorem joinL_spl : ∀ (l acc : List Nat), TL.joinL [32] (TL.spl [32] 0 acc l) = acc ++ l
  | [], acc => by
    rw [TL.spl_nil]
    show acc = acc ++ []
    rw [List.append_nil]
  | c :: r, acc => by
    cases h : TL.pre [32] (c :: r) with
    | true =>
      rw [TL.spl_hit h]
      have hc : c = 32 := by
        simp [TL.pre] at h
        exact h
      have hne := (spl_facts [32] r 0 []).1
      have ih := joinL_spl r []
      show TL.joinL [32] (acc :: TL.spl [32] 0 [] r) = _
      cases hs : TL.spl [32] 0 [] r with
      | nil => exact absurd hs hne
      | cons p q =>
        show acc ++ ([32] ++ TL.joinL [32] (p :: q)) = _
        rw [← hs, ih, hc]
        rfl
    | false =>
      rw [TL.spl_miss h, joinL_spl r (acc ++ [c])]
      simp
theorem join_split (a : Str) : Txt.join " " (Txt.split a " ") = a := by
  have e : TL.tl (Txt.join " " (Txt.split a " ")) = TL.tl a := by
    rw [TL.join_eq, TL.tl_join, split_spl1, show TL.tl (" " : Str) = [32] by decide +kernel, joinL_spl]
    rfl
  cases hj : Txt.join " " (Txt.split a " ") with
  | mk u =>
    cases a with
    | mk v =>
      rw [hj] at e
      have e' : u.toList = v.toList := e
      rw [Array.toList_inj.mp e']
theorem spl_sum : ∀ (l acc : List Nat), ((TL.spl [32] 0 acc l).map List.length).sum + (TL.spl [32] 0 acc l).length = acc.length + l.length + 1
  | [], acc => by
    rw [TL.spl_nil]
    simp
  | c :: r, acc => by
    cases h : TL.pre [32] (c :: r) with
    | true =>
      rw [TL.spl_hit h]
      have ih := spl_sum r []
      show ((acc :: TL.spl [32] 0 [] r).map List.length).sum + (acc :: TL.spl [32] 0 [] r).length = _
      simp only [List.map_cons, List.sum_cons, List.length_cons, List.length_nil] at ih ⊢
      omega
    | false =>
      rw [TL.spl_miss h]
      have ih := spl_sum r (acc ++ [c])
      simp only [List.length_append, List.length_cons, List.length_nil] at ih ⊢
      omega
/-- the words and the blanks between them are the text -/
theorem split_sum (a : Str) : ((Txt.split a " ").map (·.length)).sum + (Txt.split a " ").length = a.length + 1 := by
  have e := split_spl1 a
  have s := spl_sum (TL.tl a) []
  rw [show ([32] : List Nat) = TL.tl (" " : Str) by decide +kernel, ← e, List.map_map, List.length_map] at s
  have f : (List.length ∘ TL.tl) = (fun z : Str => z.length) := by
    funext z
    simp [TL.tl, Str.length]
  rw [f] at s
  simpa [TL.tl, Str.length] using s
end Ov

set_option Elab.async false
set_option linter.all false
set_option maxRecDepth 100000
set_option maxHeartbeats 4000000
/-! f(k = v, ..) with no positional value, in the body of a try or not -/
namespace Ov
open PySem PySem.Spec PyProof.Rows L2 GxR ClX
section
variable {X : Cx} {CX : CXT} {k n : Nat} {f : Addr} {fd : FuncData} {ps ks : List Str} {sp : Sp} {E : L2.St → XK} {x : Str} {p pos : Pos} {kws : List Keyword} {tk : TA} {g : List Value → List Value → List Value} {gV : List V → List V → List V}
def tCallK0S (m : Nat) (sp : Sp) (gV : List V → List V → List V) (E : L2.St → XK) (tk : TA) : TE := fun σ H Q => tk σ H fun zs H2 => zs.length = m ∧ sp (gV [] zs) H2 Q (E σ)
theorem pe_callK0S (F : FnOk X.prog X.w X.K X.mg X.base CX k f fd ps sp) (hr : Room k X.A) (hg : Gl X x) (hm : X.mg x = some (.ref f)) (hk : PySem.W.keepIn X.K (.ref f) = true) (hb : KBn X.K fd ps 0 ks g gV) (hx : ∀ σ, PassesAt CX X σ (E σ))
    (hkw : PK X kws tk) (hall : (backToKw pos (keywordEach kws X.env)).all (·.1.isSome) = true := by rfl) (hks : (backToKw pos (keywordEach kws X.env)).filterMap (·.1) = ks := by rfl)
    (hdb : (x == ("__debug__" : Str)) = false := by decide)
    (hpl : ((backTo pos (starEach [] X.env)).any (·.1) || (backToKw pos (keywordEach kws X.env)).any (·.1.isNone)) = false := by rfl) :
    PE X (.Call (.Name x p) [] kws pos) (tCallK0S ks.length sp gV E tk) := by
  refine ⟨fun pins s σ H Q I h => ?_⟩
  refine wpAny_Call_Name_kw (ld_glob I hg hm ?_ hdb)
  refine PySem.W.callWith_KW0 (h₀ := X.base) I.ok.mod.kin hk hall ?_ hpl
  refine thn (hkw.run pos pins s σ H _ I h) fun ws s2 ⟨zs, H2, I2, rz, l2, q2⟩ => ⟨I2.kIn, ?_⟩
  rw [hks]
  refine wpAny_call (codeAny_mono (F.run X.A X.stack s2 H2 ⟨[], ks.zip ws⟩ (g [] ws) (gV [] zs) Q (E σ) hr I2.env0 (hb.to s2 [] ws I2.kIn rfl (rz.length.symm.trans l2)) (hb.rel .nil rz) q2) fun r s' hq => ?_)
  cases r with
  | error e => exact hx σ pins H2 s2 e s' I2 hq
  | ok fl =>
    cases fl with
    | ret u => exact I2.after hq
    | next => exact False.elim hq
    | brk => exact False.elim hq
    | cont => exact False.elim hq
end
/-- a property, where the reading is told by name -/
theorem pe_propXK {X : Cx} {K : PySem.W.Frag} (hK : X.K = K) {CX : CXT} {k : Nat} {p g : Addr} {f : Str} {fd : FuncData} {ps : List Str} {sp : Sp} {dvs : List V} {ds : List Value} {E : XK} {e : Expr} {pos : Pos} {ta : TE} (he : PE X e ta) (F : FnOk X.prog X.w X.K X.mg X.base CX k g fd ps sp) (hr : Room (k + 1) X.A) (hb : Binds X.K fd ps ds) (hd : Vals dvs ds) (hx : Passes CX X.nox E)
    (hab : attributeBase e f X.env (eval e X.env) = eval e X.env := by rfl) : PE X (.Attribute e f pos) (tPropX K f p g sp dvs E ta) := by
  subst hK
  exact pe_propX he F hr hb hd hx hab
end Ov

set_option Elab.async false
set_option linter.all false
set_option maxRecDepth 100000
set_option maxHeartbeats 4000000
/-! errors of codes: the class, _law_read_at -/
namespace Ov
open PySem PySem.Spec PyProof.Rows L2 GxR
abbrev sRA : Stmt := top 32
abbrev oneSp : Str := " "
/-- what stands behind the making of an error at a with its dict at dx -/
theorem kep_err {T : List Addr} {H : Hp} {a dx CI : Addr} {fs : List (Str × V)} (hT : ∀ p ∈ T, TabG H p) (ha : H a = none) (hd : H dx = none) (hne : dx ≠ a) :
    Kep T H (upd (L2.del (upd (upd (upd H a (exo a CI none)) dx (exd dx fs)) a (exo a CI (some dx))) a) dx (.xd fs)) := by
  have e : upd (L2.del (upd (upd (upd H a (exo a CI none)) dx (exd dx fs)) a (exo a CI (some dx))) a) dx (.xd fs) = upd H dx (.xd fs) := by
    funext b
    by_cases hb : b = dx
    · rw [hb, upd_same, upd_same]
    · rw [upd_ne hb, upd_ne hb]
      by_cases hba : b = a
      · rw [hba, L2.del_same, ha]
      · rw [L2.del_ne hba, upd_ne hba, upd_ne hb, upd_ne hba]
  rw [e]
  exact Kep.new hT hd
/-- the class of the errors of codes -/
structure IcK (P : Program) (K : PySem.W.Frag) (mg : Str → Option Value) (CI fI cc cda : Addr) : Prop where
  su : SuK P K mg CI cc cda
  g : mg "InvalidCode" = some (.ref CI)
  ini : PySem.W.findIn K (.ref CI) "__init__" = some (some (.ref fI))
  ty : PySem.W.typeIn K (.ref fI) = some (.type "function")
  exc : ExcC K CI
structure CdX (mg : Str → Option Value) : Prop where
  enu : mg "enumerate" = none
structure RaK (K : PySem.W.Frag) (mg : Str → Option Value) (CI : Addr) (D : Nat → Addr) : Prop where
  g0 : mg "InvalidName" = some (.ref (D 0))
  g1 : mg "InvalidNumber" = some (.ref (D 1))
  g2 : mg "InvalidOrder" = some (.ref (D 2))
  g3 : mg "InvalidParts" = some (.ref (D 3))
  g4 : mg "InvalidStamping" = some (.ref (D 4))
  g5 : mg "InvalidStamps" = some (.ref (D 5))
  g6 : mg "InvalidStrip" = some (.ref (D 6))
  g7 : mg "InvalidText" = some (.ref (D 7))
  g8 : mg "NotPossible" = some (.ref (D 8))
  g9 : mg "NothingToUndo" = some (.ref (D 9))
  ka : PySem.W.kitAny K (.ref CI) [.ref (D 0), .ref (D 1), .ref (D 2), .ref (D 3), .ref (D 4), .ref (D 5)] = some false
  kb : PySem.W.kitAny K (.ref CI) [.ref (D 6), .ref (D 7), .ref (D 8), .ref (D 9)] = some false
  kv : PySem.W.kitOne K (.ref CI) (.type "ValueError") = some true
  ki : PySem.W.kitOne K (.ref CI) (.ref CI) = some true
  ve : mg "ValueError" = none
  xf : XfC K CI
/-- an error of a code stands frozen at a -/
def ErrAt (CI : Addr) (H : Hp) (a : Addr) (n : Nat) : Prop := ∃ (oe : Obj) (dd : Addr), H a = some (Fz oe a) ∧ oe.cls = .ref CI ∧ oe.dict = some dd ∧ (∃ vs, oe.data = .fields vs) ∧ H dd = some (.xd [("at", .int (n : Nat))])
def spRA (CI : Addr) : Sp := fun vs H Q _ => ∃ (a : Addr) (n : Nat), vs = [.ref a] ∧ ErrAt CI H a n ∧ ∀ p H', H p = none → L2.Same H H' → H' p = some (.tup [.str "at", .int (n : Nat)]) → Q (.ref p) H'
abbrev NRA : List Str := ["e", "others"]
theorem scRA : FnScope NRA ["e"] (defScope sRA) := ⟨rfl, rfl, rfl, by decide +kernel, rfl, by decide +kernel, by decide +kernel⟩
section
variable {P : Program} {w : World} {K : PySem.W.Frag} {mg : Str → Option Value} {base : Heap} {T : List Addr} {C fLow fText fAre fTape fNext fInks CI fII cc cda : Addr} {Dk : Nat → Addr}
theorem ok_RA {f : Addr} {fd : FuncData} (F : L2.Fun K "_law_read_at" "_law_read_at" sRA f fd) (X : Txt K mg C fLow fText fAre fTape fNext fInks) (I : IcK P K mg CI fII cc cda) (R : RaK K mg CI Dk) : FnQ P w K mg base 3 f fd ["e"] (spRA CI) := by
  refine FnQ.of F (FnM.of (k := 2) F scRA (fun vs H Q E h => ?_) (fun cdv A outer s H vs Q E pin hr h => ?_))
  · obtain ⟨a, n, rfl, _⟩ := h
    rfl
  · obtain ⟨a, n, rfl, ⟨oe, dd, hF, hc, hd, hv, hxd⟩, q⟩ := h
    refine ⟨_, pss_cons (ps_set (i := 1) scRA.nd rfl (.inl rfl) (pe_callB call_isFzD (by rfl) X.isi boot_isinstance (pa_cons (pv 0) (pa_cons (pe_tup (pa_cons (pe_glob (v := .ref (Dk 0)) (by rfl) R.g0 rfl) (pa_cons (pe_glob (v := .ref (Dk 1)) (by rfl) R.g1 rfl) (pa_cons (pe_glob (v := .ref (Dk 2)) (by rfl) R.g2 rfl) (pa_cons (pe_glob (v := .ref (Dk 3)) (by rfl) R.g3 rfl) (pa_cons (pe_glob (v := .ref (Dk 4)) (by rfl) R.g4 rfl) (pa_cons (pe_glob (v := .ref (Dk 5)) (by rfl) R.g5 rfl) pa_nil))))))) pa_nil))))
      (pss_cons (ps_set (i := 1) scRA.nd rfl (.inl rfl) (pe_or (pv 1) (pe_one (pe_callB call_isFzD (by rfl) X.isi boot_isinstance (pa_cons (pv 0) (pa_cons (pe_tup (pa_cons (pe_glob (v := .ref (Dk 6)) (by rfl) R.g6 rfl) (pa_cons (pe_glob (v := .ref (Dk 7)) (by rfl) R.g7 rfl) (pa_cons (pe_glob (v := .ref (Dk 8)) (by rfl) R.g8 rfl) (pa_cons (pe_glob (v := .ref (Dk 9)) (by rfl) R.g9 rfl) pa_nil))))) pa_nil))))))
      (pss_cons (ps_if (pw_or (pt_val (pv 1)) (pw_or1 (pt_not (pt_val (pe_callB call_isFzD (by rfl) X.isi boot_isinstance (pa_cons (pv 0) (pa_cons (pe_bltn (v := .ty "ValueError") (by rfl) R.ve (by decide +kernel) rfl) pa_nil))))))).pt (pss_one (ps_ret pe_str)) pss_nil)
      (pss_one (ps_ret (pe_ifExp (pt_val (pe_callB call_isFzD (by rfl) X.isi boot_isinstance (pa_cons (pv 0) (pa_cons (pe_glob (v := .ref CI) (by rfl) I.g rfl) pa_nil)))) (pe_tup (pa_cons pe_str (pa_cons (pe_xfF (pv 0)) pa_nil))) pe_str))))), ?_⟩
    have fz : ∀ {H1 : Hp}, L2.Same H H1 → H1 a = some (Fz oe a) ∧ FzD H1 oe.dict ∧ H1 dd = some (.xd [("at", .int (n : Nat))]) := fun {H1} s => ⟨s _ _ hF, .inr ⟨dd, _, hd, s _ _ hxd⟩, s _ _ hxd⟩
    refine ⟨_, rfl, by rw [sizeLine_eq]; exact Nat.le_of_ble_eq_true rfl, fun t1 ht1 => ?_⟩
    have s1 := same_new (o := .tup [.ref (Dk 0), .ref (Dk 1), .ref (Dk 2), .ref (Dk 3), .ref (Dk 4), .ref (Dk 5)]) ht1
    obtain ⟨f1, d1, x1⟩ := fz s1
    refine ⟨a, CI, oe, f1, hc, d1, hv, I.exc, .inr ⟨t1, _, _, false, rfl, upd_same, .cons (.own _) (.cons (.own _) (.cons (.own _) (.cons (.own _) (.cons (.own _) (.cons (.own _) .nil))))), R.ka, ?_⟩⟩
    refine ⟨_, rfl, false, rfl, iteF ?_⟩
    refine ⟨_, rfl, by rw [sizeLine_eq]; exact Nat.le_of_ble_eq_true rfl, fun t2 ht2 => ?_⟩
    have s2 := s1.trans (same_new (o := .tup [.ref (Dk 6), .ref (Dk 7), .ref (Dk 8), .ref (Dk 9)]) ht2)
    obtain ⟨f2, d2, x2⟩ := fz s2
    refine ⟨a, CI, oe, f2, hc, d2, hv, I.exc, .inr ⟨t2, _, _, false, rfl, upd_same, .cons (.own _) (.cons (.own _) (.cons (.own _) (.cons (.own _) .nil))), R.kb, ?_⟩⟩
    refine ⟨_, rfl, _, rfl, iteF ?_⟩
    refine ⟨_, rfl, a, CI, oe, f2, hc, d2, hv, I.exc, .inl ⟨_, _, true, rfl, .ty _, R.kv, _, rfl, iteF ?_⟩⟩
    refine ⟨_, rfl, a, CI, oe, f2, hc, d2, hv, I.exc, .inl ⟨_, _, true, rfl, .own _, R.ki, _, rfl, iteT ?_⟩⟩
    refine ⟨_, rfl, a, CI, oe, dd, _, _, rfl, f2, hc, hd, hv, x2, R.xf, I.su.noat, rfl, by rw [sizeLine_eq]; exact Nat.le_of_ble_eq_true rfl, fun p hp => ?_⟩
    exact q p _ (s2.free hp) (s2.trans (same_new hp)) upd_same
end
theorem roomS {k : Nat} {A : Around} {o : Option Value} (r : Room k A) : L2H.RoomH k (A.mark o) := ⟨r.dp, r.un⟩
/-- the class StampError, which the clause names -/
structure SeK (K : PySem.W.Frag) (mg : Str → Option Value) (SE CI : Addr) : Prop where
  g : mg "StampError" = some (.ref SE)
  ex : PySem.W.exmOne K (.ref CI) (.ref SE) = some true
theorem at_0 {ws : List Str} (h : 1 ≤ ws.length) : atI (ws.map V.str) 0 = some (.str ws[0]) := by
  have h0 : (ws.map V.str)[0]? = some (.str ws[0]) := by rw [List.getElem?_map, List.getElem?_eq_getElem (by omega)]; rfl
  exact atI_nat (j := 0) h0
theorem at_i {ws : List Str} {i : Int} (h0 : 0 ≤ i) (h : i < ws.length) : atI (ws.map V.str) i = some (.str (ws.getD i.toNat Str.empty)) := by
  have hi : i.toNat < ws.length := by omega
  have h1 : (ws.map V.str)[i.toNat]? = some (.str (ws.getD i.toNat Str.empty)) := by
    rw [List.getElem?_map, List.getElem?_eq_getElem hi]
    simp [List.getD, hi]
  have e : i = (i.toNat : Int) := by omega
  have := atI_nat (j := i.toNat) h1
  rw [← e] at this
  exact this
end Ov

set_option Elab.async false
set_option linter.all false
/-! the weight of words: their signs and one for each; what is cut weighs no more -/
namespace Ov
open PySem PySem.Spec L2
def wtl (l : List Str) : Nat := (l.map fun z => z.length + 1).sum
theorem wtl_nil : wtl [] = 0 := rfl
theorem wtl_cons (z : Str) (l : List Str) : wtl (z :: l) = z.length + 1 + wtl l := by
  unfold wtl
  rw [List.map_cons, List.sum_cons]
theorem wtl_one (z : Str) : wtl [z] = z.length + 1 := by rw [wtl_cons, wtl_nil]
theorem wtl_app : ∀ a b : List Str, wtl (a ++ b) = wtl a + wtl b
  | [], b => by rw [List.nil_append, wtl_nil]; omega
  | z :: a, b => by rw [List.cons_append, wtl_cons, wtl_cons, wtl_app a b]; omega
theorem wtl_eq : ∀ l : List Str, wtl l = (l.map (·.length)).sum + l.length
  | [] => rfl
  | z :: l => by
    rw [wtl_cons, wtl_eq l, List.map_cons, List.sum_cons, List.length_cons]
    omega
theorem wtl_sub {a b : List Str} (h : a.Sublist b) : wtl a ≤ wtl b := by
  induction h with
  | slnil => exact Nat.le_refl _
  | cons z _ ih => rw [wtl_cons]; omega
  | cons_cons z _ ih => rw [wtl_cons, wtl_cons]; omega
theorem wtl_mem {z : Str} : ∀ {l : List Str}, z ∈ l → z.length + 1 ≤ wtl l
  | w :: l, h => by
    rw [wtl_cons]
    rcases List.mem_cons.mp h with rfl | h
    · omega
    · have := wtl_mem h
      omega
theorem wtl_len : ∀ l : List Str, l.length ≤ wtl l
  | [] => Nat.le_refl _
  | z :: l => by
    have := wtl_len l
    rw [wtl_cons, List.length_cons]
    omega
theorem wtl_le {m : Nat} : ∀ {ws : List Str}, (∀ z ∈ ws, z.length ≤ m) → wtl ws ≤ (m + 1) * ws.length
  | [], _ => Nat.zero_le _
  | z :: l, h => by
    have := wtl_le (ws := l) fun y hy => h y (List.mem_cons_of_mem _ hy)
    have := h z List.mem_cons_self
    rw [wtl_cons, List.length_cons, Nat.mul_add]
    omega
theorem cutV_strs (ws : List Str) (lo hi : Option Int) : ∃ us : List Str, cutV (ws.map V.str) lo hi = us.map V.str ∧ wtl us ≤ wtl ws := by
  unfold cutV
  rw [← List.map_drop, ← List.map_take]
  exact ⟨_, rfl, wtl_sub ((List.take_sublist _ _).trans (List.drop_sublist _ _))⟩
theorem joinL_len (S : List Nat) (h : S.length ≤ 1) : ∀ ps : List (List Nat), (TL.joinL S ps).length ≤ (ps.map fun p => p.length + 1).sum
  | [] => by exact Nat.le_refl _
  | [p] => by
    show p.length ≤ ([p].map fun p => p.length + 1).sum
    simp
  | p :: q :: r => by
    show (p ++ (S ++ TL.joinL S (q :: r))).length ≤ _
    have := joinL_len S h (q :: r)
    rw [List.length_append, List.length_append, List.map_cons, List.sum_cons]
    omega
theorem join_len (y : Str) (h : y.length ≤ 1) (ys : List Str) : (Txt.join y ys).length ≤ wtl ys := by
  have e := TL.tl_join y ys
  have b := joinL_len (TL.tl y) (by simpa [TL.tl, Str.length] using h) (ys.map TL.tl)
  rw [← e, ← TL.join_eq, List.map_map] at b
  have f : ((fun p : List Nat => p.length + 1) ∘ TL.tl) = (fun z : Str => z.length + 1) := by
    funext z
    simp [TL.tl, Str.length]
  rw [f] at b
  simpa [TL.tl, Str.length, wtl] using b
theorem lw_cut {K : PySem.W.Frag} {Q : VK} {H : Hp} {l : Addr} {ws : List Str} {lo hi : Option Int} (e : H l = some (.lst (ws.map V.str)))
    (k : ∀ p us H', (∀ b o, H b = some o → H' b = some o) → H' p = some (.lst (us.map V.str)) → wtl us ≤ wtl ws → Q (.ref p) H') : rSlL K (.ref l) lo hi H Q := by
  obtain ⟨us, eu, hu⟩ := cutV_strs ws lo hi
  refine ⟨l, _, rfl, .inl (.inl e), fun p hp => k p us _ (fun b o eb => ?_) ?_ hu⟩
  · refine (upd_ne fun h => ?_).trans eb
    rw [h, hp] at eb
    cases eb
  · rw [eu]
    exact upd_same
theorem lw_cat {Q : VK} {H : Hp} {a b : Addr} {xs ys : List Str} (ea : H a = some (.lst (xs.map V.str))) (eb : H b = some (.lst (ys.map V.str))) (h : wtl xs + wtl ys ≤ 100000)
    (k : ∀ p H', (∀ b o, H b = some o → H' b = some o) → H' p = some (.lst ((xs ++ ys).map V.str)) → Q (.ref p) H') : rCat (.ref a) (.ref b) H Q := by
  have h1 := wtl_len xs
  have h2 := wtl_len ys
  refine ⟨a, b, _, _, rfl, rfl, ea, eb, ?_, fun p hp => k p _ (fun b o eb => ?_) ?_⟩
  · rw [List.length_map, List.length_map]
    exact Nat.le_trans (show _ ≤ 100000 by omega) (Nat.le_of_ble_eq_true rfl)
  · refine (upd_ne fun h => ?_).trans eb
    rw [h, hp] at eb
    cases eb
  · rw [List.map_append]
    exact upd_same
theorem same_upd {H : Hp} {p : Addr} {o : HO} (hp : H p = none) : ∀ b o', H b = some o' → upd H p o b = some o' := fun b o' eb => by
  refine (upd_ne fun h => ?_).trans eb
  rw [h, hp] at eb
  cases eb
theorem rep_len (n : Nat) (z : Str) : (⟨(List.replicate n z.cps.toList).flatten.toArray⟩ : Str).length = n * z.length := by
  show ((List.replicate n z.cps.toList).flatten.toArray).size = n * z.cps.size
  rw [List.size_toArray, List.length_flatten, List.map_replicate, List.sum_replicate_nat, Array.length_toList]
theorem app_len (a b : Str) : (a ++ b).length = a.length + b.length := by
  show (a.cps ++ b.cps).size = _
  rw [Array.size_append]
  rfl
end Ov

set_option Elab.async false
set_option linter.all false
set_option maxRecDepth 100000
/-! whole numbers from -7 to 119 and their texts -/
namespace Ov
open PySem PySem.Spec L2
abbrev sI (n : Int) : Str := Str.ofString (toString n)
/-- the signs behind a minus -/
def digS (z : Str) : Str := if Txt.startswith z "-" = true then cutS z (some 1) none else z
def alldig (z : Str) : Bool := z.cps.toList.all fun c => decide (48 ≤ c) && decide (c ≤ 57)
def digB (z : Str) : Bool := decide (1 ≤ (digS z).length) && (decide ((digS z).length ≤ 9) && alldig (digS z))
def rgI : List Int := (List.range 127).map fun (k : Nat) => (k : Int) - 7
theorem rg_mem {n : Int} (h0 : -7 ≤ n) (h1 : n ≤ 119) : n ∈ rgI := by
  unfold rgI
  refine List.mem_map.mpr ⟨(n + 7).toNat, List.mem_range.mpr (by omega), by omega⟩
theorem rg_in {n : Int} (h : n ∈ rgI) : -7 ≤ n ∧ n ≤ 119 := by
  unfold rgI at h
  obtain ⟨k, hk, rfl⟩ := List.mem_map.mp h
  have := List.mem_range.mp hk
  omega
def tlc (c : Nat) (z : Str) : Bool := z.cps.toList.contains c
def ascB (z : Str) : Bool := z.cps.toList.all fun c => decide (c < 128)
theorem rg_all : (rgI.all fun n => decide (intText? (sI n) = some n) && (digB (sI n) && (!(tlc 64 (sI n)) && (!(tlc 32 (sI n)) && (!(tlc 58 (sI n)) && (!(tlc 43 (sI n)) && (!(tlc 42 (sI n)) && (ascB (sI n) && decide ((sI n).length ≤ 4))))))))) = true := by decide +kernel
structure RgT (n : Int) : Prop where
  it : intText? (sI n) = some n
  dig : digB (sI n) = true
  at_ : (64 : Nat) ∉ TL.tl (sI n)
  sp : (32 : Nat) ∉ TL.tl (sI n)
  col : (58 : Nat) ∉ TL.tl (sI n)
  plu : (43 : Nat) ∉ TL.tl (sI n)
  sta : (42 : Nat) ∉ TL.tl (sI n)
  asc : ∀ c ∈ TL.tl (sI n), c < 128
  len : (sI n).length ≤ 4
theorem tlc_no {c : Nat} {z : Str} (h : (!(tlc c z)) = true) : c ∉ TL.tl z := by
  intro hm
  have : tlc c z = true := List.contains_iff_mem.mpr hm
  rw [this] at h
  cases h
theorem asc_of {z : Str} (h : ascB z = true) : ∀ c ∈ TL.tl z, c < 128 := fun c hc => of_decide_eq_true (List.all_eq_true.mp h c hc)
theorem rg_t {n : Int} (h0 : -7 ≤ n) (h1 : n ≤ 119) : RgT n := by
  have h := List.all_eq_true.mp rg_all n (rg_mem h0 h1)
  obtain ⟨a, h⟩ := Bool.and_eq_true_iff.mp h
  obtain ⟨b, h⟩ := Bool.and_eq_true_iff.mp h
  obtain ⟨c, h⟩ := Bool.and_eq_true_iff.mp h
  obtain ⟨d, h⟩ := Bool.and_eq_true_iff.mp h
  obtain ⟨e, h⟩ := Bool.and_eq_true_iff.mp h
  obtain ⟨f, h⟩ := Bool.and_eq_true_iff.mp h
  obtain ⟨g, h⟩ := Bool.and_eq_true_iff.mp h
  obtain ⟨i, h⟩ := Bool.and_eq_true_iff.mp h
  exact ⟨of_decide_eq_true a, b, tlc_no c, tlc_no d, tlc_no e, tlc_no f, tlc_no g, asc_of i, of_decide_eq_true h⟩
/-- the number that a text writes -/
def numOf (z : Str) (lo hi : Int) : Option Int := rgI.find? fun n => decide (lo ≤ n) && (decide (n ≤ hi) && decide (sI n = z))
theorem numOf_some {z : Str} {lo hi n : Int} (h : numOf z lo hi = some n) : lo ≤ n ∧ n ≤ hi ∧ sI n = z ∧ -7 ≤ n ∧ n ≤ 119 := by
  have h1 := List.find?_some h
  have h2 := rg_in (List.mem_of_find?_eq_some h)
  simp only [Bool.and_eq_true, decide_eq_true_eq] at h1
  exact ⟨h1.1, h1.2.1, h1.2.2, h2⟩
theorem numOf_none {z : Str} {lo hi : Int} (h : ∀ n, -7 ≤ n → n ≤ 119 → lo ≤ n → n ≤ hi → sI n = z → False) : numOf z lo hi = none := by
  unfold numOf
  rw [List.find?_eq_none]
  intro n hn hb
  simp only [Bool.and_eq_true, decide_eq_true_eq] at hb
  have := rg_in hn
  exact h n this.1 this.2 hb.1 hb.2.1 hb.2.2
theorem numOf_odd {z : Str} {lo hi : Int} (h : digB z = false) : numOf z lo hi = none := numOf_none fun n h0 h1 _ _ e => by
  have := (rg_t h0 h1).dig
  rw [e, h] at this
  cases this
theorem numOf_of {lo hi n : Int} (h0 : -7 ≤ n) (h1 : n ≤ 119) (hl : lo ≤ n) (hh : n ≤ hi) : numOf (sI n) lo hi = some n := by
  cases h : numOf (sI n) lo hi with
  | none =>
    unfold numOf at h
    rw [List.find?_eq_none] at h
    exact absurd (by simp [hl, hh]) (h n (rg_mem h0 h1))
  | some m =>
    obtain ⟨_, _, e, m0, m1⟩ := numOf_some h
    have a := (rg_t m0 m1).it
    rw [e, (rg_t h0 h1).it] at a
    rw [Option.some.inj a]
theorem numOf_no {z : Str} {lo hi k : Int} (hz : intText? z = some k) (h : ¬ (sI k = z ∧ lo ≤ k ∧ k ≤ hi)) : numOf z lo hi = none := numOf_none fun n h0 h1 hl hh e => by
  have a := (rg_t h0 h1).it
  rw [e, hz] at a
  obtain rfl := Option.some.inj a
  exact h ⟨e, hl, hh⟩
theorem digitsVal_lt : ∀ (cs : List Nat), (∀ c ∈ cs, 48 ≤ c ∧ c ≤ 57) → ∀ a, cs.foldl (fun acc c => acc * 10 + (c - 48)) a < (a + 1) * 10 ^ cs.length
  | [], _, a => by simp
  | c :: cs, h, a => by
    have hc := h c List.mem_cons_self
    have ih := digitsVal_lt cs (fun d hd => h d (List.mem_cons_of_mem _ hd)) (a * 10 + (c - 48))
    rw [List.foldl_cons, List.length_cons, Nat.pow_succ]
    refine Nat.lt_of_lt_of_le ih ?_
    rw [Nat.mul_comm (10 ^ cs.length) 10, ← Nat.mul_assoc]
    exact Nat.mul_le_mul_right _ (by omega)
theorem alldig_iff {z : Str} (h : alldig z = true) : ∀ c ∈ z.cps.toList, 48 ≤ c ∧ c ≤ 57 := fun c hc => by
  have := List.all_eq_true.mp h c hc
  simpa using this
theorem starts_minus {z : Str} (h : Txt.startswith z "-" = true) : ∃ cs, z.cps.toList = 45 :: cs ∧ (cutS z (some 1) none).cps.toList = cs := by
  unfold Txt.startswith at h
  obtain ⟨h1, h2⟩ := Bool.and_eq_true_iff.mp h
  have l1 : ("-" : Str).length = 1 := by decide +kernel
  have h3 := (StrLaws.subAt_one z 45 0).mp ⟨by
    show 0 + 1 ≤ z.length
    have := of_decide_eq_true h1
    omega, h2⟩
  cases e : z.cps.toList with
  | nil => rw [e] at h3; cases h3
  | cons c cs =>
    rw [e] at h3
    obtain rfl : c = 45 := by simpa using h3
    refine ⟨cs, rfl, ?_⟩
    have lz : z.length = cs.length + 1 := by
      show z.cps.size = _
      rw [← Array.length_toList, e, List.length_cons]
    show (((z.cps.toList.drop (HT.sIx z.length 0 (some ((1 : Nat) : Int)))).take (HT.sIx z.length z.length none - HT.sIx z.length 0 (some ((1 : Nat) : Int)))).toArray).toList = cs
    rw [HT.sIx_nat, HT.sIx_none, e, lz, Nat.min_eq_left (by omega)]
    show (List.drop 1 (45 :: cs)).take (cs.length + 1 - 1) = cs
    rw [List.drop_one, List.tail_cons, Nat.add_sub_cancel, List.take_length]
theorem num_reads1 {z : Str} (h : digB z = true) : ∃ k : Int, intText? z = some k ∧ z.length ≤ 10 ∧ k.natAbs < 10 ^ 9 := by
  unfold digB at h
  simp only [Bool.and_eq_true, decide_eq_true_eq] at h
  obtain ⟨h1, h9, hd⟩ := h
  have hd := alldig_iff hd
  unfold digS at h1 h9 hd
  by_cases hs : Txt.startswith z "-" = true
  · rw [if_pos hs] at h1 h9 hd
    obtain ⟨cs, e, ec⟩ := starts_minus hs
    have lc : (cutS z (some 1) none).length = cs.length := by
      show (cutS z (some 1) none).cps.size = _
      rw [← Array.length_toList, ec]
    have lz : z.length = cs.length + 1 := by
      show z.cps.size = _
      rw [← Array.length_toList, e, List.length_cons]
    rw [ec] at hd
    rw [lc] at h1 h9
    refine ⟨_, intText_neg e hd (by intro z0; rw [z0] at h1; simp at h1) (by omega), by omega, ?_⟩
    have := digitsVal_lt cs hd 0
    have p := Nat.pow_le_pow_right (n := 10) (by decide) h9
    rw [Int.natAbs_neg, Int.natAbs_natCast]
    unfold NumText.digitsVal
    omega
  · rw [if_neg hs] at h1 h9 hd
    have lz : z.length = z.cps.toList.length := by
      show z.cps.size = _
      rw [Array.length_toList]
    refine ⟨_, intText_digits hd (by intro z0; rw [lz, z0] at h1; simp at h1) (by omega), by omega, ?_⟩
    have := digitsVal_lt z.cps.toList hd 0
    have p := Nat.pow_le_pow_right (n := 10) (by decide) h9
    rw [lz] at p
    rw [Int.natAbs_natCast]
    unfold NumText.digitsVal
    omega
theorem log_of {k : Int} (h : k.natAbs < 10 ^ 9) : k.natAbs.log2 < 1920 := by
  have : k.natAbs.log2 ≤ 30 := by
    by_cases z : k.natAbs = 0
    · rw [z]; decide
    · have := (Nat.log2_lt z (k := 30)).mpr (Nat.lt_trans h (by decide))
      omega
  omega
/-! ### words of stampings: index@place -/
theorem first_of {c : Nat} {z : Str} (h : c ∈ TL.tl z) : ∃ a b : Str, z = a ++ ⟨#[c]⟩ ++ b ∧ c ∉ TL.tl a := by
  have key : ∀ l : List Nat, c ∈ l → ∃ p q, l = p ++ (c :: q) ∧ c ∉ p := by
    intro l
    induction l with
    | nil => intro h; cases h
    | cons d r ih =>
      intro h
      by_cases e : c = d
      · exact ⟨[], r, by rw [e]; rfl, by simp⟩
      · obtain ⟨p, q, e1, e2⟩ := ih ((List.mem_cons.mp h).resolve_left e)
        exact ⟨d :: p, q, by rw [e1]; rfl, fun hm => (List.mem_cons.mp hm).elim e e2⟩
  obtain ⟨p, q, e, hn⟩ := key _ h
  refine ⟨⟨p.toArray⟩, ⟨q.toArray⟩, ?_, hn⟩
  have ez : z = ⟨z.cps⟩ := rfl
  rw [ez]
  have e2 : z.cps = (p ++ (c :: q)).toArray := by
    have e3 : z.cps.toList = p ++ (c :: q) := e
    rw [← e3]
  rw [e2]
  show (⟨(p ++ c :: q).toArray⟩ : Str) = ⟨p.toArray ++ #[c] ++ q.toArray⟩
  congr 1
  simp
abbrev stK (a b : Int) : Str := sI a ++ "@" ++ sI b
def stW (z : Str) : Option (Int × Int) := match numOf (Txt.partition z "@").1 0 5, numOf (Txt.partition z "@").2.2 (-7) 119 with
  | some a, some b => some (a, b)
  | _, _ => none
theorem at_tl : TL.tl ("@" : Str) = 64 :: [] := by decide +kernel
theorem stW_key {a b : Int} (a0 : 0 ≤ a) (a5 : a ≤ 5) (b0 : -7 ≤ b) (b1 : b ≤ 119) : stW (stK a b) = some (a, b) := by
  unfold stW stK
  rw [TL.partition_app at_tl (rg_t (by omega) (by omega)).at_, numOf_of (by omega) (by omega) a0 a5, numOf_of b0 b1 b0 b1]
theorem stW_some {z : Str} {a b : Int} (h : stW z = some (a, b)) : z = stK a b ∧ 0 ≤ a ∧ a ≤ 5 ∧ -7 ≤ b ∧ b ≤ 119 := by
  unfold stW at h
  by_cases hm : (64 : Nat) ∈ TL.tl z
  · obtain ⟨p, q, e, hn⟩ := first_of hm
    have e1 : z = p ++ "@" ++ q := e
    rw [e1, TL.partition_app at_tl hn] at h
    cases h1 : numOf p 0 5 with
    | none => rw [h1] at h; cases h
    | some a' =>
      cases h2 : numOf q (-7) 119 with
      | none => rw [h1, h2] at h; cases h
      | some b' =>
        rw [h1, h2] at h
        obtain ⟨rfl, rfl⟩ := Prod.mk.inj (Option.some.inj h)
        obtain ⟨a0, a5, ea, _, _⟩ := numOf_some h1
        obtain ⟨b0, b1, eb, _, _⟩ := numOf_some h2
        exact ⟨by rw [e1, ← ea, ← eb], a0, a5, b0, b1⟩
  · rw [TL.partition_none at_tl hm] at h
    have : numOf Str.empty (-7) 119 = none := numOf_odd (by decide +kernel)
    rw [this] at h
    cases hx : numOf z 0 5 <;> rw [hx] at h <;> cases h
theorem stW_none {z : Str} (h : stW z = none) {a b : Int} (a0 : 0 ≤ a) (a5 : a ≤ 5) (b0 : -7 ≤ b) (b1 : b ≤ 119) : z ≠ stK a b := fun e => by
  rw [e, stW_key a0 a5 b0 b1] at h
  cases h
/-! ### plain texts -/
abbrev Plain (z : Str) : Prop := ∀ c ∈ TL.tl z, c < 128
theorem tl_app (a b : Str) : TL.tl (a ++ b) = TL.tl a ++ TL.tl b := by
  show (a.cps ++ b.cps).toList = _
  rw [Array.toList_append]
theorem plain_app {a b : Str} (ha : Plain a) (hb : Plain b) : Plain (a ++ b) := fun c hc => by
  rw [tl_app] at hc
  exact (List.mem_append.mp hc).elim (ha c) (hb c)
theorem joinL_mem (S : List Nat) (c : Nat) : ∀ ps : List (List Nat), c ∈ TL.joinL S ps → c ∈ S ∨ ∃ p ∈ ps, c ∈ p
  | [], h => by cases h
  | [p], h => .inr ⟨p, List.mem_cons_self, h⟩
  | p :: q :: r, h => by
    have h : c ∈ p ++ (S ++ TL.joinL S (q :: r)) := h
    rcases List.mem_append.mp h with h | h
    · exact .inr ⟨p, List.mem_cons_self, h⟩
    · rcases List.mem_append.mp h with h | h
      · exact .inl h
      · rcases joinL_mem S c (q :: r) h with h | ⟨x, hx, h⟩
        · exact .inl h
        · exact .inr ⟨x, List.mem_cons_of_mem _ hx, h⟩
theorem plain_join {y : Str} {ys : List Str} (hy : Plain y) (h : ∀ z ∈ ys, Plain z) : Plain (Txt.join y ys) := fun c hc => by
  rw [TL.join_eq, TL.tl_join] at hc
  rcases joinL_mem _ c _ hc with h1 | ⟨p, hp, h1⟩
  · exact hy c h1
  · obtain ⟨z, hz, rfl⟩ := List.mem_map.mp hp
    exact h z hz c h1
theorem plain_ok {z : Str} (h : Plain z) : PyData.strOk z = true := by
  show (z.cps.all (· < 0x110000)) = true
  rw [← Array.all_toList, List.all_eq_true]
  intro c hc
  have := h c hc
  exact decide_eq_true (by omega)
end Ov

set_option Elab.async false
set_option linter.all false
set_option maxRecDepth 100000
set_option maxHeartbeats 4000000
/-! number_of -/
namespace Ov
open PySem PySem.Spec PyProof.Rows L2 GxR
abbrev sNum : Stmt := top 25
abbrev NNum : List Str := ["word", "least", "most", "digits", "number"]
theorem scNum : FnScope NNum ["word", "least", "most"] (defScope sNum) := ⟨rfl, rfl, rfl, by decide +kernel, rfl, by decide +kernel, by decide +kernel⟩
def numV : Option Int → V
  | some n => .int n
  | none => .non
def spNum (T : List Addr) : Sp := fun vs H Q _ => ∃ (z : Str) (lo hi : Int), vs = [.str z, .int lo, .int hi] ∧ (∀ p ∈ T, TabG H p) ∧ z.length ≤ 9000 ∧ -7 ≤ lo ∧ hi ≤ 119 ∧ ∀ H2, Tbs T H H2 → Q (numV (numOf z lo hi)) H2
/-- the number of digits, and a table of its generator -/
structure NuK (base : Heap) (mg : Str → Option Value) (T : List Addr) (cNum PNum : Addr) : Prop where
  tab : TabB base mg cNum PNum
  inT : PNum ∈ T
  most : ∃ t, mg "MOST_DIGITS" = some (.int 9 t)
  int : mg "int" = none
theorem dig_le (c : Nat) : (!decide (([c] : List Nat) < ("0" : Str).cps.toList)) = decide (48 ≤ c) := by
  have e : ("0" : Str).cps.toList = [48] := by rfl
  rw [e]
  have h := one_lt c 48
  by_cases q : 48 ≤ c
  · have : ¬ ([c] < [48]) := fun z => by have := h.mp z; omega
    simp [q, this]
  · have : [c] < [48] := h.mpr (by omega)
    simp [q, this]
theorem dig_ge (c : Nat) : (!decide (("9" : Str).cps.toList < ([c] : List Nat))) = decide (c ≤ 57) := by
  have e : ("9" : Str).cps.toList = [57] := by rfl
  rw [e]
  have h := one_lt 57 c
  by_cases q : c ≤ 57
  · have : ¬ ([57] < [c]) := fun z => by have := h.mp z; omega
    simp [q, this]
  · have : [57] < [c] := h.mpr (by omega)
    simp [q, this]
section
variable {P : Program} {w : World} {K : PySem.W.Frag} {mg : Str → Option Value} {base : Heap} {T : List Addr} {C fLow fText fAre fTape fNext fInks cNum PNum : Addr}
theorem ok_num {f : Addr} {fd : FuncData} (F : FunC K "number_of" "number_of" sNum f fd cNum) (X : Txt K mg C fLow fText fAre fTape fNext fInks) (B : NuK base mg T cNum PNum) : FnOk P w K mg base CX0 2 f fd ["word", "least", "most"] (spNum T) := by
  obtain ⟨t9, g9⟩ := B.most
  refine F.ok scNum (fun vs H Q E h => ?_) (fun A outer s H vs Q E hr h => ?_)
  · obtain ⟨z, lo, hi, rfl, _⟩ := h
    rfl
  · obtain ⟨z, lo, hi, rfl, hT, hl, h7, h119, k⟩ := h
    refine ⟨_, (C8.pss_cut (ps_set (i := 3) scNum.nd rfl (.inl rfl) (pe_ifExp (pt_val (pe_m1 PySem.F.slot_str_startswith PySem.F.type_str_startswith mt_startswith (pv 0) pe_str)) (pe_slice sl_str (pv 0) (po_some pe_int) po_none) (pv 0)))
      (pss_cons (ps_if ((pw_or (pt_not (pt_chain op_le op_le pe_int (pe_callB call_len_str (by rfl) X.len boot_len (pa_cons (pv 3) pa_nil)) (pe_glob (v := .int 9) (by rfl) g9 ⟨_, rfl⟩))) (pw_or1 (pt_not (pt_val (pe_allG (k := 0) (cs := []) (pick := []) rfl hr (by rfl) X.all (by decide +kernel) B.tab rfl (genN_by (sc := defScope sNum) (N := NNum) rfl rfl (fun y h => cell_has (n := s.heap.objs.size + 1) h) (by decide +kernel)) (pi_str (pv 3)) (fun s H code C A fp pn hr => pe_chain op_le_str op_le_str pe_str (pv 0) pe_str)))))).pt) (pss_one (ps_ret pe_non)) pss_nil)
      (pss_cons (ps_set (i := 4) scNum.nd rfl (.inl rfl) (pe_callTy call_int_str (by rfl) B.int (by decide +kernel) (pa_cons (pv 0) pa_nil)))
      (pss_cons (ps_if ((pw_or (pt_cmpR op_ne (pe_callTy call_str_int (by rfl) X.str (by decide +kernel) (pa_cons (pv 4) pa_nil)) (pv 0) (by rfl)) (pw_or1 (pt_not (pt_chain op_le op_le (pv 1) (pv 4) (pv 2))))).pt) (pss_one (ps_ret pe_non)) pss_nil)
      (pss_one (ps_ret (pv 4))))))), ?_⟩
    refine ⟨fun σ' H' => H' = H ∧ σ' = [some (.str z), some (.int lo), some (.int hi), some (.str (digS z)), none], ?_, ?_⟩
    · refine ⟨_, rfl, ⟨_, rfl⟩, _, _, rfl, rfl, _, rfl, ?_⟩
      refine ite2 (fun hb => ?_) (fun hb => ?_)
      · refine ⟨_, rfl, _, rfl, z, rfl, by rw [sizeLine_eq]; omega, rfl, ?_⟩
        unfold digS
        rw [if_pos hb]
        rfl
      · refine ⟨_, rfl, rfl, ?_⟩
        unfold digS
        rw [if_neg hb]
        rfl
    · rintro σ' H' ⟨rfl, rfl⟩
      have hdl : (digS z).length ≤ 9000 := by
        unfold digS
        split
        · exact Nat.le_trans (cutS_length _ _ _) hl
        · exact hl
      refine ⟨_, rfl, _, rfl, by rw [sizeLine_eq]; omega, _, _, rfl, rfl, _, rfl, ?_⟩
      have odd : digB z = false → Q (numV (numOf z lo hi)) H' → Q .non H' := fun hb q => by rw [numOf_odd hb] at q; exact q
      have q0 := k H' (Tbs.refl hT)
      by_cases h1 : 1 ≤ (digS z).length
      case neg =>
        have hb : digB z = false := by unfold digB; rw [decide_eq_false h1]; rfl
        exact iteF' (by simp; omega) ⟨_, rfl, iteT (odd hb q0)⟩
      refine iteT' (by simp; omega) ?_
      refine ⟨_, _, rfl, rfl, _, rfl, ?_⟩
      by_cases h9 : (digS z).length ≤ 9
      case neg =>
        have hb : digB z = false := by unfold digB; rw [decide_eq_false h9, decide_eq_true h1]; rfl
        refine iteT' (by simp; omega) ?_
        exact iteT (odd hb q0)
      refine iteF' (by simp; omega) ?_
      refine ⟨_, rfl, digS z, rfl, hT _ B.inT, fun H2 h2 => ?_⟩
      have tb := Tbs.of1 hT B.inT h2
      have q2 := k H2 tb
      refine all_str (fun c => decide (48 ≤ c) && decide (c ≤ 57)) (fun c R hR => ?_) ?_
      · refine ⟨_, rfl, _, _, rfl, rfl, _, rfl, ?_⟩
        have e1 := dig_le c
        have e2 := dig_ge c
        by_cases h1 : 48 ≤ c
        · refine iteT' (by rw [e1]; simpa using h1) ?_
          refine ⟨_, _, rfl, rfl, ?_⟩
          rw [e2]
          simpa [h1] using hR
        · refine iteF' (by rw [e1]; simpa using h1) ?_
          simpa [h1] using hR
      refine ⟨_, rfl, ?_⟩
      by_cases ha : alldig (digS z) = true
      case neg =>
        have hb : digB z = false := by unfold digB; rw [Bool.eq_false_iff.mpr ha]; simp
        refine iteT' (by show (!alldig (digS z)) = true; rw [Bool.eq_false_iff.mpr ha]; rfl) ?_
        rw [numOf_odd hb] at q2
        exact q2
      have hb : digB z = true := by unfold digB; rw [ha, decide_eq_true h1, decide_eq_true h9]; rfl
      obtain ⟨kk, hk, hl10, hab⟩ := num_reads1 hb
      refine iteF' (by show (!alldig (digS z)) = false; rw [ha]; rfl) ?_
      refine ⟨_, rfl, z, kk, rfl, hk, by omega, ?_⟩
      refine ⟨_, rfl, kk, rfl, log_of hab, _, rfl, rfl, _, rfl, ?_⟩
      have no : ¬ (sI kk = z ∧ lo ≤ kk ∧ kk ≤ hi) → Q .non H2 := fun h => by
        rw [numOf_no hk h] at q2
        exact q2
      by_cases e : sI kk = z
      case neg =>
        refine iteT' (by show (!decide (V.str (sI kk) = V.str z)) = true; rw [decide_eq_false (fun h => e (by injection h))]; rfl) ?_
        exact no fun h => e h.1
      refine iteF' (by show (!decide (V.str (sI kk) = V.str z)) = false; rw [e, decide_eq_true rfl]; rfl) ?_
      refine ⟨_, rfl, _, rfl, _, _, rfl, rfl, _, rfl, ?_⟩
      by_cases hlo : lo ≤ kk
      case neg =>
        refine iteF' (by simp; omega) ⟨_, rfl, ?_⟩
        exact iteT (no fun h => hlo h.2.1)
      refine iteT' (by simpa using hlo) ?_
      refine ⟨_, rfl, _, _, rfl, rfl, _, rfl, ?_⟩
      by_cases hhi : kk ≤ hi
      case neg =>
        refine iteT' (by simp; omega) ?_
        exact no fun h => hhi h.2.2
      refine iteF' (by simp; omega) ?_
      refine ⟨_, rfl, ?_⟩
      rw [← e, numOf_of (by omega) (by omega) hlo hhi] at q2
      exact q2
end
end Ov

set_option Elab.async false
set_option linter.all false
set_option maxRecDepth 100000
/-! words of parts: place:index+offset*length -/
namespace Ov
open PySem PySem.Spec L2
theorem app_assoc (a b c : Str) : a ++ b ++ c = a ++ (b ++ c) := by
  show (⟨(a.cps ++ b.cps) ++ c.cps⟩ : Str) = ⟨a.cps ++ (b.cps ++ c.cps)⟩
  rw [Array.append_assoc]
/-- index+offset*length -/
abbrev bkK (b c d : Int) : Str := sI b ++ "+" ++ sI c ++ "*" ++ sI d
abbrev ptK (a b c d : Int) : Str := sI a ++ ":" ++ sI b ++ "+" ++ sI c ++ "*" ++ sI d
theorem ptK_eq (a b c d : Int) : ptK a b c d = sI a ++ ":" ++ bkK b c d := by
  simp only [app_assoc]
theorem bkK_eq (b c d : Int) : bkK b c d = sI b ++ "+" ++ (sI c ++ "*" ++ sI d) := by
  simp only [app_assoc]
/-- index+offset*length read -/
def bkW (z : Str) : Option (List Int) := match numOf (Txt.partition z "+").1 0 5, numOf (Txt.partition (Txt.partition z "+").2.2 "*").1 0 7, numOf (Txt.partition (Txt.partition z "+").2.2 "*").2.2 1 8 with
  | some b, some c, some d => if c + d > 8 then none else some [b, c, d]
  | _, _, _ => none
def ptW (z : Str) : Option (List Int) := match numOf (Txt.partition z ":").1 0 119, bkW (Txt.partition z ":").2.2 with
  | some a, some x => some (a :: x)
  | _, _ => none
theorem col_tl : TL.tl (":" : Str) = 58 :: [] := by decide +kernel
theorem plu_tl : TL.tl ("+" : Str) = 43 :: [] := by decide +kernel
theorem sta_tl : TL.tl ("*" : Str) = 42 :: [] := by decide +kernel
theorem bkW_key {b c d : Int} (b0 : 0 ≤ b) (b5 : b ≤ 5) (c0 : 0 ≤ c) (d1 : 1 ≤ d) (cd : c + d ≤ 8) : bkW (bkK b c d) = some [b, c, d] := by
  rw [bkK_eq]
  unfold bkW
  rw [TL.partition_app plu_tl (rg_t (by omega) (by omega)).plu, numOf_of (by omega) (by omega) b0 b5]
  dsimp only
  rw [TL.partition_app sta_tl (rg_t (n := c) (by omega) (by omega)).sta, numOf_of (by omega) (by omega) c0 (by omega), numOf_of (by omega) (by omega) d1 (by omega)]
  dsimp only
  rw [if_neg (by omega)]
theorem bkW_some {z : Str} {x : List Int} (h : bkW z = some x) : ∃ b c d : Int, x = [b, c, d] ∧ z = bkK b c d ∧ 0 ≤ b ∧ b ≤ 5 ∧ 0 ≤ c ∧ 1 ≤ d ∧ c + d ≤ 8 := by
  unfold bkW at h
  have no : ∀ {lo hi : Int}, numOf Str.empty lo hi = none := numOf_odd (by decide +kernel)
  by_cases hm : (43 : Nat) ∈ TL.tl z
  · obtain ⟨p, q, e, hn⟩ := first_of hm
    have e1 : z = p ++ "+" ++ q := e
    rw [e1, TL.partition_app plu_tl hn] at h
    dsimp only at h
    by_cases hm2 : (42 : Nat) ∈ TL.tl q
    · obtain ⟨r, s, e', hn2⟩ := first_of hm2
      have e2 : q = r ++ "*" ++ s := e'
      rw [e2, TL.partition_app sta_tl hn2] at h
      dsimp only at h
      cases h1 : numOf p 0 5 with
      | none => rw [h1] at h; cases h
      | some b =>
        cases h2 : numOf r 0 7 with
        | none => rw [h1, h2] at h; cases h
        | some c =>
          cases h3 : numOf s 1 8 with
          | none => rw [h1, h2, h3] at h; cases h
          | some d =>
            rw [h1, h2, h3] at h
            dsimp only at h
            obtain ⟨b0, b5, eb, _, _⟩ := numOf_some h1
            obtain ⟨c0, c7, ec, _, _⟩ := numOf_some h2
            obtain ⟨d0, d8, ed, _, _⟩ := numOf_some h3
            by_cases hcd : c + d > 8
            · rw [if_pos hcd] at h; cases h
            · rw [if_neg hcd] at h
              refine ⟨b, c, d, (Option.some.inj h).symm, ?_, b0, b5, c0, d0, by omega⟩
              rw [bkK_eq, e1, e2, ← eb, ← ec, ← ed]
    · rw [TL.partition_none sta_tl hm2] at h
      rw [no] at h
      cases hx : numOf p 0 5 <;> cases hy : numOf q 0 7 <;> rw [hx, hy] at h <;> cases h
  · rw [TL.partition_none plu_tl hm] at h
    dsimp only at h
    have e0 : Txt.partition Str.empty "*" = (Str.empty, Str.empty, Str.empty) := by decide +kernel
    rw [e0, no, no] at h
    cases hx : numOf z 0 5 <;> rw [hx] at h <;> cases h
theorem ptW_key {a b c d : Int} (a0 : 0 ≤ a) (a1 : a ≤ 119) (b0 : 0 ≤ b) (b5 : b ≤ 5) (c0 : 0 ≤ c) (d1 : 1 ≤ d) (cd : c + d ≤ 8) : ptW (ptK a b c d) = some [a, b, c, d] := by
  rw [ptK_eq]
  unfold ptW
  rw [TL.partition_app col_tl (rg_t (by omega) a1).col, numOf_of (by omega) a1 a0 a1]
  dsimp only
  rw [bkW_key b0 b5 c0 d1 cd]
theorem bkW_emp : bkW Str.empty = none := by decide +kernel
/-- where a colon stands, the two sides are read -/
theorem ptW_col {p q : Str} (hn : (58 : Nat) ∉ TL.tl p) : ptW (p ++ ":" ++ q) = match numOf p 0 119, bkW q with
  | some a, some x => some (a :: x)
  | _, _ => none := by
  unfold ptW
  rw [TL.partition_app col_tl hn]
theorem ptW_nocol {z : Str} (h : (58 : Nat) ∉ TL.tl z) : ptW z = none := by
  unfold ptW
  rw [TL.partition_none col_tl h]
  dsimp only
  rw [bkW_emp]
  cases numOf z 0 119 <;> rfl
theorem ptW_some {z : Str} {x : List Int} (h : ptW z = some x) : ∃ a b c d : Int, x = [a, b, c, d] ∧ z = ptK a b c d ∧ 0 ≤ a ∧ a ≤ 119 ∧ 0 ≤ b ∧ b ≤ 5 ∧ 0 ≤ c ∧ 1 ≤ d ∧ c + d ≤ 8 := by
  by_cases hm : (58 : Nat) ∈ TL.tl z
  · obtain ⟨p, q, e, hn⟩ := first_of hm
    have e1 : z = p ++ ":" ++ q := e
    rw [e1, ptW_col hn] at h
    cases h1 : numOf p 0 119 with
    | none => rw [h1] at h; cases h
    | some a =>
      cases h2 : bkW q with
      | none => rw [h1, h2] at h; cases h
      | some y =>
        rw [h1, h2] at h
        obtain ⟨a0, a1, ea, _, _⟩ := numOf_some h1
        obtain ⟨b, c, d, rfl, eq, r⟩ := bkW_some h2
        exact ⟨a, b, c, d, (Option.some.inj h).symm, by rw [e1, ptK_eq, ← ea, ← eq], a0, a1, r⟩
  · rw [ptW_nocol hm] at h
    cases h
/-! ### split at colons -/
theorem joinL_spl58 : ∀ (l acc : List Nat), TL.joinL [58] (TL.spl [58] 0 acc l) = acc ++ l
  | [], acc => by
    rw [TL.spl_nil]
    show acc = acc ++ []
    rw [List.append_nil]
  | c :: r, acc => by
    cases h : TL.pre [58] (c :: r) with
    | true =>
      rw [TL.spl_hit h]
      have hc : c = 58 := by
        simp [TL.pre] at h
        exact h
      have hne := (spl_facts [58] r 0 []).1
      have ih := joinL_spl58 r []
      show TL.joinL [58] (acc :: TL.spl [58] 0 [] r) = _
      cases hs : TL.spl [58] 0 [] r with
      | nil => exact absurd hs hne
      | cons p q =>
        rw [hs] at ih
        show acc ++ ([58] ++ TL.joinL [58] (p :: q)) = _
        rw [ih, hc]
        rfl
    | false =>
      rw [TL.spl_miss h, joinL_spl58 r (acc ++ [c])]
      simp
theorem split58 (a : Str) : (Txt.split a ":").map TL.tl = TL.spl (TL.tl ":") 0 [] (TL.tl a) := TL.split_spl a ":" (by decide +kernel) (TL.kind_ok (by decide +kernel))
theorem spl_first {p q : List Nat} (h : (58 : Nat) ∉ p) : ∀ acc, TL.spl [58] 0 acc (p ++ 58 :: q) = (acc ++ p) :: TL.spl [58] 0 [] q := by
  induction p with
  | nil =>
    intro acc
    have hp : TL.pre [58] (58 :: q) = true := by simp [TL.pre]
    rw [List.nil_append, TL.spl_hit hp, List.append_nil]
    rfl
  | cons c r ih =>
    intro acc
    have hc : c ≠ 58 := fun e => h (by rw [e]; exact List.mem_cons_self)
    have hp : TL.pre [58] (c :: (r ++ 58 :: q)) = false := by
      simp [TL.pre]
      exact fun e => hc e
    rw [List.cons_append, TL.spl_miss hp, ih (fun hm => h (List.mem_cons_of_mem _ hm))]
    simp
theorem tl_inj {a b : Str} (h : TL.tl a = TL.tl b) : a = b := by
  have h2 : a.cps.toList = b.cps.toList := h
  have : a.cps = b.cps := Array.toList_inj.mp h2
  show (⟨a.cps⟩ : Str) = ⟨b.cps⟩
  rw [this]
/-- split(":") of p:q is p and what join(":") puts together to q -/
theorem split_col {p q : Str} (hn : (58 : Nat) ∉ TL.tl p) : ∃ rs : List Str, Txt.split (p ++ ":" ++ q) ":" = p :: rs ∧ Txt.join ":" rs = q := by
  have e := split58 (p ++ ":" ++ q)
  rw [tl_app, tl_app, col_tl] at e
  rw [show TL.tl p ++ [58] ++ TL.tl q = TL.tl p ++ 58 :: TL.tl q by simp, spl_first hn, List.nil_append] at e
  cases hs : Txt.split (p ++ ":" ++ q) ":" with
  | nil => rw [hs] at e; cases e
  | cons z rs =>
    rw [hs, List.map_cons] at e
    injection e with e1 e2
    refine ⟨rs, by rw [tl_inj e1], tl_inj ?_⟩
    rw [TL.join_eq, TL.tl_join, e2, col_tl, joinL_spl58]
    rfl
theorem split_ne58 (a : Str) : Txt.split a ":" ≠ [] := fun h => by
  have e := split58 a
  rw [h, List.map_nil] at e
  have := (spl_facts (TL.tl ":") (TL.tl a) 0 []).1
  exact this e.symm
theorem spl_sum58 : ∀ (l acc : List Nat), ((TL.spl [58] 0 acc l).map List.length).sum + (TL.spl [58] 0 acc l).length = acc.length + l.length + 1
  | [], acc => by
    rw [TL.spl_nil]
    simp
  | c :: r, acc => by
    cases h : TL.pre [58] (c :: r) with
    | true =>
      rw [TL.spl_hit h]
      have ih := spl_sum58 r []
      show ((acc :: TL.spl [58] 0 [] r).map List.length).sum + (acc :: TL.spl [58] 0 [] r).length = _
      simp only [List.map_cons, List.sum_cons, List.length_cons, List.length_nil] at ih ⊢
      omega
    | false =>
      rw [TL.spl_miss h]
      have ih := spl_sum58 r (acc ++ [c])
      simp only [List.length_append, List.length_cons, List.length_nil] at ih ⊢
      omega
/-- the words and the blanks between them are the text -/
theorem split_sum58 (a : Str) : ((Txt.split a ":").map (·.length)).sum + (Txt.split a ":").length = a.length + 1 := by
  have e := split58 a
  have s := spl_sum58 (TL.tl a) []
  rw [show ([58] : List Nat) = TL.tl (":" : Str) by decide +kernel, ← e, List.map_map, List.length_map] at s
  have f : (List.length ∘ TL.tl) = (fun z : Str => z.length) := by
    funext z
    simp [TL.tl, Str.length]
  rw [f] at s
  simpa [TL.tl, Str.length] using s
theorem cutV_tail (x : V) (xs : List V) : cutV (x :: xs) (some 1) none = xs := by
  show ((x :: xs).drop (HT.sIx (x :: xs).length 0 (some ((1 : Nat) : Int)))).take (HT.sIx (x :: xs).length (x :: xs).length none - HT.sIx (x :: xs).length 0 (some ((1 : Nat) : Int))) = xs
  rw [HT.sIx_nat, HT.sIx_none, List.length_cons, Nat.min_eq_left (by omega), List.drop_one, List.tail_cons, Nat.add_sub_cancel, List.take_length]
end Ov

set_option Elab.async false
set_option linter.all false
set_option maxRecDepth 100000
set_option maxHeartbeats 4000000
/-! objects of any kind: what they are as data; repr of them; their types -/
namespace Ov
open PySem PySem.Spec PyProof.Rows L2 GxR
/-- nothing below it -/
inductive Lf : V → PyData → Prop
  | non : Lf .non .none
  | bl (b : Bool) : Lf (.bl b) (.bool b)
  | int (i : Int) : Lf (.int i) (.int i)
  | str (z : Str) : Lf (.str z) (.str z)
inductive LfAll : List V → List PyData → Prop
  | nil : LfAll [] []
  | cons {v : V} {vs : List V} {d : PyData} {ds : List PyData} : Lf v d → LfAll vs ds → LfAll (v :: vs) (d :: ds)
def keyD : Key → PyData
  | .inl i => .int i
  | .inr z => .str z
def pairD : List (Key × V) → List PyData → List (PyData × PyData)
  | (k, _) :: r, d :: ds => (keyD k, d) :: pairD r ds
  | _, _ => []
/-- a leaf, or leaves in a list, a tuple, a dict -/
inductive El (H : Hp) : V → PyData → Prop
  | lf {v : V} {d : PyData} : Lf v d → El H v d
  | lst {a : Addr} {xs : List V} {ds : List PyData} : H a = some (.lst xs) → LfAll xs ds → El H (.ref a) (.list ds)
  | tup {a : Addr} {xs : List V} {ds : List PyData} : H a = some (.tup xs) → LfAll xs ds → El H (.ref a) (.tuple ds)
  | dic {a : Addr} {kvs : List (Key × V)} {ds : List PyData} : H a = some (.dK kvs) → LfAll (kvs.map (·.2)) ds → El H (.ref a) (.dict (pairD kvs ds))
inductive ElAll (H : Hp) : List V → List PyData → Prop
  | nil : ElAll H [] []
  | cons {v : V} {vs : List V} {d : PyData} {ds : List PyData} : El H v d → ElAll H vs ds → ElAll H (v :: vs) (d :: ds)
/-- no list among the data -/
def noLst : List PyData → Bool
  | [] => true
  | .list _ :: _ => false
  | _ :: r => noLst r
/-- .. or such in a list, a tuple (not lists beside dicts) -/
inductive Ob (H : Hp) : V → PyData → Prop
  | el {v : V} {d : PyData} : El H v d → Ob H v d
  | lst {a : Addr} {xs : List V} {ds : List PyData} : H a = some (.lst xs) → ElAll H xs ds → (PyData.hasDictAll ds = false ∨ noLst ds = true) → Ob H (.ref a) (.list ds)
  | tup {a : Addr} {xs : List V} {ds : List PyData} : H a = some (.tup xs) → ElAll H xs ds → (PyData.hasDictAll ds = false ∨ noLst ds = true) → Ob H (.ref a) (.tuple ds)
/-! ### they stay -/
theorem El.at {H H2 : Hp} (k : ∀ a o, (∀ ps, o ≠ HO.tbl ps) → H a = some o → H2 a = some o) {v : V} {d : PyData} (h : El H v d) : El H2 v d := by
  cases h with
  | lf l => exact .lf l
  | lst e l => exact .lst (k _ _ (fun _ z => by cases z) e) l
  | tup e l => exact .tup (k _ _ (fun _ z => by cases z) e) l
  | dic e l => exact .dic (k _ _ (fun _ z => by cases z) e) l
theorem ElAll.at {H H2 : Hp} (k : ∀ a o, (∀ ps, o ≠ HO.tbl ps) → H a = some o → H2 a = some o) : ∀ {vs : List V} {ds : List PyData}, ElAll H vs ds → ElAll H2 vs ds
  | _, _, .nil => .nil
  | _, _, .cons h t => .cons (h.at k) (t.at k)
theorem Ob.at {H H2 : Hp} (k : ∀ a o, (∀ ps, o ≠ HO.tbl ps) → H a = some o → H2 a = some o) {v : V} {d : PyData} (h : Ob H v d) : Ob H2 v d := by
  cases h with
  | el l => exact .el (l.at k)
  | lst e l n => exact .lst (k _ _ (fun _ z => by cases z) e) (l.at k) n
  | tup e l n => exact .tup (k _ _ (fun _ z => by cases z) e) (l.at k) n
theorem Kep.all {T : List Addr} {H H2 : Hp} (hT : ∀ p ∈ T, TabG H p) (k : Kep T H H2) : ∀ a o, (∀ ps, o ≠ HO.tbl ps) → H a = some o → H2 a = some o := fun a o n e => k.at hT e n
theorem Ob.kep {T : List Addr} {H H2 : Hp} {v : V} {d : PyData} (hT : ∀ p ∈ T, TabG H p) (k : Kep T H H2) (h : Ob H v d) : Ob H2 v d := h.at (k.all hT)
/-! ### their types -/
theorem Lf.ty {K : PySem.W.Frag} {H : Hp} {v : V} {d : PyData} (h : Lf v d) : ∃ n : String, TyX K H v (.type n) ∧ n ∈ ["NoneType", "bool", "int", "str"] := by
  cases h with
  | non => exact ⟨_, .base .non, by simp⟩
  | bl b => exact ⟨_, .base (.bl b), by simp⟩
  | int i => exact ⟨_, .base (.int i), by simp⟩
  | str z => exact ⟨_, .base (.str z), by simp⟩
def nameD : PyData → String
  | .none => "NoneType" | .bool _ => "bool" | .int _ => "int" | .str _ => "str" | .list _ => "list" | .tuple _ => "tuple" | .dict _ => "dict"
theorem El.ty {K : PySem.W.Frag} {H : Hp} {v : V} {d : PyData} (h : El H v d) : TyX K H v (.type (nameD d)) := by
  cases h with
  | lf l =>
    cases l with
    | non => exact .base .non
    | bl b => exact .base (.bl b)
    | int i => exact .base (.int i)
    | str z => exact .base (.str z)
  | lst e l => exact .base (.lst e)
  | tup e l => exact .base (.tup e)
  | dic e l => exact .base (.dK e)
theorem Ob.ty {K : PySem.W.Frag} {H : Hp} {v : V} {d : PyData} (h : Ob H v d) : TyX K H v (.type (nameD d)) := by
  cases h with
  | el l => exact l.ty
  | lst e l n => exact .base (.lst e)
  | tup e l n => exact .base (.tup e)
def isStrD : PyData → Bool
  | .str _ => true
  | _ => false
def isLstD : PyData → Bool
  | .list _ => true
  | _ => false
theorem kit_str (K : PySem.W.Frag) (d : PyData) : PySem.W.kitOne K (.type (nameD d)) (.type "str") = some (isStrD d) := by
  cases d with
  | none => exact kit_ty (show kitB "NoneType" "str" = some false by decide +kernel)
  | bool b => exact kit_ty (show kitB "bool" "str" = some false by decide +kernel)
  | int i => exact kit_ty (show kitB "int" "str" = some false by decide +kernel)
  | str z => exact kit_ty (show kitB "str" "str" = some true by decide +kernel)
  | list xs => exact kit_ty (show kitB "list" "str" = some false by decide +kernel)
  | tuple xs => exact kit_ty (show kitB "tuple" "str" = some false by decide +kernel)
  | dict kvs => exact kit_ty (show kitB "dict" "str" = some false by decide +kernel)
theorem kit_lst (K : PySem.W.Frag) (d : PyData) : PySem.W.kitOne K (.type (nameD d)) (.type "list") = some (isLstD d) := by
  cases d with
  | none => exact kit_ty (show kitB "NoneType" "list" = some false by decide +kernel)
  | bool b => exact kit_ty (show kitB "bool" "list" = some false by decide +kernel)
  | int i => exact kit_ty (show kitB "int" "list" = some false by decide +kernel)
  | str z => exact kit_ty (show kitB "str" "list" = some false by decide +kernel)
  | list xs => exact kit_ty (show kitB "list" "list" = some true by decide +kernel)
  | tuple xs => exact kit_ty (show kitB "tuple" "list" = some false by decide +kernel)
  | dict kvs => exact kit_ty (show kitB "dict" "list" = some false by decide +kernel)
theorem El.str {H : Hp} {v : V} {d : PyData} (h : El H v d) (e : isStrD d = true) : ∃ z, v = .str z ∧ d = .str z := by
  cases h with
  | lf l =>
    cases l with
    | str z => exact ⟨z, rfl, rfl⟩
    | _ => cases e
  | _ => cases e
theorem Ob.lsts {H : Hp} {v : V} {d : PyData} (h : Ob H v d) (e : isLstD d = true) : ∃ a xs ds, v = .ref a ∧ d = .list ds ∧ H a = some (.lst xs) ∧ ElAll H xs ds := by
  cases h with
  | el l =>
    cases l with
    | lf l => cases l <;> cases e
    | @lst a xs ds h l =>
      refine ⟨a, xs, ds, rfl, rfl, h, ?_⟩
      clear h e
      induction l with
      | nil => exact .nil
      | cons a _ ih => exact .cons (.lf a) ih
    | tup => cases e
    | dic => cases e
  | @lst a xs ds h l n => exact ⟨a, xs, ds, rfl, rfl, h, l⟩
  | tup => cases e
/-! ### reading them -/
section
variable {X : Cx} {pins : List (Addr × Obj)} {σ : L2.St} {H : Hp} {s : Shared}
theorem Lf.reads {h : Heap} {v : V} {d : PyData} {u : Value} (l : Lf v d) (r : RelV v u) : Reads h u d [] := by
  cases l with
  | non => cases r; exact .none
  | bl b => cases r; exact .bool b
  | int i => obtain ⟨t, rfl⟩ := r; exact .int i t
  | str z => obtain ⟨t, rfl⟩ := r; exact .str z t
theorem LfAll.reads {h : Heap} : ∀ {vs : List V} {ds : List PyData} {us : List Value}, LfAll vs ds → Vals vs us → ReadsAll h us ds []
  | _, _, _, .nil, .nil => .nil
  | _, _, _, .cons l t, .cons r q => .cons (l.reads r) (t.reads q)
theorem key_reads {h : Heap} {k : Key} {u : Value} (e : keyIs k u = true) : Reads h u (keyD k) [] := by
  rcases keyIs_shape e with ⟨i, t, rfl, rfl⟩ | ⟨z, t, rfl, rfl⟩
  · exact .int i t
  · exact .str z t
theorem pair_reads {P : Program} {w : World} {h : Heap} : ∀ {kvs : List (Key × V)} {ds : List PyData} {vs : List (Key × Value)} {es : List DictEntry}, LfAll (kvs.map (·.2)) ds → KV kvs vs → Pairs (mixKind P w) es vs →
    ReadsAll h (es.map (·.key)) ((pairD kvs ds).map (·.1)) [] ∧ ReadsAll h (es.map (·.val)) ((pairD kvs ds).map (·.2)) []
  | [], _, _, _, .nil, .nil, .nil => ⟨.nil, .nil⟩
  | _ :: _, _, _, _, .cons l t, .cons r q, .cons a b c => by
    obtain ⟨i1, i2⟩ := pair_reads t q c
    obtain ⟨r1, r2⟩ := r
    rw [← b] at r2
    refine ⟨.cons (key_reads (by rw [r1]; exact a)) i1, .cons (l.reads r2) i2⟩
theorem El.reads (I : Inv X pins σ H s) {v : V} {d : PyData} {u : Value} (h : El H v d) (r : RelV v u) : ∃ as, Reads s.heap u d as ∧ (isLstD d = false → sysModules ∉ as) := by
  cases h with
  | lf l => exact ⟨[], l.reads r, fun _ => by simp⟩
  | @lst a xs ds e l =>
    cases (show u = Value.ref a from r)
    obtain ⟨_, its, n, rv, ho⟩ := (show ObjOk X.prog X.w H s.heap a (.lst xs) from I.hok a _ e)
    exact ⟨_, .list ho rfl rfl (l.reads rv), fun z => by cases z⟩
  | @tup a xs ds e l =>
    cases (show u = Value.ref a from r)
    obtain ⟨_, its, rv, o, h1, h2, n, h3⟩ := (show ObjOk X.prog X.w H s.heap a (.tup xs) from I.hok a _ e)
    exact ⟨_, .tuple h1 h2 h3 (l.reads rv), fun _ => by simp⟩
  | @dic a kvs ds e l =>
    cases (show u = Value.ref a from r)
    obtain ⟨_, hs, vs, kv, o, es, ep, h1, h2, h3, _, h5, _⟩ := (show ObjOk X.prog X.w H s.heap a (.dK kvs) from I.hok a _ e)
    obtain ⟨p1, p2⟩ := pair_reads (h := s.heap) l kv h5
    refine ⟨_, .dict h1 h2.1 h3 p1 p2, fun _ => ?_⟩
    have hs : a ≠ sysModules := by simpa using hs
    simpa using fun z => hs z.symm
theorem ElAll.reads (I : Inv X pins σ H s) : ∀ {vs : List V} {ds : List PyData} {us : List Value}, ElAll H vs ds → Vals vs us → ∃ as, ReadsAll s.heap us ds as ∧ (noLst ds = true → sysModules ∉ as)
  | _, _, _, .nil, .nil => ⟨_, .nil, fun _ => by simp⟩
  | _, _, _, .cons (d := d) (ds := ds) l t, .cons r q => by
    obtain ⟨as, h1, h2⟩ := l.reads I r
    obtain ⟨bs, h3, h4⟩ := t.reads I q
    refine ⟨_, .cons h1 h3, fun z => ?_⟩
    have e1 : isLstD d = false ∧ noLst ds = true := by
      cases d <;> first | exact ⟨rfl, z⟩ | cases z
    simpa using ⟨h2 e1.1, h4 e1.2⟩
end
end Ov

set_option Elab.async false
set_option linter.all false
set_option maxRecDepth 100000
set_option maxHeartbeats 4000000
/-! repr of objects of any kind -/
namespace Ov
open PySem PySem.Spec PyProof.Rows L2 GxR
section
variable {P : Program} {w : World} {h : Heap} {a : Addr} {o : Obj} {vs : Array Value} {n : Nat} {ds : List PyData} {bs : List Addr}
theorem shows_lst (h1 : h.get? a = some o) (h2 : o.cls = .type "list") (h3 : o.data = .seq vs n) (h4 : ReadsAll h vs.toList ds bs) (hs : PyData.showableAll ds = true) (hin : PyData.hasDictAll ds = true → sysModules ∉ bs)
    (hz : (PyData.shown (.list ds)).length ≤ sizeLine) : ShowsBy P w h a (.list ds) "list" "list.__repr__" := by
  have zl : (listText (PyData.shownAll ds)).length ≤ sizeLine := by simpa only [PyData.shown] using hz
  obtain ⟨cs, hb, hk⟩ := ReprAllK.of_readsAll (prog := P) (w := w) h4 hs hin (fun t ht => Nat.le_trans (listText_mem_le ht) zl)
  have ni : a ∉ cs := not_mem_of_deeper (.list h1 h2 h3 h4) (by simp only [PyData.depth]; omega) hb
  refine ⟨F.slot_list_repr.toG, F.slot_list_str, F.slot_list_format, fun s k0 => ⟨o, k0 _ _ h1, h2⟩, fun A E s Q g u k0 q => ?_⟩
  simp only [PyData.depth] at u
  simp only [PyData.shown] at q
  obtain ⟨l⟩ := vs
  cases l with
  | nil =>
    have z : ReadsAll h [] ds _ := h4
    cases z
    simp only [PyData.shownAll, listText_nil] at q
    refine call_list_repr_empty ⟨o, k0 _ _ h1, h2⟩ (k0 _ _ h1) h3 ?_
    exact q s.heap _ _ (fun _ _ e => e)
  | cons x l =>
    refine call_list_reprK h1 h2 h3 ni (by simpa using hk.length_eq) (fun i y e => ?_) g (fun b _ => .nil b) u k0 q zl
    exact hk.item i y (by simpa using e)
end
/-- small data -/
structure Sm (d : PyData) : Prop where
  s : d.showable = true
  l : d.leavesShort 8 = true
  w : d.weight ≤ 8000
  d : d.depth ≤ 40
theorem Sm.len {d : PyData} (h : Sm d) : d.shown.length ≤ 80020 := by
  have h1 := PyData.shown_le 8 (Nat.le_refl 8) d h.l
  have h2 := h.w
  omega
theorem Sm.line {d : PyData} (h : Sm d) : d.shown.length ≤ sizeLine := Nat.le_trans h.len (by decide)
/-- repr of an object of any kind -/
def rReprO : List V → Hp → VK → Prop := fun xs H Q => ∃ (v : V) (d : PyData), xs = [v] ∧ Ob H v d ∧ Sm d ∧ Q (.str d.shown) H
section
variable {X : Cx} {pins : List (Addr × Obj)} {σ : L2.St} {H : Hp} {s : Shared}
theorem repr_leaf {v : V} {d : PyData} {u : Value} {Q : VK} (I : Inv X pins σ H s) (l : Lf v d) (r : RelV v u) (sm : Sm d) (q : Q (.str d.shown) H) : wpAny (model X.prog X.w) X.A (call (.builtin "repr") [u]) (EP X pins σ Q) X.xe s := by
  cases l with
  | non => obtain rfl : u = Value.none := r; exact P.repr_of_none ⟨.str "None", H, I.tok _, ⟨_, rfl⟩, q⟩
  | bl b => obtain rfl : u = Value.bool b := r; exact P.repr_of_bool ⟨.str (if b then "True" else "False"), H, I.tok _, ⟨_, rfl⟩, q⟩
  | int i =>
    obtain ⟨t, rfl⟩ := r
    exact P.repr_of_int (by simpa [PyData.showable] using sm.s) ⟨.str (toString i), H, I.tok _, ⟨_, rfl⟩, q⟩
  | str z =>
    obtain ⟨t, rfl⟩ := r
    exact P.repr_of_str ⟨.str (reprText z), H, I.tok _, ⟨_, rfl⟩, q⟩ (by simpa [PyData.shown] using sm.line)
theorem call_reprO (hg : X.A.guards = some []) (hu : X.A.units + 64 < cLine) : CallR X (.builtin "repr") rReprO := by
  intro pins s σ H xs us Q I r h
  obtain ⟨v, d, rfl, ob, sm, q⟩ := h
  obtain ⟨u, rfl, ru⟩ := vals1 r
  have hd := sm.d
  have byReads : ∀ {a : Addr} {as : List Addr}, u = .ref a → Reads s.heap u d as → (d.hasDict = true → sysModules ∉ as) → wpAny (model X.prog X.w) X.A (call (.builtin "repr") [u]) (EP X pins σ Q) X.xe s := fun {a as} e rd hsm => by
    subst e
    refine repr_of_reads' rd sm.s hsm hg (by omega) (fun b o e => e) (fun h' u tk hk => ?_) sm.line
    exact ⟨.str d.shown, H, I.kept (t' := tk) hk, ⟨u, rfl⟩, q⟩
  cases ob with
  | el l =>
    cases l with
    | lf l => exact repr_leaf I l ru sm q
    | @lst a xs ds e l =>
      obtain ⟨as, rd, -⟩ := (El.lst e l).reads I ru
      have nd : PyData.hasDictAll ds = false := by
        clear rd e sm q byReads hd
        induction l with
        | nil => rfl
        | cons a _ ih =>
          show (PyData.hasDict _ || PyData.hasDictAll _) = false
          rw [ih]
          cases a <;> rfl
      exact byReads (show u = Value.ref a from ru) rd (fun z => by rw [show PyData.hasDict (.list ds) = PyData.hasDictAll ds from rfl, nd] at z; cases z)
    | @tup a xs ds e l =>
      obtain ⟨as, rd, n⟩ := (El.tup e l).reads I ru
      exact byReads (show u = Value.ref a from ru) rd fun _ => n rfl
    | @dic a kvs ds e l =>
      obtain ⟨as, rd, n⟩ := (El.dic e l).reads I ru
      exact byReads (show u = Value.ref a from ru) rd fun _ => n rfl
  | @lst a xs ds e l n =>
    obtain rfl : u = Value.ref a := ru
    obtain ⟨_, its, m, rv, ho⟩ := (show ObjOk X.prog X.w H s.heap a (.lst xs) from I.hok a _ e)
    obtain ⟨as, ra, hn⟩ := l.reads I rv
    have S := shows_lst (P := X.prog) (w := X.w) ho rfl rfl (by simpa using ra) (by simpa [PyData.showable] using sm.s) (fun z => hn (n.resolve_left (by rw [z]; simp))) sm.line
    refine call_repr_slot (by omega) (S.typeIs s fun _ _ e => e) S.slotRepr (S.call X.A.in1 _ s _ hg (by show X.A.units + 1 + _ < cLine; omega) (fun _ _ e => e) fun h' u tk hk => ⟨_, _, rfl, ?_⟩)
    exact ⟨.str _, H, I.kept (t' := tk) hk, ⟨u, rfl⟩, q⟩
  | @tup a xs ds e l n =>
    obtain rfl : u = Value.ref a := ru
    obtain ⟨_, its, rv, o, h1, h2, m, h3⟩ := (show ObjOk X.prog X.w H s.heap a (.tup xs) from I.hok a _ e)
    obtain ⟨as, ra, hn⟩ := l.reads I rv
    exact byReads rfl (.tuple h1 h2 h3 (by simpa using ra)) fun z => hn (n.resolve_left (by rw [show PyData.hasDict (.tuple ds) = PyData.hasDictAll ds from rfl] at z; rw [z]; simp))
end
end Ov

set_option Elab.async false
set_option linter.all false
set_option maxRecDepth 100000
set_option maxHeartbeats 4000000
/-! lists of tuples of whole numbers, and their repr -/
namespace Ov
open PySem PySem.Spec PyProof.Rows L2 GxR
abbrev tupI (x : List Int) : HO := .tup (x.map V.int)
def TsA (H : Hp) : List Addr → List (List Int) → Prop
  | [], [] => True
  | p :: ps, x :: l => H p = some (tupI x) ∧ TsA H ps l
  | _, _ => False
theorem TsA.at {H H2 : Hp} (k : ∀ a o, (∀ ps, o ≠ HO.tbl ps) → H a = some o → H2 a = some o) : ∀ {ps : List Addr} {l : List (List Int)}, TsA H ps l → TsA H2 ps l
  | [], [], _ => trivial
  | _ :: _, _ :: _, h => ⟨k _ _ (fun _ z => by cases z) h.1, TsA.at k h.2⟩
theorem TsA.put {H : Hp} {r : Addr} {xs : List V} {o : HO} (e : H r = some (.lst xs)) : ∀ {ps : List Addr} {l : List (List Int)}, TsA H ps l → TsA (upd H r o) ps l
  | [], [], _ => trivial
  | p :: _, _ :: _, h => ⟨(upd_ne (fun z => by
      have h1 := h.1
      rw [z, e] at h1
      cases h1)).trans h.1, TsA.put e h.2⟩
theorem TsA.snoc {H : Hp} {p : Addr} {x : List Int} (e : H p = some (tupI x)) : ∀ {ps : List Addr} {l : List (List Int)}, TsA H ps l → TsA H (ps ++ [p]) (l ++ [x])
  | [], [], _ => ⟨e, trivial⟩
  | _ :: _, _ :: _, h => ⟨h.1, TsA.snoc e h.2⟩
theorem TsA.len {H : Hp} : ∀ {ps : List Addr} {l : List (List Int)}, TsA H ps l → ps.length = l.length
  | [], [], _ => rfl
  | _ :: _, _ :: _, h => by rw [List.length_cons, List.length_cons, TsA.len h.2]
theorem TsA.last {H : Hp} {x : List Int} : ∀ {ps : List Addr} {l : List (List Int)}, TsA H ps (l ++ [x]) → ∃ ps' p, ps = ps' ++ [p] ∧ H p = some (tupI x)
  | [p], [], h => ⟨[], p, rfl, h.1⟩
  | p :: q :: r, [], h => h.2.elim
  | [], [], h => h.elim
  | [], _ :: _, h => h.elim
  | p :: ps, y :: l, h => by
    obtain ⟨ps', q, e, hq⟩ := TsA.last (ps := ps) (l := l) h.2
    exact ⟨p :: ps', q, by rw [e]; rfl, hq⟩
theorem TsA.get {H : Hp} : ∀ {ps : List Addr} {l : List (List Int)} {i : Nat} {p : Addr}, TsA H ps l → ps[i]? = some p → ∃ x, l[i]? = some x ∧ H p = some (tupI x)
  | [], [], i, _, _, e => by simp at e
  | p :: ps, x :: l, 0, _, h, e => by
    obtain rfl : p = _ := by simpa using e
    exact ⟨x, rfl, h.1⟩
  | _ :: ps, _ :: l, i + 1, _, h, e => TsA.get (ps := ps) (l := l) (i := i) h.2 (by simpa using e)
/-- a list of tuples stands at r -/
def LT (H : Hp) (r : Addr) (l : List (List Int)) : Prop := ∃ ps : List Addr, H r = some (.lst (ps.map V.ref)) ∧ TsA H ps l
theorem LT.at {H H2 : Hp} {r : Addr} {l : List (List Int)} (k : ∀ a o, (∀ ps, o ≠ HO.tbl ps) → H a = some o → H2 a = some o) (h : LT H r l) : LT H2 r l := by
  obtain ⟨ps, e, t⟩ := h
  exact ⟨ps, k _ _ (fun _ z => by cases z) e, t.at k⟩
theorem LT.kep {T : List Addr} {H H2 : Hp} {r : Addr} {l : List (List Int)} (hT : ∀ p ∈ T, TabG H p) (k : Kep T H H2) (h : LT H r l) : LT H2 r l := h.at (k.all hT)
theorem LT.same {H H2 : Hp} {r : Addr} {l : List (List Int)} (k : L2.Same H H2) (h : LT H r l) : LT H2 r l := h.at fun a o _ e => k a o e
def tupD (x : List Int) : PyData := .tuple (x.map PyData.int)
def ltD (l : List (List Int)) : PyData := .list (l.map tupD)
theorem dp_ints {K : PySem.W.Frag} {H : Hp} : ∀ x : List Int, DpAll K H (x.map V.int) (x.map PyData.int)
  | [] => .nil
  | i :: x => .cons (.int i) (dp_ints x)
theorem TsA.dp {K : PySem.W.Frag} {H : Hp} : ∀ {ps : List Addr} {l : List (List Int)}, TsA H ps l → DpAll K H (ps.map V.ref) (l.map tupD)
  | [], [], _ => .nil
  | _ :: _, x :: _, h => .cons (.tup (.inl (.inl h.1)) (dp_ints x)) (TsA.dp h.2)
theorem LT.dp {K : PySem.W.Frag} {H : Hp} {r : Addr} {l : List (List Int)} (h : LT H r l) : Dp K H (.ref r) (ltD l) := by
  obtain ⟨ps, e, t⟩ := h
  exact .lst (.inl (.inl e)) t.dp
/-- data that may be shown -/
structure SmW (d : PyData) (w : Nat) : Prop where
  s : d.showable = true
  l : d.leavesShort 8 = true
  w : d.weight ≤ w
  dd : d.depth ≤ 10
  n : d.hasDict = false
def SmAll (x : List Int) : Prop := x.length ≤ 4 ∧ ∀ i ∈ x, -7 ≤ i ∧ i ≤ 119
theorem smw_int {i : Int} (h0 : -7 ≤ i) (h1 : i ≤ 119) : PyData.showable (.int i) = true ∧ PyData.leavesShort 8 (.int i) = true ∧ PyData.weight (.int i) ≤ 7 := by
  have hl := (rg_t h0 h1).len
  refine ⟨decide_eq_true (log_of (by omega)), ?_, ?_⟩
  · refine decide_eq_true ?_
    rw [PyData.shown_int]
    exact Nat.le_trans hl (by decide)
  · show (if i == 0 then 0 else i.natAbs.log2 + 1) ≤ 7
    split
    · decide
    · have : i.natAbs.log2 < 7 := by
        have h2 : i.natAbs ≠ 0 := by
          rename_i hz
          simp at hz
          omega
        rw [Nat.log2_lt h2]
        omega
      omega
theorem smw_tup {x : List Int} (h : SmAll x) : SmW (tupD x) 32 := by
  obtain ⟨h4, hx⟩ := h
  have key : PyData.showableAll (x.map PyData.int) = true ∧ PyData.leavesShortAll 8 (x.map PyData.int) = true ∧ PyData.weightAll (x.map PyData.int) ≤ 8 * x.length ∧ PyData.depthAll (x.map PyData.int) = 0 ∧ PyData.hasDictAll (x.map PyData.int) = false := by
    clear h4
    induction x with
    | nil => exact ⟨rfl, rfl, by decide, rfl, rfl⟩
    | cons i r ih =>
      obtain ⟨a, b, c, d, e⟩ := ih fun j hj => hx j (List.mem_cons_of_mem _ hj)
      obtain ⟨i1, i2, i3⟩ := smw_int (hx i List.mem_cons_self).1 (hx i List.mem_cons_self).2
      refine ⟨?_, ?_, ?_, ?_, ?_⟩
      · show (PyData.showable (.int i) && _) = true
        rw [i1, a]; rfl
      · show (PyData.leavesShort 8 (.int i) && _) = true
        rw [i2, b]; rfl
      · show PyData.weight (.int i) + 1 + PyData.weightAll (r.map PyData.int) ≤ 8 * (r.length + 1)
        omega
      · show max (PyData.depth (.int i)) (PyData.depthAll (r.map PyData.int)) = 0
        rw [d]; rfl
      · show (PyData.hasDict (.int i) || PyData.hasDictAll (r.map PyData.int)) = false
        rw [e]; rfl
  obtain ⟨a, b, c, d, e⟩ := key
  refine ⟨a, b, ?_, ?_, e⟩
  · show PyData.weightAll (x.map PyData.int) ≤ 32
    omega
  · show PyData.depthAll (x.map PyData.int) + 1 ≤ 10
    omega
theorem smw_lt {l : List (List Int)} (hl : l.length ≤ 201) (h : ∀ x ∈ l, SmAll x) : SmW (ltD l) 7000 := by
  have key : PyData.showableAll (l.map tupD) = true ∧ PyData.leavesShortAll 8 (l.map tupD) = true ∧ PyData.weightAll (l.map tupD) ≤ 33 * l.length ∧ PyData.depthAll (l.map tupD) ≤ 9 ∧ PyData.hasDictAll (l.map tupD) = false := by
    clear hl
    induction l with
    | nil => exact ⟨rfl, rfl, by decide, by decide, rfl⟩
    | cons i r ih =>
      obtain ⟨a, b, c, d, e⟩ := ih fun j hj => h j (List.mem_cons_of_mem _ hj)
      have s := smw_tup (h i List.mem_cons_self)
      refine ⟨?_, ?_, ?_, ?_, ?_⟩
      · show (PyData.showable (tupD i) && _) = true
        rw [s.s, a]; rfl
      · show (PyData.leavesShort 8 (tupD i) && _) = true
        rw [s.l, b]; rfl
      · show PyData.weight (tupD i) + 1 + PyData.weightAll (r.map tupD) ≤ 33 * (r.length + 1)
        have := s.w
        omega
      · show max (PyData.depth (tupD i)) (PyData.depthAll (r.map tupD)) ≤ 9
        have : PyData.depth (tupD i) ≤ 1 := by
          show PyData.depthAll (i.map PyData.int) + 1 ≤ 1
          have : PyData.depthAll (i.map PyData.int) = 0 := by
            clear s a b c d e ih h
            induction i with
            | nil => rfl
            | cons j q ih => show max 0 (PyData.depthAll (q.map PyData.int)) = 0; rw [ih]; rfl
          omega
        omega
      · show (PyData.hasDict (tupD i) || PyData.hasDictAll (r.map tupD)) = false
        rw [s.n, e]; rfl
  obtain ⟨a, b, c, d, e⟩ := key
  refine ⟨a, b, ?_, ?_, e⟩
  · show PyData.weightAll (l.map tupD) ≤ 7000
    omega
  · show PyData.depthAll (l.map tupD) + 1 ≤ 10
    omega
theorem smw_at {i : Nat} (hi : i ≤ 10000) : SmW (.tuple [.str "at", .int (i : Nat)]) 7000 := by
  have e1 := PySem.int_text_length_le10 (a := (i : Int)) (k := 5) (by decide) (by omega)
  have hl : (sI (i : Int)).length ≤ 8 := by
    rw [PySem.ofString_length]
    omega
  refine ⟨?_, ?_, ?_, ?_, rfl⟩
  · show (true && (PyData.showable (.int (i : Int)) && true)) = true
    rw [show PyData.showable (.int (i : Int)) = true from decide_eq_true (log_of (by omega))]; rfl
  · show (PyData.leavesShort 8 (.str "at") && (PyData.leavesShort 8 (.int (i : Int)) && true)) = true
    rw [show PyData.leavesShort 8 (.int (i : Int)) = true from decide_eq_true (by rw [PyData.shown_int]; exact hl)]; decide +kernel
  · show PyData.weight (.str "at") + 1 + (PyData.weight (.int (i : Int)) + 1 + 0) ≤ 7000
    have h1 : PyData.weight (.str "at") = 2 := by decide +kernel
    have h2 : PyData.weight (.int (i : Int)) ≤ 20 := by
      show (if (i : Int) == 0 then 0 else (i : Int).natAbs.log2 + 1) ≤ 20
      split
      · decide
      · have hz : (i : Int).natAbs ≠ 0 := by
          rename_i hz
          simp at hz
          omega
        have := (Nat.log2_lt hz (k := 14)).mpr (by omega)
        omega
    omega
  · show max 0 (max 0 0) + 1 ≤ 10
    decide
theorem smw_two {a b : PyData} {n : Nat} (ha : SmW a n) (hb : SmW b n) (hn : n ≤ 7000) (da : a.depth ≤ 9) (db : b.depth ≤ 9) : SmW (.list [a, b]) 15000 := by
  refine ⟨?_, ?_, ?_, ?_, ?_⟩
  · show (a.showable && (b.showable && true)) = true
    rw [ha.s, hb.s]; rfl
  · show (a.leavesShort 8 && (b.leavesShort 8 && true)) = true
    rw [ha.l, hb.l]; rfl
  · show a.weight + 1 + (b.weight + 1 + 0) ≤ 15000
    have := ha.w
    have := hb.w
    omega
  · show max a.depth (max b.depth 0) + 1 ≤ 10
    omega
  · show (a.hasDict || (b.hasDict || false)) = false
    rw [ha.n, hb.n]; rfl
theorem SmW.line {d : PyData} {n : Nat} (h : SmW d n) (hn : n ≤ 100000) : d.shown.length ≤ sizeLine := by
  have h1 := PyData.shown_le 8 (Nat.le_refl 8) d h.l
  have h2 := h.w
  rw [sizeLine_eq]
  omega
def rReprD (K : PySem.W.Frag) : List V → Hp → VK → Prop := fun xs H Q => ∃ (a : Addr) (d : PyData), xs = [.ref a] ∧ Dp K H (.ref a) d ∧ SmW d 100000 ∧ Q (.str d.shown) H
theorem call_reprD {X : Cx} (hg : X.A.guards = some []) (hu : X.A.units + 64 < cLine) : CallR X (.builtin "repr") (rReprD X.K) := by
  intro pins s σ H xs us Q I r h
  obtain ⟨a, d, rfl, dp, sm, q⟩ := h
  obtain ⟨u, rfl, ru⟩ := vals1 r
  obtain ⟨as, rd⟩ := Dp.reads I d (.ref a) u dp ru
  obtain rfl : u = Value.ref a := ru
  have hd := sm.dd
  refine repr_of_reads' rd sm.s (fun z => by rw [sm.n] at z; cases z) hg (by omega) (fun b o e => e) (fun h' u tk hk => ?_) (sm.line (Nat.le_refl _))
  exact ⟨.str d.shown, H, I.kept (t' := tk) hk, ⟨u, rfl⟩, q⟩
theorem LT.depth {l : List (List Int)} : (ltD l).depth ≤ 9 := by
  have key : PyData.depthAll (l.map tupD) ≤ 2 := by
    induction l with
    | nil => exact Nat.zero_le _
    | cons x r ih =>
      show max (PyData.depth (tupD x)) (PyData.depthAll (r.map tupD)) ≤ 2
      have : PyData.depth (tupD x) ≤ 1 := by
        show PyData.depthAll (x.map PyData.int) + 1 ≤ 1
        have : PyData.depthAll (x.map PyData.int) = 0 := by
          clear ih
          induction x with
          | nil => rfl
          | cons j q ih => show max 0 (PyData.depthAll (q.map PyData.int)) = 0; rw [ih]; rfl
        omega
      omega
  show PyData.depthAll (l.map tupD) + 1 ≤ 9
  omega
theorem ltD_shaped (l : List (List Int)) : SeqAt.shaped (ltD l) = true := by
  have h1 : PyData.canLayAll0 (l.map tupD) = true := by
    induction l with
    | nil => simp [PyData.canLayAll0]
    | cons x r ih =>
      have hx : PyData.canLay0 (tupD x) = true := by
        unfold tupD
        rw [show PyData.canLay0 (.tuple (x.map PyData.int)) = PyData.canLayAll0 (x.map PyData.int) by simp [PyData.canLay0]]
        clear ih
        induction x with
        | nil => simp [PyData.canLayAll0]
        | cons i q ih => simp [PyData.canLayAll0, PyData.canLay0]; simpa using ih
      rw [List.map_cons]
      simp [PyData.canLayAll0, hx, ih]
  show (PyData.canLay0 (ltD l) && decide (PyData.depth (ltD l) ≤ 64)) = true
  rw [decide_eq_true (Nat.le_trans LT.depth (by decide)), Bool.and_true]
  unfold ltD
  rw [show PyData.canLay0 (.list (l.map tupD)) = PyData.canLayAll0 (l.map tupD) by simp [PyData.canLay0]]
  exact h1
theorem ltD_nil (l : List (List Int)) : PyData.eqv (ltD l) (.list []) = l.isEmpty := by
  cases l <;> simp [ltD, PyData.eqv, PyData.eqvAll]
end Ov

set_option Elab.async false
set_option linter.all false
set_option maxRecDepth 100000
set_option maxHeartbeats 4000000
/-! part_written -/
namespace Ov
open PySem PySem.Spec PyProof.Rows L2 GxR
abbrev sPtW : Stmt := top 26
abbrev NPtW : List Str := ["word", "place", "_", "letters", "index", "piece", "offset", "length", "part"]
theorem scPtW : FnScope NPtW ["word"] (defScope sPtW) := ⟨rfl, rfl, rfl, by decide +kernel, rfl, by decide +kernel, by decide +kernel⟩
def spPtW (T : List Addr) : Sp := fun vs H Q _ => ∃ z : Str, vs = [.str z] ∧ (∀ p ∈ T, TabG H p) ∧ z.length ≤ 9000 ∧
  (∀ x, ptW z = some x → ∀ p H3, H p = none → Kep T H H3 → H3 p = some (tupI x) → Q (.ref p) H3) ∧ (ptW z = none → ∀ H3, Kep T H H3 → Q .non H3)
structure SwK (K : PySem.W.Frag) (mg : Str → Option Value) (fNum : Addr) : Prop where
  gNum : mg "number_of" = some (.ref fNum)
  kNum : PySem.W.keepIn K (.ref fNum) = true
  cells : ∃ t, mg "MOST_CELLS" = some (.int 120 t)
theorem par_len (z y : Str) (hy : y.length = 1) : (Txt.partition z y).1.length ≤ z.length ∧ (Txt.partition z y).2.2.length ≤ z.length := by
  obtain ⟨c, e⟩ : ∃ c, TL.tl y = [c] := by
    match h : TL.tl y with
    | [] => have : (TL.tl y).length = 1 := by simpa [TL.tl, Str.length] using hy
            rw [h] at this; cases this
    | [c] => exact ⟨c, rfl⟩
    | a :: b :: r => have : (TL.tl y).length = 1 := by simpa [TL.tl, Str.length] using hy
                     rw [h] at this; simp at this
  by_cases hm : c ∈ TL.tl z
  · obtain ⟨p, q, e1, hn⟩ := first_of hm
    have ey : y = ⟨#[c]⟩ := by
      have : y.cps.toList = [c] := e
      have e2 : y.cps = #[c] := by rw [← Array.toArray_toList (xs := y.cps), this]
      show (⟨y.cps⟩ : Str) = _
      rw [e2]
    rw [← ey] at e1
    rw [e1, TL.partition_app e hn, app_len, app_len]
    dsimp only
    omega
  · rw [TL.partition_none e hm]
    exact ⟨Nat.le_refl _, Nat.zero_le _⟩
section
variable {P : Program} {w : World} {K : PySem.W.Frag} {mg : Str → Option Value} {base : Heap} {T : List Addr} {C fLow fText fAre fTape fNext fInks cNum PNum fNum : Addr}
theorem ok_ptw {f : Addr} {fd fdN : FuncData} (F : L2.Fun K "part_written" "part_written" sPtW f fd) (FN : FunC K "number_of" "number_of" sNum fNum fdN cNum) (X : Txt K mg C fLow fText fAre fTape fNext fInks) (B : NuK base mg T cNum PNum) (S : SwK K mg fNum) : FnOk P w K mg base CX0 3 f fd ["word"] (spPtW T) := by
  have NN : FnOk P w K mg base CX0 2 fNum fdN ["word", "least", "most"] (spNum T) := ok_num FN X B
  have bN : Binds K fdN ["word", "least", "most"] [] := FN.toFun.binds fun _ _ _ _ _ _ us hl => match us, hl with | [_, _, _], _ => rfl
  obtain ⟨t8, g8⟩ := X.widest
  obtain ⟨t12, g12⟩ := S.cells
  obtain ⟨tm, hm⟩ := X.most
  refine F.ok scPtW (fun vs H Q E h => ?_) (fun cdv A outer s H vs Q E hr h => ?_)
  · obtain ⟨z, rfl, _⟩ := h
    rfl
  · obtain ⟨z, rfl, hT, hl, k1, k2⟩ := h
    obtain ⟨l1, l2⟩ := par_len z ":" (by decide +kernel)
    obtain ⟨l3, l4⟩ := par_len (Txt.partition z ":").2.2 "+" (by decide +kernel)
    obtain ⟨l5, l6⟩ := par_len (Txt.partition (Txt.partition z ":").2.2 "+").2.2 "*" (by decide +kernel)
    refine ⟨_, (pss_cons (ps_asg (pe_partition (pv 0) pe_str) (pg_tup rfl (pgs_cons (pg_name (i := 1) scPtW.nd rfl (Or.inl rfl)) (pgs_cons (pg_name (i := 2) scPtW.nd rfl (Or.inl rfl)) (pgs_cons (pg_name (i := 3) scPtW.nd rfl (Or.inl rfl)) pgs_nil)))))
      (pss_cons (ps_asg (pe_partition (pv 3) pe_str) (pg_tup rfl (pgs_cons (pg_name (i := 4) scPtW.nd rfl (Or.inl rfl)) (pgs_cons (pg_name (i := 2) scPtW.nd rfl (Or.inl rfl)) (pgs_cons (pg_name (i := 5) scPtW.nd rfl (Or.inl rfl)) pgs_nil)))))
      (pss_cons (ps_asg (pe_partition (pv 5) pe_str) (pg_tup rfl (pgs_cons (pg_name (i := 6) scPtW.nd rfl (Or.inl rfl)) (pgs_cons (pg_name (i := 2) scPtW.nd rfl (Or.inl rfl)) (pgs_cons (pg_name (i := 7) scPtW.nd rfl (Or.inl rfl)) pgs_nil)))))
      (pss_cons (ps_set (i := 8) scPtW.nd rfl (.inl rfl) (pe_tup (pa_cons (pe_call NN hr (by rfl) S.gNum S.kNum bN .nil L2.pass0 (pa_cons (pv 1) (pa_cons pe_int (pa_cons (pe_op op_sub (pe_glob (v := .int 120) (by rfl) g12 ⟨_, rfl⟩) pe_int) pa_nil)))) (pa_cons (pe_call NN hr (by rfl) S.gNum S.kNum bN .nil L2.pass0 (pa_cons (pv 4) (pa_cons pe_int (pa_cons (pe_op op_sub (ClX.pe_cval (pe_glob (v := .ref C) (by rfl) X.gC rfl)) pe_int) pa_nil)))) (pa_cons (pe_call NN hr (by rfl) S.gNum S.kNum bN .nil L2.pass0 (pa_cons (pv 6) (pa_cons pe_int (pa_cons (pe_op op_sub (pe_glob (v := .int 8) (by rfl) g8 ⟨_, rfl⟩) pe_int) pa_nil)))) (pa_cons (pe_call NN hr (by rfl) S.gNum S.kNum bN .nil L2.pass0 (pa_cons (pv 7) (pa_cons pe_int (pa_cons (pe_glob (v := .int 8) (by rfl) g8 ⟨_, rfl⟩) pa_nil)))) pa_nil))))))
      (pss_cons (ps_if ((pw_or (pt_cmpR op_in_seq pe_non (pv 8) (by rfl)) (pw_or1 (pt_cmpR op_gt (pe_op op_add (pe_ix ix_seq (pv 8) pe_int fun _ _ => rfl) (pe_ix ix_seq (pv 8) pe_int fun _ _ => rfl)) (pe_glob (v := .int 8) (by rfl) g8 ⟨_, rfl⟩) (by rfl)))).pt) (pss_one (ps_ret pe_non)) pss_nil)
      (pss_one (ps_ret (pv 8)))))))), ?_⟩
    refine ⟨_, rfl, ⟨_, rfl⟩, z, ":", rfl, rfl, by decide +kernel, by rw [sizeLine_eq]; omega, fun p1 hp1 => ?_⟩
    refine ⟨p1, _, rfl, .inl (.inl upd_same), rfl, _, _, rfl, _, _, rfl, _, _, rfl, rfl, ?_⟩
    have kk1 := (Kep.new (o := .tup [.str (Txt.partition z ":").1, .str (Txt.partition z ":").2.1, .str (Txt.partition z ":").2.2]) hT hp1)
    generalize upd H p1 (.tup [.str (Txt.partition z ":").1, .str (Txt.partition z ":").2.1, .str (Txt.partition z ":").2.2]) = H1 at kk1 ⊢
    refine ⟨_, rfl, ⟨_, rfl⟩, (Txt.partition z ":").2.2, "+", rfl, rfl, by decide +kernel, by rw [sizeLine_eq]; omega, fun p2 hp2 => ?_⟩
    refine ⟨p2, _, rfl, .inl (.inl upd_same), rfl, _, _, rfl, _, _, rfl, _, _, rfl, rfl, ?_⟩
    have kk2 := kk1.trans (Kep.new (o := .tup [.str (Txt.partition (Txt.partition z ":").2.2 "+").1, .str (Txt.partition (Txt.partition z ":").2.2 "+").2.1, .str (Txt.partition (Txt.partition z ":").2.2 "+").2.2]) kk1.1 hp2)
    generalize upd H1 p2 (.tup [.str (Txt.partition (Txt.partition z ":").2.2 "+").1, .str (Txt.partition (Txt.partition z ":").2.2 "+").2.1, .str (Txt.partition (Txt.partition z ":").2.2 "+").2.2]) = H2 at kk2 ⊢
    refine ⟨_, rfl, ⟨_, rfl⟩, (Txt.partition (Txt.partition z ":").2.2 "+").2.2, "*", rfl, rfl, by decide +kernel, by rw [sizeLine_eq]; omega, fun p3 hp3 => ?_⟩
    refine ⟨p3, _, rfl, .inl (.inl upd_same), rfl, _, _, rfl, _, _, rfl, _, _, rfl, rfl, ?_⟩
    have kk3 := kk2.trans (Kep.new (o := .tup [.str (Txt.partition (Txt.partition (Txt.partition z ":").2.2 "+").2.2 "*").1, .str (Txt.partition (Txt.partition (Txt.partition z ":").2.2 "+").2.2 "*").2.1, .str (Txt.partition (Txt.partition (Txt.partition z ":").2.2 "+").2.2 "*").2.2]) kk2.1 hp3)
    generalize upd H2 p3 (.tup [.str (Txt.partition (Txt.partition (Txt.partition z ":").2.2 "+").2.2 "*").1, .str (Txt.partition (Txt.partition (Txt.partition z ":").2.2 "+").2.2 "*").2.1, .str (Txt.partition (Txt.partition (Txt.partition z ":").2.2 "+").2.2 "*").2.2]) = H3 at kk3 ⊢
    unfold ptW bkW at k1 k2
    generalize (Txt.partition (Txt.partition (Txt.partition z ":").2.2 "+").2.2 "*") = PC at l1 l2 l3 l4 l5 l6 k1 k2 kk1 kk2 kk3 ⊢
    generalize (Txt.partition (Txt.partition z ":").2.2 "+") = PB at l1 l2 l3 l4 l5 l6 k1 k2 kk1 kk2 kk3 ⊢
    generalize (Txt.partition z ":") = PA at l1 l2 l3 l4 l5 l6 k1 k2 kk1 kk2 kk3 ⊢
    clear kk1 kk2
    refine ⟨_, rfl, _, _, rfl, rfl, _, _, _, rfl, kk3.1, by omega, by decide, by decide, fun H4 b4 => ?_⟩
    have kk4 := kk3.trans b4.kep
    refine ⟨_, rfl, C, _, _, _, rfl, X.rd, hm, _, _, rfl, rfl, _, _, _, rfl, kk4.1, by omega, by decide, by decide, fun H5 b5 => ?_⟩
    have kk5 := kk4.trans b5.kep
    refine ⟨_, rfl, _, _, rfl, rfl, _, _, _, rfl, kk5.1, by omega, by decide, by decide, fun H6 b6 => ?_⟩
    have kk6 := kk5.trans b6.kep
    refine ⟨_, rfl, _, _, _, rfl, kk6.1, by omega, by decide, by decide, fun H7 b7 => ?_⟩
    have kk7 := kk6.trans b7.kep
    refine ⟨Nat.le_of_ble_eq_true rfl, fun q hq => ?_⟩
    have kk8 := kk7.trans (Kep.new (o := .tup [numV (numOf PA.1 0 (120 - 1)), numV (numOf PB.1 0 (6 - 1)), numV (numOf PC.1 0 (8 - 1)), numV (numOf PC.2.2 1 8)]) kk7.1 hq)
    have e8 : upd H7 q (.tup [numV (numOf PA.1 0 (120 - 1)), numV (numOf PB.1 0 (6 - 1)), numV (numOf PC.1 0 (8 - 1)), numV (numOf PC.2.2 1 8)]) q = some (.tup [numV (numOf PA.1 0 119), numV (numOf PB.1 0 5), numV (numOf PC.1 0 7), numV (numOf PC.2.2 1 8)]) := upd_same
    generalize upd H7 q (.tup [numV (numOf PA.1 0 (120 - 1)), numV (numOf PB.1 0 (6 - 1)), numV (numOf PC.1 0 (8 - 1)), numV (numOf PC.2.2 1 8)]) = H8 at kk8 e8 ⊢
    have hqn : H q = none := kk7.free hT hq
    clear kk3 kk4 kk5 kk6 kk7 b4 b5 b6 b7
    refine ⟨_, rfl, q, _, rfl, .inr (.inl (.inl e8)), rfl, ?_, _, rfl, ?_⟩
    · cases numOf PA.1 0 119 <;> cases numOf PB.1 0 5 <;> cases numOf PC.1 0 7 <;> cases numOf PC.2.2 1 8 <;> rfl
    cases ha : numOf PA.1 0 119 with
    | none =>
      refine iteT' ?_ (k2 (by rw [ha]) H8 kk8)
      cases numOf PB.1 0 5 <;> cases numOf PC.1 0 7 <;> cases numOf PC.2.2 1 8 <;> rfl
    | some a =>
      cases hb : numOf PB.1 0 5 with
      | none =>
        refine iteT' ?_ (k2 (by rw [ha, hb]) H8 kk8)
        cases numOf PC.1 0 7 <;> cases numOf PC.2.2 1 8 <;> rfl
      | some b =>
        cases hc : numOf PC.1 0 7 with
        | none =>
          refine iteT' ?_ (k2 (by rw [ha, hb, hc]) H8 kk8)
          cases numOf PC.2.2 1 8 <;> rfl
        | some c =>
          cases hd : numOf PC.2.2 1 8 with
          | none => exact iteT' rfl (k2 (by rw [ha, hb, hc, hd]) H8 kk8)
          | some d =>
            rw [ha, hb, hc, hd] at e8
            have e8 : H8 q = some (tupI [a, b, c, d]) := e8
            refine iteF' rfl ?_
            refine ⟨_, rfl, .inr (.inl ⟨q, _, 2, .int c, rfl, rfl, .inl (.inl e8), atI_nat (j := 2) rfl, ?_⟩)⟩
            refine ⟨_, rfl, .inr (.inl ⟨q, _, 3, .int d, rfl, rfl, .inl (.inl e8), atI_nat (j := 3) rfl, _, _, rfl, rfl, _, _, rfl, rfl, _, rfl, ?_⟩)⟩
            by_cases hcd : c + d > 8
            · refine iteT' (by simpa using hcd) (k2 ?_ H8 kk8)
              rw [ha, hb, hc, hd]
              dsimp only
              rw [if_pos hcd]
            · refine iteF' (by simp; omega) ?_
              refine ⟨_, rfl, k1 [a, b, c, d] ?_ q H8 hqn kk8 e8⟩
              rw [ha, hb, hc, hd]
              dsimp only
              rw [if_neg hcd]
end
end Ov

set_option Elab.async false
set_option linter.all false
set_option maxRecDepth 100000
set_option maxHeartbeats 4000000
/-! read_parts -/
namespace Ov
open PySem PySem.Spec PyProof.Rows L2 GxR
abbrev sRdR : Stmt := top 28
abbrev NRdR : List Str := ["code", "parts", "before", "at", "word", "part"]
theorem scRdR : FnScope NRdR ["code"] (defScope sRdR) := ⟨rfl, rfl, rfl, by decide +kernel, rfl, by decide +kernel, by decide +kernel⟩
/-- the place of the part before the i-th -/
def prevR (ws : List Str) (i : Nat) : Int := if i = 0 then -1 else match ptW (ws.getD (i - 1) Str.empty) with
  | some x => x.headD 0
  | none => -1
def okR (ws : List Str) (i : Nat) : Bool := match ptW (ws.getD i Str.empty) with
  | some y => decide (prevR ws i < y.headD 0)
  | none => false
/-- the place at which the words of a code stop being parts -/
def badR (ws : List Str) : Option Nat := (List.range ws.length).find? fun i => !okR ws i
def allR (ws : List Str) : List (List Int) := ws.filterMap ptW
theorem getD_at {ws : List Str} {i : Nat} {z : Str} (h : ws[i]? = some z) : ws.getD i Str.empty = z := by
  rw [List.getD_eq_getElem?_getD, h]; rfl
theorem badR_some {ws : List Str} {i : Nat} (hi : i < ws.length) (h : ∀ j : Nat, j < i → okR ws j = true) (hb : okR ws i = false) : badR ws = some i := by
  unfold badR
  rw [List.find?_range_eq_some]
  exact ⟨by rw [hb]; rfl, List.mem_range.mpr hi, fun j hj => by rw [h j hj]; rfl⟩
theorem badR_none {ws : List Str} (h : ∀ j : Nat, j < ws.length → okR ws j = true) : badR ws = none := by
  unfold badR
  rw [List.find?_eq_none]
  intro j hj
  rw [h j (List.mem_range.mp hj)]
  decide
theorem okR_some {ws : List Str} {i : Nat} (h : okR ws i = true) : ∃ y, ptW (ws.getD i Str.empty) = some y ∧ prevR ws i < y.headD 0 := by
  unfold okR at h
  cases hy : ptW (ws.getD i Str.empty) with
  | none => rw [hy] at h; cases h
  | some y => rw [hy] at h; exact ⟨y, rfl, of_decide_eq_true h⟩
theorem prevR_succ {ws : List Str} {i : Nat} {x : List Int} (h : ptW (ws.getD i Str.empty) = some x) : prevR ws (i + 1) = x.headD 0 := by
  unfold prevR
  rw [if_neg (by omega), Nat.add_sub_cancel, h]
theorem take_ptW {ws : List Str} {i : Nat} {z : Str} {x : List Int} (hi : ws[i]? = some z) (hx : ptW z = some x) : (ws.take (i + 1)).filterMap ptW = (ws.take i).filterMap ptW ++ [x] := by
  rw [List.take_add_one, hi, List.filterMap_append]
  simp [hx]
def spRdR (T : List Addr) (CI : Addr) : Sp := fun vs H Q E => ∃ code : Str, vs = [.str code] ∧ (∀ p ∈ T, TabG H p) ∧ code.length ≤ 9000 ∧
  (∀ i, badR (Txt.split code oneSp) = some i → ∀ d H3, H d = none → H3 d = some (.xd [("at", .int (i : Nat))]) → Kep T H H3 → E (.ref CI) (some d) H3) ∧
  (badR (Txt.split code oneSp) = none → ∀ r H3, H r = none → LT H3 r (allR (Txt.split code oneSp)) → Kep T H H3 → Q (.ref r) H3)
structure RpK (K : PySem.W.Frag) (mg : Str → Option Value) (fPtW : Addr) : Prop where
  gPt : mg "part_written" = some (.ref fPtW)
  kPt : PySem.W.keepIn K (.ref fPtW) = true
section
variable {P : Program} {w : World} {K : PySem.W.Frag} {mg : Str → Option Value} {base : Heap} {T : List Addr} {C fLow fText fAre fTape fNext fInks cNum PNum fNum fPtW CI fII cc cda : Addr}
theorem ok_rdr {f : Addr} {fd fdW fdN fdI : FuncData} (F : L2.Fun K "read_parts" "read_parts" sRdR f fd) (FW : L2.Fun K "part_written" "part_written" sPtW fPtW fdW) (FN : FunC K "number_of" "number_of" sNum fNum fdN cNum)
    (FII : FunS K "__init__" "InvalidCode.__init__" sIcI fII cc cda fdI) (bII : Binds K fdI ["self", "at"] []) (X : Txt K mg C fLow fText fAre fTape fNext fInks) (B : NuK base mg T cNum PNum) (S : SwK K mg fNum) (R : RpK K mg fPtW) (I : IcK P K mg CI fII cc cda) (XC : CdX mg) :
    FnOk P w K mg base (L2.CX P w) 4 f fd ["code"] (spRdR T CI) := by
  have SW : FnOk P w K mg base CX0 3 fPtW fdW ["word"] (spPtW T) := ok_ptw FW FN X B S
  have bW : Binds K fdW ["word"] [] := FW.binds fun _ _ _ _ _ _ us hl => match us, hl with | [_], _ => rfl
  have II := ok_icI (P := P) (w := w) (base := base) FII I.su
  refine F.okX scRdR (fun vs H Q E h => ?_) (fun cdv A outer s H vs Q E hr h => ?_)
  · obtain ⟨code, rfl, _⟩ := h
    rfl
  · obtain ⟨code, rfl, hT, hl, kE, kQ⟩ := h
    refine ⟨_, (pss_cons (ps_set (i := 1) scRdR.nd rfl (.inl rfl) (pe_lst pa_nil))
      (pss_cons (ps_set (i := 2) scRdR.nd rfl (.inl rfl) (pe_un un_neg pe_int))
      (pss_cons (ps_for (passes_of rfl) rfl (pi_enum (by rfl) XC.enu (pa_cons (pe_split (pv 0) pe_str) pa_nil)) (pg_tup rfl (pgs_cons (pg_name (i := 3) scRdR.nd rfl (Or.inl rfl)) (pgs_cons (pg_name (i := 4) scRdR.nd rfl (Or.inl rfl)) pgs_nil))) (pss_cons (ps_set (i := 5) scRdR.nd rfl (.inl rfl) (pe_call SW (hr.mono (by decide)) (by rfl) R.gPt R.kPt bW .nil L2.pass0 (pa_cons (pv 4) pa_nil)))
      (pss_cons (ps_if ((pw_or (pt_cmpR op_isN (pv 5) pe_non (by rfl)) (pw_or1 (pt_cmpR op_le (pe_ix ix_seq (pv 5) pe_int fun _ _ => rfl) (pv 2) (by rfl)))).pt) (pss_one (ps_raise rfl (takes_of rfl rfl rfl rfl) (pmk_oex I.su.oex I.ini I.ty II (hr.mono (by decide)) bII .nil L2.pass0 (by rfl) I.g (pa_cons (pv 3) pa_nil)))) pss_nil)
      (pss_cons (ps_expr (pe_bm PySem.F.plainAttrs_list PySem.F.slot_list_append PySem.F.type_list_append mt_append (pv 1) (pa_cons (pv 5) pa_nil)))
      (pss_one (ps_set (i := 2) scRdR.nd rfl (.inl rfl) (pe_ix ix_seq (pv 5) pe_int fun _ _ => rfl)))))))
      (pss_one (ps_ret (pv 1)))))), ?_⟩
    refine ⟨Nat.le_of_ble_eq_true rfl, fun lr hlr => ?_⟩
    have lrT : lr ∉ T := free_tab hT hlr
    have k1 := Kep.new (o := .lst []) hT hlr
    have e1 : upd H lr (.lst []) lr = some (.lst []) := upd_same
    generalize upd H lr (.lst []) = H1 at k1 e1 ⊢
    refine ⟨_, rfl, _, rfl, ⟨_, rfl⟩, code, oneSp, rfl, rfl, by decide +kernel, by rw [sizeLine_eq]; omega, fun ls hls => ?_⟩
    have hz : ∀ z ∈ Txt.split code oneSp, z.length ≤ 9000 := fun z hz => Nat.le_trans (split_le code z hz) hl
    have hwl : (Txt.split code oneSp).length ≤ 9001 := by
      have := split_sum code
      show (Txt.split code " ").length ≤ 9001
      omega
    generalize hws : Txt.split code oneSp = ws at kE kQ hz hwl
    have k2 := k1.trans (Kep.new (o := .lst (ws.map V.str)) k1.1 hls)
    have f2 : upd H1 ls (.lst (ws.map V.str)) ls = some (.lst (ws.map V.str)) := upd_same
    have e2 := (upd_ne (o := .lst (ws.map V.str)) (ne_of_none e1 hls)).trans e1
    have lsr : ls ≠ lr := (ne_of_none e1 hls).symm
    generalize upd H1 ls (.lst (ws.map V.str)) = H2 at k2 e2 f2 ⊢
    refine ⟨ls, _, rfl, .inl (.inl f2), for_enumL (fun i σ Hx => (∃ v3 v4 v5, σ = [some (.str code), some (.ref lr), some (.int (prevR ws i)), v3, v4, v5]) ∧ LT Hx lr ((ws.take i).filterMap ptW) ∧ Kep T H Hx ∧ Hx ls = some (.lst (ws.map V.str)) ∧ ∀ j : Nat, j < i → okR ws j = true)
      ⟨⟨_, _, _, rfl⟩, ⟨[], e2, trivial⟩, k2, f2, fun j hj => absurd hj (Nat.not_lt_zero _)⟩ (fun i σ Hx _ p => .inl (.inl p.2.2.2.1)) (fun i x σ Hx t hi p ht => ?_) (fun σ Hx p => ?_)⟩
    · obtain ⟨⟨v3, v4, v5, rfl⟩, lt, kx, els, hst⟩ := p
      rw [List.getElem?_map] at hi
      obtain ⟨z, hiz, rfl⟩ := Option.map_eq_some_iff.mp hi
      have hlt : i < ws.length := (List.getElem?_eq_some_iff.mp hiz).1
      have kt := kx.trans (Kep.new (o := .tup [.int (i : Nat), .str z]) kx.1 ht)
      have st := same_upd (o := .tup [.int (i : Nat), .str z]) ht
      have els1 := st _ _ els
      have lt1 := lt.same st
      refine ⟨t, _, rfl, .inl (.inl upd_same), rfl, _, _, rfl, _, _, rfl, rfl, ?_⟩
      generalize upd Hx t (.tup [.int (i : Nat), .str z]) = Ht at kt els1 lt1 ⊢
      clear lt kx els st
      have bad : okR ws i = false → ∀ Hy, Kep T H Hy → ∀ c, Hy c = none → ∀ dx, Hy dx = none → dx ≠ c → E (.ref CI) (some dx) (upd (L2.del (upd (upd (upd Hy c (exo c CI none)) dx (exd dx [("at", .int (i : Nat))])) c (exo c CI (some dx))) c) dx (.xd [("at", .int (i : Nat))])) := fun h Hy ky c hc dx hdx hne =>
        kE i (badR_some hlt hst h) dx _ (ky.free hT hdx) upd_same (ky.trans (kep_err ky.1 hc hdx hne))
      refine ⟨_, rfl, z, rfl, kt.1, hz z (List.mem_of_getElem? hiz), fun x hx p H3 hp k3 e3 => ?_, fun hno H3 k3 => ?_⟩
      · have hxi : ptW (ws.getD i Str.empty) = some x := by rw [getD_at hiz]; exact hx
        obtain ⟨a, b, c, d, rfl, _, _⟩ := ptW_some hx
        have k4 := kt.trans k3
        have els3 := k3.at kt.1 els1 fun _ z => by cases z
        have lt3 := lt1.kep kt.1 k3
        refine ⟨_, rfl, rfl, _, rfl, iteF' (decide_eq_false nofun) ?_⟩
        refine ⟨_, rfl, .inr (.inl ⟨p, _, 0, .int a, rfl, rfl, .inl (.inl e3), atI_nat (j := 0) rfl, ?_⟩)⟩
        refine ⟨_, rfl, _, _, rfl, rfl, _, rfl, ?_⟩
        by_cases h2 : a ≤ prevR ws i
        · refine iteT' (by simpa using h2) ?_
          have hb : okR ws i = false := by
            unfold okR
            rw [hxi]
            exact decide_eq_false (by show ¬ prevR ws i < a; omega)
          exact ⟨_, rfl, Nat.le_of_ble_eq_true rfl, fun c hc => ⟨c, (i : Nat), rfl, ⟨by omega, by omega⟩, upd_same, fun dx hdx hne => ⟨rfl, dx, _, upd_same, (upd_ne hne).trans upd_same, (upd_ne hne).symm.trans hdx, bad hb H3 k4 c hc dx ((upd_ne hne).symm.trans hdx) hne⟩⟩⟩
        · refine iteF' (by simpa using h2) ?_
          have hg : okR ws i = true := by
            unfold okR
            rw [hxi]
            exact decide_eq_true (by show prevR ws i < a; omega)
          obtain ⟨ps, el, ta⟩ := lt3
          refine ⟨_, rfl, .inl ⟨rfl, _, .inl (.inl el)⟩, _, rfl, lr, _, _, rfl, rfl, el, ?_, ?_⟩
          · rw [List.length_map, ta.len, sizeLine_eq]
            have := List.length_filterMap_le ptW (ws.take i)
            rw [List.length_take] at this
            omega
          have pl : p ≠ lr := fun e => by rw [e, el] at e3; cases e3
          have e3' := (upd_ne (o := .lst (ps.map V.ref ++ [V.ref p])) pl).trans e3
          refine ⟨_, rfl, .inr (.inl ⟨p, _, 0, .int a, rfl, rfl, .inl (.inl e3'), atI_nat (j := 0) rfl, ?_⟩)⟩
          refine ⟨⟨_, _, _, by rw [prevR_succ hxi]; rfl⟩, ⟨ps ++ [p], by rw [List.map_append]; exact upd_same, ?_⟩, k4.put hlr lrT, (upd_ne lsr).trans els3, fun j hj => ?_⟩
          · rw [take_ptW hiz hx]
            exact TsA.snoc e3' (ta.put el)
          · by_cases hji : j = i
            · rw [hji]; exact hg
            · exact hst j (by omega)
      · have k4 := kt.trans k3
        refine ⟨_, rfl, rfl, _, rfl, iteT' (decide_eq_true rfl) ?_⟩
        have hb : okR ws i = false := by
          unfold okR
          rw [getD_at hiz, hno]
        exact ⟨_, rfl, Nat.le_of_ble_eq_true rfl, fun c hc => ⟨c, (i : Nat), rfl, ⟨by omega, by omega⟩, upd_same, fun dx hdx hne => ⟨rfl, dx, _, upd_same, (upd_ne hne).trans upd_same, (upd_ne hne).symm.trans hdx, bad hb H3 k4 c hc dx ((upd_ne hne).symm.trans hdx) hne⟩⟩⟩
    · obtain ⟨⟨v3, v4, v5, rfl⟩, lt, kx, els, hst⟩ := p
      rw [List.length_map] at lt hst
      rw [List.take_length] at lt
      exact ⟨_, rfl, kQ (badR_none hst) lr Hx hlr lt kx⟩
end
end Ov

set_option Elab.async false
set_option linter.all false
set_option maxRecDepth 100000
set_option maxHeartbeats 4000000
/-! enumerate over a text, list of a text, list of a range, text * int -/
namespace Ov
open PySem PySem.Spec PyProof.Rows L2 GxR
/-- a text of small signs, each one with its place in a new pair -/
def Ites (x : Str) : It :=
  ⟨fun i _ => i < x.cps.size, fun i H v H' => ∃ T c, v = .ref T ∧ H T = none ∧ H' = upd H T (.tup [.int (i : Nat), .str ⟨#[c]⟩]) ∧ x.cps[i]? = some c, fun i _ => i = x.cps.size⟩
theorem turn_enumS {P : Program} {w : World} {K : PySem.W.Frag} {es : List Expr} {j : Nat} {tp : Pos} (x : Str) (t : Tok) (e it : Addr) :
    Turn P w K (.Tuple es j tp) (Ites x) [e, it] e (fun i h => (∃ old, IsEnum h e it ((i : Nat) : Int) old) ∧ h.IsStrIter it "str_ascii_iterator" x t i ∧ e ≠ it) where
  mem := by simp
  obj := fun i h st b hb => by
    obtain ⟨⟨old, he⟩, ⟨o, ho, hc, hd⟩, _⟩ := st
    rcases (by simpa using hb : b = e ∨ b = it) with z | z
    · subst z; exact ⟨_, he, fun v q => nomatch q⟩
    · subst z; exact ⟨o, ho, fun v q => by rw [hd] at q; cases q⟩
  keep := fun i h h' st k => by
    obtain ⟨⟨old, he⟩, ⟨o, ho, hc, hd⟩, hne⟩ := st
    exact ⟨⟨old, k e (by simp) _ he⟩, ⟨o, k it (by simp) _ ho, hc, hd⟩, hne⟩
  item := by
    intro X hP hw hK hcalm i pins s σ H E I hf st hg
    subst hP; subst hw; subst hK
    obtain ⟨⟨old, he⟩, hit, hne⟩ := st
    have lt_e : e < s.heap.objs.size := Heap.lt_size he
    have lt_i : it < s.heap.objs.size := by
      obtain ⟨_, q, _⟩ := hit
      exact Heap.lt_size q
    have hand : X.A.in1.handled = none := I.ok.hd hcalm
    refine wpAny_pyNext_enum_itemD (Draws.strAscii hand it x t) he hit hg hne (by simpa using hne) fun y h' tk py out st' pair size kept => ?_
    obtain ⟨c, u, hcx, rfl⟩ := py
    refine ⟨_, rfl, wpAny_letOwnedTupleGo_enum (s := { s with heap := h', toks := tk + 1 }) out fun h2 he2 sb => ?_⟩
    have pair2 := (sb.2 _ (Nat.ne_of_gt lt_e)).trans pair
    have fresh : ObjOk X.prog X.w (upd H s.heap.objs.size (.tup [.int (i : Nat), .str ⟨#[c]⟩])) h2 s.heap.objs.size (.tup [.int (i : Nat), .str ⟨#[c]⟩]) :=
      ⟨(by decide : 2 ≤ sizeLine), [.int i _, .str ⟨#[c]⟩ u], .cons ⟨_, rfl⟩ (.cons ⟨_, rfl⟩ .nil), ⟨_, pair2, rfl, _, rfl⟩⟩
    have J : Inv X pins σ (upd H s.heap.objs.size (.tup [.int (i : Nat), .str ⟨#[c]⟩])) { s with heap := h2, toks := tk + 1 } :=
      I.turnedNew (ch := [e, it]) (fun b ob hb q => (sb.2 b fun z => hb (by simp [z])).trans (kept b ob (fun z => hb (by simp [z])) (fun z => hb (by simp [z])) q)) hf (Nat.le_refl _) fresh
    obtain ⟨o2, ho2, hc2, hd2⟩ := st'
    refine ⟨.ref s.heap.objs.size, _, J, rfl, ⟨_, c, rfl, I.hok.fresh (Nat.le_refl _), rfl, hcx⟩, ⟨⟨.str ⟨#[c]⟩ u, ?_⟩, ⟨o2, (sb.2 it (Ne.symm hne)).trans ho2, hc2, hd2⟩, hne⟩, fun b hb => ?_⟩
    · rw [show ((i + 1 : Nat) : Int) = (i : Int) + 1 by omega]; exact he2
    · have lt_b : b < s.heap.objs.size := by
        rcases (by simpa using hb : b = e ∨ b = it) with z | z
        · subst z; exact lt_e
        · subst z; exact lt_i
      exact (upd_ne (Nat.ne_of_lt lt_b)).trans (hf b hb).1
  done := by
    intro X hP hw hK hcalm i pins s σ H E I hf st hg
    subst hP; subst hw; subst hK
    obtain ⟨⟨old, he⟩, hit, hne⟩ := st
    obtain ⟨z0, z1, z2, z3, z4, z5⟩ := hf it (by simp)
    have hand : X.A.in1.handled = none := I.ok.hd hcalm
    have hit' : s.heap.IsStrIter it "str_ascii_iterator" x t x.cps.size := by
      have hg' : i = x.cps.size := hg
      rw [← hg']; exact hit
    exact wpAny_pyNext_enum_endD (Draws.strAscii hand it x t) he hit' fun h' eb => ⟨rfl, I.turned (t' := s.toks) (fun b o hb q => eb b o hb q) z0 z1 z3 z4 z5⟩
  self := fun A i s Q E st h => by
    obtain ⟨⟨_, he⟩, _⟩ := st
    exact wpAny_pyIter_enum he h
def iEnumS (ta : TA) : TI := fun σ H R => ta σ H fun vs H1 => ∃ x : Str, vs = [.str x] ∧ x.cps.all (· < 128) = true ∧ R (Ites x) H1
theorem pi_enumS {X : Cx} {e : Expr} {ta : TA} {p pos tp : Pos} {es : List Expr} {j : Nat} (hg : Gl X "enumerate") (hm : X.mg "enumerate" = none) (ha : PA X [e] ta) (hs : starEach [e] X.env = [(false, eval e X.env)] := by rfl) :
    PI X (.Tuple es j tp) (.Call (.Name "enumerate" p) [e] [] pos) (iEnumS ta) := by
  refine ⟨fun pins s σ H R I h => ?_⟩
  refine Call_ (ld_blt I hg hm boot_enumerate (PyProof.Rows.callWith_type1 (thn (ha.run pos pins s σ H _ I h) fun us s1 ⟨vs, H1, I1, r1, q1⟩ => ?_) hs rfl))
  obtain ⟨x, rfl, asc, q⟩ := q1
  obtain ⟨u, rfl, t, rfl⟩ := vals1 r1
  refine call_enumerate_str fun h' he hit size kept => wpAny_pyIter_enum he ?_
  have hit' : h'.IsStrIter s1.heap.objs.size "str_ascii_iterator" x t 0 := by simpa [strIterType, asc] using hit
  have J : Inv X pins σ H1 { s1 with heap := h' } := I1.kept (t' := s1.toks) kept
  refine ⟨s1.heap.objs.size + 1, [s1.heap.objs.size + 1, s1.heap.objs.size], _, _, H1, rfl, J, turn_enumS x t (s1.heap.objs.size + 1) s1.heap.objs.size, ⟨⟨.none, he⟩, hit', Nat.succ_ne_self _⟩, fun b hb => ?_, q⟩
  have le_b : s1.heap.objs.size ≤ b := by
    rcases (by simpa using hb : b = s1.heap.objs.size + 1 ∨ b = s1.heap.objs.size) with z | z
    · subst z; exact Nat.le_succ _
    · subst z; exact Nat.le_refl _
  exact I1.fpOk le_b (I1.hok.fresh le_b)
theorem for_enumS {x : Str} {g : TG} {tb : TS} {D : Ends} {σ : L2.St} {H : Hp} (Pv : Nat → L2.St → Hp → Prop) (h0 : Pv 0 σ H)
    (hs : ∀ i c σ H T, x.cps[i]? = some c → Pv i σ H → H T = none → g (.ref T) σ (upd H T (.tup [.int (i : Nat), .str ⟨#[c]⟩])) fun σ2 H2 => tb { D with nx := Pv (i + 1), ct := Pv (i + 1), bk := D.nx } σ2 H2) (hd : ∀ σ H, Pv x.cps.size σ H → D.nx σ H) :
    ∃ W : Nat → Nat → L2.St → Hp → Prop, (∃ m, W 0 m σ H) ∧ ∀ i m σ H, W i m σ H →
      ((Ites x).stop i H ∧ D.nx σ H) ∨ ((Ites x).go i H ∧ ∃ N : L2.St → Hp → Prop, (∀ σ' H', N σ' H' → ∃ m', m' < m ∧ W (i + 1) m' σ' H') ∧ ∀ x' H', (Ites x).yld i H x' H' → g x' σ H' fun σ2 H2 => tb { D with nx := N, ct := N, bk := D.nx } σ2 H2) := by
  refine ⟨fun i m σ H => m = x.cps.size - i ∧ i ≤ x.cps.size ∧ Pv i σ H, ⟨x.cps.size, by simp, Nat.zero_le _, h0⟩, ?_⟩
  rintro i m σ H ⟨rfl, hi, p⟩
  by_cases hlt : i < x.cps.size
  · refine .inr ⟨hlt, Pv (i + 1), fun σ' H' p' => ⟨x.cps.size - (i + 1), by omega, rfl, hlt, p'⟩, fun y H' yy => ?_⟩
    obtain ⟨T, c, rfl, hT, rfl, hc⟩ := yy
    exact hs i c σ H T hc p hT
  · have e : i = x.cps.size := by omega
    subst e
    exact .inl ⟨rfl, hd σ H p⟩
theorem vals_ext : ∀ {xs : List V} {us : List Value}, xs.length = us.length → (∀ (i : Nat) (x : V) (u : Value), xs[i]? = some x → us[i]? = some u → RelV x u) → Vals xs us
  | [], [], _, _ => .nil
  | x :: xs, u :: us, h, k => .cons (k 0 x u rfl rfl) (vals_ext (by simpa using h) fun i y w h1 h2 => k (i + 1) y w (by simpa using h1) (by simpa using h2))
/-- list(text) -/
theorem call_listS {X : Cx} (hc : X.calm = true) : CallR X (.type "list") (fun xs H Q => ∃ z : Str, xs = [.str z] ∧ z.length ≤ sizeLine ∧ ∀ l, H l = none → Q (.ref l) (upd H l (.lst (z.cps.toList.map fun c => V.str ⟨#[c]⟩)))) := by
  intro pins s σ H xs us Q I r h
  obtain ⟨z, rfl, hz, q⟩ := h
  obtain ⟨u, rfl, t, rfl⟩ := vals1 r
  refine call_list_str (I.ok.hd hc) z t (hn := hz) fun h' tk acc' c' hk hS' hacc => ?_
  have lz : z.cps.toList.length = z.length := by simp [Str.length]
  have rel : Vals (z.cps.toList.map fun c => V.str ⟨#[c]⟩) acc'.toList := by
    refine vals_ext (by rw [List.length_map, lz, Array.length_toList, hacc.1]; rfl) fun i y w h1 h2 => ?_
    obtain ⟨c, u, e1, rfl⟩ := hacc.2 i w (by simpa using h2)
    rw [List.getElem?_map, Array.getElem?_toList, e1] at h1
    cases h1
    exact ⟨_, rfl⟩
  refine ⟨.ref s.heap.objs.size, _, I.laid (t' := tk) hk (Nat.le_refl _) ?_, rfl, q _ (I.hok.fresh (Nat.le_refl _))⟩
  exact ⟨by rw [List.length_map, lz]; exact hz, acc'.toList, c', rel, by simpa using hS'⟩
/-- text * int -/
theorem op_mulS {X : Cx} : OpR X (binaryOp .Mult) (fun x y H Q => ∃ (z : Str) (n : Int), x = .str z ∧ y = .int n ∧ 0 ≤ n ∧ n ≤ 1000 ∧ z.length ≤ 1000 ∧ Q (.str ⟨(List.replicate n.toNat z.cps.toList).flatten.toArray⟩) H) := by
  intro pins s σ H x y v u Q I rx ry h
  obtain ⟨z, n, rfl, rfl, h0, h1', hz, q⟩ := h
  obtain ⟨t, rfl⟩ := rx
  obtain ⟨t', rfl⟩ := ry
  have hn : ¬ n < -(2 ^ 63 : Int) := by omega
  refine PySem.P.mul_str (by simp; omega) (fun h1 h2 => ?_) (fun h1 h2 => ?_) ?_
  · refine Int.not_lt.mpr (Int.le_ediv_of_mul_le (by omega) ?_)
    have : (z.length : Int) * n ≤ 1000 * 1000 := Int.mul_le_mul (by omega) h1' h0 (by decide)
    omega
  · unfold Builtin.Str.tooLong
    have : z.length * n.toNat ≤ 1000 * 1000 := Nat.mul_le_mul hz (by omega)
    exact decide_eq_false (by rw [sizeLine_eq]; omega)
  · have e1 : n < 1 → (⟨(List.replicate n.toNat z.cps.toList).flatten.toArray⟩ : Str) = Str.empty := fun h => by
      have : n.toNat = 0 := by omega
      rw [this]; rfl
    have e2 : (n == 1 || z.length == 0) = true → (⟨(List.replicate n.toNat z.cps.toList).flatten.toArray⟩ : Str) = z := fun h => by
      rw [Bool.or_eq_true, beq_iff_eq, beq_iff_eq] at h
      rcases h with rfl | h
      · simp
      · have e : z.cps = #[] := Array.eq_empty_of_size_eq_zero h
        rw [show z = ⟨#[]⟩ from by cases z; simp_all]
        simp
    have e3 : ∀ (k : Nat) (acc : Array Nat), (List.replicate k z.cps).foldl (· ++ ·) acc = acc ++ (List.replicate k z.cps.toList).flatten.toArray := fun k => by
      induction k with
      | zero => intro acc; simp
      | succ k ih =>
        intro acc
        rw [List.replicate_succ, List.foldl_cons, ih, List.replicate_succ, List.flatten_cons]
        apply Array.ext'
        simp
    split
    · rename_i hlt
      rw [e1 hlt] at q
      exact ⟨by decide, .str _, H, I.tok _, ⟨_, rfl⟩, q⟩
    · split
      · rename_i hb
        rw [e2 hb] at q
        exact ⟨.str z, H, I, ⟨_, rfl⟩, q⟩
      · rw [e3 n.toNat #[]]
        have hl : ∀ k : Nat, ((List.replicate k z.cps.toList).flatten).length = z.length * k := fun k => by
          simp [Str.length, Nat.mul_comm]
        refine ⟨?_, .str _, H, I.tok _, ⟨_, rfl⟩, by simpa using q⟩
        have : z.length * n.toNat ≤ 1000 * 1000 := Nat.mul_le_mul hz (by omega)
        show (#[] ++ (List.replicate n.toNat z.cps.toList).flatten.toArray : Array Nat).size ≤ sizeLine
        have e5 : (#[] ++ (List.replicate n.toNat z.cps.toList).flatten.toArray : Array Nat).size = z.length * n.toNat := by
          rw [← hl n.toNat, Array.size_append, List.size_toArray, List.size_toArray]
          simp
        rw [e5, sizeLine_eq]
        omega
/-- list(a range object) -/
def rListR : List V → Hp → VK → Prop := fun xs H Q => ∃ (r : Addr) (lo hi : Int), xs = [.ref r] ∧ H r = some (.rng lo hi) ∧ -(2 ^ 40) ≤ lo ∧ lo ≤ 2 ^ 40 ∧ -(2 ^ 40) ≤ hi ∧ hi ≤ 2 ^ 40 ∧ hi - lo ≤ 100000 ∧
  ∀ l, H l = none → Q (.ref l) (upd H l (.lst ((List.range (hi - lo).toNat).map fun i => V.int (lo + (i : Nat)))))
theorem call_listR {X : Cx} (hc : X.calm = true) : CallR X (.type "list") rListR := by
  intro pins s σ H xs us Q I r h
  obtain ⟨a, lo, hi, rfl, ha, l1, l2, l3, l4, l5, q⟩ := h
  obtain ⟨u0, rfl, ru⟩ := vals1 r
  obtain rfl : u0 = Value.ref a := ru
  obtain ⟨t, u, v, hr⟩ := (show ObjOk X.prog X.w H s.heap a (.rng lo hi) from I.hok a _ ha)
  have sz : Builtin.Range.rangeSize lo hi 1 = ((hi - lo).toNat : Int) := by
    rw [rangeSize_one]
    split <;> omega
  have sm : Builtin.Range.small lo hi 1 = true := by
    unfold Builtin.Range.small Builtin.Range.rangeFitsLong
    simp only [sz]
    simp
    omega
  refine call_list_range (I.ok.hd hc) hr sm sz (by omega) fun h' tk acc' c' hk hS' hacc => ?_
  have rel : Vals ((List.range (hi - lo).toNat).map fun i => V.int (lo + (i : Nat))) acc'.toList := by
    refine vals_ext (by rw [List.length_map, List.length_range, Array.length_toList, hacc.1]) fun i y w h1 h2 => ?_
    obtain ⟨tt, rfl⟩ := hacc.2 i w (by simpa using h2)
    obtain ⟨hj, e⟩ := List.getElem?_eq_some_iff.mp h1
    simp at e
    subst e
    exact ⟨tt, by simp⟩
  refine ⟨.ref s.heap.objs.size, _, I.laid (t' := tk) hk (Nat.le_refl _) ?_, rfl, q _ (I.hok.fresh (Nat.le_refl _))⟩
  exact ⟨by rw [List.length_map, List.length_range, sizeLine_eq]; omega, acc'.toList, c', rel, by simpa using hS'⟩
end Ov

set_option Elab.async false
set_option linter.all false
set_option maxRecDepth 100000
set_option maxHeartbeats 4000000
/-! calls of an instance: in a try's body, by keywords -/
namespace Ov
open PySem PySem.Spec PyProof.Rows L2 GxR
theorem callI_of {M : Model} {A : Around} {Ex : Value → Shared → Prop} {s : Shared} {x : Addr} {ps : Pos} {Q : Value → Shared → Prop} {as : List (Bool × Sem Value)} {ks : List (Option Str × Sem Value)} (no : (as.any (·.1) || ks.any (·.1.isNone)) = false)
    (h : wpAny M A (evalArgs (.ref x) true as ks) (fun z t => (∃ C o od, PySem.W.InstAt t.heap x o C od ∧ o.data = .plain) ∧ wpAny M A (call (.ref x) ([] ++ z.pos) z.kw) Q Ex t) Ex s) : wpAny M A (callWith ps (.ref x) [] as ks) Q Ex s := by
  unfold callWith
  refine wpAny_bind (wpAny_holding (wpAny_mono h (fun z t ht => ?_) fun _ _ y => y))
  obtain ⟨⟨C, o, od, J, plain⟩, hc⟩ := ht
  refine wpAny_bind (wpAny_standAt ?_)
  simp only [no]
  refine wpAny_bind ((PySem.W.kco_keeper (M := M) J plain).here ?_)
  exact wpAny_bind (wpAny_mono (wpAny_operateT hc) (fun r u hu => wpAny_bind (wpAny_holding (wpAny_point (wpAny_pure hu)))) fun _ _ y => y)
section
variable {X : Cx} {CX : CXT} {k : Nat} {C g : Addr} {fd : FuncData} {ps ks : List Str} {sp : Sp} {E : L2.St → XK} {fe e : Expr} {es : List Expr} {kws : List Keyword} {tf : TE} {t tk : TA} {pos : Pos} {gL : List Value → List Value → List Value} {gV : List V → List V → List V}
/-- f(e, ..), f an instance of C with __call__ -/
def tCallI (C : Addr) (sp : Sp) (E : L2.St → XK) (tf : TE) (t : TA) : TE := fun σ H Q => tf σ H fun y H1 => ∃ a, y = V.ref a ∧ t σ H1 fun vs H2 => (∃ dx fs, H2 a = some (.ins C dx fs)) ∧ sp (V.ref a :: vs) H2 Q (E σ)
theorem inst_at {pins : List (Addr × Obj)} {σ : L2.St} {H : Hp} {s : Shared} {a dx : Addr} {fs : List (Str × V)} (I : Inv X pins σ H s) (h : H a = some (.ins C dx fs)) : ∃ o od, PySem.W.InstAt s.heap a o C od ∧ o.data = .plain := by
  obtain ⟨m, O, _⟩ := ins_get I.hok h
  obtain ⟨od, J, _⟩ := O.look
  exact ⟨_, _, J, rfl⟩
theorem pe_callI (hf : PE X fe tf) (c : StX.CallO X.K C g) (F : FnR X.prog X.w X.K X.mg X.base CX k g sp) (hr : Room k X.A) (hx : ∀ σ, PassesAt CX X σ (E σ)) (ha : PA X (e :: es) t)
    (ht : eval (.Call fe (e :: es) [] pos) X.env = (do callWith pos (← eval fe X.env) [] (backTo pos (starEach (e :: es) X.env)) (backToKw pos (keywordEach [] X.env))) := by rfl)
    (he : starEach (e :: es) X.env = (false, eval e X.env) :: starEach es X.env := by rfl) (hpl : (backTo pos (starEach es X.env)).any (·.1) = false := by rfl) : PE X (.Call fe (e :: es) [] pos) (tCallI C sp E tf t) := by
  refine ⟨fun pins s σ H Q I h => ?_⟩
  refine Call_ (thn (hf.run pins s σ H _ I h) fun u s1 ⟨y, H1, I1, ry, a, ey, q⟩ => ?_) ht
  subst ey
  obtain rfl : u = Value.ref a := ry
  refine StX.callO_with (thn (ha.run pos pins s1 σ H1 _ I1 q) fun us s2 ⟨vs, H2, I2, r, ⟨dx, fs, hi⟩, q2⟩ => ?_) he hpl
  obtain ⟨o, od, J, plain⟩ := inst_at I2 hi
  refine ⟨⟨C, o, od, J, plain⟩, wpAny_call (PySem.W.kco_code I2.kIn J plain c.at_ c.fn c.fi (codeAny_mono (F X.A X.stack s2 H2 (.ref a :: us) (V.ref a :: vs) Q (E σ) hr I2.env0 (.cons rfl r) q2) fun r s' hq => ?_))⟩
  cases r with
  | error e => exact hx σ _ H2 s2 e s' I2 hq
  | ok fl =>
    cases fl with
    | ret u => exact I2.after hq
    | next => exact False.elim hq
    | brk => exact False.elim hq
    | cont => exact False.elim hq
def tCallIK (C : Addr) (m : Nat) (sp : Sp) (gV : List V → List V → List V) (E : L2.St → XK) (tf : TE) (tk : TA) : TE := fun σ H Q => tf σ H fun y H1 => ∃ a, y = V.ref a ∧ tk σ H1 fun zs H2 => (∃ dx fs, H2 a = some (.ins C dx fs)) ∧ zs.length = m ∧ sp (gV [V.ref a] zs) H2 Q (E σ)
theorem pe_callIK (hf : PE X fe tf) (c : StX.CallO X.K C g) (F : FnOk X.prog X.w X.K X.mg X.base CX k g fd ps sp) (hr : Room k X.A) (hb : KBn X.K fd ps 1 ks gL gV) (hx : ∀ σ, PassesAt CX X σ (E σ)) (hkw : PK X kws tk)
    (hall : (backToKw pos (keywordEach kws X.env)).all (·.1.isSome) = true := by rfl) (hks : (backToKw pos (keywordEach kws X.env)).filterMap (·.1) = ks := by rfl)
    (hpl : ((backTo pos (starEach [] X.env)).any (·.1) || (backToKw pos (keywordEach kws X.env)).any (·.1.isNone)) = false := by rfl)
    (ht : eval (.Call fe [] kws pos) X.env = (do callWith pos (← eval fe X.env) [] (backTo pos (starEach [] X.env)) (backToKw pos (keywordEach kws X.env))) := by rfl) : PE X (.Call fe [] kws pos) (tCallIK C ks.length sp gV E tf tk) := by
  refine ⟨fun pins s σ H Q I h => ?_⟩
  show wpAny _ _ (eval (.Call fe [] kws pos) X.env) _ _ _
  rw [ht]
  refine wpAny_bind (thn (hf.run pins s σ H _ I h) fun u s1 ⟨y, H1, I1, ry, a, ey, q⟩ => ?_)
  subst ey
  obtain rfl : u = Value.ref a := ry
  refine callI_of hpl (evalArgs_kw2_nil hall ?_)
  refine thn (hkw.run pos pins s1 σ H1 _ I1 q) fun ws s2 ⟨zs, H2, I2, rz, ⟨dx, fs, hi⟩, l2, q2⟩ => ?_
  rw [hks]
  obtain ⟨o, od, J, plain⟩ := inst_at I2 hi
  refine ⟨⟨C, o, od, J, plain⟩, wpAny_call (PySem.W.kco_code I2.kIn J plain c.at_ c.fn c.fi (codeAny_mono (F.run X.A X.stack s2 H2 ⟨[.ref a], ks.zip ws⟩ (gL [.ref a] ws) (gV [V.ref a] zs) Q (E σ) hr I2.env0 (hb.to s2 [.ref a] ws I2.kIn rfl (rz.length.symm.trans l2)) (hb.rel (.cons rfl .nil) rz) q2) fun r s' hq => ?_))⟩
  cases r with
  | error e => exact hx σ _ H2 s2 e s' I2 hq
  | ok fl =>
    cases fl with
    | ret u => exact I2.after hq
    | next => exact False.elim hq
    | brk => exact False.elim hq
    | cont => exact False.elim hq
end
end Ov

set_option Elab.async false
set_option linter.all false
set_option maxRecDepth 100000
set_option maxHeartbeats 4000000
/-! a call of an instance that is held in an attribute of an instance: o.m(e, ..) -/
namespace Ov
open PySem PySem.Spec PyProof.Rows L2 GxR
section
variable {X : Cx} {CX : CXT} {k : Nat} {C g : Addr} {m : Str} {sp : Sp} {E : L2.St → XK} {o e : Expr} {es : List Expr} {ta : TE} {t : TA} {apos pos : Pos} {pl : Sem Bool}
def tCallF (K : PySem.W.Frag) (C : Addr) (m : Str) (sp : Sp) (E : L2.St → XK) (ta : TE) (t : TA) : TE := fun σ H Q => ta σ H fun x H1 => ∃ a Ca dx fs b, x = .ref a ∧ H1 a = some (.ins Ca dx fs) ∧ Cls K Ca ∧ NoAttr K Ca m ∧ fs.lookup m = some (.ref b) ∧
  t σ H1 fun vs H2 => (∃ dx fs, H2 b = some (.ins C dx fs)) ∧ sp (V.ref b :: vs) H2 Q (E σ)
theorem pe_callF (he : PE X o ta) (c : StX.CallO X.K C g) (F : FnR X.prog X.w X.K X.mg X.base CX k g sp) (hr : Room k X.A) (hx : ∀ σ, PassesAt CX X σ (E σ)) (ha : PA X (e :: es) t)
    (hst : starEach (e :: es) X.env = (false, eval e X.env) :: starEach es X.env := by rfl) (hpl : (backTo pos (starEach es X.env)).any (·.1) = false := by rfl)
    (ht : eval (.Call (.Attribute o m apos) (e :: es) [] pos) X.env = (do
      let ov ← eval o X.env
      standAt apos.atName
      let (f, first) ← holding [ov] (getMethod ov m pl)
      callWith pos f first (backTo pos (starEach (e :: es) X.env)) (backToKw pos (keywordEach [] X.env))) := by rfl) :
    PE X (.Call (.Attribute o m apos) (e :: es) [] pos) (tCallF X.K C m sp E ta t) := by
  refine ⟨fun pins s σ H Q I h => ?_⟩
  refine PySem.W.methodCall_KW (pl := pl) (thn (he.run pins s σ H _ I h) fun u s1 ⟨x, H1, I1, rx, a, Ca, dx, fs, b, ex, ea, cc, n, l, q⟩ => ?_) ht
  subst ex
  obtain rfl : u = Value.ref a := rx
  refine getmeth_fld I1 ea cc n l fun u s1' I1' ru => ?_
  obtain rfl : u = Value.ref b := ru
  refine StX.callO_with (thn (ha.run pos pins s1' σ H1 _ I1' q) fun us s2 ⟨vs, H2, I2, r, ⟨dx, fs, hi⟩, q2⟩ => ?_) hst hpl
  obtain ⟨o, od, J, plain⟩ := inst_at I2 hi
  refine ⟨⟨C, o, od, J, plain⟩, wpAny_call (PySem.W.kco_code I2.kIn J plain c.at_ c.fn c.fi (codeAny_mono (F X.A X.stack s2 H2 (.ref b :: us) (V.ref b :: vs) Q (E σ) hr I2.env0 (.cons rfl r) q2) fun r s' hq => ?_))⟩
  cases r with
  | error e => exact hx σ _ H2 s2 e s' I2 hq
  | ok fl =>
    cases fl with
    | ret u => exact I2.after hq
    | next => exact False.elim hq
    | brk => exact False.elim hq
    | cont => exact False.elim hq
/-- o.m(e, ..) with a method m of o's class, where what is wished of an error may speak of the slots -/
def tMethE (C : Addr) (m : Str) (sp : Sp) (E : L2.St → XK) (ta : TE) (t : TA) : TE := fun σ H Q => ta σ H fun x H1 => ∃ a dx fs, x = .ref a ∧ H1 a = some (.ins C dx fs) ∧ fs.lookup m = none ∧ t σ H1 fun vs H2 => sp (x :: vs) H2 Q (E σ)
theorem pe_methE (he : PE X o ta) (c : Cls X.K C) (hm : Meth X.K C m g) (F : FnR X.prog X.w X.K X.mg X.base CX k g sp) (hr : Room k X.A) (hx : ∀ σ, PassesAt CX X σ (E σ)) (ha : PA X (e :: es) t)
    (hst : starEach (e :: es) X.env = (false, eval e X.env) :: starEach es X.env := by rfl) (hpl : (backTo pos (starEach es X.env)).any (·.1) = false := by rfl)
    (ht : eval (.Call (.Attribute o m apos) (e :: es) [] pos) X.env = (do
      let ov ← eval o X.env
      standAt apos.atName
      let (f, first) ← holding [ov] (getMethod ov m pl)
      callWith pos f first (backTo pos (starEach (e :: es) X.env)) (backToKw pos (keywordEach [] X.env))) := by rfl) :
    PE X (.Call (.Attribute o m apos) (e :: es) [] pos) (tMethE C m sp E ta t) := by
  refine ⟨fun pins s σ H Q I h => ?_⟩
  refine PySem.W.methodCall_KW (pl := pl) (thn (he.run pins s σ H _ I h) fun u s1 ⟨x, H1, I1, rx, a, dx, fs, ex, ea, l, q⟩ => ?_) ht
  subst ex
  obtain rfl : u = Value.ref a := rx
  refine getmeth_ok I1 ea c hm l ?_
  refine PySem.W.callWith_K (first := [.ref a]) (h₀ := X.base) I.ok.mod.kin hm.kp (thn (ha.run pos pins s1 σ H1 _ I1 q) fun us s2 ⟨vs, H2, I2, r, q2⟩ => ⟨I2.kIn, ?_⟩) hst hpl
  refine wpAny_call (codeAny_mono (F X.A X.stack s2 H2 (.ref a :: us) (V.ref a :: vs) Q (E σ) hr I2.env0 (.cons rfl r) q2) fun r s' hq => ?_)
  cases r with
  | error e => exact hx σ _ H2 s2 e s' I2 hq
  | ok fl =>
    cases fl with
    | ret u => exact I2.after hq
    | next => exact False.elim hq
    | brk => exact False.elim hq
    | cont => exact False.elim hq
end
section
variable {X : Cx} {CX : CXT} {k : Nat} {C f : Addr} {fd : FuncData} {m : Str} {ps ks : List Str} {sp : Sp} {E : L2.St → XK} {o : Expr} {kws : List Keyword} {ta : TE} {tk : TA} {apos pos : Pos} {pl : Sem Bool} {g : List Value → List Value → List Value} {gV : List V → List V → List V}
/-- o.m(k = v, ..) -/
def tMethKE (C : Addr) (m : Str) (n : Nat) (sp : Sp) (gV : List V → List V → List V) (E : L2.St → XK) (ta : TE) (tk : TA) : TE := fun σ H Q => ta σ H fun x H1 => ∃ a dx fs, x = .ref a ∧ H1 a = some (.ins C dx fs) ∧ fs.lookup m = none ∧ tk σ H1 fun zs H2 => zs.length = n ∧ sp (gV [V.ref a] zs) H2 Q (E σ)
theorem pe_methKE (he : PE X o ta) (c : Cls X.K C) (hm : Meth X.K C m f) (F : FnOk X.prog X.w X.K X.mg X.base CX k f fd ps sp) (hr : Room k X.A) (hb : KBn X.K fd ps 1 ks g gV) (hx : ∀ σ, PassesAt CX X σ (E σ))
    (hkw : PK X kws tk) (hall : (backToKw pos (keywordEach kws X.env)).all (·.1.isSome) = true := by rfl) (hks : (backToKw pos (keywordEach kws X.env)).filterMap (·.1) = ks := by rfl)
    (hpl : ((backTo pos (starEach [] X.env)).any (·.1) || (backToKw pos (keywordEach kws X.env)).any (·.1.isNone)) = false := by rfl)
    (ht : eval (.Call (.Attribute o m apos) [] kws pos) X.env = (do
      let ov ← eval o X.env
      standAt apos.atName
      let (f, first) ← holding [ov] (getMethod ov m pl)
      callWith pos f first (backTo pos (starEach [] X.env)) (backToKw pos (keywordEach kws X.env))) := by rfl) :
    PE X (.Call (.Attribute o m apos) [] kws pos) (tMethKE C m ks.length sp gV E ta tk) := by
  refine ⟨fun pins s σ H Q I h => ?_⟩
  refine PySem.W.methodCall_KW (pl := pl) (thn (he.run pins s σ H _ I h) fun u s1 ⟨x, H1, I1, rx, a, dx, fs, ex, ea, l, q⟩ => ?_) ht
  subst ex
  obtain rfl : u = Value.ref a := rx
  refine getmeth_ok I1 ea c hm l ?_
  refine PySem.W.callWith_KW0 (first := [.ref a]) (h₀ := X.base) I.ok.mod.kin hm.kp hall ?_ hpl
  refine thn (hkw.run pos pins s1 σ H1 _ I1 q) fun ws s2 ⟨zs, H2, I2, rz, l2, q2⟩ => ⟨I2.kIn, ?_⟩
  rw [hks]
  refine wpAny_call (codeAny_mono (F.run X.A X.stack s2 H2 ⟨[.ref a], ks.zip ws⟩ (g [.ref a] ws) (gV [V.ref a] zs) Q (E σ) hr I2.env0 (hb.to s2 [.ref a] ws I2.kIn rfl (rz.length.symm.trans l2)) (hb.rel (.cons rfl .nil) rz) q2) fun r s' hq => ?_)
  cases r with
  | error e => exact hx σ _ H2 s2 e s' I2 hq
  | ok fl =>
    cases fl with
    | ret u => exact I2.after hq
    | next => exact False.elim hq
    | brk => exact False.elim hq
    | cont => exact False.elim hq
theorem pass0A {X : Cx} (E : L2.St → XK) (σ : L2.St) : PassesAt CX0 X σ (E σ) := fun _ _ _ _ _ _ h => h.elim
end
end Ov
namespace Ov
open PySem PySem.Spec PyProof.Rows L2 GxR
/-! ### .. of an instance of one of several classes -/
section
variable {X : Cx} {CX : CXT} {k n : Nat} {c g : Nat → Addr} {fd : Nat → FuncData} {m : Str} {ps ks : List Str} {sp : Nat → Sp} {E : L2.St → XK} {o e : Expr} {es : List Expr} {kws : List Keyword} {ta : TE} {t tk : TA} {apos pos : Pos} {pl : Sem Bool} {gg : List Value → List Value → List Value} {gV : List V → List V → List V}
def tMethF (n : Nat) (c : Nat → Addr) (m : Str) (sp : Nat → Sp) (E : L2.St → XK) (ta : TE) (t : TA) : TE := fun σ H Q => ta σ H fun x H1 => ∃ a i dx fs, i < n ∧ x = .ref a ∧ H1 a = some (.ins (c i) dx fs) ∧ fs.lookup m = none ∧ t σ H1 fun vs H2 => sp i (x :: vs) H2 Q (E σ)
theorem pe_methF (he : PE X o ta) (hc : ∀ i, i < n → Cls X.K (c i)) (hm : ∀ i, i < n → Meth X.K (c i) m (g i)) (F : ∀ i, i < n → FnR X.prog X.w X.K X.mg X.base CX k (g i) (sp i)) (hr : Room k X.A) (hx : ∀ σ, PassesAt CX X σ (E σ)) (ha : PA X (e :: es) t)
    (hst : starEach (e :: es) X.env = (false, eval e X.env) :: starEach es X.env := by rfl) (hpl : (backTo pos (starEach es X.env)).any (·.1) = false := by rfl)
    (ht : eval (.Call (.Attribute o m apos) (e :: es) [] pos) X.env = (do
      let ov ← eval o X.env
      standAt apos.atName
      let (f, first) ← holding [ov] (getMethod ov m pl)
      callWith pos f first (backTo pos (starEach (e :: es) X.env)) (backToKw pos (keywordEach [] X.env))) := by rfl) :
    PE X (.Call (.Attribute o m apos) (e :: es) [] pos) (tMethF n c m sp E ta t) := by
  refine ⟨fun pins s σ H Q I h => ?_⟩
  refine PySem.W.methodCall_KW (pl := pl) (thn (he.run pins s σ H _ I h) fun u s1 ⟨x, H1, I1, rx, a, i, dx, fs, hi, ex, ea, l, q⟩ => ?_) ht
  subst ex
  obtain rfl : u = Value.ref a := rx
  refine getmeth_ok I1 ea (hc i hi) (hm i hi) l ?_
  refine PySem.W.callWith_K (first := [.ref a]) (h₀ := X.base) I.ok.mod.kin (hm i hi).kp (thn (ha.run pos pins s1 σ H1 _ I1 q) fun us s2 ⟨vs, H2, I2, r, q2⟩ => ⟨I2.kIn, ?_⟩) hst hpl
  refine wpAny_call (codeAny_mono (F i hi X.A X.stack s2 H2 (.ref a :: us) (V.ref a :: vs) Q (E σ) hr I2.env0 (.cons rfl r) q2) fun r s' hq => ?_)
  cases r with
  | error e => exact hx σ _ H2 s2 e s' I2 hq
  | ok fl =>
    cases fl with
    | ret u => exact I2.after hq
    | next => exact False.elim hq
    | brk => exact False.elim hq
    | cont => exact False.elim hq
def tMethKF (n : Nat) (c : Nat → Addr) (m : Str) (nk : Nat) (sp : Nat → Sp) (gV : List V → List V → List V) (E : L2.St → XK) (ta : TE) (tk : TA) : TE := fun σ H Q => ta σ H fun x H1 => ∃ a i dx fs, i < n ∧ x = .ref a ∧ H1 a = some (.ins (c i) dx fs) ∧ fs.lookup m = none ∧ tk σ H1 fun zs H2 => zs.length = nk ∧ sp i (gV [V.ref a] zs) H2 Q (E σ)
theorem pe_methKF (he : PE X o ta) (hc : ∀ i, i < n → Cls X.K (c i)) (hm : ∀ i, i < n → Meth X.K (c i) m (g i)) (F : ∀ i, i < n → FnOk X.prog X.w X.K X.mg X.base CX k (g i) (fd i) ps (sp i)) (hr : Room k X.A) (hb : ∀ i, i < n → KBn X.K (fd i) ps 1 ks gg gV) (hx : ∀ σ, PassesAt CX X σ (E σ))
    (hkw : PK X kws tk) (hall : (backToKw pos (keywordEach kws X.env)).all (·.1.isSome) = true := by rfl) (hks : (backToKw pos (keywordEach kws X.env)).filterMap (·.1) = ks := by rfl)
    (hpl : ((backTo pos (starEach [] X.env)).any (·.1) || (backToKw pos (keywordEach kws X.env)).any (·.1.isNone)) = false := by rfl)
    (ht : eval (.Call (.Attribute o m apos) [] kws pos) X.env = (do
      let ov ← eval o X.env
      standAt apos.atName
      let (f, first) ← holding [ov] (getMethod ov m pl)
      callWith pos f first (backTo pos (starEach [] X.env)) (backToKw pos (keywordEach kws X.env))) := by rfl) :
    PE X (.Call (.Attribute o m apos) [] kws pos) (tMethKF n c m ks.length sp gV E ta tk) := by
  refine ⟨fun pins s σ H Q I h => ?_⟩
  refine PySem.W.methodCall_KW (pl := pl) (thn (he.run pins s σ H _ I h) fun u s1 ⟨x, H1, I1, rx, a, i, dx, fs, hi, ex, ea, l, q⟩ => ?_) ht
  subst ex
  obtain rfl : u = Value.ref a := rx
  refine getmeth_ok I1 ea (hc i hi) (hm i hi) l ?_
  refine PySem.W.callWith_KW0 (first := [.ref a]) (h₀ := X.base) I.ok.mod.kin (hm i hi).kp hall ?_ hpl
  refine thn (hkw.run pos pins s1 σ H1 _ I1 q) fun ws s2 ⟨zs, H2, I2, rz, l2, q2⟩ => ⟨I2.kIn, ?_⟩
  rw [hks]
  refine wpAny_call (codeAny_mono ((F i hi).run X.A X.stack s2 H2 ⟨[.ref a], ks.zip ws⟩ (gg [.ref a] ws) (gV [V.ref a] zs) Q (E σ) hr I2.env0 ((hb i hi).to s2 [.ref a] ws I2.kIn rfl (rz.length.symm.trans l2)) ((hb i hi).rel (.cons rfl .nil) rz) q2) fun r s' hq => ?_)
  cases r with
  | error e => exact hx σ _ H2 s2 e s' I2 hq
  | ok fl =>
    cases fl with
    | ret u => exact I2.after hq
    | next => exact False.elim hq
    | brk => exact False.elim hq
    | cont => exact False.elim hq
end
end Ov

set_option Elab.async false
set_option linter.all false
set_option maxRecDepth 100000
set_option maxHeartbeats 4000000
/-! write_parts -/
namespace Ov
open PySem PySem.Spec PyProof.Rows L2 GxR
abbrev sWrR : Stmt := top 27
abbrev NWrR : List Str := ["parts", "place", "word", "offset", "length"]
theorem scWrR : FnScope NWrR ["parts"] (defScope sWrR) := ⟨rfl, rfl, rfl, by decide +kernel, rfl, by decide +kernel, by decide +kernel⟩
def keyL : List Int → Str
  | [a, b, c, d] => ptK a b c d
  | _ => Str.empty
def codeL (l : List (List Int)) : Str := Txt.join oneSp (l.map keyL)
/-- four small whole numbers -/
def Two (x : List Int) : Prop := ∃ a b c d : Int, x = [a, b, c, d] ∧ (-7 ≤ a ∧ a ≤ 119) ∧ (-7 ≤ b ∧ b ≤ 119) ∧ (-7 ≤ c ∧ c ≤ 119) ∧ -7 ≤ d ∧ d ≤ 119
def spWrR (T : List Addr) : Sp := fun vs H Q _ => ∃ (r : Addr) (l : List (List Int)), vs = [.ref r] ∧ LT H r l ∧ l.length ≤ 201 ∧ (∀ x ∈ l, Two x) ∧ ∀ H', L2.Same H H' → Q (.str (codeL l)) H'
theorem emp_app (z : Str) : Str.empty ++ z = z := by
  show (⟨Str.empty.cps ++ z.cps⟩ : Str) = ⟨z.cps⟩
  have : Str.empty.cps = #[] := by decide +kernel
  rw [this, Array.empty_append]
theorem len_key {x : List Int} (h : Two x) : (keyL x).length ≤ 19 := by
  obtain ⟨a, b, c, d, rfl, ⟨a0, a1⟩, ⟨b0, b1⟩, ⟨c0, c1⟩, d0, d1⟩ := h
  show (sI a ++ ":" ++ sI b ++ "+" ++ sI c ++ "*" ++ sI d).length ≤ 19
  rw [app_len, app_len, app_len, app_len, app_len, app_len, show (":" : Str).length = 1 by decide +kernel, show ("+" : Str).length = 1 by decide +kernel, show ("*" : Str).length = 1 by decide +kernel]
  have := (rg_t a0 a1).len
  have := (rg_t b0 b1).len
  have := (rg_t c0 c1).len
  have := (rg_t d0 d1).len
  omega
theorem wtl_key {l : List (List Int)} (h : ∀ x ∈ l, Two x) : wtl (l.map keyL) ≤ 20 * l.length := by
  have := wtl_le (ws := l.map keyL) (m := 19) fun z hz => by
    obtain ⟨x, hx, rfl⟩ := List.mem_map.mp hz
    exact len_key (h x hx)
  rw [List.length_map] at this
  exact this
section
variable {P : Program} {w : World} {K : PySem.W.Frag} {mg : Str → Option Value} {base : Heap} {T : List Addr} {C fLow fText fAre fTape fNext fInks : Addr}
theorem ok_wrr {f : Addr} {fd : FuncData} (F : L2.Fun K "write_parts" "write_parts" sWrR f fd) (X : Txt K mg C fLow fText fAre fTape fNext fInks) : FnOk P w K mg base CX0 1 f fd ["parts"] (spWrR T) := by
  refine F.ok scWrR (fun vs H Q E h => ?_) (fun cdv A outer s H vs Q E hr h => ?_)
  · obtain ⟨r, l, rfl, _⟩ := h
    rfl
  · obtain ⟨r, l, rfl, ⟨ps, e, ta⟩, hl, h2, q⟩ := h
    have pl := ta.len
    refine ⟨_, (pss_one (ps_ret (pe_join pe_str (pe_lc (own := [("place", 1), ("word", 2), ("offset", 3), ("length", 4)]) (g := (gTup K 4 (gCons (gName 1) (gCons (gName 2) (gCons (gName 3) (gCons (gName 4) gNil)))))) (tt := tYes) (by rfl) scWrR.nd (pi_list (pv 0)) (blkOk_by (own := [("place", 1), ("word", 2), ("offset", 3), ("length", 4)]) (N := NWrR) (sc := defScope sWrR) (by decide +kernel)) (fun _ _ _ _ _ => pg_tup (n := 4) rfl (pgs_cons (pg_name (i := 1) scWrR.nd rfl (Or.inl rfl)) (pgs_cons (pg_name (i := 2) scWrR.nd rfl (Or.inl rfl)) (pgs_cons (pg_name (i := 3) scWrR.nd rfl (Or.inl rfl)) (pgs_cons (pg_name (i := 4) scWrR.nd rfl (Or.inl rfl)) pgs_nil))))) (fun _ _ _ _ _ => pts_nil) (fun _ _ _ _ _ => pe_joined (.cons (pe_fmt (pv 1)) (.cons pe_str (.cons (pe_fmt (pv 2)) (.cons pe_str (.cons (pe_fmt (pv 3)) (.cons pe_str (.cons (pe_fmt (pv 4)) .nil)))))))))))), ?_⟩
    refine ⟨⟨_, rfl⟩, _, rfl, r, rfl, ⟨_, .inl (.inl e)⟩, fun D hD => ?_⟩
    refine lc_list (K := K) (a := r) (g := gTup K 4 (gCons (gName 1) (gCons (gName 2) (gCons (gName 3) (gCons (gName 4) gNil))))) (tt := tYes) (te := fun σ H Q => tJs [tFmt (tVar 1), tC (V.str (Str.ofString ":")), tFmt (tVar 2), tC (V.str (Str.ofString "+")), tFmt (tVar 3), tC (V.str (Str.ofString "*")), tFmt (tVar 4)] Str.empty σ H fun out H1 => Q (V.str out) H1) (vs := [1, 2, 3, 4]) (σ := L2.start NWrR [V.ref r]) (xs := ps.map V.ref) (fun j Hx => Hx D = some (.lst (((l.take j).map keyL).map V.str)) ∧ L2.Same H Hx) ⟨upd_same, same_upd hD⟩ (fun j Hx _ pp => .inl (.inl (pp.2 _ _ e))) (fun j y Hx hj pp => ?_) (fun Hx pp => ?_)
    · obtain ⟨eD, sm⟩ := pp
      rw [List.getElem?_map] at hj
      obtain ⟨p, hp, rfl⟩ := Option.map_eq_some_iff.mp hj
      obtain ⟨x, hx, ep⟩ := ta.get hp
      have hlt : j < l.length := (List.getElem?_eq_some_iff.mp hx).1
      obtain ⟨a, b, c, d, rfl, ⟨a0, a1⟩, ⟨b0, b1⟩, ⟨c0, c1⟩, d0, d1⟩ := h2 x (List.mem_of_getElem? hx)
      have la : (Str.ofString (toString a)).length ≤ 4 := (rg_t a0 a1).len
      have lb : (Str.ofString (toString b)).length ≤ 4 := (rg_t b0 b1).len
      have lc : (Str.ofString (toString c)).length ≤ 4 := (rg_t c0 c1).len
      have ld : (Str.ofString (toString d)).length ≤ 4 := (rg_t d0 d1).len
      have q1 : (":" : Str).length = 1 := by decide +kernel
      have q2 : ("+" : Str).length = 1 := by decide +kernel
      have q3 : ("*" : Str).length = 1 := by decide +kernel
      refine ⟨p, _, rfl, .inl (.inl (sm _ _ ep)), rfl, _, _, rfl, _, _, rfl, _, _, rfl, _, _, rfl, rfl, rfl, ?_⟩
      unfold tYes
      refine iteT' (b := true) rfl ?_
      refine ⟨_, rfl, .inr ⟨a, rfl, log_of (by omega), _, rfl, ?_, _, rfl, ?_, _, rfl, .inr ⟨b, rfl, log_of (by omega), _, rfl, ?_, _, rfl, ?_, _, rfl, .inr ⟨c, rfl, log_of (by omega), _, rfl, ?_, _, rfl, ?_, _, rfl, .inr ⟨d, rfl, log_of (by omega), _, rfl, ?_, ?_⟩⟩⟩⟩⟩
      · rw [emp_app, sizeLine_eq]; exact Nat.le_trans la (by decide)
      · rw [emp_app, app_len, q1, sizeLine_eq]; omega
      · rw [emp_app, app_len, app_len, q1, sizeLine_eq]; omega
      · rw [emp_app, app_len, app_len, app_len, q1, q2, sizeLine_eq]; omega
      · rw [emp_app, app_len, app_len, app_len, app_len, q1, q2, sizeLine_eq]; omega
      · rw [emp_app, app_len, app_len, app_len, app_len, app_len, q1, q2, q3, sizeLine_eq]; omega
      · rw [emp_app, app_len, app_len, app_len, app_len, app_len, app_len, q1, q2, q3, sizeLine_eq]; omega
      rw [emp_app]
      refine ⟨_, eD, ?_, ?_, ?_⟩
      · rw [List.length_map, List.length_map, List.length_take, sizeLine_eq]; omega
      · rw [upd_same, List.take_add_one, hx, List.map_append, List.map_append]
        rfl
      · exact fun c o ec => (upd_ne (fun z => by rw [z, hD] at ec; cases ec)).trans (sm _ _ ec)
    · obtain ⟨eD, sm⟩ := pp
      rw [List.length_map, pl, List.take_length] at eD
      have wk := wtl_key h2
      have := wtl_eq (l.map keyL)
      refine ⟨oneSp, D, l.map keyL, rfl, rfl, .inl (.inl (.inl eD)), ?_, ?_⟩
      · rw [show oneSp.length = 1 by decide +kernel]; omega
      · exact q Hx sm
end
end Ov

set_option Elab.async false
set_option linter.all false
set_option maxRecDepth 100000
set_option maxHeartbeats 4000000
/-! _law_backs -/
namespace Ov
open PySem PySem.Spec PyProof.Rows L2 GxR
abbrev sAl : Stmt := top 35
abbrev NAl : List Str := ["found", "word", "begin", "size"]
theorem scAl : FnScope NAl [] (defScope sAl) := ⟨rfl, rfl, rfl, by decide +kernel, rfl, by decide +kernel, by decide +kernel⟩
/-- a dict of words and what they write; those of the pairs in S are in -/
def WhS (H : Hp) (d : Addr) (n : Nat) (S : Int → Int → Int → Prop) : Prop := ∃ kvs : List (Key × V), H d = some (.dK kvs) ∧ kvs.length ≤ n ∧ (∀ z v, valV kvs (.inr z) = some v → ∃ p x, v = .ref p ∧ H p = some (tupI x) ∧ bkW z = some x) ∧ ∀ a b c, S a b c → (valV kvs (.inr (bkK a b c))).isSome = true
/-- the whole dict -/
def Whole (H : Hp) (d : Addr) : Prop := ∃ kvs : List (Key × V), H d = some (.dK kvs) ∧ ∀ z, match valV kvs (.inr z) with
  | some v => ∃ p x, v = .ref p ∧ H p = some (tupI x) ∧ bkW z = some x
  | none => bkW z = none
theorem WhS.whole {H : Hp} {d : Addr} {n : Nat} {S : Int → Int → Int → Prop} (h : WhS H d n S) (hS : ∀ a b c, 0 ≤ a → a ≤ 5 → 0 ≤ b → 1 ≤ c → b + c ≤ 8 → S a b c) : Whole H d := by
  obtain ⟨kvs, e, _, h1, h2⟩ := h
  refine ⟨kvs, e, fun z => ?_⟩
  cases hv : valV kvs (.inr z) with
  | some v => exact h1 z v hv
  | none =>
    cases hz : bkW z with
    | none => rfl
    | some x =>
      obtain ⟨a, b, c, rfl, rfl, a0, a5, b0, c1, bc⟩ := bkW_some hz
      have := h2 a b c (hS a b c a0 a5 b0 c1 bc)
      rw [hv] at this
      cases this
theorem putK_len1 (c : List (Key × V)) (k : Key) (x : V) : (putK c k x).length ≤ c.length + 1 := by
  unfold putK
  split
  · rw [List.length_map]; omega
  · rw [List.length_append, List.length_singleton]; omega
theorem WhS.put {H : Hp} {d p : Addr} {n : Nat} {a b c : Int} {S : Int → Int → Int → Prop} (h : WhS H d n S) (hp : H p = some (tupI [a, b, c])) (a0 : 0 ≤ a) (a5 : a ≤ 5) (b0 : 0 ≤ b) (c1 : 1 ≤ c) (bc : b + c ≤ 8) :
    ∃ kvs, H d = some (.dK kvs) ∧ kvs.length ≤ n ∧ WhS (upd H d (.dK (putK kvs (.inr (bkK a b c)) (.ref p)))) d (n + 1) fun x y u => S x y u ∨ (x = a ∧ y = b ∧ u = c) := by
  obtain ⟨kvs, e, hl, h1, h2⟩ := h
  refine ⟨kvs, e, hl, ⟨_, upd_same, ?_, fun z v hv => ?_, fun x y u hxy => ?_⟩⟩
  · have := putK_len1 kvs (.inr (bkK a b c)) (.ref p)
    omega
  · rw [valV_put] at hv
    have nd : ∀ {q : Addr} {x : List Int}, H q = some (tupI x) → upd H d (.dK (putK kvs (.inr (bkK a b c)) (.ref p))) q = some (tupI x) := fun {q x} e2 => (upd_ne fun z => by rw [z, e] at e2; cases e2).trans e2
    by_cases hz : (Sum.inr z : Key) = .inr (bkK a b c)
    · rw [if_pos hz] at hv
      injection hz with hz
      rw [hz]
      exact ⟨p, [a, b, c], (Option.some.inj hv).symm, nd hp, bkW_key a0 a5 b0 c1 bc⟩
    · rw [if_neg hz] at hv
      obtain ⟨q, x, e1, e2, e3⟩ := h1 z v hv
      exact ⟨q, x, e1, nd e2, e3⟩
  · rw [valV_put]
    by_cases hz : (Sum.inr (bkK x y u) : Key) = .inr (bkK a b c)
    · rw [if_pos hz]; rfl
    · rw [if_neg hz]
      rcases hxy with h | ⟨rfl, rfl, rfl⟩
      · exact h2 x y u h
      · exact absurd rfl hz
theorem WhS.same {H H2 : Hp} {d : Addr} {n : Nat} {S : Int → Int → Int → Prop} (h : WhS H d n S) (k : L2.Same H H2) : WhS H2 d n S := by
  obtain ⟨kvs, e, hl, h1, h2⟩ := h
  refine ⟨kvs, k _ _ e, hl, fun z v hv => ?_, h2⟩
  obtain ⟨p, x, e1, e2, e3⟩ := h1 z v hv
  exact ⟨p, x, e1, k _ _ e2, e3⟩
theorem WhS.mono {H : Hp} {d : Addr} {n m : Nat} {S R : Int → Int → Int → Prop} (h : WhS H d n S) (hn : n ≤ m) (hS : ∀ a b c, R a b c → S a b c) : WhS H d m R := by
  obtain ⟨kvs, e, hl, h1, h2⟩ := h
  exact ⟨kvs, e, by omega, h1, fun a b c hr => h2 a b c (hS a b c hr)⟩
theorem Whole.at {H H2 : Hp} {d : Addr} (k : ∀ a o, (∀ ps, o ≠ HO.tbl ps) → H a = some o → H2 a = some o) (h : Whole H d) : Whole H2 d := by
  obtain ⟨kvs, e, h1⟩ := h
  refine ⟨kvs, k _ _ (fun _ z => by cases z) e, fun z => ?_⟩
  have h2 := h1 z
  cases hv : valV kvs (.inr z) with
  | none => rw [hv] at h2; exact h2
  | some v =>
    rw [hv] at h2
    obtain ⟨p, x, e1, e2, e3⟩ := h2
    exact ⟨p, x, e1, k _ _ (fun _ z => by cases z) e2, e3⟩
def spAl : Sp := fun vs H Q _ => vs = [] ∧ ∀ d H', H d = none → L2.Same H H' → Whole H' d → Q (.ref d) H'
section
variable {P : Program} {w : World} {K : PySem.W.Frag} {mg : Str → Option Value} {base : Heap} {C fLow fText fAre fTape fNext fInks : Addr}
theorem ok_al {f : Addr} {fd : FuncData} (F : L2.Fun K "_law_backs" "_law_backs" sAl f fd) (X : Txt K mg C fLow fText fAre fTape fNext fInks) : FnOk P w K mg base CX0 1 f fd [] spAl := by
  refine F.ok scAl (fun vs H Q E h => ?_) (fun cdv A outer s H vs Q E hr h => ?_)
  · obtain ⟨rfl, _⟩ := h
    rfl
  · obtain ⟨rfl, q⟩ := h
    have hu : (A.deeper (envOfC "_law_backs" (defScope sAl) s.heap.objs.size f cdv)).units + 1 < cLine := by have := hr.units; omega
    refine ⟨_, (pss_cons (ps_set (i := 0) scAl.nd rfl (.inl rfl) pe_dnewK)
      (pss_cons (ps_for PassesOwn.never rfl (pi_range1 (by rfl) X.rng (pa_cons pe_int pa_nil)) (pg_name (i := 1) scAl.nd rfl (Or.inl rfl)) (pss_one (ps_for PassesOwn.never rfl (pi_range1 (by rfl) X.rng (pa_cons pe_int pa_nil)) (pg_name (i := 2) scAl.nd rfl (Or.inl rfl)) (pss_one (ps_for PassesOwn.never rfl (pi_range2 (by rfl) X.rng (pa_cons pe_int (pa_cons (pe_op op_sub pe_int (pv 2)) pa_nil))) (pg_name (i := 3) scAl.nd rfl (Or.inl rfl)) (pss_one (ps_asg (pe_tup (pa_cons (pv 1) (pa_cons (pv 2) (pa_cons (pv 3) pa_nil)))) (pg_sub (pv 0) (pe_op op_add_str (pe_op op_add_str (pe_op op_add_str (pe_op op_add_str (pe_callTy call_str_int (by rfl) X.str (by decide +kernel) (pa_cons (pv 1) pa_nil)) pe_str) (pe_callTy call_str_int (by rfl) X.str (by decide +kernel) (pa_cons (pv 2) pa_nil))) pe_str) (pe_callTy call_str_int (by rfl) X.str (by decide +kernel) (pa_cons (pv 3) pa_nil))) (set_dict hu)))))))))
      (pss_one (ps_ret (pv 0))))), ?_⟩
    refine fun d hd => ?_
    have s0 := same_upd (o := .dK []) hd
    have w0 : WhS (upd H d (.dK [])) d 0 fun _ _ _ => False := ⟨[], upd_same, Nat.le_refl _, (fun z v hv => by cases hv), fun a b c (h : False) => h.elim⟩
    generalize upd H d (.dK []) = H0 at s0 w0 ⊢
    refine ⟨6, rfl, by decide, by decide, for_range (lo := 0) (n := 6) (fun i σ H' => (∃ v1 v2 v3, σ = [some (.ref d), v1, v2, v3]) ∧ L2.Same H H' ∧ WhS H' d (64 * i) fun a b c => 0 ≤ a ∧ a < i ∧ 0 ≤ b ∧ 1 ≤ c ∧ b + c ≤ 8)
      ⟨⟨_, _, _, rfl⟩, s0, w0.mono (by omega) fun a b c h => by omega⟩ (fun i σ H' hi p => ?_) (fun σ H' p => ?_)⟩
    · obtain ⟨⟨v1, v2, v3, rfl⟩, s1, w1⟩ := p
      refine ⟨8, rfl, by decide, by decide, for_range (lo := 0) (n := 8) (fun g σ H' => (∃ v2 v3, σ = [some (.ref d), some (.int (0 + (i : Nat))), v2, v3]) ∧ L2.Same H H' ∧ WhS H' d (64 * i + 8 * g) fun a b c => (0 ≤ a ∧ a < i ∧ 0 ≤ b ∧ 1 ≤ c ∧ b + c ≤ 8) ∨ (a = i ∧ 0 ≤ b ∧ b < g ∧ 1 ≤ c ∧ b + c ≤ 8))
        ⟨⟨_, _, rfl⟩, s1, w1.mono (by omega) fun a b c h => by omega⟩ (fun g σ H1 hg p => ?_) (fun σ H1 p => ?_)⟩
      · obtain ⟨⟨v2, v3, rfl⟩, s2, w2⟩ := p
        refine ⟨_, rfl, _, _, rfl, rfl, 1, 9 - (0 + (g : Nat)), rfl, ⟨by decide, by decide, by omega, by omega⟩, for_range (lo := 1) (n := (9 - (0 + (g : Nat) : Int) - 1).toNat) (fun j σ H' => (∃ v3, σ = [some (.ref d), some (.int (0 + (i : Nat))), some (.int (0 + (g : Nat))), v3]) ∧ L2.Same H H' ∧ WhS H' d (64 * i + 8 * g + j) fun a b c => (0 ≤ a ∧ a < i ∧ 0 ≤ b ∧ 1 ≤ c ∧ b + c ≤ 8) ∨ (a = i ∧ 0 ≤ b ∧ b < g ∧ 1 ≤ c ∧ b + c ≤ 8) ∨ (a = i ∧ b = g ∧ 1 ≤ c ∧ c ≤ j))
          ⟨⟨_, rfl⟩, s2, w2.mono (by omega) fun a b c h => by omega⟩ (fun j σ H2 hj p => ?_) (fun σ H2 p => ?_)⟩
        · obtain ⟨⟨v3, rfl⟩, s2, w2⟩ := p
          have la : (Str.ofString (toString (0 + (i : Int)))).length ≤ 4 := (rg_t (by omega) (by omega)).len
          have lb : (Str.ofString (toString (0 + (g : Int)))).length ≤ 4 := (rg_t (by omega) (by omega)).len
          have lc : (Str.ofString (toString ((1 : Int) + (j : Int)))).length ≤ 4 := (rg_t (by omega) (by omega)).len
          have q2 : ("+" : Str).length = 1 := by decide +kernel
          have q3 : ("*" : Str).length = 1 := by decide +kernel
          refine ⟨_, rfl, _, rfl, _, rfl, Nat.le_of_ble_eq_true rfl, fun p hp => ?_⟩
          have s3 := same_upd (o := .tup [.int (0 + (i : Nat)), .int (0 + (g : Nat)), .int (1 + (j : Nat))]) hp
          have e3 : upd H2 p (.tup [.int (0 + (i : Nat)), .int (0 + (g : Nat)), .int (1 + (j : Nat))]) p = some (tupI [0 + (i : Nat), 0 + (g : Nat), 1 + (j : Nat)]) := upd_same
          have w3 := w2.same s3
          generalize upd H2 p (.tup [.int (0 + (i : Nat)), .int (0 + (g : Nat)), .int (1 + (j : Nat))]) = H3 at s3 e3 w3 ⊢
          obtain ⟨kvs, ed, hl, w4⟩ := w3.put e3 (by omega) (by omega) (by omega) (by omega) (by omega)
          refine ⟨_, rfl, _, rfl, _, rfl, log_of (by omega), _, _, rfl, rfl, by rw [q2, sizeLine_eq]; omega, _, rfl, _, rfl, log_of (by omega), _, _, rfl, rfl, by rw [app_len, q2, sizeLine_eq]; omega, _, _, rfl, rfl, by rw [app_len, app_len, q2, q3, sizeLine_eq]; omega, _, rfl, _, rfl, log_of (by omega), _, _, rfl, rfl, by rw [app_len, app_len, app_len, q2, q3, sizeLine_eq]; omega, d, _, rfl, .k (k := .inr (bkK (0 + (i : Nat)) (0 + (g : Nat)) (1 + (j : Nat)))) ed (by rw [sizeLine_eq]; omega), ?_⟩
          refine ⟨⟨_, rfl⟩, fun c o ec => (upd_ne fun z => by rw [z, hd] at ec; cases ec).trans (s3 _ _ (s2 _ _ ec)), w4.mono (by omega) fun a b c h => ?_⟩
          omega
        · obtain ⟨⟨v3, rfl⟩, s2, w2⟩ := p
          exact ⟨⟨_, _, rfl⟩, s2, w2.mono (by omega) fun a b c h => by omega⟩
      · obtain ⟨⟨v2, v3, rfl⟩, s2, w2⟩ := p
        exact ⟨⟨_, _, _, rfl⟩, s2, w2.mono (by omega) fun a b c h => by omega⟩
    · obtain ⟨⟨v1, v2, v3, rfl⟩, s1, w1⟩ := p
      exact ⟨_, rfl, q d H' hd s1 (w1.whole fun a b c a0 a5 b0 c1 bc => ⟨a0, by omega, b0, c1, bc⟩)⟩
end
end Ov

set_option Elab.async false
set_option linter.all false
set_option maxRecDepth 100000
set_option maxHeartbeats 4000000
/-! _law_due -/
namespace Ov
open PySem PySem.Spec PyProof.Rows L2 GxR
abbrev sDuP : Stmt := top 36
abbrev NDuP : List Str := ["given", "backs", "spots", "found", "at", "word", "front", "back", "spot"]
theorem scDuP : FnScope NDuP ["given", "backs"] (defScope sDuP) := ⟨rfl, rfl, rfl, by decide +kernel, rfl, by decide +kernel, by decide +kernel⟩
/-- what is due stands at p -/
def DueP (H : Hp) (p : Addr) (ws : List Str) : Prop := match badR ws with
  | some i => H p = some (.tup [.str "at", .int (i : Nat)])
  | none => LT H p (allR ws)
theorem sameU {H : Hp} {p : Addr} {o : HO} (hp : H p = none) : L2.Same H (upd H p o) := same_upd hp
def spDuP : Sp := fun vs H Q _ => ∃ (given : Str) (d : Addr), vs = [.str given, .ref d] ∧ given.length ≤ 9000 ∧ Whole H d ∧ ∀ p H3, H p = none → L2.Same H H3 → DueP H3 p (Txt.split given oneSp) → Q (.ref p) H3
/-! the dict of the places -/
def spKV (n : Nat) : List (Key × V) := (List.range n).map fun (k : Nat) => (Sum.inr (sI (k : Int)), V.int (k : Int))
theorem spKV_val : ∀ n : Nat, n ≤ 120 → (∀ z v, valV (mergeK [] (spKV n)) (.inr z) = some v → ∃ k : Nat, k < n ∧ v = .int (k : Int) ∧ z = sI (k : Int)) ∧ ∀ k : Nat, k < n → (valV (mergeK [] (spKV n)) (.inr (sI (k : Int)))).isSome = true
  | 0, _ => ⟨(fun z v h => by cases h), fun k h => absurd h (Nat.not_lt_zero _)⟩
  | n + 1, hn => by
    obtain ⟨h1, h2⟩ := spKV_val n (by omega)
    have e : mergeK [] (spKV (n + 1)) = putK (mergeK [] (spKV n)) (.inr (sI (n : Int))) (.int (n : Int)) := by
      unfold spKV mergeK
      rw [List.range_succ, List.map_append, List.foldl_append]
      rfl
    rw [e]
    refine ⟨fun z v h => ?_, fun k hk => ?_⟩
    · rw [valV_put] at h
      by_cases hz : (Sum.inr z : Key) = .inr (sI (n : Int))
      · rw [if_pos hz] at h
        injection hz with hz
        exact ⟨n, by omega, (Option.some.inj h).symm, hz⟩
      · rw [if_neg hz] at h
        obtain ⟨k, h3, h4, h5⟩ := h1 z v h
        exact ⟨k, by omega, h4, h5⟩
    · rw [valV_put]
      by_cases hz : (Sum.inr (sI (k : Int)) : Key) = .inr (sI (n : Int))
      · rw [if_pos hz]; rfl
      · rw [if_neg hz]
        exact h2 k (by
          by_cases hkn : k = n
          · exact absurd (by rw [hkn]) hz
          · omega)
theorem spKV_num (z : Str) : valV (mergeK [] (spKV 120)) (.inr z) = (numOf z 0 119).map V.int := by
  obtain ⟨h1, h2⟩ := spKV_val 120 (Nat.le_refl _)
  cases hv : valV (mergeK [] (spKV 120)) (.inr z) with
  | some v =>
    obtain ⟨k, hk, rfl, rfl⟩ := h1 z v hv
    rw [numOf_of (by omega) (by omega) (by omega) (by omega)]; rfl
  | none =>
    cases hz : numOf z 0 119 with
    | none => rfl
    | some a =>
      obtain ⟨a0, a1, ea, _, _⟩ := numOf_some hz
      have := h2 a.toNat (by omega)
      rw [Int.toNat_of_nonneg a0, ea, hv] at this
      cases this
theorem paired_imp {α β : Type} {F G : α → β → Prop} (h : ∀ a b, F a b → G a b) {as : List α} {bs : List β} (p : Paired F as bs) : Paired G as bs := by
  induction p with
  | nil => exact .nil
  | cons h1 _ ih => exact .cons (h _ _ h1) ih
def PaK (H : Hp) (ps : List Addr) (n : Nat) : Prop := Paired (fun p (kv : Key × V) => H p = some (.tup [kV kv.1, kv.2])) ps (spKV n)
theorem PaK.same {H H2 : Hp} {ps : List Addr} {n : Nat} (h : PaK H ps n) (k : L2.Same H H2) : PaK H2 ps n := paired_imp (fun a b e => k _ _ e) h
theorem PaK.snoc {H : Hp} {ps : List Addr} {n : Nat} {p : Addr} (h : PaK H ps n) (e : H p = some (.tup [.str (sI (n : Int)), .int (n : Int)])) : PaK H (ps ++ [p]) (n + 1) := by
  have h1 : spKV (n + 1) = spKV n ++ [(Sum.inr (sI (n : Int)), V.int (n : Int))] := by
    unfold spKV
    rw [List.range_succ, List.map_append]; rfl
  unfold PaK
  rw [h1]
  exact Paired.snoc h e
theorem PaK.put {H : Hp} {ps : List Addr} {n : Nat} {r : Addr} {xs : List V} {o : HO} (h : PaK H ps n) (e : H r = some (.lst xs)) : PaK (upd H r o) ps n := paired_imp (fun a b e2 => (upd_ne fun z => by rw [z, e] at e2; cases e2).trans e2) h
def Spots (H : Hp) (s : Addr) : Prop := ∃ kvs : List (Key × V), H s = some (.dK kvs) ∧ ∀ z, valV kvs (.inr z) = (numOf z 0 119).map V.int
section
variable {P : Program} {w : World} {K : PySem.W.Frag} {mg : Str → Option Value} {base : Heap} {C fLow fText fAre fTape fNext fInks : Addr}
theorem ok_dup {f : Addr} {fd : FuncData} (F : L2.Fun K "_law_due" "_law_due" sDuP f fd) (X : Txt K mg C fLow fText fAre fTape fNext fInks) (XC : CdX mg) (hdic : mg "dict" = none) : FnOk P w K mg base CX0 1 f fd ["given", "backs"] spDuP := by
  refine F.ok scDuP (fun vs H Q E h => ?_) (fun cdv A outer s H vs Q E hr h => ?_)
  · obtain ⟨given, d, rfl, _⟩ := h
    rfl
  · obtain ⟨given, d, rfl, hl, wh, kQ⟩ := h
    have hu64 : (A.deeper (envOfC "_law_due" (defScope sDuP) s.heap.objs.size f cdv)).units + 64 < cLine := hr.units
    have hu : (A.deeper (envOfC "_law_due" (defScope sDuP) s.heap.objs.size f cdv)).units + 1 < cLine := by omega
    refine ⟨_, (pss_cons (ps_par (i := 2) (j := 3) rfl scDuP.nd rfl rfl (by decide) rfl rfl (pa_cons (pe_callTy (call_dictP rfl) (by rfl) hdic (by decide +kernel) (pa_cons (pe_lc (own := [("spot", 8)]) (g := gName 8) (tt := tYes) (by rfl) scDuP.nd (pi_range1 (by rfl) X.rng (pa_cons pe_int pa_nil)) (blkOk_by (own := [("spot", 8)]) (N := NDuP) (sc := defScope sDuP) (by decide +kernel)) (fun _ _ _ _ _ => pg_name (i := 8) scDuP.nd rfl (Or.inl rfl)) (fun _ _ _ _ _ => pts_nil) (fun _ _ _ _ _ => pe_tup (pa_cons (pe_callTy call_str_int (by rfl) X.str (by decide +kernel) (pa_cons (pv 8) pa_nil)) (pa_cons (pv 8) pa_nil)))) pa_nil)) (pa_cons (pe_lst pa_nil) pa_nil)) (by rfl))
      (pss_cons (ps_for PassesOwn.never rfl (pi_enum (by rfl) XC.enu (pa_cons (pe_split (pv 0) pe_str) pa_nil)) (pg_tup rfl (pgs_cons (pg_name (i := 4) scDuP.nd rfl (Or.inl rfl)) (pgs_cons (pg_name (i := 5) scDuP.nd rfl (Or.inl rfl)) pgs_nil))) (C8.pss_cut (ps_par (i := 6) (j := 7) rfl scDuP.nd rfl rfl (by decide) rfl rfl (pa_cons (pe_ix ix_seq (pe_split (pv 5) pe_str) pe_int fun _ _ => rfl) (pa_cons (pe_join pe_str (pe_slice sl_list (pe_split (pv 5) pe_str) (po_some pe_int) po_none)) pa_nil)) (by rfl))
      (pss_cons (ps_if ((pw_or (pt_cmpR op_notInS pe_str (pv 5) (by rfl)) (pw_or (pt_cmp (pc_dnotin hu (pv 6) (pv 2))) (pw_or1 (pt_cmp (pc_dnotin hu (pv 7) (pv 1)))))).pt) (pss_one (ps_ret (pe_tup (pa_cons pe_str (pa_cons (pv 4) pa_nil))))) pss_nil)
      (pss_cons (ps_if ((pw_and (pt_cmpR (op_neD hu64) (pv 3) (pe_lst pa_nil) (by rfl)) (pw_and1 (pt_cmpR op_le (pe_dget hu (pv 2) (pv 6) (fun _ _ => rfl)) (pe_ix ix_seq (pe_ix ix_seq (pv 3) (pe_un un_neg pe_int) fun _ _ => rfl) pe_int fun _ _ => rfl) (by rfl)))).pt) (pss_one (ps_ret (pe_tup (pa_cons pe_str (pa_cons (pv 4) pa_nil))))) pss_nil)
      (pss_one (ps_expr (pe_bm PySem.F.plainAttrs_list PySem.F.slot_list_append PySem.F.type_list_append mt_append (pv 3) (pa_cons (pe_tup (pa_cons (pe_dget hu (pv 2) (pv 6) (fun _ _ => rfl)) (pa_cons (pe_ix ix_seq (pe_dget hu (pv 1) (pv 7) (fun _ _ => rfl)) pe_int fun _ _ => rfl) (pa_cons (pe_ix ix_seq (pe_dget hu (pv 1) (pv 7) (fun _ _ => rfl)) pe_int fun _ _ => rfl) (pa_cons (pe_ix ix_seq (pe_dget hu (pv 1) (pv 7) (fun _ _ => rfl)) pe_int fun _ _ => rfl) pa_nil))))) pa_nil))))))))
      (pss_one (ps_ret (pv 3))))), ?_⟩
    refine ⟨120, rfl, by decide, by decide, fun D hD => ?_⟩
    refine lc_range (lo := 0) (n := 120) (fun j Hc => ∃ ps : List Addr, Hc D = some (.lst (ps.map V.ref)) ∧ ps.length = j ∧ PaK Hc ps j ∧ L2.Same H Hc) ⟨[], upd_same, rfl, .nil, sameU hD⟩ (fun j Hc hj p => ?_) (fun Hc p => ?_)
    · obtain ⟨ps, eD, pl, pk, sm⟩ := p
      refine ⟨rfl, ?_⟩
      unfold tYes
      refine iteT' (b := true) rfl ?_
      simp only [Int.zero_add]
      refine ⟨_, rfl, _, rfl, log_of (by omega), _, rfl, Nat.le_of_ble_eq_true rfl, fun p hp => ?_⟩
      have s1 := sameU (o := .tup [.str (sI (j : Int)), .int (j : Int)]) hp
      have e1 : upd Hc p (.tup [.str (sI (j : Int)), .int (j : Int)]) p = some (.tup [.str (sI (j : Int)), .int (j : Int)]) := upd_same
      have eD1 := s1 _ _ eD
      have pk1 := pk.same s1
      generalize hG : upd Hc p (.tup [.str (sI (j : Int)), .int (j : Int)]) = G at s1 e1 eD1 pk1
      have pD : p ≠ D := fun z => by rw [z, eD1] at e1; cases e1
      exact ⟨_, eD1, by rw [List.length_map, pl, sizeLine_eq]; omega, ps ++ [p], by rw [List.map_append]; exact upd_same, by rw [List.length_append, pl]; rfl, (pk1.put eD1).snoc ((upd_ne pD).trans e1), fun c o ec => (upd_ne fun z => by rw [z, hD] at ec; cases ec).trans (s1 _ _ (sm _ _ ec))⟩
    · obtain ⟨ps, eD, pl, pk, sm⟩ := p
      refine ⟨D, ps, spKV 120, rfl, .inl (.inl eD), paired_imp (fun a b e => .inl (.inl e)) pk, fun sp hsp => ?_⟩
      have s2 := sm.trans (sameU (o := .dK (mergeK [] (spKV 120))) hsp)
      have sps : Spots (upd Hc sp (.dK (mergeK [] (spKV 120)))) sp := ⟨_, upd_same, spKV_num⟩
      generalize upd Hc sp (.dK (mergeK [] (spKV 120))) = H1 at s2 sps ⊢
      refine ⟨Nat.le_of_ble_eq_true rfl, fun lr hlr => ?_⟩
      have lrn : H lr = none := s2.free hlr
      have s3 := s2.trans (sameU (o := .lst []) hlr)
      have e3 : upd H1 lr (.lst []) lr = some (.lst []) := upd_same
      have sp3 : Spots (upd H1 lr (.lst [])) sp := by
        obtain ⟨kvs, e, h⟩ := sps
        exact ⟨kvs, (upd_ne (ne_of_none e hlr)).trans e, h⟩
      have wh3 : Whole (upd H1 lr (.lst [])) d := wh.at fun a o _ e => s3 a o e
      generalize upd H1 lr (.lst []) = H2 at s3 e3 sp3 wh3 ⊢
      refine ⟨_, _, rfl, _, rfl, ⟨_, rfl⟩, given, oneSp, rfl, rfl, by decide +kernel, by rw [sizeLine_eq]; omega, fun ls hls => ?_⟩
      have hz : ∀ z ∈ Txt.split given oneSp, z.length ≤ 9000 := fun z hz => Nat.le_trans (split_le given z hz) hl
      have hwl : (Txt.split given oneSp).length ≤ 9001 := by
        have := split_sum given
        show (Txt.split given " ").length ≤ 9001
        omega
      generalize Txt.split given oneSp = ws at kQ hz hwl ⊢
      have s4 := sameU (o := .lst (ws.map V.str)) hls
      have f4 : upd H2 ls (.lst (ws.map V.str)) ls = some (.lst (ws.map V.str)) := upd_same
      have e4 := s4 _ _ e3
      have lsr : ls ≠ lr := (ne_of_none e3 hls).symm
      have sp4 : Spots (upd H2 ls (.lst (ws.map V.str))) sp := by
        obtain ⟨kvs, e, h⟩ := sp3
        exact ⟨kvs, s4 _ _ e, h⟩
      have wh4 : Whole (upd H2 ls (.lst (ws.map V.str))) d := wh3.at fun a o _ e => s4 a o e
      have k4 := s3.trans s4
      generalize upd H2 ls (.lst (ws.map V.str)) = H3 at s4 f4 e4 sp4 wh4 k4 ⊢
      refine ⟨ls, _, rfl, .inl (.inl f4), for_enumL (fun i σ Hx => (∃ v4 v5 v6 v7, σ = [some (.str given), some (.ref d), some (.ref sp), some (.ref lr), v4, v5, v6, v7, none]) ∧ LT Hx lr ((ws.take i).filterMap ptW) ∧ L2.Same H Hx ∧ Hx ls = some (.lst (ws.map V.str)) ∧ (Whole Hx d ∧ Spots Hx sp) ∧ ∀ j : Nat, j < i → okR ws j = true)
        ⟨⟨_, _, _, _, rfl⟩, ⟨[], e4, trivial⟩, k4, f4, ⟨wh4, sp4⟩, fun j hj => absurd hj (Nat.not_lt_zero _)⟩ (fun i σ Hx _ p => .inl (.inl p.2.2.2.1)) (fun i x σ Hx t hi p ht => ?_) (fun σ Hx p => ?_)⟩
      · obtain ⟨⟨v4, v5, v6, v7, rfl⟩, lt, kx, els, ⟨wx, sx⟩, hst⟩ := p
        rw [List.getElem?_map] at hi
        obtain ⟨z, hiz, rfl⟩ := Option.map_eq_some_iff.mp hi
        have hlt : i < ws.length := (List.getElem?_eq_some_iff.mp hiz).1
        have st := sameU (o := .tup [.int (i : Nat), .str z]) ht
        have kt := kx.trans st
        have els1 := st _ _ els
        have lt1 := lt.same st
        have wt : Whole (upd Hx t (.tup [.int (i : Nat), .str z])) d := wx.at fun a o _ e => st a o e
        have spt : Spots (upd Hx t (.tup [.int (i : Nat), .str z])) sp := by
          obtain ⟨kvs, e, h⟩ := sx
          exact ⟨kvs, st _ _ e, h⟩
        refine ⟨t, _, rfl, .inl (.inl upd_same), rfl, _, _, rfl, _, _, rfl, rfl, ?_⟩
        generalize upd Hx t (.tup [.int (i : Nat), .str z]) = Ht at kt els1 lt1 wt spt ⊢
        clear lt kx els st wx sx
        have zl := hz z (List.mem_of_getElem? hiz)
        have ss := split_sum58 z
        obtain ⟨fr, rs, hsp⟩ : ∃ fr rs, Txt.split z ":" = fr :: rs := by
          cases h : Txt.split z ":" with
          | nil => exact absurd h (split_ne58 z)
          | cons a b => exact ⟨a, b, rfl⟩
        rw [hsp] at ss
        simp only [List.map_cons, List.sum_cons, List.length_cons] at ss
        refine ⟨fun σ' Hy => σ' = [some (.str given), some (.ref d), some (.ref sp), some (.ref lr), some (.int (i : Nat)), some (.str z), some (.str fr), some (.str (Txt.join ":" rs)), none] ∧ L2.Same Ht Hy, ?_, ?_⟩
        · refine ⟨_, rfl, ⟨_, rfl⟩, z, ":", rfl, rfl, by decide +kernel, by rw [sizeLine_eq]; omega, fun s1 hs1 => ?_⟩
          rw [hsp]
          have q1 := sameU (o := .lst ((fr :: rs).map V.str)) hs1
          have g1 : upd Ht s1 (.lst ((fr :: rs).map V.str)) s1 = some (.lst ((fr :: rs).map V.str)) := upd_same
          generalize upd Ht s1 (.lst ((fr :: rs).map V.str)) = G1 at q1 g1 ⊢
          refine .inl ⟨s1, _, 0, .str fr, rfl, rfl, .inl (.inl g1), atI_nat (j := 0) rfl, ?_⟩
          refine ⟨⟨_, rfl⟩, _, rfl, ⟨_, rfl⟩, z, ":", rfl, rfl, by decide +kernel, by rw [sizeLine_eq]; omega, fun s2 hs2 => ?_⟩
          rw [hsp]
          have q2 := q1.trans (sameU (o := .lst ((fr :: rs).map V.str)) hs2)
          have g2 : upd G1 s2 (.lst ((fr :: rs).map V.str)) s2 = some (.lst ((fr :: rs).map V.str)) := upd_same
          generalize upd G1 s2 (.lst ((fr :: rs).map V.str)) = G2 at q2 g2 ⊢
          refine ⟨_, rfl, s2, _, rfl, .inl (.inl g2), fun s3 hs3 => ?_⟩
          have ct : cutV ((fr :: rs).map V.str) (some 1) none = rs.map V.str := by rw [List.map_cons]; exact cutV_tail _ _
          rw [ct]
          have q3 := q2.trans (sameU (o := .lst (rs.map V.str)) hs3)
          have g3 : upd G2 s3 (.lst (rs.map V.str)) s3 = some (.lst (rs.map V.str)) := upd_same
          generalize upd G2 s3 (.lst (rs.map V.str)) = G3 at q3 g3 ⊢
          refine ⟨":", s3, rs, rfl, rfl, .inl (.inl (.inl g3)), by rw [show (":" : Str).length = 1 by decide +kernel]; omega, ?_⟩
          exact ⟨_, _, rfl, rfl, q3⟩
        · rintro σ' Hy ⟨rfl, sy⟩
          have ky := kt.trans sy
          have els2 := sy _ _ els1
          have lt2 := lt1.same sy
          have wy : Whole Hy d := wt.at fun a o _ e => sy a o e
          obtain ⟨ks, esp, hks⟩ : Spots Hy sp := by
            obtain ⟨kvs, e, h⟩ := spt
            exact ⟨kvs, sy _ _ e, h⟩
          obtain ⟨kb, ed, hkb⟩ := id wy
          have bad : okR ws i = false → ∀ p, Hy p = none → Q (.ref p) (upd Hy p (.tup [.str "at", .int (i : Nat)])) := fun h p hp => by
            refine kQ p _ (ky.free hp) (ky.trans (sameU hp)) ?_
            unfold DueP
            rw [badR_some hlt hst h]
            exact upd_same
          have colE : (V.str ":" : V) = .str ⟨#[58]⟩ := congrArg V.str (by decide +kernel)
          refine ⟨_, rfl, 58, z, colE, rfl, _, rfl, ?_⟩
          by_cases hm : (58 : Nat) ∈ TL.tl z
          case neg =>
            refine iteT' (by show (!decide (58 ∈ TL.tl z)) = true; rw [decide_eq_false hm]; rfl) ?_
            have hb : okR ws i = false := by
              unfold okR
              rw [getD_at hiz, ptW_nocol hm]
            exact ⟨_, rfl, Nat.le_of_ble_eq_true rfl, bad hb⟩
          refine iteF' (by show (!decide (58 ∈ TL.tl z)) = false; rw [decide_eq_true hm]; rfl) ?_
          obtain ⟨p, q, ez, hn⟩ := first_of hm
          have ez : z = p ++ ":" ++ q := ez
          obtain ⟨rs2, e1, e2⟩ := split_col (p := p) (q := q) hn
          rw [← ez, hsp] at e1
          injection e1 with e1 e3
          subst e1 e3
          rw [e2]
          have hpt := ptW_col (p := fr) (q := q) hn
          rw [← ez] at hpt
          refine ⟨_, rfl, _, rfl, sp, _, rfl, .inl ⟨ks, .inr fr, .inl esp, rfl, rfl⟩, _, rfl, ?_⟩
          rw [hks]
          cases ha : numOf fr 0 119 with
          | none =>
            rw [ha] at hpt
            refine iteT' rfl ⟨_, rfl, Nat.le_of_ble_eq_true rfl, bad ?_⟩
            unfold okR
            rw [getD_at hiz, hpt]
          | some a =>
            refine iteF' rfl ?_
            refine ⟨_, rfl, _, rfl, d, _, rfl, .inl ⟨kb, .inr q, .inl ed, rfl, rfl⟩, _, rfl, ?_⟩
            have hq := hkb q
            cases hv : valV kb (.inr q) with
            | none =>
              rw [hv] at hq
              rw [ha, hq] at hpt
              refine iteT' rfl ⟨_, rfl, Nat.le_of_ble_eq_true rfl, bad ?_⟩
              unfold okR
              rw [getD_at hiz, hpt]
            | some v =>
              rw [hv] at hq
              obtain ⟨pb, xb, rfl, epb, hxb⟩ := hq
              rw [ha, hxb] at hpt
              obtain ⟨b, c, e, rfl, _, _⟩ := bkW_some hxb
              have hx : ptW z = some [a, b, c, e] := hpt
              have hxi : ptW (ws.getD i Str.empty) = some [a, b, c, e] := by rw [getD_at hiz]; exact hx
              refine iteF' rfl ?_
              refine ⟨_, rfl, Nat.le_of_ble_eq_true rfl, fun q0 hq0 => ?_⟩
              have s0 := sameU (o := .lst []) hq0
              have kd := ky.trans s0
              have els3 := s0 _ _ els2
              have lt3 := lt2.same s0
              have wd : Whole (upd Hy q0 (.lst [])) d := wy.at fun a o _ e => s0 a o e
              have ed3 := s0 _ _ ed
              have esp3 := s0 _ _ esp
              have epb3 := s0 _ _ epb
              refine ⟨_, .list [], lt3.dp, .lst (.inl (.inl upd_same)) .nil, ltD_shaped _, by decide, _, rfl, ?_⟩
              rw [ltD_nil]
              have badd : okR ws i = false → ∀ p, upd Hy q0 (.lst []) p = none → Q (.ref p) (upd (upd Hy q0 (.lst [])) p (.tup [.str "at", .int (i : Nat)])) := fun h p hp => by
                refine kQ p _ (kd.free hp) (kd.trans (sameU hp)) ?_
                unfold DueP
                rw [badR_some hlt hst h]
                exact upd_same
              generalize upd Hy q0 (.lst []) = Hd at s0 kd els3 lt3 wd ed3 esp3 epb3 badd ⊢
              obtain ⟨ps, el, ta⟩ := id lt3
              by_cases h0 : i = 0
              · subst h0
                have hg : okR ws 0 = true := by
                  unfold okR
                  rw [hxi]
                  obtain ⟨a0, _⟩ := numOf_some ha
                  exact decide_eq_true (by show prevR ws 0 < a; unfold prevR; rw [if_pos rfl]; omega)
                refine iteF' (by simp) (iteF ?_)
                refine ⟨_, rfl, .inl ⟨rfl, _, .inl (.inl el)⟩, _, rfl, _, rfl, sp, .int a, rfl, .inl ⟨ks, .inr fr, .inl esp3, rfl, by rw [hks, ha]; rfl⟩, ?_⟩
                refine ⟨_, rfl, _, rfl, d, .ref pb, rfl, .inl ⟨kb, .inr q, .inl ed3, rfl, hv.symm⟩, .inr (.inl ⟨pb, _, 0, .int b, rfl, rfl, .inl (.inl epb3), atI_nat (j := 0) rfl, ?_⟩)⟩
                refine ⟨_, rfl, _, rfl, d, .ref pb, rfl, .inl ⟨kb, .inr q, .inl ed3, rfl, hv.symm⟩, .inr (.inl ⟨pb, _, 1, .int c, rfl, rfl, .inl (.inl epb3), atI_nat (j := 1) rfl, ?_⟩)⟩
                refine ⟨_, rfl, _, rfl, d, .ref pb, rfl, .inl ⟨kb, .inr q, .inl ed3, rfl, hv.symm⟩, .inr (.inl ⟨pb, _, 2, .int e, rfl, rfl, .inl (.inl epb3), atI_nat (j := 2) rfl, ?_⟩)⟩
                refine ⟨Nat.le_of_ble_eq_true rfl, fun pn hpn => ?_⟩
                have sn := sameU (o := .tup [.int a, .int b, .int c, .int e]) hpn
                have en : upd Hd pn (.tup [.int a, .int b, .int c, .int e]) pn = some (tupI [a, b, c, e]) := upd_same
                have kn := kd.trans sn
                have elsn := sn _ _ els3
                have eln := sn _ _ el
                have tan := ta.at fun a o _ e => sn a o e
                have wn : Whole (upd Hd pn (.tup [.int a, .int b, .int c, .int e])) d := wd.at fun a o _ e => sn a o e
                have espn := sn _ _ esp3
                generalize upd Hd pn (.tup [.int a, .int b, .int c, .int e]) = Hn at sn en kn elsn eln tan wn espn ⊢
                refine ⟨lr, _, _, rfl, rfl, eln, ?_, ?_⟩
                · rw [List.length_map, ta.len, sizeLine_eq]
                  have := List.length_filterMap_le ptW (ws.take 0)
                  rw [List.length_take] at this
                  omega
                have pl : pn ≠ lr := fun z => by rw [z, eln] at en; cases en
                have nl : ∀ {x : Addr} {o : HO}, Hn x = some o → (∀ xs, o ≠ .lst xs) → upd Hn lr (.lst (ps.map V.ref ++ [.ref pn])) x = some o := fun {x o} e h => (upd_ne fun z => by rw [z, eln] at e; exact h _ (Option.some.inj e).symm).trans e
                refine ⟨⟨_, _, _, _, rfl⟩, ⟨ps ++ [pn], by rw [List.map_append]; exact upd_same, ?_⟩, fun c o ec => (upd_ne fun z => by rw [z, lrn] at ec; cases ec).trans (kn _ _ ec), (upd_ne lsr).trans elsn, ⟨?_, ⟨ks, nl espn (fun _ z => by cases z), hks⟩⟩, fun j hj => ?_⟩
                · rw [take_ptW hiz hx]
                  exact TsA.snoc ((upd_ne pl).trans en) (tan.put eln)
                · obtain ⟨kvs, ew, hw⟩ := wn
                  refine ⟨kvs, nl ew (fun _ z => by cases z), fun y => ?_⟩
                  have h3 := hw y
                  cases hy : valV kvs (.inr y) with
                  | none => rw [hy] at h3; exact h3
                  | some v =>
                    rw [hy] at h3
                    obtain ⟨p2, x2, e3, e4, e5⟩ := h3
                    exact ⟨p2, x2, e3, nl e4 (fun _ z => by cases z), e5⟩
                · by_cases hji : j = 0
                  · rw [hji]; exact hg
                  · exact hst j (by omega)
              · obtain ⟨m, rfl⟩ : ∃ m, i = m + 1 := ⟨i - 1, by omega⟩
                obtain ⟨y, hy, _⟩ := okR_some (hst m (by omega))
                obtain ⟨z', hz'⟩ : ∃ z', ws[m]? = some z' := ⟨_, List.getElem?_eq_getElem (by omega)⟩
                rw [getD_at hz'] at hy
                have tk := take_ptW hz' hy
                obtain ⟨ps', pl', eps, epl⟩ := TsA.last (tk ▸ ta)
                obtain ⟨a', b', c', e', rfl, _, _⟩ := ptW_some hy
                have pv : prevR ws (m + 1) = a' := prevR_succ (by rw [getD_at hz']; exact hy)
                refine iteT' (by rw [tk]; simp) ?_
                refine ⟨_, rfl, _, rfl, sp, .int a, rfl, .inl ⟨ks, .inr fr, .inl esp3, rfl, by rw [hks, ha]; rfl⟩, ?_⟩
                refine ⟨_, rfl, _, rfl, .inl ⟨lr, _, -1, .ref pl', rfl, rfl, .inl (.inl el), ?_, ?_⟩⟩
                · rw [eps, List.map_append]
                  exact L2.atI_last _ _
                refine .inr (.inl ⟨pl', _, 0, .int a', rfl, rfl, .inl (.inl epl), atI_nat (j := 0) rfl, _, _, rfl, rfl, _, rfl, ?_⟩)
                by_cases h2 : a ≤ a'
                · refine iteT' (by simpa using h2) ?_
                  have hb : okR ws (m + 1) = false := by
                    unfold okR
                    rw [hxi, pv]
                    exact decide_eq_false (by show ¬ a' < a; omega)
                  exact ⟨_, rfl, Nat.le_of_ble_eq_true rfl, badd hb⟩
                · have hg : okR ws (m + 1) = true := by
                    unfold okR
                    rw [hxi, pv]
                    exact decide_eq_true (by show a' < a; omega)
                  refine iteF' (by simpa using h2) ?_
                  refine ⟨_, rfl, .inl ⟨rfl, _, .inl (.inl el)⟩, _, rfl, _, rfl, sp, .int a, rfl, .inl ⟨ks, .inr fr, .inl esp3, rfl, by rw [hks, ha]; rfl⟩, ?_⟩
                  refine ⟨_, rfl, _, rfl, d, .ref pb, rfl, .inl ⟨kb, .inr q, .inl ed3, rfl, hv.symm⟩, .inr (.inl ⟨pb, _, 0, .int b, rfl, rfl, .inl (.inl epb3), atI_nat (j := 0) rfl, ?_⟩)⟩
                  refine ⟨_, rfl, _, rfl, d, .ref pb, rfl, .inl ⟨kb, .inr q, .inl ed3, rfl, hv.symm⟩, .inr (.inl ⟨pb, _, 1, .int c, rfl, rfl, .inl (.inl epb3), atI_nat (j := 1) rfl, ?_⟩)⟩
                  refine ⟨_, rfl, _, rfl, d, .ref pb, rfl, .inl ⟨kb, .inr q, .inl ed3, rfl, hv.symm⟩, .inr (.inl ⟨pb, _, 2, .int e, rfl, rfl, .inl (.inl epb3), atI_nat (j := 2) rfl, ?_⟩)⟩
                  refine ⟨Nat.le_of_ble_eq_true rfl, fun pn hpn => ?_⟩
                  have sn := sameU (o := .tup [.int a, .int b, .int c, .int e]) hpn
                  have en : upd Hd pn (.tup [.int a, .int b, .int c, .int e]) pn = some (tupI [a, b, c, e]) := upd_same
                  have kn := kd.trans sn
                  have elsn := sn _ _ els3
                  have eln := sn _ _ el
                  have tan := ta.at fun a o _ e => sn a o e
                  have wn : Whole (upd Hd pn (.tup [.int a, .int b, .int c, .int e])) d := wd.at fun a o _ e => sn a o e
                  have espn := sn _ _ esp3
                  generalize upd Hd pn (.tup [.int a, .int b, .int c, .int e]) = Hn at sn en kn elsn eln tan wn espn ⊢
                  refine ⟨lr, _, _, rfl, rfl, eln, ?_, ?_⟩
                  · rw [List.length_map, ta.len, sizeLine_eq]
                    have := List.length_filterMap_le ptW (ws.take (m + 1))
                    rw [List.length_take] at this
                    omega
                  have pl : pn ≠ lr := fun z => by rw [z, eln] at en; cases en
                  have nl : ∀ {x : Addr} {o : HO}, Hn x = some o → (∀ xs, o ≠ .lst xs) → upd Hn lr (.lst (ps.map V.ref ++ [.ref pn])) x = some o := fun {x o} e h => (upd_ne fun z => by rw [z, eln] at e; exact h _ (Option.some.inj e).symm).trans e
                  refine ⟨⟨_, _, _, _, rfl⟩, ⟨ps ++ [pn], by rw [List.map_append]; exact upd_same, ?_⟩, fun c o ec => (upd_ne fun z => by rw [z, lrn] at ec; cases ec).trans (kn _ _ ec), (upd_ne lsr).trans elsn, ⟨?_, ⟨ks, nl espn (fun _ z => by cases z), hks⟩⟩, fun j hj => ?_⟩
                  · rw [take_ptW hiz hx]
                    exact TsA.snoc ((upd_ne pl).trans en) (tan.put eln)
                  · obtain ⟨kvs, ew, hw⟩ := wn
                    refine ⟨kvs, nl ew (fun _ z => by cases z), fun y => ?_⟩
                    have h3 := hw y
                    cases hy : valV kvs (.inr y) with
                    | none => rw [hy] at h3; exact h3
                    | some v =>
                      rw [hy] at h3
                      obtain ⟨p2, x2, e3, e4, e5⟩ := h3
                      exact ⟨p2, x2, e3, nl e4 (fun _ z => by cases z), e5⟩
                  · by_cases hji : j = m + 1
                    · rw [hji]; exact hg
                    · exact hst j (by omega)
      · obtain ⟨⟨v4, v5, v6, v7, rfl⟩, lt, kx, els, _, hst⟩ := p
        rw [List.length_map] at lt hst
        rw [List.take_length] at lt
        refine ⟨_, rfl, kQ lr Hx lrn kx ?_⟩
        unfold DueP
        rw [badR_none hst]
        exact lt
end
end Ov

set_option Elab.async false
set_option linter.all false
set_option maxRecDepth 100000
set_option maxHeartbeats 4000000
/-! rules whose reading names the written part, with that part told (for blocks: comprehensions, a try's body) -/
namespace Ov
open PySem PySem.Spec PyProof.Rows L2 GxR
section
variable {X : Cx} {K : PySem.W.Frag}
theorem ix_K (h : X.K = K) : IxR X (rIx K) := by subst h; exact ix_seq
def rLenS (K : PySem.W.Frag) : List V → Hp → VK → Prop := fun xs H Q => ∃ p ys, xs = [.ref p] ∧ (SqL K H p ys ∨ SqT K H p ys) ∧ Q (.int ys.length) H
theorem len_K (h : X.K = K) : CallR X (.builtin "len") (rLenS K) := by subst h; exact call_len_seq
theorem isi_K (h : X.K = K) : CallR X (.builtin "isinstance") (rIsi K) := by subst h; exact call_isi
theorem in_K (h : X.K = K) : OpR X (compareOp .In) (rIn K false) := by subst h; exact op_in_seq
theorem notIn_K (h : X.K = K) : OpR X (compareOp .NotIn) (rIn K true) := by subst h; exact op_notIn_seq
theorem sl_K (h : X.K = K) : SlR X (rSlL K) := by subst h; exact sl_list
theorem eqD_K (h : X.K = K) (hu : X.A.units + 64 < cLine) : OpR X (compareOp .Eq) (rEqD K) := by subst h; exact op_eqD hu
theorem neD_K (h : X.K = K) (hu : X.A.units + 64 < cLine) : OpR X (compareOp .NotEq) (rNeD K) := by subst h; exact op_neD hu
end
end Ov

set_option Elab.async false
set_option linter.all false
set_option maxRecDepth 100000
set_option maxHeartbeats 4000000
/-! _law_told -/
namespace Ov
open PySem PySem.Spec PyProof.Rows L2 GxR
abbrev sTl : Stmt := top 37
abbrev NTl : List Str := ["given", "named", "e"]
theorem scTl : FnScope NTl ["given", "named"] (defScope sTl) := ⟨rfl, rfl, rfl, by decide +kernel, rfl, by decide +kernel, by decide +kernel⟩
def spTl (T : List Addr) : Sp := fun vs H Q _ => ∃ (given : Str) (nm : Bool), vs = [.str given, .bl nm] ∧ (∀ p ∈ T, TabG H p) ∧ given.length ≤ 9000 ∧
  ∀ p H3, H p = none → Kep T H H3 → DueP H3 p (Txt.split given oneSp) → Q (.ref p) H3
abbrev gRd : List Value → List Value → List Value := fun _ ws => [ws.getD 0 .none]
abbrev gRdV : List V → List V → List V := fun _ zs => [zs.getD 0 .non]
theorem rd_kw {K : PySem.W.Frag} {f : Addr} {fd : FuncData} (F : L2.Fun K "read_parts" "read_parts" sRdR f fd) : KBn K fd ["code"] 0 ["code"] gRd gRdV := by
  obtain ⟨oc, od, kV, doc, pm, an, cdv, ct, osl, rfl, lk, hcd⟩ := F.ex
  refine ⟨fun s us ws _ h1 h2 => ?_, fun r1 r2 => .cons (valsGet r2 0) .nil⟩
  match us, ws, h1, h2 with
  | [], [b], _, _ => exact BindsTo.of_eq rfl
section
variable {P : Program} {w : World} {K : PySem.W.Frag} {mg : Str → Option Value} {base : Heap} {T : List Addr} {C fLow fText fAre fTape fNext fInks CI fII cc cda SE fRd fRA : Addr} {Dk : Nat → Addr}
theorem ok_tl {f : Addr} {fd fdRd fdRA : FuncData} (F : L2.Fun K "_law_told" "_law_told" sTl f fd) (FRd : L2.Fun K "read_parts" "read_parts" sRdR fRd fdRd) (RD : FnOk P w K mg base (L2.CX P w) 4 fRd fdRd ["code"] (spRdR T CI)) (FRA : L2.Fun K "_law_read_at" "_law_read_at" sRA fRA fdRA)
    (X : Txt K mg C fLow fText fAre fTape fNext fInks) (I : IcK P K mg CI fII cc cda) (R : RaK K mg CI Dk) (Se : SeK K mg SE CI)
    (gRd' : mg "read_parts" = some (.ref fRd)) (kRd : PySem.W.keepIn K (.ref fRd) = true) (gRA : mg "_law_read_at" = some (.ref fRA)) (kRA : PySem.W.keepIn K (.ref fRA) = true) : FnOk P w K mg base CX0 5 f fd ["given", "named"] (spTl T) := by
  have bRd : Binds K fdRd ["code"] [] := FRd.binds fun _ _ _ _ _ _ us hl => match us, hl with | [_], _ => rfl
  have bRA : Binds K fdRA ["e"] [] := FRA.binds fun _ _ _ _ _ _ us hl => match us, hl with | [_], _ => rfl
  have RA := ok_RA (P := P) (w := w) (base := base) FRA X I R
  refine F.ok scTl (fun vs H Q E h => ?_) (fun cdv A' outer s H vs Q E hr h => ?_)
  · obtain ⟨given, nm, rfl, _⟩ := h
    rfl
  · obtain ⟨given, nm, rfl, hT, hl, kQ⟩ := h
    have hr3 : Room 3 (A'.deeper (envOfC "_law_told" (defScope sTl) s.heap.objs.size f cdv)) := hr.mono (by decide)
    refine ⟨_, pss_one (ps_try_firstB (i := 2) (c := .ref SE) rfl rfl scTl.nd rfl rfl ⟨rfl, by decide, .inl Se.g⟩
      (fun W pn xe tk _ => pss_one (ps_ret (pe_ifExp (pt_val (pv 1)) (pe_callK0S RD hr (by rfl) gRd' kRd (rd_kw FRd) (fun σ => passAt tk σ) (pk_cons (pv 0) pk_nil)) (pe_callS RD hr (by rfl) gRd' kRd bRd (fun σ => passAt tk σ) (pa_cons (pv 0) pa_nil)))))
      (fun b ob cls d pn hz hf nb => pss_one (ps_ret (pe_callQXz (X := ((cxOf CX0 P w K mg base NTl "_law_told" (defScope sTl) f cdv A' outer s H E).nox.suite b ((b, ob) :: pn))) (a := b) (oe := ob) hz hf List.mem_cons_self nb RA (roomS hr3) (by rfl) gRA kRA bRA (pa_cons (pv 2) pa_nil))))), ?_⟩
    have err : ∀ (i : Nat) (d : Addr) (H3 : Hp), badR (Txt.split given oneSp) = some i → H3 d = some (.xd [("at", .int (i : Nat))]) → Kep T H H3 → ∀ b, H3 b = none → ∀ oe, Zc (.ref CI) (some d) oe → (∃ vs, oe.data = .fields vs) →
        spRA CI [.ref b] (upd H3 b (Fz oe b)) (fun v H2 => H2 b = some (Fz oe b) → Q v (Ov.del H2 b)) E0 := fun i d H3 hb hxd k b hb3 oe hz hf => by
      refine ⟨b, i, rfl, ⟨oe, d, upd_same, hz.1, hz.2, hf, (upd_ne (ne_of_none hxd hb3)).trans hxd⟩, fun p H' hp sm et e2 => ?_⟩
      have hpb : p ≠ b := fun z => by rw [z, upd_same] at hp; cases hp
      have hp3 : H3 p = none := (upd_ne hpb).symm.trans hp
      have s3 : ∀ {c : Addr} {o : HO}, H3 c = some o → c ≠ b ∧ H' c = some o := fun {c o} e => ⟨ne_of_none e hb3, sm _ _ ((upd_ne (ne_of_none e hb3)).trans e)⟩
      refine kQ p _ (k.free hT hp3) ⟨fun q hq => ?_, fun c o hc e => ?_⟩ (by unfold DueP; rw [hb]; exact (del_ne hpb).trans et)
      · obtain ⟨ps, h1, h2⟩ := k.1 q hq
        obtain ⟨n1, n2⟩ := s3 h1
        exact ⟨ps, (del_ne n1).trans n2, h2⟩
      · obtain ⟨n1, n2⟩ := s3 (k.2 c o hc e)
        exact (del_ne n1).trans n2
    have good : ∀ (r : Addr) (H3 : Hp), badR (Txt.split given oneSp) = none → H r = none → LT H3 r (allR (Txt.split given oneSp)) → Kep T H H3 → Q (.ref r) H3 := fun r H3 hb hr lt k => kQ r H3 hr k (by unfold DueP; rw [hb]; exact lt)
    cases nm
    · refine ⟨_, rfl, _, rfl, iteF ?_⟩
      exact ⟨_, rfl, given, rfl, hT, hl, fun i hb d H3 hd hxd k => ⟨Se.ex, fun b hb3 => ⟨_, rfl, fun oe hz hf => err i d H3 hb hxd k b hb3 oe hz hf⟩⟩, fun hb r H3 h1 lt k => good r H3 hb h1 lt k⟩
    · refine ⟨_, rfl, _, rfl, iteT ?_⟩
      exact ⟨_, rfl, rfl, given, rfl, hT, hl, fun i hb d H3 hd hxd k => ⟨Se.ex, fun b hb3 => ⟨_, rfl, fun oe hz hf => err i d H3 hb hxd k b hb3 oe hz hf⟩⟩, fun hb r H3 h1 lt k => good r H3 hb h1 lt k⟩
end
end Ov

set_option Elab.async false
set_option linter.all false
set_option maxRecDepth 100000
set_option maxHeartbeats 4000000
/-! _law_right -/
namespace Ov
open PySem PySem.Spec PyProof.Rows L2 GxR
abbrev sRt : Stmt := top 38
theorem okR_hd {ws : List Str} (h : ∀ j : Nat, j < ws.length → okR ws j = true) : ∀ j : Nat, j < ws.length → ∃ y, ptW (ws.getD j Str.empty) = some y ∧ (j : Int) ≤ y.headD 0
  | 0, hj => by
    obtain ⟨y, e, hp⟩ := okR_some (h 0 hj)
    refine ⟨y, e, ?_⟩
    unfold prevR at hp
    rw [if_pos rfl] at hp
    omega
  | j + 1, hj => by
    obtain ⟨x, e1, h1⟩ := okR_hd h j (by omega)
    obtain ⟨y, e, hp⟩ := okR_some (h (j + 1) hj)
    rw [prevR_succ e1] at hp
    exact ⟨y, e, by omega⟩
theorem badP_lt {ws : List Str} {i : Nat} (h : badR ws = some i) : i ≤ ws.length + 1 := by
  unfold badR at h
  have := List.mem_range.mp (List.mem_of_find?_eq_some h)
  omega
theorem keys_back : ∀ {ws : List Str}, (∀ z ∈ ws, (ptW z).isSome = true) → (ws.filterMap ptW).map keyL = ws ∧ (ws.filterMap ptW).length = ws.length ∧ ∀ x ∈ ws.filterMap ptW, Two x
  | [], _ => ⟨rfl, rfl, fun x hx => by cases hx⟩
  | z :: ws, h => by
    obtain ⟨i1, i2, i3⟩ := keys_back (ws := ws) fun y hy => h y (List.mem_cons_of_mem _ hy)
    have hz := h z List.mem_cons_self
    cases hx : ptW z with
    | none => rw [hx] at hz; cases hz
    | some x =>
      obtain ⟨a, b, c, d, rfl, rfl, a0, a1, b0, b5, c0, d1, cd⟩ := ptW_some hx
      rw [List.filterMap_cons_some hx]
      refine ⟨?_, ?_, fun y hy => ?_⟩
      · rw [List.map_cons, i1]; rfl
      · rw [List.length_cons, List.length_cons, i2]
      · rcases List.mem_cons.mp hy with rfl | hy
        · exact ⟨a, b, c, d, rfl, ⟨by omega, by omega⟩, ⟨by omega, by omega⟩, ⟨by omega, by omega⟩, by omega, by omega⟩
        · exact i3 y hy
theorem Two.sm {x : List Int} (h : Two x) : SmAll x := by
  obtain ⟨a, b, c, d, rfl, ⟨a0, a1⟩, ⟨b0, b1⟩, ⟨c0, c1⟩, d0, d1⟩ := h
  refine ⟨Nat.le_of_ble_eq_true rfl, fun i hi => ?_⟩
  simp only [List.mem_cons, List.not_mem_nil, or_false] at hi
  rcases hi with rfl | rfl | rfl | rfl
  · exact ⟨a0, a1⟩
  · exact ⟨b0, b1⟩
  · exact ⟨c0, c1⟩
  · exact ⟨d0, d1⟩
/-- what a good code's list is: it is written as the code, and small -/
theorem good_all {given : Str} (h : badR (Txt.split given oneSp) = none) : codeL (allR (Txt.split given oneSp)) = given ∧ (allR (Txt.split given oneSp)).length ≤ 200 ∧ ∀ x ∈ allR (Txt.split given oneSp), Two x := by
  have hj : Txt.join oneSp (Txt.split given oneSp) = given := join_split given
  generalize Txt.split given oneSp = ws at h hj ⊢
  unfold badR at h
  rw [List.find?_eq_none] at h
  have ok : ∀ j : Nat, j < ws.length → okR ws j = true := fun j hj => by
    have := h j (List.mem_range.mpr hj)
    simpa using this
  have some' : ∀ z ∈ ws, (ptW z).isSome = true := fun z hz => by
    obtain ⟨j, hj, e⟩ := List.mem_iff_getElem.mp hz
    obtain ⟨y, e2, _⟩ := okR_some (ok j hj)
    rw [getD_at (by rw [List.getElem?_eq_getElem hj, e])] at e2
    rw [e2]; rfl
  obtain ⟨k1, k2, k3⟩ := keys_back some'
  unfold allR codeL
  refine ⟨by rw [k1, hj], ?_, k3⟩
  rw [k2]
  by_cases h0 : ws.length = 0
  · omega
  · obtain ⟨y, e, hy⟩ := okR_hd ok (ws.length - 1) (by omega)
    obtain ⟨a, b, c, d, rfl, _, a0, a1, _⟩ := ptW_some e
    have hy : ((ws.length - 1 : Nat) : Int) ≤ a := hy
    omega
theorem good_ok {given : Str} (h : badR (Txt.split given oneSp) = none) : PyData.strOk given = true := by
  obtain ⟨e, _, h3⟩ := good_all h
  have : Plain (codeL (allR (Txt.split given oneSp))) := by
    refine plain_join (asc_of (by decide +kernel)) fun z hz => ?_
    obtain ⟨x, hx, rfl⟩ := List.mem_map.mp hz
    obtain ⟨a, b, c, d, rfl, ⟨a0, a1⟩, ⟨b0, b1⟩, ⟨c0, c1⟩, d0, d1⟩ := h3 x hx
    exact plain_app (plain_app (plain_app (plain_app (plain_app (plain_app (rg_t a0 a1).asc (asc_of (by decide +kernel))) (rg_t b0 b1).asc) (asc_of (by decide +kernel))) (rg_t c0 c1).asc) (asc_of (by decide +kernel))) (rg_t d0 d1).asc
  rw [e] at this
  exact plain_ok this
theorem goodTwo {x : List Int} (h : Two x) : SmAll x := h.sm

/-- the data of what is due -/
def dueD (ws : List Str) : PyData := match badR ws with
  | some i => .tuple [.str "at", .int (i : Nat)]
  | none => ltD (allR ws)
theorem DueP.dp {K : PySem.W.Frag} {H : Hp} {p : Addr} {ws : List Str} (h : DueP H p ws) : Dp K H (.ref p) (dueD ws) := by
  unfold DueP at h
  unfold dueD
  cases hb : badR ws with
  | some i =>
    rw [hb] at h
    exact .tup (.inl (.inl h)) (.cons (.str _) (.cons (.int _) .nil))
  | none =>
    rw [hb] at h
    exact h.dp
theorem DueP.at {H H2 : Hp} {p : Addr} {ws : List Str} (k : ∀ a o, (∀ ps, o ≠ HO.tbl ps) → H a = some o → H2 a = some o) (h : DueP H p ws) : DueP H2 p ws := by
  unfold DueP at h ⊢
  cases hb : badR ws with
  | some i =>
    rw [hb] at h
    exact k _ _ (fun _ z => by cases z) h
  | none =>
    rw [hb] at h
    exact LT.at k h
theorem due_sm {given : Str} (hl : given.length ≤ 9000) : SmW (dueD (Txt.split given oneSp)) 7000 ∧ (dueD (Txt.split given oneSp)).depth ≤ 9 := by
  unfold dueD
  cases hb : badR (Txt.split given oneSp) with
  | some i =>
    have hwl : (Txt.split given oneSp).length ≤ 9001 := by
      have := split_sum given
      show (Txt.split given " ").length ≤ 9001
      omega
    have := badP_lt hb
    refine ⟨smw_at (by omega), ?_⟩
    show max 0 (max 0 0) + 1 ≤ 9
    decide
  | none =>
    obtain ⟨_, h2, h3⟩ := good_all hb
    exact ⟨smw_lt (by omega) fun x hx => goodTwo (h3 x hx), LT.depth⟩
theorem LT.put {H : Hp} {r q : Addr} {xs : List V} {o : HO} {l : List (List Int)} (h : LT H r l) (e : H q = some (.lst xs)) (hne : r ≠ q) : LT (upd H q o) r l := by
  obtain ⟨ps, e1, ta⟩ := h
  exact ⟨ps, (upd_ne hne).trans e1, ta.put e⟩
abbrev NRt : List Str := ["given", "backs", "due", "told", "first", "kept"]
theorem scRt : FnScope NRt ["given", "backs"] (defScope sRt) := ⟨rfl, rfl, rfl, by decide +kernel, rfl, by decide +kernel, by decide +kernel⟩
def spRt (T : List Addr) : Sp := fun vs H Q _ => ∃ (given : Str) (d : Addr), vs = [.str given, .ref d] ∧ (∀ p ∈ T, TabG H p) ∧ given.length ≤ 9000 ∧ Whole H d ∧ ∀ H3, Kep T H H3 → Q (.bl true) H3
abbrev gWr : List Value → List Value → List Value := fun _ ws => [ws.getD 0 .none]
abbrev gWrV : List V → List V → List V := fun _ zs => [zs.getD 0 .non]
theorem wr_kw {K : PySem.W.Frag} {f : Addr} {fd : FuncData} (F : L2.Fun K "write_parts" "write_parts" sWrR f fd) : KBn K fd ["parts"] 0 ["parts"] gWr gWrV := by
  obtain ⟨oc, od, kV, doc, pm, an, cdv, ct, osl, rfl, lk, hcd⟩ := F.ex
  refine ⟨fun s us ws _ h1 h2 => ?_, fun r1 r2 => .cons (valsGet r2 0) .nil⟩
  match us, ws, h1, h2 with
  | [], [b], _, _ => exact BindsTo.of_eq rfl
theorem kepSame {T : List Addr} {H H3 : Hp} (hT : ∀ q ∈ T, TabG H q) (s : L2.Same H H3) : Kep T H H3 := ⟨fun q hq => by
  obtain ⟨ps, h1, h2⟩ := hT q hq
  exact ⟨ps, s _ _ h1, h2⟩, fun b o _ e => s b o e⟩
structure RtK (K : PySem.W.Frag) (mg : Str → Option Value) (fDu fTl fRd fWr : Addr) : Prop where
  rep : mg "repr" = none
  gDu : mg "_law_due" = some (.ref fDu)
  kDu : PySem.W.keepIn K (.ref fDu) = true
  gTl : mg "_law_told" = some (.ref fTl)
  kTl : PySem.W.keepIn K (.ref fTl) = true
  gRd : mg "read_parts" = some (.ref fRd)
  kRd : PySem.W.keepIn K (.ref fRd) = true
  gWr : mg "write_parts" = some (.ref fWr)
  kWr : PySem.W.keepIn K (.ref fWr) = true
theorem strs_shaped {a b : Str} (ha : PyData.strOk a = true) (hb : PyData.strOk b = true) : SeqAt.shaped (.list [.str a, .str b]) = true := by
  show (PyData.canLay0 (.list [.str a, .str b]) && decide (PyData.depth (.list [.str a, .str b]) ≤ 64)) = true
  have : PyData.depth (.list [.str a, .str b]) = 1 := by rfl
  rw [this]
  simp [PyData.canLay0, PyData.canLayAll0, ha, hb]
section
variable {P : Program} {w : World} {K : PySem.W.Frag} {mg : Str → Option Value} {base : Heap} {T : List Addr} {C fLow fText fAre fTape fNext fInks CI fDu fTl fRd fWr : Addr}
theorem ok_rt {f : Addr} {fd fdDu fdTl fdRd fdWr : FuncData} (F : L2.Fun K "_law_right" "_law_right" sRt f fd) (FDu : L2.Fun K "_law_due" "_law_due" sDuP fDu fdDu) (FTl : L2.Fun K "_law_told" "_law_told" sTl fTl fdTl) (FRd : L2.Fun K "read_parts" "read_parts" sRdR fRd fdRd) (FWr : L2.Fun K "write_parts" "write_parts" sWrR fWr fdWr)
    (DU : FnOk P w K mg base CX0 1 fDu fdDu ["given", "backs"] spDuP) (TL : FnOk P w K mg base CX0 5 fTl fdTl ["given", "named"] (spTl T)) (RD : FnOk P w K mg base (L2.CX P w) 4 fRd fdRd ["code"] (spRdR T CI)) (WR : FnOk P w K mg base CX0 1 fWr fdWr ["parts"] (spWrR T))
    (X : Txt K mg C fLow fText fAre fTape fNext fInks) (L : RtK K mg fDu fTl fRd fWr) : FnG P w K mg base CX0 6 f fd ["given", "backs"] (spRt T) := by
  have bDu : Binds K fdDu ["given", "backs"] [] := FDu.binds fun _ _ _ _ _ _ us hl => match us, hl with | [_, _], _ => rfl
  have bTl : Binds K fdTl ["given", "named"] [] := FTl.binds fun _ _ _ _ _ _ us hl => match us, hl with | [_, _], _ => rfl
  have bRd : Binds K fdRd ["code"] [] := FRd.binds fun _ _ _ _ _ _ us hl => match us, hl with | [_], _ => rfl
  have bWr : Binds K fdWr ["parts"] [] := FWr.binds fun _ _ _ _ _ _ us hl => match us, hl with | [_], _ => rfl
  refine fun_okG F scRt (fun vs H Q E h => ?_) (fun cdv A outer s H vs Q E hg hr h => ?_)
  · obtain ⟨given, d, rfl, _⟩ := h
    rfl
  · obtain ⟨given, d, rfl, hT, hl, wh, kQ⟩ := h
    have hu : (A.deeper (envOfC "_law_right" (defScope sRt) s.heap.objs.size f cdv)).units + 64 < cLine := by have := hr.units; omega
    obtain ⟨sm, sd⟩ := due_sm hl
    have sm2 := smw_two sm sm (Nat.le_refl _) sd sd
    have s100 : SmW (.list [dueD (Txt.split given oneSp), dueD (Txt.split given oneSp)]) 100000 := ⟨sm2.s, sm2.l, Nat.le_trans sm2.w (by decide), sm2.dd, sm2.n⟩
    refine ⟨_, (pss_cons (ps_set (i := 2) scRt.nd rfl (.inl rfl) (pe_call DU (hr.mono (by decide)) (by rfl) L.gDu L.kDu bDu .nil L2.pass0 (pa_cons (pv 0) (pa_cons (pv 1) pa_nil))))
      (pss_cons (ps_set (i := 3) scRt.nd rfl (.inl rfl) (pe_lst (pa_cons (pe_call TL (hr.mono (by decide)) (by rfl) L.gTl L.kTl bTl .nil L2.pass0 (pa_cons (pv 0) (pa_cons pe_bl pa_nil))) (pa_cons (pe_call TL (hr.mono (by decide)) (by rfl) L.gTl L.kTl bTl .nil L2.pass0 (pa_cons (pv 0) (pa_cons pe_bl pa_nil))) pa_nil))))
      (pss_cons (ps_if (pt_cmpR op_ne (pe_callB (call_reprD hg hu) (by rfl) L.rep boot_repr (pa_cons (pv 3) pa_nil)) (pe_callB (call_reprD hg hu) (by rfl) L.rep boot_repr (pa_cons (pe_lst (pa_cons (pv 2) (pa_cons (pv 2) pa_nil))) pa_nil)) (by rfl)) (pss_one (ps_ret pe_bl)) pss_nil)
      (pss_cons (ps_if (pt_val (pe_callB call_isi (by rfl) X.isi boot_isinstance (pa_cons (pv 2) (pa_cons (pe_bltn (v := .ty "list") (by rfl) X.lst (by decide +kernel) rfl) pa_nil)))) (pss_cons (ps_set (i := 4) scRt.nd rfl (.inl rfl) (pe_ix ix_seq (pv 3) pe_int fun _ _ => rfl))
      (pss_cons (ps_expr (pe_bm PySem.F.plainAttrs_list PySem.F.slot_list_append PySem.F.type_list_append mt_append (pv 4) (pa_cons pe_int pa_nil)))
      (pss_cons (ps_if (pt_cmpR op_ne (pe_callB (call_reprD hg hu) (by rfl) L.rep boot_repr (pa_cons (pe_lst (pa_cons (pe_ix ix_seq (pv 3) pe_int fun _ _ => rfl) (pa_cons (pe_callS RD (hr.mono (by decide)) (by rfl) L.gRd L.kRd bRd (E := fun _ => E0) (fun σ pins H s e s' I c => passL pins σ H s e s' I c) (pa_cons (pv 0) pa_nil)) pa_nil))) pa_nil)) (pe_callB (call_reprD hg hu) (by rfl) L.rep boot_repr (pa_cons (pe_lst (pa_cons (pv 2) (pa_cons (pv 2) pa_nil))) pa_nil)) (by rfl)) (pss_one (ps_ret pe_bl)) pss_nil)
      (pss_cons (ps_set (i := 5) scRt.nd rfl (.inl rfl) (pe_callB (call_reprD hg hu) (by rfl) L.rep boot_repr (pa_cons (pv 2) pa_nil)))
      (pss_one (ps_if ((pw_or (pt_cmpR (op_neD hu) (pe_lst (pa_cons (pe_call WR (hr.mono (by decide)) (by rfl) L.gWr L.kWr bWr .nil L2.pass0 (pa_cons (pv 2) pa_nil)) (pa_cons (pe_callK0S WR (hr.mono (by decide)) (by rfl) L.gWr L.kWr (wr_kw FWr) (fun σ => pass0A (fun _ => E0) σ) (pk_cons (pv 2) pk_nil)) pa_nil))) (pe_lst (pa_cons (pv 0) (pa_cons (pv 0) pa_nil))) (by rfl)) (pw_or1 (pt_cmpR op_ne (pe_callB (call_reprD hg hu) (by rfl) L.rep boot_repr (pa_cons (pv 2) pa_nil)) (pv 5) (by rfl)))).pt) (pss_one (ps_ret pe_bl)) pss_nil)))))) pss_nil)
      (pss_one (ps_ret pe_bl)))))), ?_⟩
    refine ⟨_, rfl, _, rfl, given, d, rfl, hl, wh, fun pd H1 hpd s1 d1 => ?_⟩
    have k1 : Kep T H H1 := kepSame hT s1
    refine ⟨_, rfl, given, false, rfl, k1.1, hl, fun p1 H2 hp1 k2 d2 => ?_⟩
    have d1' := d1.at (k2.all k1.1)
    refine ⟨_, rfl, given, true, rfl, k2.1, hl, fun p2 H3 hp2 k3 d3 => ?_⟩
    have d1'' := d1'.at (k3.all k2.1)
    have d2' := d2.at (k3.all k2.1)
    refine ⟨Nat.le_of_ble_eq_true rfl, fun l1 hl1 => ?_⟩
    have s4 := sameU (o := .lst [.ref p1, .ref p2]) hl1
    have e4 : upd H3 l1 (.lst [.ref p1, .ref p2]) l1 = some (.lst [.ref p1, .ref p2]) := upd_same
    have k4 := Kep.new (o := .lst [.ref p1, .ref p2]) k3.1 hl1
    have kk := (k1.trans k2).trans (k3.trans k4)
    have a1 := d1''.at fun a o _ e => s4 a o e
    have a2 := d2'.at fun a o _ e => s4 a o e
    have a3 := d3.at fun a o _ e => s4 a o e
    generalize upd H3 l1 (.lst [.ref p1, .ref p2]) = H4 at s4 e4 k4 kk a1 a2 a3 ⊢
    refine ⟨_, rfl, l1, _, rfl, .lst (.inl (.inl e4)) (.cons a2.dp (.cons a3.dp .nil)), s100, ?_⟩
    refine ⟨_, rfl, _, rfl, Nat.le_of_ble_eq_true rfl, fun l2 hl2 => ?_⟩
    have s5 := sameU (o := .lst [.ref pd, .ref pd]) hl2
    have e5 : upd H4 l2 (.lst [.ref pd, .ref pd]) l2 = some (.lst [.ref pd, .ref pd]) := upd_same
    have k5 := kk.trans (Kep.new (o := .lst [.ref pd, .ref pd]) kk.1 hl2)
    have e4' := s5 _ _ e4
    have b1 := a1.at fun a o _ e => s5 a o e
    have b2 := a2.at fun a o _ e => s5 a o e
    have b3 := a3.at fun a o _ e => s5 a o e
    generalize upd H4 l2 (.lst [.ref pd, .ref pd]) = H5 at s5 e5 k5 e4' b1 b2 b3 ⊢
    refine ⟨l2, _, rfl, .lst (.inl (.inl e5)) (.cons b1.dp (.cons b1.dp .nil)), s100, rfl, _, rfl, iteF' (by simp) ?_⟩
    unfold DueP at b1 b2 b3
    cases hb : badR (Txt.split given oneSp) with
    | some i =>
      rw [hb] at b1
      refine ⟨_, rfl, _, _, _, _, _, rfl, .ty _, .base (.tup b1), kit_ty (r := false) (by decide +kernel), false, rfl, iteF ?_⟩
      exact kQ _ k5
    | none =>
      rw [hb] at b1 b2 b3
      have b1 : LT H5 pd (allR (Txt.split given oneSp)) := b1
      have b2 : LT H5 p1 (allR (Txt.split given oneSp)) := b2
      have b3 : LT H5 p2 (allR (Txt.split given oneSp)) := b3
      obtain ⟨gc, gl, gx⟩ := good_all hb
      have gok := good_ok hb
      have dd : dueD (Txt.split given oneSp) = ltD (allR (Txt.split given oneSp)) := by unfold dueD; rw [hb]
      rw [dd] at s100 sm
      generalize hal : allR (Txt.split given oneSp) = al at b1 b2 b3 gc gl gx dd s100 sm
      have ib1 := b1
      obtain ⟨ps0, epd, _⟩ := ib1
      obtain ⟨ps1, ep1, ta1⟩ := b2
      refine ⟨_, rfl, _, _, _, _, _, rfl, .ty _, .base (.lst epd), kit_ty (r := true) (by decide +kernel), true, rfl, iteT ?_⟩
      refine ⟨_, rfl, .inl ⟨l1, _, 0, .ref p1, rfl, rfl, .inl (.inl e4'), atI_nat (j := 0) rfl, ?_⟩⟩
      refine ⟨_, rfl, .inl ⟨rfl, _, .inl (.inl ep1)⟩, ?_⟩
      obtain ⟨H6, hH6⟩ : ∃ H6, H6 = H5 := ⟨_, rfl⟩
      have s6 : L2.Same H5 H6 := by rw [hH6]; exact fun b o e => e
      rw [← hH6]
      have ep1' := s6 _ _ ep1
      refine ⟨p1, _, _, rfl, rfl, ep1', by rw [List.length_map, ta1.len, sizeLine_eq]; omega, ?_⟩
      have sp : ∀ {Hx : Hp} {x : Addr}, DueP Hx x (Txt.split given oneSp) → ∃ o, Hx x = some o := fun {Hx x} h => by
        unfold DueP at h
        rw [hb] at h
        obtain ⟨_, e, _⟩ := h
        exact ⟨_, e⟩
      obtain ⟨o1, eo1⟩ := sp d1
      obtain ⟨o2, eo2⟩ := sp d2
      obtain ⟨o3, eo3⟩ := sp d2'
      have n1 : pd ≠ p1 := ne_of_none eo1 hp1
      have n2 : p2 ≠ p1 := (ne_of_none eo2 hp2).symm
      have n3 : l1 ≠ p1 := (ne_of_none eo3 hl1).symm
      have k7 := (k5.trans (kepSame k5.1 s6)).put (o := .lst (ps1.map V.ref ++ [.int 0])) (k1.free hT hp1) (free_tab k1.1 hp1)
      have c1 := (b1.same s6).put (o := .lst (ps1.map V.ref ++ [.int 0])) ep1' n1
      have c3 := (b3.same s6).put (o := .lst (ps1.map V.ref ++ [.int 0])) ep1' n2
      have e7 := (upd_ne (o := .lst (ps1.map V.ref ++ [.int 0])) n3).trans (s6 _ _ e4')
      generalize upd H6 p1 (.lst (ps1.map V.ref ++ [.int 0])) = H7 at k7 c1 c3 e7 ⊢
      refine ⟨_, rfl, .inl ⟨l1, _, 1, .ref p2, rfl, rfl, .inl (.inl e7), atI_nat (j := 1) rfl, ?_⟩⟩
      refine ⟨_, rfl, given, rfl, k7.1, hl, fun i h => absurd (hb.symm.trans h) nofun, fun _ r H8 hr8 lt8 k8 => ?_⟩
      rw [hal] at lt8
      have f1 := c1.kep k7.1 k8
      have f3 := c3.kep k7.1 k8
      have k9 := k7.trans k8
      refine ⟨Nat.le_of_ble_eq_true rfl, fun l3 hl3 => ?_⟩
      have s9 := sameU (o := .lst [.ref p2, .ref r]) hl3
      have e9 : upd H8 l3 (.lst [.ref p2, .ref r]) l3 = some (.lst [.ref p2, .ref r]) := upd_same
      have k10 := k9.trans (Kep.new (o := .lst [.ref p2, .ref r]) k9.1 hl3)
      have g1 := f1.same s9
      have g3 := f3.same s9
      have g8 := lt8.same s9
      generalize upd H8 l3 (.lst [.ref p2, .ref r]) = H9 at s9 e9 k10 g1 g3 g8 ⊢
      refine ⟨l3, _, rfl, .lst (.inl (.inl e9)) (.cons g3.dp (.cons g8.dp .nil)), s100, ?_⟩
      refine ⟨_, rfl, _, rfl, Nat.le_of_ble_eq_true rfl, fun l4 hl4 => ?_⟩
      have s10 := sameU (o := .lst [.ref pd, .ref pd]) hl4
      have e10 : upd H9 l4 (.lst [.ref pd, .ref pd]) l4 = some (.lst [.ref pd, .ref pd]) := upd_same
      have k11 := k10.trans (Kep.new (o := .lst [.ref pd, .ref pd]) k10.1 hl4)
      have h1 := g1.same s10
      generalize upd H9 l4 (.lst [.ref pd, .ref pd]) = H10 at s10 e10 k11 h1 ⊢
      refine ⟨l4, _, rfl, .lst (.inl (.inl e10)) (.cons h1.dp (.cons h1.dp .nil)), s100, rfl, _, rfl, iteF' (by simp) ?_⟩
      have sm1 : SmW (ltD al) 100000 := ⟨sm.s, sm.l, Nat.le_trans sm.w (by decide), sm.dd, sm.n⟩
      refine ⟨_, rfl, pd, _, rfl, h1.dp, sm1, ?_⟩
      refine ⟨_, rfl, pd, al, rfl, h1, by omega, gx, fun H11 s11 => ?_⟩
      have h2 := h1.same s11
      refine ⟨_, rfl, rfl, pd, al, rfl, h2, by omega, gx, fun H12 s12 => ?_⟩
      have h3 := h2.same s12
      have k12 := k11.trans (kepSame k11.1 (s11.trans s12))
      rw [gc]
      refine ⟨Nat.le_of_ble_eq_true rfl, fun l5 hl5 => ?_⟩
      have s13 := sameU (o := .lst [.str given, .str given]) hl5
      have e13 : upd H12 l5 (.lst [.str given, .str given]) l5 = some (.lst [.str given, .str given]) := upd_same
      have k13 := k12.trans (Kep.new (o := .lst [.str given, .str given]) k12.1 hl5)
      have h4 := h3.same s13
      generalize upd H12 l5 (.lst [.str given, .str given]) = H13 at s13 e13 k13 h4 ⊢
      refine ⟨_, rfl, _, rfl, Nat.le_of_ble_eq_true rfl, fun l6 hl6 => ?_⟩
      have s14 := sameU (o := .lst [.str given, .str given]) hl6
      have e14 : upd H13 l6 (.lst [.str given, .str given]) l6 = some (.lst [.str given, .str given]) := upd_same
      have k14 := k13.trans (Kep.new (o := .lst [.str given, .str given]) k13.1 hl6)
      have h5 := h4.same s14
      have e13' := s14 _ _ e13
      generalize upd H13 l6 (.lst [.str given, .str given]) = H14 at s14 e14 k14 h5 e13' ⊢
      refine ⟨_, _, .lst (.inl (.inl e13')) (.cons (.str _) (.cons (.str _) .nil)), .lst (.inl (.inl e14)) (.cons (.str _) (.cons (.str _) .nil)), strs_shaped gok gok, strs_shaped gok gok, _, rfl, ?_⟩
      refine iteF' (by simp [PyData.eqv, PyData.eqvAll]) ?_
      refine ⟨_, rfl, pd, _, rfl, h5.dp, sm1, _, rfl, rfl, _, rfl, iteF' (by simp) ?_⟩
      exact kQ _ k14
end
end Ov

set_option Elab.async false
set_option linter.all false
set_option maxRecDepth 100000
set_option maxHeartbeats 2000000
/-! range(n) as a value; a method of a builtin whose rule is told K by name -/
namespace Ov
open PySem PySem.Spec PyProof.Rows L2
theorem cr_range1 {X : Cx} : CallR X (.type "range") (fun vs H Q => ∃ j, vs = [V.int j] ∧ ∀ p, H p = none → Q (.ref p) (upd H p (.rng 0 j))) := by
  intro pins s σ H vs us Q I r h
  obtain ⟨j, rfl, q⟩ := h
  obtain ⟨u1, rfl, rj⟩ := vals1 r
  obtain ⟨u, rfl⟩ := rj
  refine call_range_1 ⟨.ref s.heap.objs.size, upd H s.heap.objs.size (.rng 0 j), I.laid (t' := s.toks + 1 + 1) (fun b o e => Heap.get?_push_of_some _ e) (Nat.le_refl _) ?_, rfl, q _ (I.hok.fresh (Nat.le_refl _))⟩
  exact ⟨s.toks, u, s.toks + 1, Heap.get?_push_size _ rfl⟩
section
variable {X : Cx} {K : PySem.W.Frag} {T name id : String} {o e : Expr} {es : List Expr} {apos cpos : Pos} {to : TE} {t : TA} {r : V → List V → Hp → VK → Prop}
theorem pe_bmK (hK : X.K = K) (pa : PlainAttrs T) (slot : Slot T name id) (hty : typeOf (.builtin id) = pure (.type "method_descriptor")) (hm : MtR X id r) (ho : PE X o to) (ha : PA X (e :: es) t)
    (hbase : attributeBase o name X.env (eval o X.env) = eval o X.env := by rfl)
    (hfew : ((backTo cpos (starEach (e :: es) X.env)).all (fun x => !x.1) && (backToKw cpos (keywordEach [] X.env)).all (fun x => x.1.isSome)
      && decide ((e :: es).length + ([] : List Keyword).length + (if ([] : List Keyword).isEmpty then 0 else 1) < 30)) = true := by rfl)
    (hline : (apos.endLine == cpos.line) = true := by rfl) (hs : starEach (e :: es) X.env = (false, eval e X.env) :: starEach es X.env := by rfl) (hplain : (backTo cpos (starEach es X.env)).any (·.1) = false := by rfl) :
    PE X (.Call (.Attribute o name apos) (e :: es) [] cpos) (tBM K T r to t) := by
  subst hK
  exact pe_bm pa slot hty hm ho ha hbase hfew hline hs hplain
end
end Ov

set_option Elab.async false
set_option linter.all false
set_option maxRecDepth 100000
set_option maxHeartbeats 4000000
/-! _law_word, _law_some -/
namespace Ov
open PySem PySem.Spec PyProof.Rows L2 GxR
abbrev sWd : Stmt := top 34
abbrev sSo : Stmt := top 39
abbrev NWd : List Str := ["one"]
theorem scWd : FnScope NWd ["one"] (defScope sWd) := ⟨rfl, rfl, rfl, by decide +kernel, rfl, by decide +kernel, by decide +kernel⟩
abbrev NSo : List Str := ["vat", "many", "left", "spots", "found", "spot", "begin", "turn"]
theorem scSo : FnScope NSo ["vat", "many"] (defScope sSo) := ⟨rfl, rfl, rfl, by decide +kernel, rfl, by decide +kernel, by decide +kernel⟩
def spWd : Sp := fun vs H Q _ => ∃ (p : Addr) (x : List Int), vs = [.ref p] ∧ H p = some (tupI x) ∧ Two x ∧ Q (.str (keyL x)) H
def spSo : Sp := fun vs H Q _ => ∃ (t : Addr) (many : Int) (n : Nat), vs = [.ref t, .int many] ∧ Tp H t n ∧ n + 1000 < 2 ^ 40 ∧ 0 ≤ many ∧ many ≤ 120 ∧
  ∀ r l H', H r = none → LT H' r l → l.length = many.toNat → (∀ x ∈ l, Two x) → Tp H' t (n + 1000) → Bt t H H' → Q (.ref r) H'
theorem map_erase {α β : Type} (f : α → β) : ∀ (l : List α) (k : Nat), (l.map f).eraseIdx k = (l.eraseIdx k).map f
  | [], _ => rfl
  | _ :: _, 0 => rfl
  | a :: l, k + 1 => by
    show f a :: (l.map f).eraseIdx k = f a :: (l.eraseIdx k).map f
    rw [map_erase f l k]
section
variable {P : Program} {w : World} {K : PySem.W.Frag} {mg : Str → Option Value} {base : Heap} {T : List Addr} {C fLow fText fAre fTape fNext fInks : Addr}
theorem ok_wd {f : Addr} {fd : FuncData} (F : L2.Fun K "_law_word" "_law_word" sWd f fd) (X : Txt K mg C fLow fText fAre fTape fNext fInks) : FnOk P w K mg base CX0 1 f fd ["one"] spWd := by
  refine F.ok scWd (fun vs H Q E h => ?_) (fun cdv A outer s H vs Q E hr h => ?_)
  · obtain ⟨p, x, rfl, _⟩ := h
    rfl
  · obtain ⟨p, x, rfl, ep, ⟨a, b, c, d, rfl, ⟨a0, a1⟩, ⟨b0, b1⟩, ⟨c0, c1⟩, d0, d1⟩, q⟩ := h
    have la : (Str.ofString (toString a)).length ≤ 4 := (rg_t a0 a1).len
    have lb : (Str.ofString (toString b)).length ≤ 4 := (rg_t b0 b1).len
    have lc : (Str.ofString (toString c)).length ≤ 4 := (rg_t c0 c1).len
    have ld : (Str.ofString (toString d)).length ≤ 4 := (rg_t d0 d1).len
    have q1 : (":" : Str).length = 1 := by decide +kernel
    have q2 : ("+" : Str).length = 1 := by decide +kernel
    have q3 : ("*" : Str).length = 1 := by decide +kernel
    refine ⟨_, (pss_one (ps_ret (pe_op op_add_str (pe_op op_add_str (pe_op op_add_str (pe_op op_add_str (pe_op op_add_str (pe_op op_add_str (pe_callTy call_str_int (by rfl) X.str (by decide +kernel) (pa_cons (pe_ix ix_seq (pv 0) pe_int fun _ _ => rfl) pa_nil)) pe_str) (pe_callTy call_str_int (by rfl) X.str (by decide +kernel) (pa_cons (pe_ix ix_seq (pv 0) pe_int fun _ _ => rfl) pa_nil))) pe_str) (pe_callTy call_str_int (by rfl) X.str (by decide +kernel) (pa_cons (pe_ix ix_seq (pv 0) pe_int fun _ _ => rfl) pa_nil))) pe_str) (pe_callTy call_str_int (by rfl) X.str (by decide +kernel) (pa_cons (pe_ix ix_seq (pv 0) pe_int fun _ _ => rfl) pa_nil))))), ?_⟩
    refine ⟨_, rfl, .inr (.inl ⟨p, _, 0, .int a, rfl, rfl, .inl (.inl ep), atI_nat (j := 0) rfl, a, rfl, log_of (by omega), _, _, rfl, rfl, by rw [q1, sizeLine_eq]; omega, ?_⟩)⟩
    refine ⟨_, rfl, .inr (.inl ⟨p, _, 1, .int b, rfl, rfl, .inl (.inl ep), atI_nat (j := 1) rfl, b, rfl, log_of (by omega), _, _, rfl, rfl, by rw [app_len, q1, sizeLine_eq]; omega, _, _, rfl, rfl, by rw [app_len, app_len, q1, q2, sizeLine_eq]; omega, ?_⟩)⟩
    refine ⟨_, rfl, .inr (.inl ⟨p, _, 2, .int c, rfl, rfl, .inl (.inl ep), atI_nat (j := 2) rfl, c, rfl, log_of (by omega), _, _, rfl, rfl, by rw [app_len, app_len, app_len, q1, q2, sizeLine_eq]; omega, _, _, rfl, rfl, by rw [app_len, app_len, app_len, app_len, q1, q2, q3, sizeLine_eq]; omega, ?_⟩)⟩
    refine ⟨_, rfl, .inr (.inl ⟨p, _, 3, .int d, rfl, rfl, .inl (.inl ep), atI_nat (j := 3) rfl, d, rfl, log_of (by omega), _, _, rfl, rfl, by rw [app_len, app_len, app_len, app_len, app_len, q1, q2, q3, sizeLine_eq]; omega, ?_⟩)⟩
    exact q
theorem ok_so {f : Addr} {fd fdNx : FuncData} (F : L2.Fun K "_law_some" "_law_some" sSo f fd) (FNx : L2.Fun K "_law_sip" "_law_sip" sNext fNext fdNx) (X : Txt K mg C fLow fText fAre fTape fNext fInks) (hsrt : mg "sorted" = none) : FnOk P w K mg base CX0 2 f fd ["vat", "many"] spSo := by
  have N1 : FnOk P w K mg base CX0 1 fNext fdNx ["vat", "size"] spNext := ok_next FNx X
  have bN : Binds K fdNx ["vat", "size"] [] := FNx.binds fun _ _ _ _ _ _ us hl => match us, hl with | [_, _], _ => rfl
  refine F.ok scSo (fun vs H Q E h => ?_) (fun cdv A outer s H vs Q E hr h => ?_)
  · obtain ⟨t, many, n, rfl, _⟩ := h
    rfl
  · obtain ⟨t, many, n, rfl, tp, hn, m0, m1, q⟩ := h
    refine ⟨_, (pss_cons (ps_set (i := 2) scSo.nd rfl (.inr rfl) (pe_callTy (call_listR rfl) (by rfl) X.lst (by decide +kernel) (pa_cons (pe_callTy cr_range1 (by rfl) X.rng (by decide +kernel) (pa_cons pe_int pa_nil)) pa_nil)))
      (pss_cons (ps_set (i := 3) scSo.nd rfl (.inl rfl) (pe_callB cr_sortedI (by rfl) hsrt (by decide +kernel) (pa_cons (pe_lc (own := [("turn", 7)]) (g := gName 7) (tt := tYes) (by rfl) scSo.nd (pi_range1 (by rfl) X.rng (pa_cons (pv 1) pa_nil)) (blkOk_by (own := [("turn", 7)]) (N := NSo) (sc := defScope sSo) (by decide +kernel)) (fun _ _ _ _ _ => pg_name (i := 7) scSo.nd rfl (Or.inl rfl)) (fun _ _ _ _ _ => pts_nil) (fun _ _ _ _ _ => pe_bmK (K := K) rfl PySem.F.plainAttrs_list PySem.F.slot_list_pop PySem.F.type_list_pop mt_popAt (pv 2) (pa_cons (pe_call N1 (hr.mono (by decide)) (by rfl) X.gNext X.kNext bN .nil L2.pass0 (pa_cons (pv 0) (pa_cons (pe_callB (len_K (K := K) rfl) (by rfl) X.len boot_len (pa_cons (pv 2) pa_nil)) pa_nil))) pa_nil))) pa_nil)))
      (pss_cons (ps_set (i := 4) scSo.nd rfl (.inl rfl) (pe_lst pa_nil))
      (pss_cons (ps_for PassesOwn.never rfl (pi_list (pv 3)) (pg_name (i := 5) scSo.nd rfl (Or.inl rfl)) (pss_cons (ps_set (i := 6) scSo.nd rfl (.inl rfl) (pe_call N1 (hr.mono (by decide)) (by rfl) X.gNext X.kNext bN .nil L2.pass0 (pa_cons (pv 0) (pa_cons pe_int pa_nil))))
      (pss_one (ps_expr (pe_bm PySem.F.plainAttrs_list PySem.F.slot_list_append PySem.F.type_list_append mt_append (pv 4) (pa_cons (pe_tup (pa_cons (pv 5) (pa_cons (pe_call N1 (hr.mono (by decide)) (by rfl) X.gNext X.kNext bN .nil L2.pass0 (pa_cons (pv 0) (pa_cons pe_int pa_nil))) (pa_cons (pv 6) (pa_cons (pe_op op_add pe_int (pe_call N1 (hr.mono (by decide)) (by rfl) X.gNext X.kNext bN .nil L2.pass0 (pa_cons (pv 0) (pa_cons (pe_op op_sub pe_int (pv 6)) pa_nil)))) pa_nil))))) pa_nil))))))
      (pss_one (ps_ret (pv 4))))))), ?_⟩
    refine ⟨120, rfl, fun rg hrg => ?_⟩
    have s1 := sameU (o := .rng 0 120) hrg
    have e1 : upd H rg (.rng 0 120) rg = some (.rng 0 120) := upd_same
    have tp1 := tp.new (o := .rng 0 120) hrg
    generalize upd H rg (.rng 0 120) = H1 at s1 e1 tp1 ⊢
    refine ⟨rg, 0, 120, rfl, e1, by decide, by decide, by decide, by decide, by decide, fun lf hlf => ?_⟩
    have eL : ((List.range (120 - 0 : Int).toNat).map fun i => V.int (0 + (i : Nat))) = ((List.range 120).map fun (i : Nat) => (i : Int)).map V.int := by
      rw [List.map_map]
      refine List.map_congr_left fun a _ => ?_
      show V.int (0 + (a : Int)) = V.int (a : Int)
      rw [Int.zero_add]
    rw [eL]
    have r0 : ∀ m ∈ ((List.range 120).map fun (i : Nat) => (i : Int)), 0 ≤ m ∧ m ≤ 119 := fun m hm => by
      obtain ⟨k, hk, rfl⟩ := List.mem_map.mp hm
      have := List.mem_range.mp hk
      omega
    have r1 : ((List.range 120).map fun (i : Nat) => (i : Int)).length = 120 := by rw [List.length_map, List.length_range]
    generalize ((List.range 120).map fun (i : Nat) => (i : Int)) = L0 at r0 r1
    have s2 := s1.trans (sameU (o := .lst (L0.map V.int)) hlf)
    have e2 : upd H1 lf (.lst (L0.map V.int)) lf = some (.lst (L0.map V.int)) := upd_same
    have tp2 := tp1.new (o := .lst (L0.map V.int)) hlf
    have lfn : H lf = none := s1.free hlf
    have lft : lf ≠ t := (tp1.ne hlf).symm
    generalize upd H1 lf (.lst (L0.map V.int)) = H2 at s2 e2 tp2 ⊢
    have b2 : Bt t H H2 := fun b o _ e => s2 b o e
    refine ⟨_, rfl, many, rfl, by omega, by omega, fun D hD => ?_⟩
    have Dn : H D = none := s2.free hD
    have Dt : D ≠ t := (tp2.ne hD).symm
    have Dlf : D ≠ lf := fun z => by rw [z, e2] at hD; cases hD
    refine lc_range (lo := 0) (n := many.toNat) (fun j Hc => ∃ ms ys : List Int, Hc D = some (.lst (ys.map V.int)) ∧ Hc lf = some (.lst (ms.map V.int)) ∧ ms.length + j = 120 ∧ ys.length = j ∧ (∀ m ∈ ms, 0 ≤ m ∧ m ≤ 119) ∧ (∀ m ∈ ys, 0 ≤ m ∧ m ≤ 119) ∧ Tp Hc t (n + j) ∧ Bt t H Hc)
      ⟨L0, [], upd_same, (upd_ne Dlf.symm).trans e2, by omega, rfl, r0, (fun m hm => by cases hm), tp2.new hD, b2.put Dn⟩ (fun j Hc hj p => ?_) (fun Hc p => ?_)
    · obtain ⟨ms, ys, eD, elf, ml, yl, hm, hy, tpc, bc⟩ := p
      refine ⟨rfl, ?_⟩
      unfold tYes
      refine iteT' (b := true) rfl ?_
      refine ⟨_, rfl, .inl ⟨rfl, _, .inl (.inl elf)⟩, _, rfl, _, rfl, lf, _, rfl, .inl (.inl (.inl elf)), t, _, n + j, rfl, tpc, by omega, by rw [List.length_map]; omega, by rw [List.length_map]; omega, fun d Ha d0 d1 tpa ba => ?_⟩
      rw [List.length_map] at d1
      have elfa := (ba lf lft).trans elf
      have eDa := (ba D Dt).trans eD
      have hd : d.toNat < ms.length := by omega
      refine ⟨lf, _, d, d.toNat, .int ms[d.toNat], rfl, rfl, elfa, by omega, by omega, ?_, by rw [List.getElem?_map, List.getElem?_eq_getElem hd]; rfl, ?_⟩
      · rw [List.length_map]
        exact seqIndex_of d0 d1
      rw [map_erase]
      refine ⟨_, (upd_ne Dlf).trans eDa, by rw [List.length_map, yl, sizeLine_eq]; omega, ms.eraseIdx d.toNat, ys ++ [ms[d.toNat]], by rw [List.map_append]; exact upd_same, (upd_ne Dlf.symm).trans upd_same, by rw [List.length_eraseIdx, if_pos hd]; omega, by rw [List.length_append, yl]; rfl, fun m h => hm m (List.mem_of_mem_eraseIdx h), fun m h => ?_, ((tpa.at (upd_ne lft.symm)).at (upd_ne Dt.symm)).mono (by omega), ((bc.trans ba.bt).put lfn).put Dn⟩
      rcases List.mem_append.mp h with h | h
      · exact hy m h
      · rw [List.mem_singleton.mp h]
        exact hm _ (List.getElem_mem hd)
    · obtain ⟨ms, ys, eD, elf, ml, yl, hm, hy, tpc, bc⟩ := p
      refine ⟨D, ys, rfl, .inl (.inl eD), fun zs q1 hperm _ hq1 => ?_⟩
      have zl : zs.length = many.toNat := by rw [hperm.length_eq, yl]
      have hz : ∀ m ∈ zs, 0 ≤ m ∧ m ≤ 119 := fun m h => hy m (hperm.mem_iff.mp h)
      have e3 : upd Hc q1 (.lst (zs.map V.int)) q1 = some (.lst (zs.map V.int)) := upd_same
      have tp3 := tpc.new (o := .lst (zs.map V.int)) hq1
      have b3 := bc.trans (Bt.new (t := t) (o := .lst (zs.map V.int)) hq1)
      have q1t : q1 ≠ t := (tpc.ne hq1).symm
      generalize upd Hc q1 (.lst (zs.map V.int)) = H3 at e3 tp3 b3 ⊢
      refine ⟨Nat.le_of_ble_eq_true rfl, fun lr hlr => ?_⟩
      have e4 : upd H3 lr (.lst []) lr = some (.lst []) := upd_same
      have f4 := (upd_ne (o := .lst []) (ne_of_none e3 hlr)).trans e3
      have tp4 := tp3.new (o := .lst []) hlr
      have b4 := b3.trans (Bt.new (t := t) (o := .lst []) hlr)
      have lrt : lr ≠ t := (tp3.ne hlr).symm
      have lrn : H lr = none := b3.free lrt hlr
      have q1lr : q1 ≠ lr := ne_of_none e3 hlr
      generalize upd H3 lr (.lst []) = H4 at e4 f4 tp4 b4 ⊢
      refine ⟨_, rfl, q1, rfl, ⟨_, .inl (.inl f4)⟩, for_list (xs := zs.map V.int) (fun i σ Hx => (∃ v5 v6, σ = [some (.ref t), some (.int many), some (.ref lf), some (.ref q1), some (.ref lr), v5, v6, none]) ∧ (∃ ps l, Hx lr = some (.lst (ps.map V.ref)) ∧ TsA Hx ps l ∧ l.length = i ∧ ∀ x ∈ l, Two x) ∧ Tp Hx t (n + 120 + 3 * i) ∧ Bt t H Hx ∧ Hx q1 = some (.lst (zs.map V.int))) ⟨⟨_, _, rfl⟩, ⟨[], [], e4, trivial, rfl, fun x hx => by cases hx⟩, tp4.mono (by omega), b4, f4⟩ (fun i σ Hx _ p => .inl (.inl p.2.2.2.2)) (fun i x σ Hx hx p => ?_) (fun σ Hx p => ?_)⟩
      · obtain ⟨⟨v5, v6, rfl⟩, ⟨ps, l, elr, ta, ll, h2⟩, tpx, bx, eq1⟩ := p
        rw [List.getElem?_map] at hx
        obtain ⟨zz, hzz, rfl⟩ := Option.map_eq_some_iff.mp hx
        have hzr := hz zz (List.mem_of_getElem? hzz)
        have hi : i < zs.length := (List.getElem?_eq_some_iff.mp hzz).1
        refine ⟨_, rfl, t, 8, _, rfl, tpx, by omega, by decide, by decide, fun bg Ha g0 g1 tpa ba => ?_⟩
        have elra := (ba lr lrt).trans elr
        refine ⟨_, rfl, .inl ⟨rfl, _, .inl (.inl elra)⟩, _, rfl, ?_⟩
        refine ⟨_, rfl, t, 6, _, rfl, tpa, by omega, by decide, by decide, fun ix Hb i0 i1 tpb bb => ?_⟩
        refine ⟨_, rfl, _, rfl, _, rfl, _, _, rfl, rfl, t, _, _, rfl, tpb, by omega, by omega, by omega, fun sz Hd z0 z1 tpd bd => ⟨_, _, rfl, rfl, ?_⟩⟩
        refine ⟨Nat.le_of_ble_eq_true rfl, fun p hp => ?_⟩
        have bad := (ba.trans bb).trans bd
        have elrd := (bad lr lrt).trans elr
        have eq1d := (bad q1 q1t).trans eq1
        have tad : TsA Hd ps l := by
          have key : ∀ {ps : List Addr} {l : List (List Int)}, TsA Hx ps l → TsA Hd ps l := by
            intro ps
            induction ps with
            | nil => intro l h; cases l with
              | nil => trivial
              | cons _ _ => exact h.elim
            | cons p r ih => intro l h; cases l with
              | nil => exact h.elim
              | cons y l =>
                refine ⟨(bad p fun z => ?_).trans h.1, ih h.2⟩
                obtain ⟨_, _, _, e, _⟩ := tpx
                have h1 := h.1
                rw [z, e] at h1
                cases h1
          exact key ta
        have sp := sameU (o := .tup [.int zz, .int ix, .int bg, .int (1 + sz)]) hp
        have ep : upd Hd p (.tup [.int zz, .int ix, .int bg, .int (1 + sz)]) p = some (tupI [zz, ix, bg, 1 + sz]) := upd_same
        have elrp := sp _ _ elrd
        have eq1p := sp _ _ eq1d
        have tap := tad.at fun a o _ e => sp a o e
        have tpp := tpd.new (o := .tup [.int zz, .int ix, .int bg, .int (1 + sz)]) hp
        have bp : Bt t H (upd Hd p (.tup [.int zz, .int ix, .int bg, .int (1 + sz)])) := (bx.trans bad.bt).trans (Bt.new hp)
        generalize upd Hd p (.tup [.int zz, .int ix, .int bg, .int (1 + sz)]) = Hp at sp ep elrp eq1p tap tpp bp ⊢
        have plr : p ≠ lr := fun z => by rw [z, elrp] at ep; cases ep
        refine ⟨lr, _, _, rfl, rfl, elrp, by rw [List.length_map, tap.len, ll, sizeLine_eq]; omega, ⟨_, _, rfl⟩, ⟨ps ++ [p], l ++ [[zz, ix, bg, 1 + sz]], by rw [List.map_append]; exact upd_same, TsA.snoc ((upd_ne plr).trans ep) (tap.put elrp), by rw [List.length_append, ll]; rfl, fun x hx => ?_⟩, (tpp.at (upd_ne lrt.symm)).mono (by omega), bp.put lrn, (upd_ne q1lr).trans eq1p⟩
        rcases List.mem_append.mp hx with h | h
        · exact h2 x h
        · rw [List.mem_singleton.mp h]
          exact ⟨zz, ix, bg, 1 + sz, rfl, ⟨by omega, by omega⟩, ⟨by omega, by omega⟩, ⟨by omega, by omega⟩, by omega, by omega⟩
      · obtain ⟨⟨v5, v6, rfl⟩, ⟨ps, l, elr, ta, ll, h2⟩, tpx, bx, eq1⟩ := p
        rw [List.length_map] at ll tpx
        exact ⟨_, rfl, q lr l Hx lrn ⟨ps, elr, ta⟩ (by omega) h2 (tpx.mono (by omega)) bx⟩
end
end Ov

set_option Elab.async false
set_option linter.all false
set_option maxRecDepth 100000
set_option maxHeartbeats 4000000
/-! _law_bent -/
namespace Ov
open PySem PySem.Spec PyProof.Rows L2 GxR
abbrev sBe : Stmt := top 33
abbrev NBe : List Str := ["vat", "given", "odd", "turn", "words", "at", "way", "one", "spot"]
theorem scBe : FnScope NBe ["vat", "given", "odd"] (defScope sBe) := ⟨rfl, rfl, rfl, by decide +kernel, rfl, by decide +kernel, by decide +kernel⟩
/-- a text of at most 4000 signs comes back, nothing more is said of it -/
def spBe : Sp := fun vs H Q _ => ∃ (t ol : Addr) (given : Str) (odds : List Str) (n : Nat), vs = [.ref t, .str given, .ref ol] ∧ Tp H t n ∧ n + 20 < 2 ^ 40 ∧ given.length ≤ 4000 ∧ H ol = some (.lst (odds.map V.str)) ∧ ol ≠ t ∧ 1 ≤ odds.length ∧ odds.length ≤ 200 ∧ (∀ z ∈ odds, z.length ≤ 80) ∧
  ∀ (z : Str) H', z.length ≤ 4000 → Tp H' t (n + 20) → Bt t H H' → Q (.str z) H'
theorem Tp.same8 {H H' : Hp} {t : Addr} {n : Nat} (h : Tp H t n) (k : L2.Same H H') : Tp H' t n := by
  obtain ⟨a, b, c, e, r⟩ := h
  exact ⟨a, b, c, k _ _ e, r⟩
theorem cut4000 (z : Str) : (cutS z none (some 4000)).length ≤ 4000 := by
  show (((z.cps.toList.drop (HT.sIx z.length 0 none)).take (HT.sIx z.length z.length (some ((4000 : Nat) : Int)) - HT.sIx z.length 0 none)).toArray).size ≤ 4000
  rw [List.size_toArray, List.length_take, HT.sIx_nat, HT.sIx_none]
  omega
theorem sign8 (d : Int) (h0 : 0 ≤ d) (h1 : d < 8) : ∃ x : Str, atI [V.str " ", .str "0", .str "-", .str "a", .str "@", .str "9", .str "_", .str "."] d = some (.str x) ∧ x.length = 1 := by
  have : d = 0 ∨ d = 1 ∨ d = 2 ∨ d = 3 ∨ d = 4 ∨ d = 5 ∨ d = 6 ∨ d = 7 := by omega
  rcases this with rfl | rfl | rfl | rfl | rfl | rfl | rfl | rfl <;> exact ⟨_, rfl, by decide +kernel⟩
section
variable {P : Program} {w : World} {K : PySem.W.Frag} {mg : Str → Option Value} {base : Heap} {C fLow fText fAre fTape fNext fInks : Addr}
theorem ok_be {f : Addr} {fd fdN : FuncData} (F : L2.Fun K "_law_bent" "_law_bent" sBe f fd) (FN : L2.Fun K "_law_sip" "_law_sip" sNext fNext fdN) (X : Txt K mg C fLow fText fAre fTape fNext fInks) : FnOk P w K mg base CX0 2 f fd ["vat", "given", "odd"] spBe := by
  have N1 : FnOk P w K mg base CX0 1 fNext fdN ["vat", "size"] spNext := ok_next FN X
  have bN : Binds K fdN ["vat", "size"] [] := FN.binds fun _ _ _ _ _ _ us hl => match us, hl with | [_, _], _ => rfl
  refine F.ok scBe (fun vs H Q E h => ?_) (fun cdv A outer s H vs Q E hr h => ?_)
  · obtain ⟨t, ol, given, odds, n, rfl, _⟩ := h
    rfl
  · obtain ⟨t, ol, given, odds, n, rfl, tp, hn, hl, hol, nt, h1, h2, ho, q⟩ := h
    refine ⟨_, (pss_cons (ps_for PassesOwn.never rfl (pi_range1 (by rfl) X.rng (pa_cons (pe_op op_add pe_int (pe_next N1 bN hr (by rfl) X.gNext X.kNext (pa_cons (pv 0) (pa_cons pe_int pa_nil)))) pa_nil)) (pg_name (i := 3) scBe.nd rfl (Or.inl rfl)) (C8.pss_cut (ps_set (i := 4) scBe.nd rfl (.inl rfl) (pe_split (pv 1) pe_str))
      (C8.pss_cut (ps_par (i := 5) (j := 6) rfl scBe.nd rfl rfl (by decide) rfl rfl (pa_cons (pe_next N1 bN hr (by rfl) X.gNext X.kNext (pa_cons (pv 0) (pa_cons (pe_callB call_len_seq (by rfl) X.len boot_len (pa_cons (pv 4) pa_nil)) pa_nil))) (pa_cons (pe_next N1 bN hr (by rfl) X.gNext X.kNext (pa_cons (pv 0) (pa_cons pe_int pa_nil))) pa_nil)) (by rfl))
      (C8.pss_cut (ps_set (i := 7) scBe.nd rfl (.inl rfl) (pe_ix ix_seq (pv 2) (pe_next N1 bN hr (by rfl) X.gNext X.kNext (pa_cons (pv 0) (pa_cons (pe_callB call_len_seq (by rfl) X.len boot_len (pa_cons (pv 2) pa_nil)) pa_nil))) fun _ _ => rfl))
      (C8.pss_cut (ps_if (pt_cmpR op_eq (pv 6) pe_int (by rfl)) (pss_one (ps_set (i := 4) scBe.nd rfl (.inl rfl) (pe_op op_cat (pe_op op_cat (pe_slice sl_list (pv 4) po_none (po_some (pv 5))) (pe_lst (pa_cons (pv 7) pa_nil))) (pe_slice sl_list (pv 4) (po_some (pe_op op_add (pv 5) pe_int)) po_none)))) (pss_one (ps_if (pt_cmpR op_eq (pv 6) pe_int (by rfl)) (pss_one (ps_set (i := 4) scBe.nd rfl (.inl rfl) (pe_op op_cat (pe_op op_cat (pe_slice sl_list (pv 4) po_none (po_some (pv 5))) (pe_lst (pa_cons (pv 7) pa_nil))) (pe_slice sl_list (pv 4) (po_some (pv 5)) po_none)))) (pss_one (ps_if ((pw_and (pt_cmpR op_eq (pv 6) pe_int (by rfl)) (pw_and1 (pt_cmpR op_gt (pe_callB call_len_seq (by rfl) X.len boot_len (pa_cons (pv 4) pa_nil)) pe_int (by rfl)))).pt) (pss_one (ps_set (i := 4) scBe.nd rfl (.inl rfl) (pe_op op_cat (pe_slice sl_list (pv 4) po_none (po_some (pv 5))) (pe_slice sl_list (pv 4) (po_some (pe_op op_add (pv 5) pe_int)) po_none)))) (pss_one (ps_if (pt_cmpR op_eq (pv 6) pe_int (by rfl)) (pss_one (ps_set (i := 4) scBe.nd rfl (.inl rfl) (pe_op op_cat (pe_op op_cat (pe_slice sl_list (pv 4) po_none (po_some (pv 5))) (pe_lst (pa_cons (pe_ix ix_seq (pv 4) (pv 5) fun _ _ => rfl) pa_nil))) (pe_slice sl_list (pv 4) (po_some (pv 5)) po_none)))) pss_nil)))))))
      (C8.pss_cut (ps_set (i := 1) scBe.nd rfl (.inl rfl) (pe_join pe_str (pv 4)))
      (C8.pss_cut (ps_set (i := 8) scBe.nd rfl (.inl rfl) (pe_next N1 bN hr (by rfl) X.gNext X.kNext (pa_cons (pv 0) (pa_cons (pe_op op_add (pe_callB call_len_str (by rfl) X.len boot_len (pa_cons (pv 1) pa_nil)) pe_int) pa_nil))))
      (pss_one (ps_if (pt_cmpR op_eq (pv 6) pe_int (by rfl)) (pss_one (ps_set (i := 1) scBe.nd rfl (.inl rfl) (pe_op op_add_str (pe_op op_add_str (pe_slice sl_str (pv 1) po_none (po_some (pv 8))) (pe_ix ix_seq (pe_lst (pa_cons pe_str (pa_cons pe_str (pa_cons pe_str (pa_cons pe_str (pa_cons pe_str (pa_cons pe_str (pa_cons pe_str (pa_cons pe_str pa_nil))))))))) (pe_next N1 bN hr (by rfl) X.gNext X.kNext (pa_cons (pv 0) (pa_cons pe_int pa_nil))) fun _ _ => rfl)) (pe_slice sl_str (pv 1) (po_some (pv 8)) po_none)))) (pss_one (ps_if (pt_cmpR op_eq (pv 6) pe_int (by rfl)) (pss_one (ps_set (i := 1) scBe.nd rfl (.inl rfl) (pe_op op_add_str (pe_slice sl_str (pv 1) po_none (po_some (pv 8))) (pe_slice sl_str (pv 1) (po_some (pe_op op_add (pv 8) pe_int)) po_none)))) (pss_one (ps_if (pt_cmpR op_eq (pv 6) pe_int (by rfl)) (pss_one (ps_set (i := 1) scBe.nd rfl (.inl rfl) (pe_ix ix_seq (pe_lst (pa_cons (pe_op op_add_str (pv 1) pe_str) (pa_cons (pe_op op_add_str pe_str (pv 1)) (pa_cons (pe_op op_add_str (pe_op op_add_str (pv 1) pe_str) (pv 7)) pa_nil)))) (pe_next N1 bN hr (by rfl) X.gNext X.kNext (pa_cons (pv 0) (pa_cons pe_int pa_nil))) fun _ _ => rfl))) pss_nil)))))))))))))
      (pss_one (ps_ret (pe_slice sl_str (pv 1) po_none (po_some pe_int))))), ?_⟩
    refine ⟨_, rfl, t, 2, n, rfl, tp, by omega, by decide, by decide, fun d1 H1 d10 d12 t1 b1 => ?_⟩
    refine ⟨_, _, rfl, rfl, _, rfl, by omega, by omega, ?_⟩
    refine for_range (lo := 0) (n := (1 + d1).toNat) (fun j σ H' => ∃ (z : Str) (v3 v4 v5 v6 v7 v8 : Option V), σ = [some (.ref t), some (.str z), some (.ref ol), v3, v4, v5, v6, v7, v8] ∧ z.length + 40 ≤ 4040 * 6 ^ j ∧ Tp H' t (n + 1 + 6 * j) ∧ Bt t H H')
      ⟨given, _, _, _, _, _, _, rfl, by omega, t1, b1.bt⟩ (fun j σ H2 hj hp => ?_) (fun σ H' hp => ?_)
    · obtain ⟨z, v3, v4, v5, v6, v7, v8, rfl, hz, t2, bt2⟩ := hp
      have hj2 : j < 2 := by omega
      have hzl : z.length ≤ 25000 := by
        have : (6 : Nat) ^ j ≤ 6 := by
          exact Nat.le_trans (Nat.pow_le_pow_right (by decide) (show j ≤ 1 by omega)) (by decide)
        have := Nat.mul_le_mul_left 4040 this
        omega
      have grow : ∀ y : Nat, y ≤ 6 * z.length + 170 → y + 40 ≤ 4040 * 6 ^ (j + 1) := by
        intro y hy
        rw [Nat.pow_succ]
        have := Nat.mul_le_mul_left 6 hz
        generalize (6 : Nat) ^ j = e at this ⊢
        omega
      have hol2 := bt2 _ _ nt hol
      refine ⟨fun σ Hy => ∃ wl, H2 wl = none ∧ σ = [some (.ref t), some (.str z), some (.ref ol), some (.int (0 + (j : Nat))), some (.ref wl), v5, v6, v7, v8] ∧ Hy = upd H2 wl (.lst ((Txt.split z " ").map V.str)), ?_, ?_⟩
      · exact ⟨_, rfl, ⟨_, rfl⟩, z, " ", rfl, rfl, by decide +kernel, by rw [sizeLine_eq]; omega, fun wl hwl => ⟨wl, hwl, rfl, rfl⟩⟩
      · rintro σ' Hy ⟨wl, hwl, rfl, rfl⟩
        have sum := split_sum z
        have ne := split_ne z
        generalize Txt.split z " " = ws at sum ne
        have wl1 : 1 ≤ ws.length := by
          cases ws with
          | nil => exact absurd rfl ne
          | cons _ _ => simp
        have wl2 : ws.length ≤ 25001 := by omega
        have wsum : wtl ws = z.length + 1 := by rw [wtl_eq]; exact sum
        have wt : wl ≠ t := (t2.ne hwl).symm
        have ew : upd H2 wl (.lst (ws.map V.str)) wl = some (.lst (ws.map V.str)) := upd_same
        have t3 := t2.new (o := .lst (ws.map V.str)) hwl
        have bt3 := bt2.trans (Bt.new (t := t) (o := .lst (ws.map V.str)) hwl)
        generalize upd H2 wl (.lst (ws.map V.str)) = H3 at ew t3 bt3
        refine ⟨fun σ Hy => ∃ at_ way : Int, 0 ≤ at_ ∧ at_ < ws.length ∧ σ = [some (.ref t), some (.str z), some (.ref ol), some (.int (0 + (j : Nat))), some (.ref wl), some (.int at_), some (.int way), v7, v8] ∧ Hy wl = some (.lst (ws.map V.str)) ∧ Tp Hy t (n + 3 + 6 * j) ∧ Bt t H Hy, ?_, ?_⟩
        · refine ⟨_, rfl, _, rfl, wl, _, rfl, .inl (.inl (.inl ew)), t, _, n + 1 + 6 * j, rfl, t3, by omega, by rw [List.length_map]; omega, by rw [List.length_map]; omega, fun d H4 d0 d1 t4 b4 => ?_⟩
          refine ⟨_, rfl, t, 7, n + 1 + 6 * j + 1, rfl, t4, by omega, by decide, by decide, fun e H5 e0 e1 t5 b5 => ?_⟩
          refine ⟨_, _, rfl, d, e, d0, by rw [List.length_map] at d1; exact d1, rfl, (b5 wl wt).trans ((b4 wl wt).trans ew), t5.mono (by omega), bt3.trans (b4.bt.trans b5.bt)⟩
        · rintro σ' Hy ⟨at_, way, a0, a1, rfl, ew4, t4, bt4⟩
          have hol4 := bt4 _ _ nt hol
          refine ⟨fun σ Hz => ∃ one : Str, one.length ≤ 80 ∧ σ = [some (.ref t), some (.str z), some (.ref ol), some (.int (0 + (j : Nat))), some (.ref wl), some (.int at_), some (.int way), some (.str one), v8] ∧ Hz wl = some (.lst (ws.map V.str)) ∧ Tp Hz t (n + 4 + 6 * j) ∧ Bt t H Hz, ?_, ?_⟩
          · refine ⟨_, rfl, _, rfl, _, rfl, ol, _, rfl, .inl (.inl (.inl hol4)), t, _, n + 3 + 6 * j, rfl, t4, by omega, by rw [List.length_map]; omega, by rw [List.length_map]; omega, fun d H5 d0 d1' t5 b5 => ?_⟩
            rw [List.length_map] at d1'
            have hd : d.toNat < odds.length := by omega
            refine .inl ⟨ol, _, d, .str (odds.getD d.toNat Str.empty), rfl, rfl, .inl (.inl ((b5 ol nt).trans hol4)), at_i d0 d1', odds.getD d.toNat Str.empty, ?_, rfl, (b5 wl wt).trans ew4, t5.mono (by omega), bt4.trans b5.bt⟩
            have e : odds.getD d.toNat Str.empty = odds[d.toNat] := by simp [List.getD, hd]
            rw [e]
            exact ho _ (List.getElem_mem hd)
          · rintro σ' Hz ⟨one, h1l, rfl, ew5, t5, bt5⟩
            obtain ⟨V5, hV5⟩ : ∃ V5 : List (Option V), V5 = [some (.ref t), some (.str z), some (.ref ol), some (.int (0 + (j : Nat))), some (.ref wl), some (.int at_), some (.int way), some (.str one), v8] := ⟨_, rfl⟩
            refine ⟨fun σ Hy => ∃ (l : Addr) (us : List Str), wtl us ≤ 3 * z.length + 84 ∧ σ = [some (.ref t), some (.str z), some (.ref ol), some (.int (0 + (j : Nat))), some (.ref l), some (.int at_), some (.int way), some (.str one), v8] ∧ Hy l = some (.lst (us.map V.str)) ∧ Tp Hy t (n + 4 + 6 * j) ∧ Bt t H Hy, ?_, ?_⟩
            · refine ⟨_, rfl, rfl, _, rfl, ite2 (fun _ => ?_) (fun _ => ?_)⟩
              · refine ⟨_, rfl, _, rfl, _, rfl, lw_cut ew5 fun p us1 H1 s1 e1 w1 => ?_⟩
                refine ⟨_, rfl, Nat.le_of_ble_eq_true rfl, fun p2 hp2 => ?_⟩
                have s2 := same_upd (o := .lst [.str one]) hp2
                have e2 : upd H1 p2 (.lst [.str one]) p2 = some (.lst ([one].map V.str)) := upd_same
                generalize upd H1 p2 (.lst [.str one]) = H2 at s2 e2
                refine lw_cat (s2 _ _ e1) e2 (by rw [wtl_one]; omega) fun p3 H3 s3 e3 => ?_
                refine ⟨_, rfl, _, rfl, _, _, rfl, rfl, _, rfl, ?_⟩
                unfold tNoPart
                refine lw_cut (s3 _ _ (s2 _ _ (s1 _ _ ew5))) fun p4 us4 H4 s4 e4 w4 => ?_
                refine lw_cat (s4 _ _ e3) e4 (by rw [wtl_app, wtl_one]; omega) fun p5 H5 s5 e5 => ?_
                have ss : L2.Same Hz H5 := fun b o e => s5 _ _ (s4 _ _ (s3 _ _ (s2 _ _ (s1 _ _ e))))
                exact ⟨p5, _, by rw [wtl_app, wtl_app, wtl_one]; omega, rfl, e5, t5.same8 ss, bt5.trans fun b o _ e => ss b o e⟩
              · refine ⟨_, rfl, rfl, _, rfl, ite2 (fun _ => ?_) (fun _ => ?_)⟩
                · refine ⟨_, rfl, _, rfl, _, rfl, lw_cut ew5 fun p us1 H1 s1 e1 w1 => ?_⟩
                  refine ⟨_, rfl, Nat.le_of_ble_eq_true rfl, fun p2 hp2 => ?_⟩
                  have s2 := same_upd (o := .lst [.str one]) hp2
                  have e2 : upd H1 p2 (.lst [.str one]) p2 = some (.lst ([one].map V.str)) := upd_same
                  generalize upd H1 p2 (.lst [.str one]) = H2 at s2 e2
                  refine lw_cat (s2 _ _ e1) e2 (by rw [wtl_one]; omega) fun p3 H3 s3 e3 => ?_
                  refine ⟨_, rfl, _, rfl, _, rfl, ?_⟩
                  unfold tNoPart
                  refine lw_cut (s3 _ _ (s2 _ _ (s1 _ _ ew5))) fun p4 us4 H4 s4 e4 w4 => ?_
                  refine lw_cat (s4 _ _ e3) e4 (by rw [wtl_app, wtl_one]; omega) fun p5 H5 s5 e5 => ?_
                  have ss : L2.Same Hz H5 := fun b o e => s5 _ _ (s4 _ _ (s3 _ _ (s2 _ _ (s1 _ _ e))))
                  exact ⟨p5, _, by rw [wtl_app, wtl_app, wtl_one]; omega, rfl, e5, t5.same8 ss, bt5.trans fun b o _ e => ss b o e⟩
                · refine ⟨_, rfl, rfl, _, rfl, ite2 (fun _ => ?_) (fun _ => iteF ?_)⟩
                  · refine ⟨_, rfl, _, _, rfl, .inl (.inl (.inl ew5)), _, _, rfl, rfl, _, rfl, ite2 (fun _ => ?_) (fun _ => ?_)⟩
                    · refine ⟨_, rfl, _, rfl, _, rfl, lw_cut ew5 fun p us1 H1 s1 e1 w1 => ?_⟩
                      refine ⟨_, rfl, _, rfl, _, _, rfl, rfl, _, rfl, ?_⟩
                      unfold tNoPart
                      refine lw_cut (s1 _ _ ew5) fun p4 us4 H4 s4 e4 w4 => ?_
                      refine lw_cat (s4 _ _ e1) e4 (by omega) fun p5 H5 s5 e5 => ?_
                      have ss : L2.Same Hz H5 := fun b o e => s5 _ _ (s4 _ _ (s1 _ _ e))
                      exact ⟨p5, _, by rw [wtl_app]; omega, rfl, e5, t5.same8 ss, bt5.trans fun b o _ e => ss b o e⟩
                    · skip
                      refine ⟨_, rfl, rfl, _, rfl, ite2 (fun _ => ?_) (fun _ => ?_)⟩
                      · refine ⟨_, rfl, _, rfl, _, rfl, lw_cut ew5 fun p us1 H1 s1 e1 w1 => ?_⟩
                        refine ⟨_, rfl, _, rfl, .inl ⟨wl, _, at_, .str (ws.getD at_.toNat Str.empty), rfl, rfl, .inl (.inl (s1 _ _ ew5)), at_i a0 a1, ?_⟩⟩
                        have wm : (ws.getD at_.toNat Str.empty).length + 1 ≤ wtl ws := by
                          have hd : at_.toNat < ws.length := by omega
                          have e : ws.getD at_.toNat Str.empty = ws[at_.toNat] := by simp [List.getD, hd]
                          rw [e]
                          exact wtl_mem (List.getElem_mem hd)
                        generalize ws.getD at_.toNat Str.empty = wo at wm
                        refine ⟨Nat.le_of_ble_eq_true rfl, fun p2 hp2 => ?_⟩
                        have s2 := same_upd (o := .lst [.str wo]) hp2
                        have e2 : upd H1 p2 (.lst [.str wo]) p2 = some (.lst ([wo].map V.str)) := upd_same
                        generalize upd H1 p2 (.lst [.str wo]) = H2 at s2 e2
                        refine lw_cat (s2 _ _ e1) e2 (by rw [wtl_one]; omega) fun p3 H3 s3 e3 => ?_
                        refine ⟨_, rfl, _, rfl, _, rfl, ?_⟩
                        unfold tNoPart
                        refine lw_cut (s3 _ _ (s2 _ _ (s1 _ _ ew5))) fun p4 us4 H4 s4 e4 w4 => ?_
                        refine lw_cat (s4 _ _ e3) e4 (by rw [wtl_app, wtl_one]; omega) fun p5 H5 s5 e5 => ?_
                        have ss : L2.Same Hz H5 := fun b o e => s5 _ _ (s4 _ _ (s3 _ _ (s2 _ _ (s1 _ _ e))))
                        exact ⟨p5, _, by rw [wtl_app, wtl_app, wtl_one]; omega, rfl, e5, t5.same8 ss, bt5.trans fun b o _ e => ss b o e⟩
                      · exact ⟨wl, ws, by omega, rfl, ew5, t5, bt5⟩
                  · skip
                    refine ⟨_, rfl, rfl, _, rfl, ite2 (fun _ => ?_) (fun _ => ?_)⟩
                    · refine ⟨_, rfl, _, rfl, _, rfl, lw_cut ew5 fun p us1 H1 s1 e1 w1 => ?_⟩
                      refine ⟨_, rfl, _, rfl, .inl ⟨wl, _, at_, .str (ws.getD at_.toNat Str.empty), rfl, rfl, .inl (.inl (s1 _ _ ew5)), at_i a0 a1, ?_⟩⟩
                      have wm : (ws.getD at_.toNat Str.empty).length + 1 ≤ wtl ws := by
                        have hd : at_.toNat < ws.length := by omega
                        have e : ws.getD at_.toNat Str.empty = ws[at_.toNat] := by simp [List.getD, hd]
                        rw [e]
                        exact wtl_mem (List.getElem_mem hd)
                      generalize ws.getD at_.toNat Str.empty = wo at wm
                      refine ⟨Nat.le_of_ble_eq_true rfl, fun p2 hp2 => ?_⟩
                      have s2 := same_upd (o := .lst [.str wo]) hp2
                      have e2 : upd H1 p2 (.lst [.str wo]) p2 = some (.lst ([wo].map V.str)) := upd_same
                      generalize upd H1 p2 (.lst [.str wo]) = H2 at s2 e2
                      refine lw_cat (s2 _ _ e1) e2 (by rw [wtl_one]; omega) fun p3 H3 s3 e3 => ?_
                      refine ⟨_, rfl, _, rfl, _, rfl, ?_⟩
                      unfold tNoPart
                      refine lw_cut (s3 _ _ (s2 _ _ (s1 _ _ ew5))) fun p4 us4 H4 s4 e4 w4 => ?_
                      refine lw_cat (s4 _ _ e3) e4 (by rw [wtl_app, wtl_one]; omega) fun p5 H5 s5 e5 => ?_
                      have ss : L2.Same Hz H5 := fun b o e => s5 _ _ (s4 _ _ (s3 _ _ (s2 _ _ (s1 _ _ e))))
                      exact ⟨p5, _, by rw [wtl_app, wtl_app, wtl_one]; omega, rfl, e5, t5.same8 ss, bt5.trans fun b o _ e => ss b o e⟩
                    · exact ⟨wl, ws, by omega, rfl, ew5, t5, bt5⟩
            · rintro σ' Hy ⟨l, us, wu, rfl, el, t6, bt6⟩
              refine ⟨fun σ Hw => ∃ z2 : Str, z2.length ≤ 3 * z.length + 84 ∧ σ = [some (.ref t), some (.str z2), some (.ref ol), some (.int (0 + (j : Nat))), some (.ref l), some (.int at_), some (.int way), some (.str one), v8] ∧ Tp Hw t (n + 4 + 6 * j) ∧ Bt t H Hw, ?_, ?_⟩
              · have uj := join_len " " (by decide +kernel) us
                refine ⟨⟨_, rfl⟩, _, rfl, _, _, us, rfl, rfl, .inl (.inl (.inl el)), ?_, _, Nat.le_trans uj wu, rfl, t6, bt6⟩
                have := wtl_eq us
                rw [show (" " : Str).length = 1 by decide +kernel]
                omega
              · rintro σ' Hw ⟨z2, hz2, rfl, t7, bt7⟩
                refine ⟨fun σ Hv => ∃ sp : Int, σ = [some (.ref t), some (.str z2), some (.ref ol), some (.int (0 + (j : Nat))), some (.ref l), some (.int at_), some (.int way), some (.str one), some (.int sp)] ∧ Tp Hv t (n + 5 + 6 * j) ∧ Bt t H Hv, ?_, ?_⟩
                · refine ⟨_, rfl, _, rfl, z2, rfl, by rw [sizeLine_eq]; omega, _, _, rfl, rfl, t, _, n + 4 + 6 * j, rfl, t7, by omega, by omega, by omega, fun d Hv d0 d1' t8 b8 => ?_⟩
                  exact ⟨_, rfl, t8.mono (by omega), bt7.trans b8.bt⟩
                · rintro σ' Hv ⟨sp, rfl, t8, bt8⟩
                  have c1 := cutS_length z2 none (some sp)
                  have c2 := cutS_length z2 (some sp) none
                  have c3 := cutS_length z2 (some (sp + 1)) none
                  refine ⟨_, rfl, rfl, _, rfl, ite2 (fun _ => ?_) (fun _ => ?_)⟩
                  · refine ⟨_, rfl, ?_⟩
                    refine ⟨_, rfl, _, rfl, z2, rfl, by rw [sizeLine_eq]; omega, ?_⟩
                    refine ⟨Nat.le_of_ble_eq_true rfl, fun ml hml => ?_⟩
                    have s1 := same_upd (o := .lst [.str " ", .str "0", .str "-", .str "a", .str "@", .str "9", .str "_", .str "."]) hml
                    have e1 : upd Hv ml (.lst [.str " ", .str "0", .str "-", .str "a", .str "@", .str "9", .str "_", .str "."]) ml = some (.lst [.str " ", .str "0", .str "-", .str "a", .str "@", .str "9", .str "_", .str "."]) := upd_same
                    generalize upd Hv ml (.lst [.str " ", .str "0", .str "-", .str "a", .str "@", .str "9", .str "_", .str "."]) = H1 at s1 e1 ⊢
                    have t9 := t8.same8 s1
                    refine ⟨_, rfl, t, 8, n + 5 + 6 * j, rfl, t9, by omega, by decide, by decide, fun d H2 d0 d1' t10 b10 => ?_⟩
                    obtain ⟨x, hx, lx⟩ := sign8 d d0 d1'
                    refine .inl ⟨ml, _, d, .str x, rfl, rfl, .inl (.inl ((b10 ml (t8.ne hml).symm).trans e1)), hx, ?_⟩
                    refine ⟨_, _, rfl, rfl, by rw [sizeLine_eq, lx]; omega, _, rfl, _, rfl, _, rfl, ?_⟩
                    refine ⟨z2, rfl, by rw [sizeLine_eq]; omega, _, _, rfl, rfl, by rw [sizeLine_eq, app_len, lx]; omega, ?_⟩
                    exact ⟨_, _, _, _, _, _, _, rfl, grow _ (by rw [app_len, app_len, lx]; omega), t10.mono (by omega), (bt8.trans (fun b o _ e => s1 b o e)).trans b10.bt⟩
                  · refine ⟨_, rfl, rfl, _, rfl, ite2 (fun _ => ?_) (fun _ => ?_)⟩
                    · refine ⟨_, rfl, ?_⟩
                      refine ⟨_, rfl, _, rfl, z2, rfl, by rw [sizeLine_eq]; omega, _, rfl, _, rfl, _, _, rfl, rfl, _, rfl, ?_⟩
                      refine ⟨z2, rfl, by rw [sizeLine_eq]; omega, _, _, rfl, rfl, by rw [sizeLine_eq]; omega, ?_⟩
                      exact ⟨_, _, _, _, _, _, _, rfl, grow _ (by rw [app_len]; omega), t8.mono (by omega), bt8⟩
                    · refine ⟨_, rfl, rfl, _, rfl, ite2 (fun _ => ?_) (fun _ => ?_)⟩
                      · have l1 : (" " : Str).length = 1 := by decide +kernel
                        have l2 : ("  " : Str).length = 2 := by decide +kernel
                        refine ⟨_, rfl, _, _, rfl, rfl, by rw [sizeLine_eq, l1]; omega, _, rfl, _, _, rfl, rfl, by rw [sizeLine_eq, l1]; omega, _, rfl, _, _, rfl, rfl, by rw [sizeLine_eq, l2]; omega, _, rfl, _, _, rfl, rfl, by rw [sizeLine_eq, app_len, l2]; omega, Nat.le_of_ble_eq_true rfl, fun ml hml => ?_⟩
                        obtain ⟨L, hL⟩ : ∃ L : List V, L = [.str (z2 ++ " "), .str (" " ++ z2), .str ((z2 ++ "  ") ++ one)] := ⟨_, rfl⟩
                        rw [← hL]
                        have s1 := same_upd (o := .lst L) hml
                        have e1 : upd Hv ml (.lst L) ml = some (.lst L) := upd_same
                        generalize upd Hv ml (.lst L) = H1 at s1 e1 ⊢
                        have t9 := t8.same8 s1
                        refine ⟨_, rfl, t, 3, n + 5 + 6 * j, rfl, t9, by omega, by decide, by decide, fun d H2 d0 d1' t10 b10 => ?_⟩
                        have hx : ∃ x : Str, atI L d = some (.str x) ∧ x.length ≤ z2.length + 82 := by
                          rw [hL]
                          have : d = 0 ∨ d = 1 ∨ d = 2 := by omega
                          rcases this with rfl | rfl | rfl
                          · exact ⟨_, rfl, by rw [app_len, l1]; omega⟩
                          · exact ⟨_, rfl, by rw [app_len, l1]; omega⟩
                          · exact ⟨_, rfl, by rw [app_len, app_len, l2]; omega⟩
                        obtain ⟨x, hx, lx⟩ := hx
                        refine .inl ⟨ml, _, d, .str x, rfl, rfl, .inl (.inl ((b10 ml (t8.ne hml).symm).trans e1)), hx, ?_⟩
                        exact ⟨_, _, _, _, _, _, _, rfl, grow _ (by omega), t10.mono (by omega), (bt8.trans (fun b o _ e => s1 b o e)).trans b10.bt⟩
                      · exact ⟨z2, _, _, _, _, _, _, rfl, grow _ (by omega), t8.mono (by omega), bt8⟩
    · obtain ⟨z, v3, v4, v5, v6, v7, v8, rfl, hz, t2, bt2⟩ := hp
      have hzl : z.length ≤ 150000 := by
        have : (6 : Nat) ^ (1 + d1).toNat ≤ 36 := by
          have h : (1 + d1).toNat ≤ 2 := by omega
          exact Nat.le_trans (Nat.pow_le_pow_right (by decide) h) (by decide)
        have := Nat.mul_le_mul_left 4040 this
        omega
      have := cut4000 z
      exact ⟨_, rfl, _, rfl, z, rfl, by rw [sizeLine_eq]; omega, q _ _ (by omega) (t2.mono (by omega)) bt2⟩
end
end Ov

set_option Elab.async false
set_option linter.all false
/-! a short text many times -/
namespace Ov
open PySem PySem.Spec PyProof.Rows L2
theorem op_mulM {X : Cx} : OpR X (binaryOp .Mult) (fun x y H Q => ∃ (z : Str) (n : Int), x = .str z ∧ y = .int n ∧ 0 ≤ n ∧ n ≤ 5000 ∧ z.length ≤ 100 ∧ Q (.str ⟨(List.replicate n.toNat z.cps.toList).flatten.toArray⟩) H) := by
  intro pins s σ H x y v u Q I rx ry h
  obtain ⟨z, n, rfl, rfl, h0, h1', hz, q⟩ := h
  obtain ⟨t, rfl⟩ := rx
  obtain ⟨t', rfl⟩ := ry
  have hn : ¬ n < -(2 ^ 63 : Int) := by omega
  refine PySem.P.mul_str (by simp; omega) (fun h1 h2 => ?_) (fun h1 h2 => ?_) ?_
  · refine Int.not_lt.mpr (Int.le_ediv_of_mul_le (by omega) ?_)
    have : (z.length : Int) * n ≤ 100 * 5000 := Int.mul_le_mul (by omega) h1' h0 (by decide)
    omega
  · unfold Builtin.Str.tooLong
    have : z.length * n.toNat ≤ 100 * 5000 := Nat.mul_le_mul hz (by omega)
    exact decide_eq_false (by rw [sizeLine_eq]; omega)
  · have e1 : n < 1 → (⟨(List.replicate n.toNat z.cps.toList).flatten.toArray⟩ : Str) = Str.empty := fun h => by
      have : n.toNat = 0 := by omega
      rw [this]; rfl
    have e2 : (n == 1 || z.length == 0) = true → (⟨(List.replicate n.toNat z.cps.toList).flatten.toArray⟩ : Str) = z := fun h => by
      rw [Bool.or_eq_true, beq_iff_eq, beq_iff_eq] at h
      rcases h with rfl | h
      · simp
      · have e : z.cps = #[] := Array.eq_empty_of_size_eq_zero h
        rw [show z = ⟨#[]⟩ from by cases z; simp_all]
        simp
    have e3 : ∀ (k : Nat) (acc : Array Nat), (List.replicate k z.cps).foldl (· ++ ·) acc = acc ++ (List.replicate k z.cps.toList).flatten.toArray := fun k => by
      induction k with
      | zero => intro acc; simp
      | succ k ih =>
        intro acc
        rw [List.replicate_succ, List.foldl_cons, ih, List.replicate_succ, List.flatten_cons]
        apply Array.ext'
        simp
    split
    · rename_i hlt
      rw [e1 hlt] at q
      exact ⟨by decide, .str _, H, I.tok _, ⟨_, rfl⟩, q⟩
    · split
      · rename_i hb
        rw [e2 hb] at q
        exact ⟨.str z, H, I, ⟨_, rfl⟩, q⟩
      · rw [e3 n.toNat #[]]
        have hl : ∀ k : Nat, ((List.replicate k z.cps.toList).flatten).length = z.length * k := fun k => by
          simp [Str.length, Nat.mul_comm]
        refine ⟨?_, .str _, H, I.tok _, ⟨_, rfl⟩, by simpa using q⟩
        have : z.length * n.toNat ≤ 100 * 5000 := Nat.mul_le_mul hz (by omega)
        show (#[] ++ (List.replicate n.toNat z.cps.toList).flatten.toArray : Array Nat).size ≤ sizeLine
        have e5 : (#[] ++ (List.replicate n.toNat z.cps.toList).flatten.toArray : Array Nat).size = z.length * n.toNat := by
          rw [← hl n.toNat, Array.size_append, List.size_toArray, List.size_toArray]
          simp
        rw [e5, sizeLine_eq]
        omega
end Ov

set_option Elab.async false
set_option linter.all false
/-! lists of texts that are made -/
namespace Ov
open PySem PySem.Spec L2
theorem mk_lst {T : List Addr} {H0 H : Hp} {p : Addr} {xs : List V} (k : Kep T H0 H) (hp : H p = none) (L : List Str) (e : xs = L.map V.str) : ∃ H', upd H p (.lst xs) = H' ∧ Kep T H0 H' ∧ L2.Same H H' ∧ H' p = some (.lst (L.map V.str)) :=
  ⟨_, rfl, k.trans (Kep.new k.1 hp), same_upd hp, by rw [e]; exact upd_same⟩
end Ov

set_option Elab.async false
set_option linter.all false
set_option maxRecDepth 100000
set_option maxHeartbeats 4000000
/-! law -/
namespace Ov
open PySem PySem.Spec PyProof.Rows L2 GxR
abbrev sLaw83 : Stmt := top 40
abbrev NLaw83 : List Str := ["script", "backs", "odd", "k", "vat", "many", "some", "given", "step", "whole", "one", "spot"]
theorem scLaw83 : FnScope NLaw83 ["script"] (defScope sLaw83) := ⟨rfl, rfl, rfl, by decide +kernel, rfl, by decide +kernel, by decide +kernel⟩
def spLaw83 (K : PySem.W.Frag) (T : List Addr) : Sp := fun vs H Q _ => ∃ (a : Addr) (ns : List Int), vs = [.ref a] ∧ (∀ p ∈ T, TabG H p) ∧ SqL K H a (ns.map V.int) ∧ ns.length ≤ 63 ∧ ∀ H', Q (.bl true) H'
structure LwK (K : PySem.W.Frag) (mg : Str → Option Value) (fRt fBe fWr fAl fWd fSo : Addr) : Prop where
  gRt : mg "_law_right" = some (.ref fRt)
  kRt : PySem.W.keepIn K (.ref fRt) = true
  gBe : mg "_law_bent" = some (.ref fBe)
  kBe : PySem.W.keepIn K (.ref fBe) = true
  gWr : mg "write_parts" = some (.ref fWr)
  kWr : PySem.W.keepIn K (.ref fWr) = true
  gAl : mg "_law_backs" = some (.ref fAl)
  kAl : PySem.W.keepIn K (.ref fAl) = true
  gWd : mg "_law_word" = some (.ref fWd)
  kWd : PySem.W.keepIn K (.ref fWd) = true
  gSo : mg "_law_some" = some (.ref fSo)
  kSo : PySem.W.keepIn K (.ref fSo) = true
theorem KepX.nol {T : List Addr} {t : Addr} {H H2 : Hp} {n : Nat} (x : KepX T t H H2) (hT : ∀ p ∈ T, TabG H p) (tp : Tp H t n) : ∀ a o, (∀ ps, o ≠ HO.tbl ps) → (∀ xs, o ≠ HO.lst xs) → H a = some o → H2 a = some o := fun a o n1 n2 e => x.at hT (fun z => by
  obtain ⟨_, _, _, e2, _⟩ := tp
  rw [z, e2] at e
  exact n2 _ (Option.some.inj e).symm) e n1
theorem TsA.at2 {H H2 : Hp} (k : ∀ a o, (∀ ps, o ≠ HO.tbl ps) → (∀ xs, o ≠ HO.lst xs) → H a = some o → H2 a = some o) : ∀ {ps : List Addr} {l : List (List Int)}, TsA H ps l → TsA H2 ps l
  | [], [], _ => trivial
  | _ :: _, _ :: _, h => ⟨k _ _ (fun _ z => by cases z) (fun _ z => by cases z) h.1, TsA.at2 k h.2⟩
theorem Whole.at2 {H H2 : Hp} {d : Addr} (k : ∀ a o, (∀ ps, o ≠ HO.tbl ps) → (∀ xs, o ≠ HO.lst xs) → H a = some o → H2 a = some o) (h : Whole H d) : Whole H2 d := by
  obtain ⟨kvs, e, h1⟩ := h
  refine ⟨kvs, k _ _ (fun _ z => by cases z) (fun _ z => by cases z) e, fun z => ?_⟩
  have h2 := h1 z
  cases hv : valV kvs (.inr z) with
  | none => rw [hv] at h2; exact h2
  | some v =>
    rw [hv] at h2
    obtain ⟨p, x, e1, e2, e3⟩ := h2
    exact ⟨p, x, e1, k _ _ (fun _ z => by cases z) (fun _ z => by cases z) e2, e3⟩
section
variable {P : Program} {w : World} {K : PySem.W.Frag} {mg : Str → Option Value} {base : Heap} {T : List Addr} {C fLow fText fAre fTape fNext fInks fRt fBe fWr fAl fWd fSo : Addr}
theorem ok_law83 {f : Addr} {fd fdTp fdNx fdRt fdBe fdWr fdAl fdWd fdSo : FuncData} (F : L2.Fun K "law" "law" sLaw83 f fd) (FTp : L2.Fun K "_law_vat" "_law_vat" sTape fTape fdTp) (FNx : L2.Fun K "_law_sip" "_law_sip" sNext fNext fdNx) (FAl : L2.Fun K "_law_backs" "_law_backs" sAl fAl fdAl) (FWd : L2.Fun K "_law_word" "_law_word" sWd fWd fdWd) (FSo : L2.Fun K "_law_some" "_law_some" sSo fSo fdSo)
    (FRt : L2.Fun K "_law_right" "_law_right" sRt fRt fdRt) (RT : FnG P w K mg base CX0 6 fRt fdRt ["given", "backs"] (spRt T)) (FBe : L2.Fun K "_law_bent" "_law_bent" sBe fBe fdBe) (FWr : L2.Fun K "write_parts" "write_parts" sWrR fWr fdWr) (WR : FnOk P w K mg base CX0 1 fWr fdWr ["parts"] (spWrR T))
    (X : Txt K mg C fLow fText fAre fTape fNext fInks) (hsrt : mg "sorted" = none) (L : LwK K mg fRt fBe fWr fAl fWd fSo) : FnG P w K mg base CX0 7 f fd ["script"] (spLaw83 K T) := by
  have TT : FnOk P w K mg base CX0 1 fTape fdTp ["script", "k"] (spTape K) := ok_tape FTp X
  have bT : Binds K fdTp ["script", "k"] [] := FTp.binds fun _ _ _ _ _ _ us hl => match us, hl with | [_, _], _ => rfl
  have N1 : FnOk P w K mg base CX0 1 fNext fdNx ["vat", "size"] spNext := ok_next FNx X
  have bN : Binds K fdNx ["vat", "size"] [] := FNx.binds fun _ _ _ _ _ _ us hl => match us, hl with | [_, _], _ => rfl
  have BE : FnOk P w K mg base CX0 2 fBe fdBe ["vat", "given", "odd"] spBe := ok_be FBe FNx X
  have bBe : Binds K fdBe ["vat", "given", "odd"] [] := FBe.binds fun _ _ _ _ _ _ us hl => match us, hl with | [_, _, _], _ => rfl
  have bRt : Binds K fdRt ["given", "backs"] [] := FRt.binds fun _ _ _ _ _ _ us hl => match us, hl with | [_, _], _ => rfl
  have bWr : Binds K fdWr ["parts"] [] := FWr.binds fun _ _ _ _ _ _ us hl => match us, hl with | [_], _ => rfl
  have WD : FnOk P w K mg base CX0 1 fWd fdWd ["one"] spWd := ok_wd FWd X
  have bWd : Binds K fdWd ["one"] [] := FWd.binds fun _ _ _ _ _ _ us hl => match us, hl with | [_], _ => rfl
  have SO : FnOk P w K mg base CX0 2 fSo fdSo ["vat", "many"] spSo := ok_so FSo FNx X hsrt
  have bSo : Binds K fdSo ["vat", "many"] [] := FSo.binds fun _ _ _ _ _ _ us hl => match us, hl with | [_, _], _ => rfl
  have AL : FnOk P w K mg base CX0 1 fAl fdAl [] spAl := ok_al FAl X
  have bAl : Binds K fdAl [] [] := FAl.binds fun _ _ _ _ _ _ us hl => match us, hl with | [], _ => rfl
  refine fun_okG F scLaw83 (fun vs H Q E h => ?_) (fun cdv A' outer s H vs Q E hg hr h => ?_)
  · obtain ⟨a, ns, rfl, _⟩ := h
    rfl
  · obtain ⟨a, ns, rfl, hT, hs, hn, q⟩ := h
    have hu : (A'.deeper (envOfC "law" (defScope sLaw83) s.heap.objs.size f cdv)).units + 64 < cLine := hr.units
    refine ⟨_, (pss_cons (ps_set (i := 1) scLaw83.nd rfl (.inr rfl) (pe_call0 AL (hr.mono (by decide)) (by rfl) L.gAl L.kAl bAl .nil L2.pass0))
      (pss_cons (ps_set (i := 2) scLaw83.nd rfl (.inl rfl) (pe_lst (pa_cons pe_str (pa_cons pe_str (pa_cons pe_str (pa_cons pe_str (pa_cons pe_str (pa_cons pe_str (pa_cons pe_str (pa_cons pe_str (pa_cons pe_str pa_nil)))))))))))
      (pss_cons (ps_set (i := 2) scLaw83.nd rfl (.inl rfl) (pe_op op_cat (pv 2) (pe_lst (pa_cons pe_str (pa_cons pe_str (pa_cons pe_str (pa_cons pe_str (pa_cons pe_str (pa_cons pe_str (pa_cons pe_str (pa_cons pe_str (pa_cons pe_str pa_nil))))))))))))
      (pss_cons (ps_set (i := 2) scLaw83.nd rfl (.inl rfl) (pe_op op_cat (pv 2) (pe_lst (pa_cons pe_str (pa_cons pe_str (pa_cons pe_str (pa_cons pe_str (pa_cons pe_str (pa_cons pe_str (pa_cons pe_str (pa_cons pe_str (pa_cons pe_str pa_nil))))))))))))
      (pss_cons (ps_set (i := 2) scLaw83.nd rfl (.inl rfl) (pe_op op_cat (pv 2) (pe_lst (pa_cons (pe_op op_add_str (pe_op op_mulM pe_str pe_int) pe_str) (pa_cons pe_str (pa_cons pe_str pa_nil))))))
      (pss_cons (ps_for PassesOwn.never rfl (pi_range1 (by rfl) X.rng (pa_cons (pe_callB (call_max2 rfl) (by rfl) X.max boot_max (pa_cons pe_int (pa_cons (pe_callB (call_min2 rfl) (by rfl) X.min boot_min (pa_cons pe_int (pa_cons (pe_callB call_len_seq (by rfl) X.len boot_len (pa_cons (pv 0) pa_nil)) pa_nil))) pa_nil))) pa_nil)) (pg_name (i := 3) scLaw83.nd rfl (Or.inl rfl)) (pss_cons (ps_set (i := 4) scLaw83.nd rfl (.inl rfl) (pe_call TT (hr.mono (by decide)) (by rfl) X.gTape X.kTape bT .nil L2.pass0 (pa_cons (pv 0) (pa_cons (pv 3) pa_nil))))
      (pss_one (ps_for PassesOwn.never rfl (pi_list (pe_lst (pa_cons (pe_op op_add pe_int (pe_call N1 (hr.mono (by decide)) (by rfl) X.gNext X.kNext bN .nil L2.pass0 (pa_cons (pv 4) (pa_cons pe_int pa_nil)))) (pa_cons (pe_ix ix_seq (pe_lst (pa_cons pe_int (pa_cons pe_int (pa_cons pe_int (pa_cons (pe_op op_add pe_int (pe_call N1 (hr.mono (by decide)) (by rfl) X.gNext X.kNext bN .nil L2.pass0 (pa_cons (pv 4) (pa_cons pe_int pa_nil)))) pa_nil))))) (pe_call N1 (hr.mono (by decide)) (by rfl) X.gNext X.kNext bN .nil L2.pass0 (pa_cons (pv 4) (pa_cons pe_int pa_nil))) fun _ _ => rfl) pa_nil)))) (pg_name (i := 5) scLaw83.nd rfl (Or.inl rfl)) (pss_cons (ps_set (i := 6) scLaw83.nd rfl (.inl rfl) (pe_call SO (hr.mono (by decide)) (by rfl) L.gSo L.kSo bSo .nil L2.pass0 (pa_cons (pv 4) (pa_cons (pv 5) pa_nil))))
      (C8.pss_cut (ps_set (i := 7) scLaw83.nd rfl (.inl rfl) (pe_join pe_str (pe_lc (own := [("one", 10)]) (g := gName 10) (tt := tYes) (by rfl) scLaw83.nd (pi_list (pv 6)) (blkOk_by (own := [("one", 10)]) (N := NLaw83) (sc := defScope sLaw83) (by decide +kernel)) (fun _ _ _ _ _ => pg_name (i := 10) scLaw83.nd rfl (Or.inl rfl)) (fun _ _ _ _ _ => pts_nil) (fun _ _ _ _ _ => pe_call WD (hr.mono (by decide)) (by rfl) L.gWd L.kWd bWd .nil L2.pass0 (pa_cons (pv 10) pa_nil)))))
      (pss_cons (ps_if ((pw_or (pt_cmpR op_ne (pe_call WR (hr.mono (by decide)) (by rfl) L.gWr L.kWr bWr .nil L2.pass0 (pa_cons (pv 6) pa_nil)) (pv 7) (by rfl)) (pw_or1 (pt_not (pt_val (pe_callG RT hg (hr.mono (by decide)) (by rfl) L.gRt L.kRt bRt L2.pass0 (pa_cons (pv 7) (pa_cons (pv 1) pa_nil))))))).pt) (pss_one (ps_ret pe_bl)) pss_nil)
      (pss_one (ps_for PassesOwn.never rfl (pi_range1 (by rfl) X.rng (pa_cons pe_int pa_nil)) (pg_name (i := 8) scLaw83.nd rfl (Or.inl rfl)) (pss_one (ps_if (pt_not (pt_val (pe_callG RT hg (hr.mono (by decide)) (by rfl) L.gRt L.kRt bRt L2.pass0 (pa_cons (pe_call BE (hr.mono (by decide)) (by rfl) L.gBe L.kBe bBe .nil L2.pass0 (pa_cons (pv 4) (pa_cons (pv 7) (pa_cons (pv 2) pa_nil)))) (pa_cons (pv 1) pa_nil))))) (pss_one (ps_ret pe_bl)) pss_nil)))))))))))
      (pss_cons (ps_set (i := 9) scLaw83.nd rfl (.inl rfl) (pe_join pe_str (pe_lc (own := [("spot", 11)]) (g := gName 11) (tt := tYes) (by rfl) scLaw83.nd (pi_range1 (by rfl) X.rng (pa_cons pe_int pa_nil)) (blkOk_by (own := [("spot", 11)]) (N := NLaw83) (sc := defScope sLaw83) (by decide +kernel)) (fun _ _ _ _ _ => pg_name (i := 11) scLaw83.nd rfl (Or.inl rfl)) (fun _ _ _ _ _ => pts_nil) (fun _ _ _ _ _ => pe_op op_add_str (pe_callTy call_str_int (by rfl) X.str (by decide +kernel) (pa_cons (pv 11) pa_nil)) pe_str))))
      (pss_cons (ps_set (i := 6) scLaw83.nd rfl (.inl rfl) (pe_op op_cat (pv 2) (pe_lst (pa_cons (pv 9) (pa_cons (pe_op op_add_str (pv 9) pe_str) (pa_cons (pe_op op_add_str (pv 9) pe_str) (pa_cons pe_str (pa_cons pe_str (pa_cons pe_str pa_nil)))))))))
      (pss_cons (ps_expr (pe_bm PySem.F.plainAttrs_list PySem.F.slot_list_append PySem.F.type_list_append mt_append (pv 6) (pa_cons pe_str pa_nil)))
      (pss_one (ps_ret (pe_cmpR (op_eqD hu) (pe_lc (own := [("given", 7)]) (g := gName 7) (by rfl) scLaw83.nd (pi_list (pv 6)) (blkOk_by (own := [("given", 7)]) (N := NLaw83) (sc := defScope sLaw83) (by decide +kernel)) (fun _ _ _ _ _ => pg_name (i := 7) scLaw83.nd rfl (Or.inl rfl)) (fun _ _ _ _ _ => pts_one (pt_not (pt_val (pe_callG RT hg (hr.mono (by decide)) (by rfl) L.gRt L.kRt bRt L2.pass0 (pa_cons (pv 7) (pa_cons (pv 1) pa_nil)))))) (fun _ _ _ _ _ => pv 7)) (pe_lst pa_nil) (by rfl))))))))))))), ?_⟩
    refine ⟨rfl, fun d H1 hd1 s1 w1 => ?_⟩
    have k1 : Kep T H H1 := kepSame hT s1
    refine ⟨Nat.le_of_ble_eq_true rfl, fun o1 ho1 => ?_⟩
    have wh1 : Whole H1 d := w1
    obtain ⟨H2, hH2, k2, s2, e2⟩ := mk_lst (xs := [.str "", .str "-", .str "0:0+0*1", .str "119:5+7*1", .str "119:0+0*8", .str "120:0+0*1", .str "-1:0+0*1", .str "0:6+0*1", .str "0:0+8*1"]) k1 ho1 ["", "-", "0:0+0*1", "119:5+7*1", "119:0+0*8", "120:0+0*1", "-1:0+0*1", "0:6+0*1", "0:0+8*1"] rfl
    rw [hH2]
    have b1 : ∀ z ∈ (["", "-", "0:0+0*1", "119:5+7*1", "119:0+0*8", "120:0+0*1", "-1:0+0*1", "0:6+0*1", "0:0+8*1"] : List Str), z.length ≤ 80 := by decide +kernel
    generalize hL1 : (["", "-", "0:0+0*1", "119:5+7*1", "119:0+0*8", "120:0+0*1", "-1:0+0*1", "0:6+0*1", "0:0+8*1"] : List Str) = LA at e2 b1
    have n1 : LA.length = 9 := by rw [← hL1]; rfl
    clear hL1
    refine ⟨_, rfl, Nat.le_of_ble_eq_true rfl, fun o2 ho2 => ?_⟩
    obtain ⟨H3, hH3, k3, s3, e3⟩ := mk_lst (xs := [.str "0:0+0*0", .str "0:0+0*9", .str "0:0+7*2", .str "0:0+1*8", .str "00:0+0*1", .str "0:0+0*01", .str "0:0+0", .str "0:0*1", .str "0:0+0*1*1"]) k2 ho2 ["0:0+0*0", "0:0+0*9", "0:0+7*2", "0:0+1*8", "00:0+0*1", "0:0+0*01", "0:0+0", "0:0*1", "0:0+0*1*1"] rfl
    rw [hH3]
    have b2 : ∀ z ∈ (["0:0+0*0", "0:0+0*9", "0:0+7*2", "0:0+1*8", "00:0+0*1", "0:0+0*01", "0:0+0", "0:0*1", "0:0+0*1*1"] : List Str), z.length ≤ 80 := by decide +kernel
    generalize hL2 : (["0:0+0*0", "0:0+0*9", "0:0+7*2", "0:0+1*8", "00:0+0*1", "0:0+0*01", "0:0+0", "0:0*1", "0:0+0*1*1"] : List Str) = LB at e3 b2
    have n2 : LB.length = 9 := by rw [← hL2]; rfl
    clear hL2
    refine ⟨o1, o2, _, _, rfl, rfl, s3 _ _ e2, e3, by rw [List.length_map, List.length_map, n1, n2]; decide, fun o3 ho3 => ?_⟩
    obtain ⟨H4, hH4, k4, s4, e4⟩ := mk_lst (xs := LA.map V.str ++ LB.map V.str) k3 ho3 (LA ++ LB) (List.map_append (l₁ := LA) (l₂ := LB)).symm
    rw [hH4]
    refine ⟨_, rfl, Nat.le_of_ble_eq_true rfl, fun o4 ho4 => ?_⟩
    obtain ⟨H5, hH5, k5, s5, e5⟩ := mk_lst (xs := [.str ":0+0*1", .str "0:+0*1", .str "0:0+*1", .str "0:0-0*1", .str "5:1+1*1:2", .str "0:0+0*-1", .str "0:0+0*1_", .str "0@1", .str "0:0+-0*1"]) k4 ho4 [":0+0*1", "0:+0*1", "0:0+*1", "0:0-0*1", "5:1+1*1:2", "0:0+0*-1", "0:0+0*1_", "0@1", "0:0+-0*1"] rfl
    rw [hH5]
    have b3 : ∀ z ∈ ([":0+0*1", "0:+0*1", "0:0+*1", "0:0-0*1", "5:1+1*1:2", "0:0+0*-1", "0:0+0*1_", "0@1", "0:0+-0*1"] : List Str), z.length ≤ 80 := by decide +kernel
    generalize hL3 : ([":0+0*1", "0:+0*1", "0:0+*1", "0:0-0*1", "5:1+1*1:2", "0:0+0*-1", "0:0+0*1_", "0@1", "0:0+-0*1"] : List Str) = LC at e5 b3
    have n3 : LC.length = 9 := by rw [← hL3]; rfl
    clear hL3
    refine ⟨o3, o4, _, _, rfl, rfl, s5 _ _ e4, e5, by rw [List.length_map, List.length_map, List.length_append, n1, n2, n3]; decide, fun o5 ho5 => ?_⟩
    obtain ⟨H6a, hH6a, k6a, s6a, e6a⟩ := mk_lst (xs := (LA ++ LB).map V.str ++ LC.map V.str) k5 ho5 (LA ++ LB ++ LC) (List.map_append (l₁ := LA ++ LB) (l₂ := LC)).symm
    rw [hH6a]
    refine ⟨_, rfl, _, 60, rfl, rfl, by decide, by decide, by decide +kernel, _, _, rfl, rfl, by rw [rep_len, show ("9" : Str).length = 1 by decide +kernel, show (":0+0*1" : Str).length = 6 by decide +kernel, sizeLine_eq]; decide, Nat.le_of_ble_eq_true rfl, fun o6 ho6 => ?_⟩
    have r1 : ((⟨(List.replicate (60 : Int).toNat ("9" : Str).cps.toList).flatten.toArray⟩ : Str) ++ ":0+0*1").length ≤ 80 := by
      rw [app_len, rep_len, show ("9" : Str).length = 1 by decide +kernel, show (":0+0*1" : Str).length = 6 by decide +kernel]; decide
    generalize ((⟨(List.replicate (60 : Int).toNat ("9" : Str).cps.toList).flatten.toArray⟩ : Str) ++ ":0+0*1") = Z1 at r1 ⊢
    obtain ⟨H7a, hH7a, k7a, s7a, e7a⟩ := mk_lst (xs := [.str Z1, .str "0+0:0*1", .str "1:0+0*1\n"]) k6a ho6 [Z1, "0+0:0*1", "1:0+0*1\n"] rfl
    rw [hH7a]
    have b4 : ∀ z ∈ ([Z1, "0+0:0*1", "1:0+0*1\n"] : List Str), z.length ≤ 80 := by
      intro z hz
      simp only [List.mem_cons, List.not_mem_nil, or_false] at hz
      rcases hz with rfl | rfl | rfl
      · exact r1
      · decide +kernel
      · decide +kernel

    generalize hL4 : ([Z1, "0+0:0*1", "1:0+0*1\n"] : List Str) = LD at e7a b4
    have n4 : LD.length = 3 := by rw [← hL4]; rfl
    clear hL4
    refine ⟨o5, o6, _, _, rfl, rfl, s7a _ _ e6a, e7a, by rw [List.length_map, List.length_map, List.length_append, List.length_append, n1, n2, n3, n4]; decide, fun od hod => ?_⟩
    obtain ⟨HO, hHO, k6, s6, e6⟩ := mk_lst (xs := (LA ++ LB ++ LC).map V.str ++ LD.map V.str) k7a hod (LA ++ LB ++ LC ++ LD) (List.map_append (l₁ := LA ++ LB ++ LC) (l₂ := LD)).symm
    rw [hHO]
    have bO : ∀ z ∈ LA ++ LB ++ LC ++ LD, z.length ≤ 80 := by
      intro z hz
      rcases List.mem_append.mp hz with h | h
      · rcases List.mem_append.mp h with h | h
        · rcases List.mem_append.mp h with h | h
          · exact b1 z h
          · exact b2 z h
        · exact b3 z h
      · exact b4 z h
    have nO : (LA ++ LB ++ LC ++ LD).length = 30 := by rw [List.length_append, List.length_append, List.length_append, n1, n2, n3, n4]
    generalize LA ++ LB ++ LC ++ LD = LO at e6 bO nO
    have whO : Whole HO d := wh1.at fun c o _ e => s6 _ _ (s7a _ _ (s6a _ _ (s5 _ _ (s4 _ _ (s3 _ _ (s2 _ _ e))))))
    have hsO := k6.seqL hT hs
    have hTO := k6.1
    clear e2 e3 e4 e5 e6a e7a b1 b2 b3 b4 n1 n2 n3 n4 hH2 hH3 hH4 hH5 hH6a hH7a hHO k2 k3 k4 k5 k6a k7a
    refine ⟨_, rfl, a, _, rfl, .inl hsO, _, _, rfl, _, _, rfl, _, rfl, ?_, ?_, ?_⟩
    · rw [List.length_map]; split <;> omega
    · rw [List.length_map]; split <;> (try split) <;> omega
    rw [List.length_map]
    generalize hN : (if (if (ns.length : Int) < 4 then (ns.length : Int) else 4) > 1 then (if (ns.length : Int) < 4 then (ns.length : Int) else 4) else 1) = N
    have N4 : N ≤ 4 := by rw [← hN]; split <;> (try split) <;> omega
    refine for_range (lo := 0) (n := N.toNat) (fun k σ H' => (∃ v3 v4 v5 v6 v7 v8, σ = [some (.ref a), some (.ref d), some (.ref od), v3, v4, v5, v6, v7, v8, none, none, none]) ∧ Kep T HO H') ⟨⟨_, _, _, _, _, _, rfl⟩, .refl hTO⟩ (fun k σ H' hk p => ?_) (fun σ H' p => ?_)
    · obtain ⟨⟨v3, v4, v5, v6, v7, v8, rfl⟩, kH⟩ := p
      refine ⟨_, rfl, _, rfl, a, ns, _, rfl, kH.seqL hTO hsO, by omega, by omega, fun t H1 ht tp1 but1 => ?_⟩
      have kB : Kep T H' H1 := Kep.btX kH.1 (.refl kH.1) ht but1.bt
      have nt : t ∉ T := tp1.nT kB.1
      refine ⟨_, rfl, t, 5, 0, rfl, tp1, by decide, by decide, by decide, fun m1 H2 m10 m11 tp2 b2 => ⟨_, _, rfl, rfl, ?_⟩⟩
      refine ⟨_, rfl, t, 120, 1, rfl, tp2, by decide, by decide, by decide, fun m2 H3 m20 m21 tp3 b3 => ⟨_, _, rfl, rfl, ?_⟩⟩
      refine ⟨Nat.le_of_ble_eq_true rfl, fun ml hml => ?_⟩
      have x3 : KepX T t H1 H3 := (b2.bt.trans b3.bt).kx kB.1 nt
      have x4 := x3.new (o := .lst [.int 1, .int 20, .int 120, .int (1 + m2)]) hml
      have tp4 := tp3.new (o := .lst [.int 1, .int 20, .int 120, .int (1 + m2)]) hml
      have e4 : upd H3 ml (.lst [.int 1, .int 20, .int 120, .int (1 + m2)]) ml = some (.lst [.int 1, .int 20, .int 120, .int (1 + m2)]) := upd_same
      have mlt : ml ≠ t := (tp3.ne hml).symm
      generalize upd H3 ml (.lst [.int 1, .int 20, .int 120, .int (1 + m2)]) = H4 at x4 tp4 e4 ⊢
      refine ⟨_, rfl, t, 4, 2, rfl, tp4, by decide, by decide, by decide, fun i4 H5 i40 i41 tp5 b5 => ?_⟩
      obtain ⟨mm, emm, mm0, mm1⟩ : ∃ mm : Int, atI [V.int 1, V.int 20, V.int 120, V.int (1 + m2)] i4 = some (.int mm) ∧ 0 ≤ mm ∧ mm ≤ 120 := by
        have : i4 = 0 ∨ i4 = 1 ∨ i4 = 2 ∨ i4 = 3 := by omega
        rcases this with rfl | rfl | rfl | rfl
        · exact ⟨1, rfl, by decide, by decide⟩
        · exact ⟨20, rfl, by decide, by decide⟩
        · exact ⟨120, rfl, by decide, by decide⟩
        · exact ⟨1 + m2, rfl, by omega, by omega⟩
      refine .inl ⟨ml, _, i4, .int mm, rfl, rfl, .inl (.inl ((b5 ml mlt).trans e4)), emm, ?_⟩
      refine ⟨Nat.le_of_ble_eq_true rfl, fun l2 hl2 => ?_⟩
      have x5 : KepX T t H1 H5 := x4.trans (b5.bt.kx x4.1 nt)
      have x6 := x5.new (o := .lst [.int (1 + m1), .int mm]) hl2
      have tp6 := tp5.new (o := .lst [.int (1 + m1), .int mm]) hl2
      have e6' : upd H5 l2 (.lst [.int (1 + m1), .int mm]) l2 = some (.lst [.int (1 + m1), .int mm]) := upd_same
      have l2t : l2 ≠ t := (tp5.ne hl2).symm
      generalize upd H5 l2 (.lst [.int (1 + m1), .int mm]) = H6 at x6 tp6 e6' ⊢
      have kH6 : Kep T HO H6 := kH.trans (KepX.kep kB ht x6)
      refine ⟨l2, rfl, ⟨_, .inl (.inl e6')⟩, for_list (xs := [.int (1 + m1), .int mm]) (fun i σ Hx => (∃ v5 v6 v7 v8, σ = [some (.ref a), some (.ref d), some (.ref od), some (.int (0 + (k : Nat))), some (.ref t), v5, v6, v7, v8, none, none, none]) ∧ KepX T t H6 Hx ∧ Tp Hx t (3 + 2000 * i)) ⟨⟨_, _, _, _, rfl⟩, .refl x6.1, tp6⟩ (fun i σ Hx _ p => .inl (.inl (p.2.1.at x6.1 l2t e6' fun _ z => by cases z))) (fun i x σ Hx hx p => ?_) (fun σ Hx p => ?_)⟩
      · obtain ⟨⟨v5, v6, v7, v8, rfl⟩, kx, tpx⟩ := p
        obtain ⟨many, rfl, y0, y1⟩ : ∃ many : Int, x = .int many ∧ 0 ≤ many ∧ many ≤ 120 := by
          have := List.mem_of_getElem? hx
          simp only [List.mem_cons, List.not_mem_nil, or_false] at this
          rcases this with rfl | rfl
          · exact ⟨_, rfl, by omega, by omega⟩
          · exact ⟨_, rfl, mm0, mm1⟩
        have hi2 : i < 2 := (List.getElem?_eq_some_iff.mp hx).1
        have nol6 := kx.nol x6.1 tp6
        have whx : Whole Hx d := (whO.at (kH6.all hTO)).at2 nol6
        have odx : Hx od = some (.lst (LO.map V.str)) := by
          have e := kH6.at hTO e6 fun _ z => by cases z
          refine kx.at x6.1 (fun z => ?_) e fun _ z => by cases z
          obtain ⟨_, _, _, e2, _⟩ := tp6
          have e1 := kH.at hTO e6 fun _ z => by cases z
          rw [z, ht] at e1
          cases e1
        have odt : od ≠ t := fun z => by
          have e1 := kH.at hTO e6 fun _ z => by cases z
          rw [z, ht] at e1
          cases e1
        refine ⟨_, rfl, _, rfl, t, many, _, rfl, tpx, by omega, y0, y1, fun D l Hc hD lt hl htwo tpc bc => ?_⟩
        have Dt : D ≠ t := (tpx.ne hD).symm
        have kc : KepX T t Hx Hc := bc.kx kx.1 nt
        obtain ⟨ps, eD, ta⟩ := id lt
        · have hl2 : l.length ≤ 200 := by omega
          have whc : Whole Hc d := whx.at2 (kc.nol kx.1 tpx)
          have odc : Hc od = some (.lst (LO.map V.str)) := kc.at kx.1 odt odx fun _ z => by cases z
          have kxc := kx.trans kc
          have cl : (codeL l).length ≤ 4000 := by
            have h1 := join_len oneSp (by decide +kernel) (l.map keyL)
            have h2 := wtl_key htwo
            unfold codeL
            omega
          refine ⟨fun σ Hy => ∃ v8, σ = [some (.ref a), some (.ref d), some (.ref od), some (.int (0 + (k : Nat))), some (.ref t), some (.int many), some (.ref D), some (.str (codeL l)), v8, none, none, none] ∧ L2.Same Hc Hy, ?_, ?_⟩
          · refine ⟨⟨_, rfl⟩, _, rfl, D, rfl, ⟨_, .inl (.inl eD)⟩, fun D2 hD2 => ?_⟩
            refine lc_list (K := K) (a := D) (xs := ps.map V.ref) (fun j Hx => Hx D2 = some (.lst (((l.take j).map keyL).map V.str)) ∧ L2.Same Hc Hx) ⟨upd_same, sameU hD2⟩ (fun j Hx _ pp => .inl (.inl (pp.2 _ _ eD))) (fun j y Hx hj pp => ?_) (fun Hx pp => ?_)
            · obtain ⟨eD2, sm⟩ := pp
              rw [List.getElem?_map] at hj
              obtain ⟨p, hp, rfl⟩ := Option.map_eq_some_iff.mp hj
              obtain ⟨x, hx, ep⟩ := ta.get hp
              have hlt : j < l.length := (List.getElem?_eq_some_iff.mp hx).1
              refine ⟨rfl, ?_⟩
              unfold tYes
              refine iteT' (b := true) rfl ?_
              refine ⟨_, rfl, p, x, rfl, sm _ _ ep, htwo x (List.mem_of_getElem? hx), ?_⟩
              refine ⟨_, eD2, by rw [List.length_map, List.length_map, List.length_take, sizeLine_eq]; omega, ?_, fun c o ec => (upd_ne fun z => by rw [z, hD2] at ec; cases ec).trans (sm _ _ ec)⟩
              rw [upd_same, List.take_add_one, hx, List.map_append, List.map_append]
              rfl
            · obtain ⟨eD2, sm⟩ := pp
              rw [List.length_map, ta.len, List.take_length] at eD2
              have wk := wtl_key htwo
              have we := wtl_eq (l.map keyL)
              refine ⟨oneSp, D2, l.map keyL, rfl, rfl, .inl (.inl (.inl eD2)), ?_, ?_⟩
              · rw [show oneSp.length = 1 by decide +kernel]; omega
              · exact ⟨_, rfl, sm⟩
          · rintro σ' Hy ⟨v8', rfl, sy⟩
            have hTy := (kepSame kxc.1 sy).1
            have kxy : KepX T t H6 Hy := kxc.trans (kepSame kxc.1 sy).kx
            have tpy := tpc.kx kxc.1 (kepSame kxc.1 sy)
            have why : Whole Hy d := whc.at fun a o _ e => sy a o e
            have ody := sy _ _ odc
            refine ⟨_, rfl, D, l, rfl, lt.same sy, by omega, htwo, fun Hz sz => ?_⟩
            have kz := kepSame hTy sz
            have whz : Whole Hz d := why.at fun a o _ e => sz a o e
            refine ⟨_, rfl, rfl, _, rfl, iteF' (by simp) ?_⟩
            refine ⟨_, rfl, _, rfl, codeL l, d, rfl, kz.1, by omega, whz, fun Hr kr => ⟨_, rfl, iteF ?_⟩⟩
            have kzr := kz.trans kr
            have kxr : KepX T t H6 Hr := kxy.trans kzr.kx
            have tpr := tpy.kx hTy kzr
            have whr : Whole Hr d := whz.at (kr.all kz.1)
            have odr : Hr od = some (.lst (LO.map V.str)) := kzr.at hTy ody fun _ z => by cases z
            refine ⟨4, rfl, by decide, by decide, for_range (lo := 0) (n := 4) (fun m σ Hi => (∃ u8, σ = [some (.ref a), some (.ref d), some (.ref od), some (.int (0 + (k : Nat))), some (.ref t), some (.int many), some (.ref D), some (.str (codeL l)), u8, none, none, none]) ∧ KepX T t Hr Hi ∧ Tp Hi t (3 + 2000 * i + 1000 + 30 * m)) ⟨⟨_, rfl⟩, .refl kxr.1, tpr.mono (by omega)⟩ (fun m σ Hi hm p => ?_) (fun σ Hi p => ?_)⟩
            · obtain ⟨⟨u8, rfl⟩, ki, tpi⟩ := p
              have odi := ki.at kxr.1 odt odr fun _ z => by cases z
              refine ⟨_, rfl, _, rfl, _, rfl, t, od, codeL l, LO, _, rfl, tpi, by omega, cl, odi, odt, by omega, by omega, bO, fun z H9 hz tp9 b9 => ?_⟩
              have k9 := ki.trans (b9.kx ki.1 nt)
              have wh9 : Whole H9 d := whr.at2 (k9.nol kxr.1 tpr)
              refine ⟨_, rfl, z, d, rfl, k9.1, by omega, wh9, fun H10 k10 => ⟨_, rfl, iteF ?_⟩⟩
              exact ⟨⟨_, rfl⟩, k9.trans k10.kx, (tp9.kx k9.1 k10).mono (by omega)⟩
            · obtain ⟨⟨u8, rfl⟩, ki, tpi⟩ := p
              exact ⟨⟨_, _, _, _, rfl⟩, kxr.trans ki, tpi.mono (by omega)⟩
      · obtain ⟨⟨v5, v6, v7, v8, rfl⟩, kx, tpx⟩ := p
        exact ⟨⟨_, _, _, _, _, _, rfl⟩, kH.trans (KepX.kep kB ht (x6.trans kx))⟩
    · obtain ⟨⟨v3, v4, v5, v6, v7, v8, rfl⟩, k0⟩ := p
      have odH := k0.at hTO e6 fun _ z => by cases z
      have whH : Whole H' d := whO.at (k0.all hTO)
      refine ⟨⟨_, rfl⟩, 120, rfl, by decide, by decide, fun Dw hDw => ?_⟩
      refine lc_range (lo := 0) (n := 120) (fun j Hc => ∃ ys : List Str, Hc Dw = some (.lst (ys.map V.str)) ∧ ys.length = j ∧ (∀ y ∈ ys, y.length ≤ 10) ∧ L2.Same H' Hc) ⟨[], upd_same, rfl, (fun y hy => by cases hy), sameU hDw⟩ (fun j Hc hj p => ?_) (fun Hc p => ?_)
      · obtain ⟨ys, eD, yl, hy, sm⟩ := p
        have la : (Str.ofString (toString (0 + (j : Int)))).length ≤ 4 := (rg_t (by omega) (by omega)).len
        have l6 : (":0+0*1" : Str).length = 6 := by decide +kernel
        refine ⟨rfl, ?_⟩
        unfold tYes
        refine iteT' (b := true) rfl ?_
        refine ⟨_, rfl, _, rfl, log_of (by omega), _, _, rfl, rfl, by rw [l6, sizeLine_eq]; omega, ?_⟩
        refine ⟨_, eD, by rw [List.length_map, yl, sizeLine_eq]; omega, ys ++ [Str.ofString (toString (0 + (j : Int))) ++ ":0+0*1"], by rw [List.map_append]; exact upd_same, by rw [List.length_append, yl]; rfl, fun y h => ?_, fun c o ec => (upd_ne fun z => by rw [z, hDw] at ec; cases ec).trans (sm _ _ ec)⟩
        rcases List.mem_append.mp h with h | h
        · exact hy y h
        · rw [List.mem_singleton.mp h, app_len, l6]; omega
      obtain ⟨ys, eD, yl, hy, sm⟩ := p
      have kW : Kep T HO Hc := k0.trans (kepSame k0.1 sm)
      have odW := sm _ _ odH
      have whW : Whole Hc d := whH.at fun c o _ e => sm _ _ e
      have wk := wtl_le hy
      have we := wtl_eq ys
      have jl := join_len oneSp (by decide +kernel) ys
      rw [yl] at wk
      refine ⟨oneSp, Dw, ys, rfl, rfl, .inl (.inl (.inl eD)), by rw [show oneSp.length = 1 by decide +kernel]; omega, ?_⟩
      have wl : (Txt.join oneSp ys).length ≤ 2000 := by omega
      generalize Txt.join oneSp ys = Wh at wl ⊢
      refine ⟨_, rfl, _, rfl, _, rfl, _, _, rfl, rfl, by rw [show (" 120:0+0*1" : Str).length = 10 by decide +kernel, sizeLine_eq]; omega, _, rfl, _, _, rfl, rfl, by rw [show (" 119:0+0*1" : Str).length = 10 by decide +kernel, sizeLine_eq]; omega, Nat.le_of_ble_eq_true rfl, fun f1 hf1 => ?_⟩
      obtain ⟨G1, hG1, k1', s1', e1'⟩ := mk_lst (xs := [.str Wh, .str (Wh ++ " 120:0+0*1"), .str (Wh ++ " 119:0+0*1"), .str "5:0+0*1 5:1+0*1", .str " ", .str "1:0+0*1 "]) kW hf1 [Wh, (Wh ++ " 120:0+0*1"), (Wh ++ " 119:0+0*1"), "5:0+0*1 5:1+0*1", " ", "1:0+0*1 "] rfl
      rw [hG1]
      have b1 : ∀ z ∈ ([Wh, (Wh ++ " 120:0+0*1"), (Wh ++ " 119:0+0*1"), "5:0+0*1 5:1+0*1", " ", "1:0+0*1 "] : List Str), z.length ≤ 4000 := by
        intro z hz
        simp only [List.mem_cons, List.not_mem_nil, or_false] at hz
        rcases hz with rfl | rfl | rfl | rfl | rfl | rfl
        · omega
        · rw [app_len, show (" 120:0+0*1" : Str).length = 10 by decide +kernel]; omega
        · rw [app_len, show (" 119:0+0*1" : Str).length = 10 by decide +kernel]; omega
        · decide +kernel
        · decide +kernel
        · decide +kernel

      generalize hL1 : ([Wh, (Wh ++ " 120:0+0*1"), (Wh ++ " 119:0+0*1"), "5:0+0*1 5:1+0*1", " ", "1:0+0*1 "] : List Str) = LD at e1' b1
      have n1 : LD.length = 6 := by rw [← hL1]; rfl
      clear hL1
      refine ⟨od, f1, _, _, rfl, rfl, s1' _ _ odW, e1', by rw [List.length_map, List.length_map, nO, n1]; decide, fun f4 hf4 => ?_⟩
      obtain ⟨G2, hG2, k2', s2', e2'⟩ := mk_lst (xs := LO.map V.str ++ LD.map V.str) k1' hf4 (LO ++ LD) (List.map_append (l₁ := LO) (l₂ := LD)).symm
      rw [hG2]
      have f4T : f4 ∉ T := free_tab k1'.1 hf4
      have f4n : HO f4 = none := k1'.free hTO hf4
      refine ⟨_, rfl, .inl ⟨rfl, _, .inl (.inl e2')⟩, f4, _, _, rfl, rfl, e2', by rw [List.length_map, List.length_append, nO, n1]; decide, ?_⟩
      have k4' := k2'.put (o := .lst ((LO ++ LD).map V.str ++ [.str "5:0+0*1 4:0+0*1"])) f4n f4T
      have e4' : upd G2 f4 (.lst ((LO ++ LD).map V.str ++ [.str "5:0+0*1 4:0+0*1"])) f4 = some (.lst ((LO ++ LD ++ [("5:0+0*1 4:0+0*1" : Str)]).map V.str)) := by
        rw [List.map_append (l₁ := LO ++ LD)]; exact upd_same
      have wh4 : Whole (upd G2 f4 (.lst ((LO ++ LD).map V.str ++ [.str "5:0+0*1 4:0+0*1"]))) d := by
        have w2 : Whole G2 d := whW.at fun c o _ e => s2' _ _ (s1' _ _ e)
        obtain ⟨kvs, ew, hw⟩ := w2
        have nl : ∀ {x : Addr} {o : L2.HO}, G2 x = some o → (∀ xs, o ≠ .lst xs) → upd G2 f4 (.lst ((LO ++ LD).map V.str ++ [.str "5:0+0*1 4:0+0*1"])) x = some o := fun {x o} e h => (upd_ne fun z => by rw [z, e2'] at e; exact h _ (Option.some.inj e).symm).trans e
        refine ⟨kvs, nl ew (fun _ z => by cases z), fun y => ?_⟩
        have h3 := hw y
        cases hy : valV kvs (.inr y) with
        | none => rw [hy] at h3; exact h3
        | some v =>
          rw [hy] at h3
          obtain ⟨p2, x2, e3, e4, e5⟩ := h3
          exact ⟨p2, x2, e3, nl e4 (fun _ z => by cases z), e5⟩
      have bb : ∀ z ∈ LO ++ LD ++ [("5:0+0*1 4:0+0*1" : Str)], z.length ≤ 4000 := by
        intro z hz
        rcases List.mem_append.mp hz with h | h
        · rcases List.mem_append.mp h with h | h
          · exact Nat.le_trans (bO z h) (by decide)
          · exact b1 z h
        · rw [List.mem_singleton.mp h]; decide +kernel
      generalize upd G2 f4 (.lst ((LO ++ LD).map V.str ++ [.str "5:0+0*1 4:0+0*1"])) = G4 at k4' e4' wh4 ⊢
      generalize LO ++ LD ++ [("5:0+0*1 4:0+0*1" : Str)] = LM at e4' bb
      refine ⟨_, rfl, f4, rfl, ⟨_, .inl (.inl e4')⟩, fun D hD => ?_⟩
      have DT : D ∉ T := free_tab k4'.1 hD
      have kD := Kep.new (o := .lst []) k4'.1 hD
      refine lc_list (K := K) (a := f4) (xs := LM.map V.str) (fun j Hx => Kep T G4 Hx ∧ Hx D = some (.lst [])) ⟨kD, upd_same⟩ (fun j Hx _ pp => .inl (.inl (pp.1.at k4'.1 e4' fun _ z => by cases z))) (fun j y Hx hj pp => ?_) (fun Hx pp => ?_)
      · obtain ⟨z, hz, rfl⟩ := List.mem_map.mp (List.mem_of_getElem? hj)
        obtain ⟨kx, eD⟩ := pp
        refine ⟨rfl, ?_⟩
        refine ⟨_, rfl, _, rfl, z, d, rfl, kx.1, Nat.le_trans (bb z hz) (by decide), wh4.at (kx.all k4'.1), fun H8 k8 => ⟨_, rfl, iteF ?_⟩⟩
        exact ⟨kx.trans k8, k8.2 D _ DT eD⟩
      · obtain ⟨kx, eD⟩ := pp
        refine ⟨by decide, fun D3 hD3 => ?_⟩
        refine ⟨.list [], .list [], .lst (.inl (.inl ((upd_ne (ne_of_none eD hD3)).trans eD))) .nil, .lst (.inl (.inl upd_same)) .nil, rfl, rfl, ?_⟩
        exact q _
end
end Ov

set_option Elab.async false
set_option linter.all false
set_option maxRecDepth 100000
set_option maxHeartbeats 4000000
/-! the end of a law whose defs know the guards -/
namespace Ov
open PySem PySem.Spec PyProof.Rows L2 GxR
/-- as the library's for defs alone, with FnG -/
def LawAtG (l : PySem.W.OpenLaw) (w : World) (K : PySem.W.Frag) (k n : Nat) (x : Str) (mg : Str → Option Value) (fa : Addr) (h : Heap) : Prop :=
  ∃ (fd : FuncData) (cs : List (Addr × Addr)) (sp : Sp), (∀ p ∈ cs, h.get? p.2 = some { cls := .none, data := .fields #[] }) ∧ (∀ p ∈ cs, K.lookup p.2 = none) ∧ (∀ p ∈ cs, PySem.W.CodeHd h p.1 p.2) ∧ (∀ (s : Shared) (u : Value), BindsTo s fd ⟨[u], []⟩ [(x, u)]) ∧
    (∀ (H : Hp) (a : Addr) (ns : List Int), ns.length ≤ n → (∀ p ∈ cs, H p.2 = some (.tbl #[])) → SqL K H a (ns.map V.int) → sp [.ref a] H (fun v _ => v = .bl true) fun _ _ _ => False) ∧
    ∀ base : Heap, K.In base → base.Ns mainGlobals mg → (∀ p ∈ cs, LamX.TabB base mg p.1 p.2) → FnG l.prog w K mg base CX0 k fa fd [x] sp
theorem walk_TG {l : PySem.W.OpenLaw} {n k : Nat} {q : Program} {loose : List Str} {XP : (Str → Option Value) → Heap → Prop} {YP : World → Heap → Prop} {d : DefRec} {K : Params → PySem.W.Frag} {x : Str}
    (hn : l.most = some n) (hn2 : n ≤ sizeLine) (hdf : d.params.defaults = []) (hr : Room k callerA) (hY : ∀ (w : World) (h : Heap), YP w h → (K w.params).In h)
    (F : ∀ (w : World) (mg : Str → Option Value) (fa : Addr) (h : Heap), YP w h → (K w.params).In h → h.Ns mainGlobals mg → mg d.name = some (.ref fa) → TabsT q (K w.params) h → LawAtG l w (K w.params) k n x mg fa h) :
    PySem.W.WalkO q loose XP YP l.row.toRowW d [] (fun f vs => PySem.call f vs) := by
  refine Att.attach_callB hn hdf fun w s₀ s₁ mg mb fa o pm cd doc a vs ns G Y ho hd hcd hmg hobj hints hlen hbits hg => ?_
  have KX := hY w _ Y
  have tabs : TabsT q (K w.params) s₁.heap := fun x c P h1 h2 => by
    obtain ⟨d', hd'⟩ := Option.isSome_iff_exists.mp h1
    exact PySem.W.tab_of G.T KX hd' h2
  obtain ⟨fd, cs, sp, hT, nT, C, hb, hsp, hF⟩ := F w mg fa _ Y KX G.T.g hmg tabs
  exact law_callG KX G.T.g G.T.b G.T.builtins G.T.nolimit hg hT nT C G.T.bmain hobj hints (Nat.le_trans hlen hn2) fun base H KB GB TB env hH hS =>
    (hF base KB GB TB).run callerA [] s₁ H ⟨[.ref a], []⟩ [.ref a] [V.ref a] _ _ rfl hr env (hb s₁ (.ref a)) (.cons rfl .nil) (hsp H a ns hlen hH hS)
end Ov

set_option Elab.async false
set_option linter.all false
set_option maxRecDepth 100000
set_option maxHeartbeats 2000000
/-! a Hook whose defs are found by a path, with one Bool for all other facts -/
namespace Ov
open PySem PySem.Spec PyProof.Rows L2
structure DefP where
  at_ : PySem.W.Frag → Addr
  name : Str
  qual : Str
  params : Arguments
  body : List Stmt
  scope : Scope
  /-- the names of its closure -/
  clo : List Str
abbrev FnWN : Type := Option (Str × Str × Arguments × FuncBody × Scope × Addr × List Str × Addr)
def fnWP (K : PySem.W.Frag) (a : Addr) : FnWN := match K.lookup a with
  | some ⟨_, _, .func fd, _⟩ => some (fd.name, fd.qualname, fd.params, fd.body, fd.scope, fd.globals, fd.closure.map (·.1), fd.builtins)
  | _ => none
def DefP.val (d : DefP) : FnWN := some (d.name, d.qual, d.params, .stmts d.body, d.scope, mainGlobals, d.clo, builtinsNs)
/-- the cell of a def with one name in its closure -/
def cloP (K : PySem.W.Frag) (a : Addr) : Addr := match K.lookup a with
  | some ⟨_, _, .func fd, _⟩ => (match fd.closure with
    | [(_, c)] => c
    | _ => 0)
  | _ => 0
def DefP.ok (K : PySem.W.Frag) (d : DefP) : Bool := PySem.W.keepIn K (.ref (d.at_ K)) && (match K.lookup (d.at_ K) with
  | some ⟨_, _, .func fd, _⟩ => PySem.W.codeIn K fd.code d.qual && He.dflB K fd.defaults []
  | _ => false)
theorem DefP.lookA {K : PySem.W.Frag} {d : DefP} (e : fnWP K (d.at_ K) = d.val) (c : d.ok K = true) : ∃ oc od cl kV dc pm an cd ct sl, K.lookup (d.at_ K) = some ⟨oc, od, .func (PySem.W.fnX d.name d.qual d.params d.body d.scope cl .none kV dc pm an cd ct), sl⟩ ∧ cl.map (·.1) = d.clo ∧ PySem.W.codeIn K cd d.qual = true ∧ PySem.W.keepIn K (.ref (d.at_ K)) = true := by
  obtain ⟨kp, c2⟩ := He.ba c
  unfold fnWP at e
  cases q : K.lookup (d.at_ K) with
  | none =>
    rw [q] at c2
    cases c2
  | some o =>
    obtain ⟨oc, od, dt, osl⟩ := o
    rw [q] at c2 e
    cases dt with
    | func fd =>
      obtain ⟨n1, n2, n3, n4, n5, n6, n7, n8, n9, n10, n11, n12, n13, n14, n15⟩ := fd
      have e2 : (some (n1, n2, n3, n4, n5, n6, n7.map (·.1), n15) : FnWN) = some (d.name, d.qual, d.params, .stmts d.body, d.scope, mainGlobals, d.clo, builtinsNs) := e
      simp only [Option.some.injEq, Prod.mk.injEq] at e2
      obtain ⟨h1, h2, h3, h4, h5, h6, h7, h8⟩ := e2
      subst h1 h2 h3 h4 h5 h6 h8
      obtain ⟨k1, k2⟩ := He.ba (show (PySem.W.codeIn K n13 d.qual && He.dflB K n8 []) = true from c2)
      have hn : n8 = .none := by
        cases n8 with
        | none => rfl
        | _ => cases k2
      subst hn
      exact ⟨oc, od, n7, n9, n10, n11, n12, n13, n14, osl, rfl, h7, k1, kp⟩
    | _ => cases c2
theorem DefP.look {K : PySem.W.Frag} {d : DefP} (hc : d.clo = []) (e : fnWP K (d.at_ K) = d.val) (c : d.ok K = true) : ∃ oc od kV dc pm an cd ct sl, K.lookup (d.at_ K) = some ⟨oc, od, .func (PySem.W.fnOf d.name d.qual d.params d.body d.scope .none kV dc pm an cd ct), sl⟩ ∧ PySem.W.codeIn K cd d.qual = true ∧ PySem.W.keepIn K (.ref (d.at_ K)) = true := by
  obtain ⟨oc, od, cl, kV, dc, pm, an, cd, ct, sl, h1, h2, h3, h4⟩ := DefP.lookA e c
  rw [hc] at h2
  obtain rfl := List.map_eq_nil_iff.mp h2
  exact ⟨oc, od, kV, dc, pm, an, cd, ct, sl, h1, h3, h4⟩
theorem DefP.lookC {K : PySem.W.Frag} {d : DefP} (hc : d.clo = (["__class__"] : List Str)) (e : fnWP K (d.at_ K) = d.val) (c : d.ok K = true) : ∃ oc od kV dc pm an cd ct sl, K.lookup (d.at_ K) = some ⟨oc, od, .func (PySem.W.ksFn d.name d.qual d.params d.body d.scope .none kV dc pm an cd ct (cloP K (d.at_ K))), sl⟩ ∧ PySem.W.codeIn K cd d.qual = true ∧ PySem.W.keepIn K (.ref (d.at_ K)) = true := by
  obtain ⟨oc, od, cl, kV, dc, pm, an, cd, ct, sl, h1, h2, h3, h4⟩ := DefP.lookA e c
  rw [hc] at h2
  match cl, h2 with
  | [(x, a)], h2 =>
    obtain rfl : x = "__class__" := by simpa using h2
    have ec : cloP K (d.at_ K) = a := by
      unfold cloP
      rw [h1]
    rw [ec]
    exact ⟨oc, od, kV, dc, pm, an, cd, ct, sl, h1, h3, h4⟩
/-! ### classes of errors with an __init__ of their own -/
def oexB (K : PySem.W.Frag) (C : Addr) : Bool := match K.lookup C with
  | some ⟨.type "type", _, .cls cd, sl⟩ => (match cd.mro, sl.toList with
    | .ref C' :: bm, [_, _, _, _, some (.builtin n), _] => C' == C && n == "ValueError.__new__" && !cd.hasDel && cd.hasDict && PySem.HandSPX.refsVE bm
    | _, _ => false)
  | _ => false
theorem oexB_ok {K : PySem.W.Frag} {C : Addr} (q : oexB K C = true) : ∃ nm q N bs bm sn sub ab col dd k0 k1 k2 k3 k5, K.lookup C = some (excClassObj nm q C N bs bm true sn sub ab col dd k0 k1 k2 k3 k5 "ValueError.__new__") ∧ PySem.HandSPX.refsVE bm = true := by
  unfold oexB at q
  split at q
  · rename_i dd cd sl ho
    split at q
    · rename_i C' bm k0 k1 k2 k3 n k5 hm hs
      simp only [Bool.and_eq_true, beq_iff_eq, Bool.not_eq_true'] at q
      obtain ⟨⟨⟨⟨rfl, rfl⟩, hdel⟩, hdi⟩, ht⟩ := q
      obtain ⟨nm, bs, mro, ns, qn, hd, sn, sub, ab, col, del⟩ := cd
      dsimp only at hm hdel hdi
      subst hm hdel hdi
      have hsl : sl = #[k0, k1, k2, k3, some (.builtin "ValueError.__new__"), k5] := by
        obtain ⟨l⟩ := sl
        simp only at hs
        rw [hs]
      subst hsl
      exact ⟨nm, qn, ns, bs, bm, sn, sub, ab, col, dd, k0, k1, k2, k3, k5, ho, ht⟩
    · cases q
  · cases q
def cellB (K : PySem.W.Frag) (cc C : Addr) : Bool := match K.lookup cc with
  | some ⟨_, _, .cell (some (.ref c)), _⟩ => c == C
  | _ => false
theorem cellB_ok {K : PySem.W.Frag} {cc C : Addr} (q : cellB K cc C = true) : ∃ cl cld csl, K.lookup cc = some ⟨cl, cld, .cell (some (.ref C)), csl⟩ := by
  unfold cellB at q
  split at q
  · rename_i cl cld c csl ho
    obtain rfl := beq_iff_eq.mp q
    exact ⟨cl, cld, csl, ho⟩
  · cases q
def fileB (K : PySem.W.Frag) (cda : Addr) (z : Str) : Bool := match K.lookup cda with
  | some ⟨_, _, .fields vs, _⟩ => (match (vs[2]? : Option Value) with
    | some (.str file _) => z == file
    | _ => false)
  | _ => false
theorem fileB_ok {K : PySem.W.Frag} {cda : Addr} {z : Str} (q : fileB K cda z = true) : ∃ cl cdd vs cs file tf, K.lookup cda = some ⟨cl, cdd, .fields vs, cs⟩ ∧ vs[2]? = some (.str file tf) ∧ (z == file) = true := by
  unfold fileB at q
  split at q
  · rename_i cl cdd vs cs ho
    split at q
    · rename_i file tf hv
      exact ⟨cl, cdd, vs, cs, file, tf, ho, hv, q⟩
    · cases q
  · cases q
/-! ### the Hook -/
abbrev TabP : Type := PySem.W.Frag → Addr × Addr
structure SaysP (fn : List DefP) (tf : List TabP) (ex : PySem.W.Frag → Bool) (h : Heap) (K : PySem.W.Frag) : Prop where
  ok : (fn.all fun d => d.ok K) = true
  defs : (fn.map fun d => fnWP K (d.at_ K)) = fn.map DefP.val
  more : ex K = true
  hd : ∀ p ∈ tf, PySem.W.codeHdIn K (p K).1 (p K).2 = true
  out : ∀ p ∈ tf, K.lookup (p K).2 = none
  empty : ∀ p ∈ tf, h.get? (p K).2 = some { cls := .none, data := .fields #[] }
abbrev AlP : Type := (Bool × List FnWN) × Bool
def tabsP (g : Addr → Option Obj) (tf : List TabP) (K : PySem.W.Frag) : Bool := tf.all fun p => PySem.W.codeHdIn K (p K).1 (p K).2 && (match g (p K).2 with
  | some o => He.emptyTab o
  | none => false)
def obsP (as : List Addr) (fn : List DefP) (tf : List TabP) (ex : PySem.W.Frag → Bool) (g : Addr → Option Obj) : AlP :=
  (((fn.all fun d => d.ok (He.frT g (as))), fn.map fun d => fnWP (He.frT g (as)) (d.at_ (He.frT g (as)))), ex (He.frT g (as)) && tabsP g tf (He.frT g (as)))
def valP (fn : List DefP) : AlP := ((true, fn.map DefP.val), true)
theorem saysP_of {as : List Addr} {fn : List DefP} {tf : List TabP} {ex : PySem.W.Frag → Bool} {h : Heap} (e : obsP as fn tf ex h.get? = valP fn) : SaysP fn tf ex h (He.frT h.get? as) := by
  have e1 := congrArg (fun z : AlP => z.1.1) e
  have e2 := congrArg (fun z : AlP => z.1.2) e
  have e3 : (ex (He.frT h.get? as) && tabsP h.get? tf (He.frT h.get? as)) = true := congrArg (fun z : AlP => z.2) e
  obtain ⟨h1, h2⟩ := He.ba e3
  have key : ∀ p ∈ tf, PySem.W.codeHdIn (He.frT h.get? as) (p (He.frT h.get? as)).1 (p (He.frT h.get? as)).2 = true ∧ ∃ o, h.get? (p (He.frT h.get? as)).2 = some o ∧ He.emptyTab o = true := fun p hp => by
    obtain ⟨h3, h4⟩ := He.ba (List.all_eq_true.mp h2 p hp)
    refine ⟨h3, ?_⟩
    cases q : h.get? (p (He.frT h.get? as)).2 with
    | none =>
      rw [q] at h4
      cases h4
    | some o =>
      rw [q] at h4
      exact ⟨o, rfl, h4⟩
  exact ⟨e1, e2, h1, fun p hp => (key p hp).1, fun p hp => by
    obtain ⟨_, o, q, z⟩ := key p hp
    exact He.frT_none q z, fun p hp => by
    obtain ⟨_, o, q, z⟩ := key p hp
    rw [q, He.emptyTab_eq z]⟩
def hookP (as : List Addr) (fn : List DefP) (tf : List TabP) (ex : PySem.W.Frag → Bool) : PySem.W.Hook where
  α := AlP
  obs := fun s => obsP as fn tf ex s.heap.get?
  val := fun _ => valP fn
  says := fun _ h => ∃ K : PySem.W.Frag, K.In h ∧ SaysP fn tf ex h K
  of := fun _ _ e => ⟨_, He.frT_in, saysP_of e⟩
  keeps := fun _ _ _ ⟨K, hK, c⟩ k => ⟨K, PySem.W.Frag.In.keeps hK k, ⟨c.ok, c.defs, c.more, c.hd, c.out, fun p hp => k _ _ (c.empty p hp)⟩⟩
theorem obsP_eq {as : List Addr} {fn : List DefP} {tf : List TabP} {ex : PySem.W.Frag → Bool} {g : Addr → Option Obj} {s : Shared} (h : ∀ a, g a = s.heap.get? a) : obsP as fn tf ex g = (hookP as fn tf ex).obs s := by
  have e : g = s.heap.get? := funext h
  rw [e] <;> rfl
theorem SaysP.def_ {fn : List DefP} {tf : List TabP} {ex : PySem.W.Frag → Bool} {h : Heap} {K : PySem.W.Frag} (c : SaysP fn tf ex h K) (i : Nat) {d : DefP} (hi : fn[i]? = some d := by rfl) (hc : d.clo = [] := by rfl) :
    ∃ oc od kV dc pm an cd ct sl, K.lookup (d.at_ K) = some ⟨oc, od, .func (PySem.W.fnOf d.name d.qual d.params d.body d.scope .none kV dc pm an cd ct), sl⟩ ∧ PySem.W.codeIn K cd d.qual = true ∧ PySem.W.keepIn K (.ref (d.at_ K)) = true := by
  have e2 : (fn.map fun d => fnWP K (d.at_ K))[i]? = (fn.map DefP.val)[i]? := by rw [c.defs]
  rw [List.getElem?_map, List.getElem?_map, hi] at e2
  exact DefP.look hc (Option.some.inj e2) (List.all_eq_true.mp c.ok d (List.mem_of_getElem? hi))
theorem SaysP.defC {fn : List DefP} {tf : List TabP} {ex : PySem.W.Frag → Bool} {h : Heap} {K : PySem.W.Frag} (c : SaysP fn tf ex h K) (i : Nat) {d : DefP} (hi : fn[i]? = some d := by rfl) (hc : d.clo = (["__class__"] : List Str) := by rfl) :
    ∃ oc od kV dc pm an cd ct sl, K.lookup (d.at_ K) = some ⟨oc, od, .func (PySem.W.ksFn d.name d.qual d.params d.body d.scope .none kV dc pm an cd ct (cloP K (d.at_ K))), sl⟩ ∧ PySem.W.codeIn K cd d.qual = true ∧ PySem.W.keepIn K (.ref (d.at_ K)) = true := by
  have e2 : (fn.map fun d => fnWP K (d.at_ K))[i]? = (fn.map DefP.val)[i]? := by rw [c.defs]
  rw [List.getElem?_map, List.getElem?_map, hi] at e2
  exact DefP.lookC hc (Option.some.inj e2) (List.all_eq_true.mp c.ok d (List.mem_of_getElem? hi))
instance : DecidableEq PySem.W.CFound := fun a b => match a, b with
  | .val x, .val y => if h : x = y then isTrue (by rw [h]) else isFalse (fun e => h (by injection e))
  | .get a b c d, .get a' b' c' d' => if h : a = a' ∧ b = b' ∧ c = c' ∧ d = d' then isTrue (by obtain ⟨rfl, rfl, rfl, rfl⟩ := h; rfl) else isFalse (fun e => h (by injection e with h1 h2 h3 h4; exact ⟨h1, h2, h3, h4⟩))
  | .val _, .get _ _ _ _ => isFalse (fun e => by cases e)
  | .get _ _ _ _, .val _ => isFalse (fun e => by cases e)
/-! ### code objects, lists of facts -/
def codeP (K : PySem.W.Frag) (a : Addr) : Addr := match K.lookup a with
  | some ⟨_, _, .func fd, _⟩ => (match fd.code with
    | .ref c => c
    | _ => 0)
  | _ => 0
theorem codeP_eq {K : PySem.W.Frag} {a : Addr} {oc : Value} {od : Option Addr} {fd : FuncData} {sl : Array (Option Value)} {q : Str} (lk : K.lookup a = some ⟨oc, od, .func fd, sl⟩) (co : PySem.W.codeIn K fd.code q = true) : fd.code = .ref (codeP K a) := by
  obtain ⟨c, e⟩ := He.codeIn_ref co
  unfold codeP
  rw [lk]
  show fd.code = .ref (match fd.code with | .ref c => c | _ => 0)
  rw [e]
theorem all_at {l : List Bool} (h : l.all id = true) (i : Nat) {b : Bool} (e : l[i]? = some b) : b = true := List.all_eq_true.mp h b (List.mem_of_getElem? e)
/-- the walk: the written part comes from the Hook -/
theorem walk_TGP {l : PySem.W.OpenLaw} {n k : Nat} {q : Program} {loose : List Str} {XP : (Str → Option Value) → Heap → Prop} {YP : World → Heap → Prop} {d : DefRec} {x : Str}
    (hn : l.most = some n) (hn2 : n ≤ sizeLine) (hdf : d.params.defaults = []) (hr : Room k callerA)
    (F : ∀ (w : World) (mg : Str → Option Value) (fa : Addr) (h : Heap), YP w h → h.Ns mainGlobals mg → mg d.name = some (.ref fa) → ∃ K : PySem.W.Frag, K.In h ∧ LawAtG l w K k n x mg fa h) :
    PySem.W.WalkO q loose XP YP l.row.toRowW d [] (fun f vs => PySem.call f vs) := by
  refine Att.attach_callB hn hdf fun w s₀ s₁ mg mb fa o pm cd doc a vs ns G Y ho hd hcd hmg hobj hints hlen hbits hg => ?_
  obtain ⟨K, KX, fd, cs, sp, hT, nT, C, hb, hsp, hF⟩ := F w mg fa _ Y G.T.g hmg
  exact law_callG KX G.T.g G.T.b G.T.builtins G.T.nolimit hg hT nT C G.T.bmain hobj hints (Nat.le_trans hlen hn2) fun base H KB GB TB env hH hS =>
    (hF base KB GB TB).run callerA [] s₁ H ⟨[.ref a], []⟩ [.ref a] [V.ref a] _ _ rfl hr env (hb s₁ (.ref a)) (.cons rfl .nil) (hsp H a ns hlen hH hS)
end Ov

set_option Elab.async false
set_option linter.all false
set_option maxRecDepth 100000
set_option maxHeartbeats 4000000
namespace Ov
open PySem PySem.Spec PyProof.Rows L2 GxR
theorem kit_ref {K : PySem.W.Frag} {D C : Addr} {b : Bool} (hi : PySem.W.isClsIn K C = true) (ht : PySem.W.typeIn K (.ref C) = some (.type "type")) (hs : PySem.W.subIn K (.ref D) (.ref C) = some b) (hself : PySem.W.subIn K (.ref C) (.ref C) = some true) : PySem.W.kitOne K (.ref D) (.ref C) = some b := by
  unfold PySem.W.kitOne
  by_cases h : D = C
  · subst h
    rw [hs] at hself
    rw [if_pos (by simp), Option.some.inj hself]
  · rw [if_neg (by simp [h])]
    unfold PySem.W.kitCls
    have hi' : (PySem.W.clsIn K C).isSome = true := hi
    show (if ((PySem.W.clsIn K C).isSome && PySem.W.typeIn K (.ref C) == some (.type "type")) = true then PySem.W.subIn K (.ref D) (.ref C) else none) = some b
    rw [hi', ht, if_pos (by rfl)]
    exact hs
theorem kit_typ {K : PySem.W.Frag} {D : Addr} {T : String} {b : Bool} (hm : PySem.W.kitMeta T = true) (hs : PySem.W.subIn K (.ref D) (.type T) = some b) : PySem.W.kitOne K (.ref D) (.type T) = some b := by
  unfold PySem.W.kitOne
  rw [if_neg (by simp)]
  show (if PySem.W.kitMeta T = true then PySem.W.subIn K (.ref D) (.type T) else none) = some b
  rw [if_pos hm]
  exact hs
theorem icI_binds {K : PySem.W.Frag} {f cc cda : Addr} {fd : FuncData} (F : FunS K "__init__" "InvalidCode.__init__" sIcI f cc cda fd) : Binds K fd ["self", "at"] [] := by
  obtain ⟨oc, od, kV, doc, pm, an, ct, osl, rfl, lk, hcd⟩ := F.ex
  exact .all fun us hl => match us, hl with | [_, _], _ => rfl
theorem all_mk {P : Program} {w : World} {K : PySem.W.Frag} {h : Heap} {mg : Str → Option Value} {fa fLow fText fAre fNum cNum PNum fTape fNext fRA fBe fTl fRt fPtW fRd fWr fAl fDu fWd fSo fLaw C CI fII ccI cdI d0 d1 d2 d3 d4 d5 d6 d7 d8 d9 SE : Addr} {ocLow kVLow dcLow pmLow ctLow cdLow ocText kVText dcText pmText ctText cdText ocAre kVAre dcAre pmAre ctAre cdAre ocNum kVNum dcNum pmNum ctNum ocTape kVTape dcTape pmTape ctTape cdTape ocNext kVNext dcNext pmNext ctNext cdNext ocRA kVRA dcRA pmRA ctRA cdRA ocBe kVBe dcBe pmBe ctBe cdBe ocTl kVTl dcTl pmTl ctTl cdTl ocRt kVRt dcRt pmRt ctRt cdRt ocPtW kVPtW dcPtW pmPtW ctPtW cdPtW ocRd kVRd dcRd pmRd ctRd cdRd ocWr kVWr dcWr pmWr ctWr cdWr ocAl kVAl dcAl pmAl ctAl cdAl ocDu kVDu dcDu pmDu ctDu cdDu ocWd kVWd dcWd pmWd ctWd cdWd ocSo kVSo dcSo pmSo ctSo cdSo ocLaw kVLaw dcLaw pmLaw ctLaw cdLaw ocII kVII dcII pmII ctII : Value} {odLow anLow odText anText odAre anAre odNum anNum odTape anTape odNext anNext odRA anRA odBe anBe odTl anTl odRt anRt odPtW anPtW odRd anRd odWr anWr odAl anAl odDu anDu odWd anWd odSo anSo odLaw anLaw odII anII : Option Addr} {slLow slText slAre slNum slTape slNext slRA slBe slTl slRt slPtW slRd slWr slAl slDu slWd slSo slLaw slII : Array (Option Value)} {tW tM tCe tDi tMost : Tok}
    (X : K.In h) (G : h.Ns mainGlobals mg) (hfa : mg "law" = some (.ref fa)) (TB0 : PySem.W.CodeHd h cNum PNum ∧ h.get? PNum = some { cls := .none, data := .fields #[] })
    (aLow : PySem.W.nsIn K mainGlobals "is_lowercase" = some (some (.ref fLow)))
    (lLow : K.lookup fLow = some ⟨ocLow, odLow, .func (PySem.W.fnOf "is_lowercase" "is_lowercase" (defArgs sLow) (defBody sLow) (defScope sLow) .none kVLow dcLow pmLow anLow cdLow ctLow), slLow⟩)
    (coLow : PySem.W.codeIn K cdLow "is_lowercase" = true)
    (kLow : PySem.W.keepIn K (.ref fLow) = true)
    (aText : PySem.W.nsIn K mainGlobals "is_text" = some (some (.ref fText)))
    (lText : K.lookup fText = some ⟨ocText, odText, .func (PySem.W.fnOf "is_text" "is_text" (defArgs sText) (defBody sText) (defScope sText) .none kVText dcText pmText anText cdText ctText), slText⟩)
    (coText : PySem.W.codeIn K cdText "is_text" = true)
    (kText : PySem.W.keepIn K (.ref fText) = true)
    (aAre : PySem.W.nsIn K mainGlobals "are_stamps" = some (some (.ref fAre)))
    (lAre : K.lookup fAre = some ⟨ocAre, odAre, .func (PySem.W.fnOf "are_stamps" "are_stamps" (defArgs sAre) (defBody sAre) (defScope sAre) .none kVAre dcAre pmAre anAre cdAre ctAre), slAre⟩)
    (coAre : PySem.W.codeIn K cdAre "are_stamps" = true)
    (kAre : PySem.W.keepIn K (.ref fAre) = true)
    (aNum : PySem.W.nsIn K mainGlobals "number_of" = some (some (.ref fNum)))
    (lNum : K.lookup fNum = some ⟨ocNum, odNum, .func (PySem.W.fnOf "number_of" "number_of" (defArgs sNum) (defBody sNum) (defScope sNum) .none kVNum dcNum pmNum anNum (.ref cNum) ctNum), slNum⟩)
    (coNum : PySem.W.codeIn K (.ref cNum) "number_of" = true)
    (kNum : PySem.W.keepIn K (.ref fNum) = true)
    (nNum : K.lookup PNum = none)
    (aTape : PySem.W.nsIn K mainGlobals "_law_vat" = some (some (.ref fTape)))
    (lTape : K.lookup fTape = some ⟨ocTape, odTape, .func (PySem.W.fnOf "_law_vat" "_law_vat" (defArgs sTape) (defBody sTape) (defScope sTape) .none kVTape dcTape pmTape anTape cdTape ctTape), slTape⟩)
    (coTape : PySem.W.codeIn K cdTape "_law_vat" = true)
    (kTape : PySem.W.keepIn K (.ref fTape) = true)
    (aNext : PySem.W.nsIn K mainGlobals "_law_sip" = some (some (.ref fNext)))
    (lNext : K.lookup fNext = some ⟨ocNext, odNext, .func (PySem.W.fnOf "_law_sip" "_law_sip" (defArgs sNext) (defBody sNext) (defScope sNext) .none kVNext dcNext pmNext anNext cdNext ctNext), slNext⟩)
    (coNext : PySem.W.codeIn K cdNext "_law_sip" = true)
    (kNext : PySem.W.keepIn K (.ref fNext) = true)
    (aRA : PySem.W.nsIn K mainGlobals "_law_read_at" = some (some (.ref fRA)))
    (lRA : K.lookup fRA = some ⟨ocRA, odRA, .func (PySem.W.fnOf "_law_read_at" "_law_read_at" (defArgs sRA) (defBody sRA) (defScope sRA) .none kVRA dcRA pmRA anRA cdRA ctRA), slRA⟩)
    (coRA : PySem.W.codeIn K cdRA "_law_read_at" = true)
    (kRA : PySem.W.keepIn K (.ref fRA) = true)
    (aBe : PySem.W.nsIn K mainGlobals "_law_bent" = some (some (.ref fBe)))
    (lBe : K.lookup fBe = some ⟨ocBe, odBe, .func (PySem.W.fnOf "_law_bent" "_law_bent" (defArgs sBe) (defBody sBe) (defScope sBe) .none kVBe dcBe pmBe anBe cdBe ctBe), slBe⟩)
    (coBe : PySem.W.codeIn K cdBe "_law_bent" = true)
    (kBe : PySem.W.keepIn K (.ref fBe) = true)
    (aTl : PySem.W.nsIn K mainGlobals "_law_told" = some (some (.ref fTl)))
    (lTl : K.lookup fTl = some ⟨ocTl, odTl, .func (PySem.W.fnOf "_law_told" "_law_told" (defArgs sTl) (defBody sTl) (defScope sTl) .none kVTl dcTl pmTl anTl cdTl ctTl), slTl⟩)
    (coTl : PySem.W.codeIn K cdTl "_law_told" = true)
    (kTl : PySem.W.keepIn K (.ref fTl) = true)
    (aRt : PySem.W.nsIn K mainGlobals "_law_right" = some (some (.ref fRt)))
    (lRt : K.lookup fRt = some ⟨ocRt, odRt, .func (PySem.W.fnOf "_law_right" "_law_right" (defArgs sRt) (defBody sRt) (defScope sRt) .none kVRt dcRt pmRt anRt cdRt ctRt), slRt⟩)
    (coRt : PySem.W.codeIn K cdRt "_law_right" = true)
    (kRt : PySem.W.keepIn K (.ref fRt) = true)
    (aPtW : PySem.W.nsIn K mainGlobals "part_written" = some (some (.ref fPtW)))
    (lPtW : K.lookup fPtW = some ⟨ocPtW, odPtW, .func (PySem.W.fnOf "part_written" "part_written" (defArgs sPtW) (defBody sPtW) (defScope sPtW) .none kVPtW dcPtW pmPtW anPtW cdPtW ctPtW), slPtW⟩)
    (coPtW : PySem.W.codeIn K cdPtW "part_written" = true)
    (kPtW : PySem.W.keepIn K (.ref fPtW) = true)
    (aRd : PySem.W.nsIn K mainGlobals "read_parts" = some (some (.ref fRd)))
    (lRd : K.lookup fRd = some ⟨ocRd, odRd, .func (PySem.W.fnOf "read_parts" "read_parts" (defArgs sRdR) (defBody sRdR) (defScope sRdR) .none kVRd dcRd pmRd anRd cdRd ctRd), slRd⟩)
    (coRd : PySem.W.codeIn K cdRd "read_parts" = true)
    (kRd : PySem.W.keepIn K (.ref fRd) = true)
    (aWr : PySem.W.nsIn K mainGlobals "write_parts" = some (some (.ref fWr)))
    (lWr : K.lookup fWr = some ⟨ocWr, odWr, .func (PySem.W.fnOf "write_parts" "write_parts" (defArgs sWrR) (defBody sWrR) (defScope sWrR) .none kVWr dcWr pmWr anWr cdWr ctWr), slWr⟩)
    (coWr : PySem.W.codeIn K cdWr "write_parts" = true)
    (kWr : PySem.W.keepIn K (.ref fWr) = true)
    (aAl : PySem.W.nsIn K mainGlobals "_law_backs" = some (some (.ref fAl)))
    (lAl : K.lookup fAl = some ⟨ocAl, odAl, .func (PySem.W.fnOf "_law_backs" "_law_backs" (defArgs sAl) (defBody sAl) (defScope sAl) .none kVAl dcAl pmAl anAl cdAl ctAl), slAl⟩)
    (coAl : PySem.W.codeIn K cdAl "_law_backs" = true)
    (kAl : PySem.W.keepIn K (.ref fAl) = true)
    (aDu : PySem.W.nsIn K mainGlobals "_law_due" = some (some (.ref fDu)))
    (lDu : K.lookup fDu = some ⟨ocDu, odDu, .func (PySem.W.fnOf "_law_due" "_law_due" (defArgs sDuP) (defBody sDuP) (defScope sDuP) .none kVDu dcDu pmDu anDu cdDu ctDu), slDu⟩)
    (coDu : PySem.W.codeIn K cdDu "_law_due" = true)
    (kDu : PySem.W.keepIn K (.ref fDu) = true)
    (aWd : PySem.W.nsIn K mainGlobals "_law_word" = some (some (.ref fWd)))
    (lWd : K.lookup fWd = some ⟨ocWd, odWd, .func (PySem.W.fnOf "_law_word" "_law_word" (defArgs sWd) (defBody sWd) (defScope sWd) .none kVWd dcWd pmWd anWd cdWd ctWd), slWd⟩)
    (coWd : PySem.W.codeIn K cdWd "_law_word" = true)
    (kWd : PySem.W.keepIn K (.ref fWd) = true)
    (aSo : PySem.W.nsIn K mainGlobals "_law_some" = some (some (.ref fSo)))
    (lSo : K.lookup fSo = some ⟨ocSo, odSo, .func (PySem.W.fnOf "_law_some" "_law_some" (defArgs sSo) (defBody sSo) (defScope sSo) .none kVSo dcSo pmSo anSo cdSo ctSo), slSo⟩)
    (coSo : PySem.W.codeIn K cdSo "_law_some" = true)
    (kSo : PySem.W.keepIn K (.ref fSo) = true)
    (aLaw : PySem.W.nsIn K mainGlobals "law" = some (some (.ref fLaw)))
    (lLaw : K.lookup fLaw = some ⟨ocLaw, odLaw, .func (PySem.W.fnOf "law" "law" (defArgs sLaw83) (defBody sLaw83) (defScope sLaw83) .none kVLaw dcLaw pmLaw anLaw cdLaw ctLaw), slLaw⟩)
    (coLaw : PySem.W.codeIn K cdLaw "law" = true)
    (kLaw : PySem.W.keepIn K (.ref fLaw) = true)
    (aWidest : PySem.W.nsIn K mainGlobals "WIDEST" = some (some (.int 8 tW)))
    (aMostL : PySem.W.nsIn K mainGlobals "MOST_LETTERS" = some (some (.int 36 tM)))
    (aCells : PySem.W.nsIn K mainGlobals "MOST_CELLS" = some (some (.int 120 tCe)))
    (aDig : PySem.W.nsIn K mainGlobals "MOST_DIGITS" = some (some (.int 9 tDi)))
    (aC : PySem.W.nsIn K mainGlobals "Stamps" = some (some (.ref C)))
    (rdS : PySem.W.readsIn K C (.type "type") = true)
    (gaS : PySem.W.specialIn K (.ref C) "__getattribute__" = some (some (.builtin "type.__getattribute__")))
    (pgS : PySem.W.plainGet K C Str.empty = true)
    (hdS : PySem.W.hasDictIn K C = true)
    (poS : PySem.W.plainOver K C = true)
    (saS : PySem.W.findIn K (.ref C) "__setattr__" = some (some (.builtin "object.__setattr__")))
    (mkS : PySem.W.makesIn K C = true)
    (kcS : PySem.W.keepIn K (.ref C) = true)
    (mst : PySem.W.findCls K (.ref C) (.type "type") "MOST" = some (.val (.int 6 tMost)))
    (aCI : PySem.W.nsIn K mainGlobals "InvalidCode" = some (some (.ref CI)))
    (iII : PySem.W.findIn K (.ref CI) "__init__" = some (some (.ref fII)))
    (lII : K.lookup fII = some ⟨ocII, odII, .func (PySem.W.ksFn "__init__" "InvalidCode.__init__" (defArgs sIcI) (defBody sIcI) (defScope sIcI) .none kVII dcII pmII anII (.ref cdI) ctII ccI), slII⟩)
    (coII : PySem.W.codeIn K (.ref cdI) "InvalidCode.__init__" = true)
    (kII : PySem.W.keepIn K (.ref fII) = true)
    (xoCI : oexB K CI = true)
    (saCI : PySem.W.findIn K (.ref CI) "__setattr__" = some (some (.builtin "object.__setattr__")))
    (bCI : PySem.W.subIn K (.ref CI) (.type "BaseException") = some true)
    (tyCI : PySem.W.typeIn K (.ref CI) = some (.type "type"))
    (kkCI : PySem.W.keepIn K (.ref CI) = true)
    (stA : PySem.W.nsIn K cStatics "thirdparty.any" = some none)
    (suCI : PySem.W.ks_superIn K CI CI "__init__" = some (some (.builtin "ValueError.__init__")))
    (svCI : PySem.W.subIn K (.ref CI) (.type "ValueError") = some true)
    (mrCI : PySem.W.mroIn K CI (.ref CI) = some true)
    (ceCI : cellB K ccI CI = true)
    (naCI : PySem.W.findIn K (.ref CI) "at" = some none)
    (fiCI : fileB K cdI "/claim/cut.py" = true)
    (tfCI : PySem.W.typeIn K (.ref fII) = some (.type "function"))
    (z_super : PySem.W.nsIn K mainGlobals "super" = some none)
    (e6 : PySem.W.specialIn K (.builtin "object.__class__") "__get__" = some (some (.builtin "getset_descriptor.__get__")))
    (e7 : PySem.W.takesIn K (.builtin "object.__class__") = some true)
    (u1CI : PySem.W.findIn K (.ref CI) "__getattribute__" = some (some (.builtin "BaseException.__getattribute__")))
    (u2CI : PySem.W.findIn K (.ref CI) "__getattr__" = some none)
    (u4CI : PySem.W.hasDictIn K CI = true)
    (u5CI : PySem.W.findIn K (.ref CI) "__class__" = some (some (.builtin "object.__class__")))
    (u8CI : PySem.W.mroIn K CI (.type "object") = some true)
    (ad0 : PySem.W.nsIn K mainGlobals "InvalidName" = some (some (.ref d0)))
    (ad1 : PySem.W.nsIn K mainGlobals "InvalidNumber" = some (some (.ref d1)))
    (ad2 : PySem.W.nsIn K mainGlobals "InvalidOrder" = some (some (.ref d2)))
    (ad3 : PySem.W.nsIn K mainGlobals "InvalidParts" = some (some (.ref d3)))
    (ad4 : PySem.W.nsIn K mainGlobals "InvalidStamping" = some (some (.ref d4)))
    (ad5 : PySem.W.nsIn K mainGlobals "InvalidStamps" = some (some (.ref d5)))
    (ad6 : PySem.W.nsIn K mainGlobals "InvalidStrip" = some (some (.ref d6)))
    (ad7 : PySem.W.nsIn K mainGlobals "InvalidText" = some (some (.ref d7)))
    (ad8 : PySem.W.nsIn K mainGlobals "NotPossible" = some (some (.ref d8)))
    (ad9 : PySem.W.nsIn K mainGlobals "NothingToUndo" = some (some (.ref d9)))
    (kaR : PySem.W.kitAny K (.ref CI) [.ref d0, .ref d1, .ref d2, .ref d3, .ref d4, .ref d5] = some false)
    (kbR : PySem.W.kitAny K (.ref CI) [.ref d6, .ref d7, .ref d8, .ref d9] = some false)
    (kiR : PySem.W.kitOne K (.ref CI) (.ref CI) = some true)
    (xfR : xfB K CI = true)
    (kvR : PySem.W.kitOne K (.ref CI) (.type "ValueError") = some true)
    (aSE : PySem.W.nsIn K mainGlobals "StampError" = some (some (.ref SE)))
    (exS : PySem.W.exmOne K (.ref CI) (.ref SE) = some true)
    (z_all : PySem.W.nsIn K mainGlobals "all" = some none)
    (z_len : PySem.W.nsIn K mainGlobals "len" = some none)
    (z_isinstance : PySem.W.nsIn K mainGlobals "isinstance" = some none)
    (z_str : PySem.W.nsIn K mainGlobals "str" = some none)
    (z_list : PySem.W.nsIn K mainGlobals "list" = some none)
    (z_set : PySem.W.nsIn K mainGlobals "set" = some none)
    (z_abs : PySem.W.nsIn K mainGlobals "abs" = some none)
    (z_max : PySem.W.nsIn K mainGlobals "max" = some none)
    (z_min : PySem.W.nsIn K mainGlobals "min" = some none)
    (z_range : PySem.W.nsIn K mainGlobals "range" = some none)
    (z_enumerate : PySem.W.nsIn K mainGlobals "enumerate" = some none)
    (z_ValueError : PySem.W.nsIn K mainGlobals "ValueError" = some none)
    (z_repr : PySem.W.nsIn K mainGlobals "repr" = some none)
    (z_sorted : PySem.W.nsIn K mainGlobals "sorted" = some none)
    (z_dict : PySem.W.nsIn K mainGlobals "dict" = some none)
    (z_int : PySem.W.nsIn K mainGlobals "int" = some none) (pfile : (P.main.file : Str) = "/claim/cut.py") (psup : (P.main.scope.names.lookup ("super" : Str)).isSome = false) (l : PySem.W.OpenLaw) (hl : l.prog = P) :
    LawAtG l w K 7 63 "script" mg fa h := by
  subst hl
  have ee := hfa.symm.trans (PySem.W.mg_of X G aLaw)
  cases ee
  have FLow := fun_mk (st := sLow) lLow coLow kLow
  have FText := fun_mk (st := sText) lText coText kText
  have FAre := fun_mk (st := sAre) lAre coAre kAre
  have FNum : FunC K "number_of" "number_of" sNum fNum _ cNum := funC_mk lNum coNum kNum
  have FTape := fun_mk (st := sTape) lTape coTape kTape
  have FNext := fun_mk (st := sNext) lNext coNext kNext
  have FRA := fun_mk (st := sRA) lRA coRA kRA
  have FBe := fun_mk (st := sBe) lBe coBe kBe
  have FTl := fun_mk (st := sTl) lTl coTl kTl
  have FRt := fun_mk (st := sRt) lRt coRt kRt
  have FPtW := fun_mk (st := sPtW) lPtW coPtW kPtW
  have FRd := fun_mk (st := sRdR) lRd coRd kRd
  have FWr := fun_mk (st := sWrR) lWr coWr kWr
  have FAl := fun_mk (st := sAl) lAl coAl kAl
  have FDu := fun_mk (st := sDuP) lDu coDu kDu
  have FWd := fun_mk (st := sWd) lWd coWd kWd
  have FSo := fun_mk (st := sSo) lSo coSo kSo
  have FLaw := fun_mk (st := sLaw83) lLaw coLaw kLaw
  have FII : FunS K "__init__" "InvalidCode.__init__" sIcI fII ccI cdI _ := ⟨⟨ocII, odII, kVII, dcII, pmII, anII, ctII, slII, rfl, lII, coII⟩⟩
  have X' : Txt K mg C fLow fText fAre fTape fNext 0 := ⟨(PySem.W.mg_none_of X G z_all), (PySem.W.mg_none_of X G z_len), (PySem.W.mg_none_of X G z_isinstance), (PySem.W.mg_none_of X G z_str), (PySem.W.mg_none_of X G z_list), (PySem.W.mg_none_of X G z_set), (PySem.W.mg_none_of X G z_abs), (PySem.W.mg_none_of X G z_max), (PySem.W.mg_none_of X G z_min), (PySem.W.mg_none_of X G z_range),
    (PySem.W.mg_of X G aTape), kTape, (PySem.W.mg_of X G aNext), kNext, (PySem.W.mg_of X G aLow), kLow, (PySem.W.mg_of X G aText), kText, (PySem.W.mg_of X G aAre), kAre, (PySem.W.mg_of X G aC), ⟨_, (PySem.W.mg_of X G aWidest)⟩, ⟨_, (PySem.W.mg_of X G aMostL)⟩, ⟨rdS, gaS⟩, ⟨_, mst, ⟨_, rfl⟩⟩⟩
  have IC : IcK l.prog K mg CI fII ccI cdI := ⟨⟨⟨oexB_ok xoCI, saCI, bCI, tyCI, kkCI⟩, stA, suCI, svCI, mrCI, cellB_ok ceCI, naCI, (PySem.W.mg_none_of X G z_super), by rw [pfile]; exact fileB_ok fiCI, psup⟩, (PySem.W.mg_of X G aCI), iII, tfCI, ⟨u1CI, u2CI, bCI, u4CI, u5CI, e6, e7, u8CI⟩⟩
  have XC : CdX mg := ⟨(PySem.W.mg_none_of X G z_enumerate)⟩
  let Dk : Nat → Addr := fun i => match i with | 0 => d0 | 1 => d1 | 2 => d2 | 3 => d3 | 4 => d4 | 5 => d5 | 6 => d6 | 7 => d7 | 8 => d8 | 9 => d9 | _ => 0
  have RK : RaK K mg CI Dk := ⟨(PySem.W.mg_of X G ad0), (PySem.W.mg_of X G ad1), (PySem.W.mg_of X G ad2), (PySem.W.mg_of X G ad3), (PySem.W.mg_of X G ad4), (PySem.W.mg_of X G ad5), (PySem.W.mg_of X G ad6), (PySem.W.mg_of X G ad7), (PySem.W.mg_of X G ad8), (PySem.W.mg_of X G ad9), kaR, kbR, kvR, kiR, (PySem.W.mg_none_of X G z_ValueError), xfB_ok xfR⟩
  have SK : SeK K mg SE CI := ⟨(PySem.W.mg_of X G aSE), exS⟩
  have SW : SwK K mg fNum := ⟨(PySem.W.mg_of X G aNum), kNum, ⟨_, (PySem.W.mg_of X G aCells)⟩⟩
  have RP : RpK K mg fPtW := ⟨(PySem.W.mg_of X G aPtW), kPtW⟩
  have RT0 : RtK K mg fDu fTl fRd fWr := ⟨(PySem.W.mg_none_of X G z_repr), (PySem.W.mg_of X G aDu), kDu, (PySem.W.mg_of X G aTl), kTl, (PySem.W.mg_of X G aRd), kRd, (PySem.W.mg_of X G aWr), kWr⟩
  have LW : LwK K mg fRt fBe fWr fAl fWd fSo := ⟨(PySem.W.mg_of X G aRt), kRt, (PySem.W.mg_of X G aBe), kBe, (PySem.W.mg_of X G aWr), kWr, (PySem.W.mg_of X G aAl), kAl, (PySem.W.mg_of X G aWd), kWd, (PySem.W.mg_of X G aSo), kSo⟩
  have hsrt : mg "sorted" = none := (PySem.W.mg_none_of X G z_sorted)
  have hdic : mg "dict" = none := (PySem.W.mg_none_of X G z_dict)
  refine ⟨PySem.W.fnOf "law" "law" (defArgs sLaw83) (defBody sLaw83) (defScope sLaw83) .none kVLaw dcLaw pmLaw anLaw cdLaw ctLaw, [(cNum, PNum)], spLaw83 K [PNum], fun p hp => ?_, fun p hp => ?_, fun p hp => ?_, fun s u => .of_eq rfl, fun H a ns hn hH hS => ?_, fun base KB GB TB => ?_⟩
  · simp only [List.mem_cons, List.not_mem_nil, or_false] at hp
    rcases hp with rfl
    · exact TB0.2
  · simp only [List.mem_cons, List.not_mem_nil, or_false] at hp
    rcases hp with rfl
    · exact nNum
  · simp only [List.mem_cons, List.not_mem_nil, or_false] at hp
    rcases hp with rfl
    · exact TB0.1
  · refine ⟨a, ns, rfl, fun p hp => ?_, hS, hn, fun _ => rfl⟩
    have tr : TriplesOk (#[] : Array Value).toList := by first | trivial | simp [TriplesOk] | exact ⟨⟩
    simp only [List.mem_cons, List.not_mem_nil, or_false] at hp
    rcases hp with rfl
    · exact ⟨#[], hH (cNum, _) (by simp), tr⟩
  · have TTB : ∀ c P', (c, P') ∈ ([(cNum, PNum)] : List (Addr × Addr)) → TabB base mg c P' := fun c P' hm => (fun (z : LamX.TabB base mg c P') => ⟨z.code, z.bm, z.gP⟩) (TB (c, P') hm)
    have NU : NuK base mg [PNum] cNum PNum := ⟨TTB cNum PNum (by simp), by simp, ⟨_, (PySem.W.mg_of X G aDig)⟩, (PySem.W.mg_none_of X G z_int)⟩
    have bII : Binds K _ ["self", "at"] [] := icI_binds FII
    have RD := ok_rdr (P := l.prog) (w := w) (base := base) (T := [PNum]) FRd FPtW FNum FII bII X' NU SW RP IC XC
    have WR := ok_wrr (P := l.prog) (w := w) (base := base) (T := [PNum]) FWr X'
    have TL := ok_tl FTl FRd RD FRA X' IC RK SK (PySem.W.mg_of X G aRd) kRd (PySem.W.mg_of X G aRA) kRA
    have DU := ok_dup (P := l.prog) (w := w) (base := base) FDu X' XC hdic
    have RT := ok_rt FRt FDu FTl FRd FWr DU TL RD WR X' RT0
    exact ok_law83 FLaw FTape FNext FAl FWd FSo FRt RT FBe FWr WR X' hsrt LW
end Ov

set_option Elab.async false
set_option linter.all false
set_option maxRecDepth 100000
set_option maxHeartbeats 0
namespace Ov
open PySem PySem.Spec PyProof.Rows L2 GxR
def q_fLow (K : PySem.W.Frag) : Addr := match PySem.W.nsIn K mainGlobals "is_lowercase" with
  | some (some (.ref z)) => z
  | _ => default
def q_fText (K : PySem.W.Frag) : Addr := match PySem.W.nsIn K mainGlobals "is_text" with
  | some (some (.ref z)) => z
  | _ => default
def q_fAre (K : PySem.W.Frag) : Addr := match PySem.W.nsIn K mainGlobals "are_stamps" with
  | some (some (.ref z)) => z
  | _ => default
def q_fNum (K : PySem.W.Frag) : Addr := match PySem.W.nsIn K mainGlobals "number_of" with
  | some (some (.ref z)) => z
  | _ => default
def q_fTape (K : PySem.W.Frag) : Addr := match PySem.W.nsIn K mainGlobals "_law_vat" with
  | some (some (.ref z)) => z
  | _ => default
def q_fNext (K : PySem.W.Frag) : Addr := match PySem.W.nsIn K mainGlobals "_law_sip" with
  | some (some (.ref z)) => z
  | _ => default
def q_fRA (K : PySem.W.Frag) : Addr := match PySem.W.nsIn K mainGlobals "_law_read_at" with
  | some (some (.ref z)) => z
  | _ => default
def q_fBe (K : PySem.W.Frag) : Addr := match PySem.W.nsIn K mainGlobals "_law_bent" with
  | some (some (.ref z)) => z
  | _ => default
def q_fTl (K : PySem.W.Frag) : Addr := match PySem.W.nsIn K mainGlobals "_law_told" with
  | some (some (.ref z)) => z
  | _ => default
def q_fRt (K : PySem.W.Frag) : Addr := match PySem.W.nsIn K mainGlobals "_law_right" with
  | some (some (.ref z)) => z
  | _ => default
def q_fPtW (K : PySem.W.Frag) : Addr := match PySem.W.nsIn K mainGlobals "part_written" with
  | some (some (.ref z)) => z
  | _ => default
def q_fRd (K : PySem.W.Frag) : Addr := match PySem.W.nsIn K mainGlobals "read_parts" with
  | some (some (.ref z)) => z
  | _ => default
def q_fWr (K : PySem.W.Frag) : Addr := match PySem.W.nsIn K mainGlobals "write_parts" with
  | some (some (.ref z)) => z
  | _ => default
def q_fAl (K : PySem.W.Frag) : Addr := match PySem.W.nsIn K mainGlobals "_law_backs" with
  | some (some (.ref z)) => z
  | _ => default
def q_fDu (K : PySem.W.Frag) : Addr := match PySem.W.nsIn K mainGlobals "_law_due" with
  | some (some (.ref z)) => z
  | _ => default
def q_fWd (K : PySem.W.Frag) : Addr := match PySem.W.nsIn K mainGlobals "_law_word" with
  | some (some (.ref z)) => z
  | _ => default
def q_fSo (K : PySem.W.Frag) : Addr := match PySem.W.nsIn K mainGlobals "_law_some" with
  | some (some (.ref z)) => z
  | _ => default
def q_fLaw (K : PySem.W.Frag) : Addr := match PySem.W.nsIn K mainGlobals "law" with
  | some (some (.ref z)) => z
  | _ => default
def q_tW (K : PySem.W.Frag) : Tok := match PySem.W.nsIn K mainGlobals "WIDEST" with
  | some (some (.int _ z)) => z
  | _ => default
def q_tM (K : PySem.W.Frag) : Tok := match PySem.W.nsIn K mainGlobals "MOST_LETTERS" with
  | some (some (.int _ z)) => z
  | _ => default
def q_tCe (K : PySem.W.Frag) : Tok := match PySem.W.nsIn K mainGlobals "MOST_CELLS" with
  | some (some (.int _ z)) => z
  | _ => default
def q_tDi (K : PySem.W.Frag) : Tok := match PySem.W.nsIn K mainGlobals "MOST_DIGITS" with
  | some (some (.int _ z)) => z
  | _ => default
def q_C (K : PySem.W.Frag) : Addr := match PySem.W.nsIn K mainGlobals "Stamps" with
  | some (some (.ref z)) => z
  | _ => default
def q_tMost (K : PySem.W.Frag) : Tok := match PySem.W.findCls K (.ref (q_C K)) (.type "type") "MOST" with
  | some (.val (.int _ z)) => z
  | _ => default
def q_CI (K : PySem.W.Frag) : Addr := match PySem.W.nsIn K mainGlobals "InvalidCode" with
  | some (some (.ref z)) => z
  | _ => default
def q_fII (K : PySem.W.Frag) : Addr := match PySem.W.findIn K (.ref (q_CI K)) "__init__" with
  | some (some (.ref z)) => z
  | _ => default
def q_d0 (K : PySem.W.Frag) : Addr := match PySem.W.nsIn K mainGlobals "InvalidName" with
  | some (some (.ref z)) => z
  | _ => default
def q_d1 (K : PySem.W.Frag) : Addr := match PySem.W.nsIn K mainGlobals "InvalidNumber" with
  | some (some (.ref z)) => z
  | _ => default
def q_d2 (K : PySem.W.Frag) : Addr := match PySem.W.nsIn K mainGlobals "InvalidOrder" with
  | some (some (.ref z)) => z
  | _ => default
def q_d3 (K : PySem.W.Frag) : Addr := match PySem.W.nsIn K mainGlobals "InvalidParts" with
  | some (some (.ref z)) => z
  | _ => default
def q_d4 (K : PySem.W.Frag) : Addr := match PySem.W.nsIn K mainGlobals "InvalidStamping" with
  | some (some (.ref z)) => z
  | _ => default
def q_d5 (K : PySem.W.Frag) : Addr := match PySem.W.nsIn K mainGlobals "InvalidStamps" with
  | some (some (.ref z)) => z
  | _ => default
def q_d6 (K : PySem.W.Frag) : Addr := match PySem.W.nsIn K mainGlobals "InvalidStrip" with
  | some (some (.ref z)) => z
  | _ => default
def q_d7 (K : PySem.W.Frag) : Addr := match PySem.W.nsIn K mainGlobals "InvalidText" with
  | some (some (.ref z)) => z
  | _ => default
def q_d8 (K : PySem.W.Frag) : Addr := match PySem.W.nsIn K mainGlobals "NotPossible" with
  | some (some (.ref z)) => z
  | _ => default
def q_d9 (K : PySem.W.Frag) : Addr := match PySem.W.nsIn K mainGlobals "NothingToUndo" with
  | some (some (.ref z)) => z
  | _ => default
def q_SE (K : PySem.W.Frag) : Addr := match PySem.W.nsIn K mainGlobals "StampError" with
  | some (some (.ref z)) => z
  | _ => default
def q_cNum (K : PySem.W.Frag) : Addr := codeP K (q_fNum K)
def q_PNum (K : PySem.W.Frag) : Addr := He.tabOf K (q_cNum K)
def q_cdI (K : PySem.W.Frag) : Addr := codeP K (q_fII K)
def q_ccI (K : PySem.W.Frag) : Addr := cloP K (q_fII K)
def fs0 (K : PySem.W.Frag) : List Bool := [decide (PySem.W.nsIn K mainGlobals "is_lowercase" = some (some (.ref (q_fLow K)))), decide (PySem.W.nsIn K mainGlobals "is_text" = some (some (.ref (q_fText K)))), decide (PySem.W.nsIn K mainGlobals "are_stamps" = some (some (.ref (q_fAre K)))), decide (PySem.W.nsIn K mainGlobals "number_of" = some (some (.ref (q_fNum K)))), decide (PySem.W.nsIn K mainGlobals "_law_vat" = some (some (.ref (q_fTape K)))), decide (PySem.W.nsIn K mainGlobals "_law_sip" = some (some (.ref (q_fNext K)))), decide (PySem.W.nsIn K mainGlobals "_law_read_at" = some (some (.ref (q_fRA K)))), decide (PySem.W.nsIn K mainGlobals "_law_bent" = some (some (.ref (q_fBe K)))), decide (PySem.W.nsIn K mainGlobals "_law_told" = some (some (.ref (q_fTl K)))), decide (PySem.W.nsIn K mainGlobals "_law_right" = some (some (.ref (q_fRt K)))), decide (PySem.W.nsIn K mainGlobals "part_written" = some (some (.ref (q_fPtW K)))), decide (PySem.W.nsIn K mainGlobals "read_parts" = some (some (.ref (q_fRd K)))), decide (PySem.W.nsIn K mainGlobals "write_parts" = some (some (.ref (q_fWr K)))), decide (PySem.W.nsIn K mainGlobals "_law_backs" = some (some (.ref (q_fAl K)))), decide (PySem.W.nsIn K mainGlobals "_law_due" = some (some (.ref (q_fDu K)))), decide (PySem.W.nsIn K mainGlobals "_law_word" = some (some (.ref (q_fWd K)))), decide (PySem.W.nsIn K mainGlobals "_law_some" = some (some (.ref (q_fSo K)))), decide (PySem.W.nsIn K mainGlobals "law" = some (some (.ref (q_fLaw K)))), decide (PySem.W.nsIn K mainGlobals "WIDEST" = some (some (.int 8 (q_tW K)))), decide (PySem.W.nsIn K mainGlobals "MOST_LETTERS" = some (some (.int 36 (q_tM K)))), decide (PySem.W.nsIn K mainGlobals "MOST_CELLS" = some (some (.int 120 (q_tCe K)))), decide (PySem.W.nsIn K mainGlobals "MOST_DIGITS" = some (some (.int 9 (q_tDi K)))), decide (PySem.W.nsIn K mainGlobals "Stamps" = some (some (.ref (q_C K)))), decide (PySem.W.readsIn K (q_C K) (.type "type") = true), decide (PySem.W.specialIn K (.ref (q_C K)) "__getattribute__" = some (some (.builtin "type.__getattribute__"))), decide (PySem.W.plainGet K (q_C K) Str.empty = true), decide (PySem.W.hasDictIn K (q_C K) = true), decide (PySem.W.plainOver K (q_C K) = true), decide (PySem.W.findIn K (.ref (q_C K)) "__setattr__" = some (some (.builtin "object.__setattr__"))), decide (PySem.W.makesIn K (q_C K) = true), decide (PySem.W.keepIn K (.ref (q_C K)) = true), decide (PySem.W.findCls K (.ref (q_C K)) (.type "type") "MOST" = some (.val (.int 6 (q_tMost K)))), decide (PySem.W.nsIn K mainGlobals "InvalidCode" = some (some (.ref (q_CI K)))), decide (PySem.W.findIn K (.ref (q_CI K)) "__init__" = some (some (.ref (q_fII K)))), decide (oexB K (q_CI K) = true), decide (PySem.W.findIn K (.ref (q_CI K)) "__setattr__" = some (some (.builtin "object.__setattr__"))), decide (PySem.W.subIn K (.ref (q_CI K)) (.type "BaseException") = some true), decide (PySem.W.typeIn K (.ref (q_CI K)) = some (.type "type")), decide (PySem.W.keepIn K (.ref (q_CI K)) = true), decide (PySem.W.nsIn K cStatics "thirdparty.any" = some none)]
def fs1 (K : PySem.W.Frag) : List Bool := [decide (PySem.W.ks_superIn K (q_CI K) (q_CI K) "__init__" = some (some (.builtin "ValueError.__init__"))), decide (PySem.W.subIn K (.ref (q_CI K)) (.type "ValueError") = some true), decide (PySem.W.mroIn K (q_CI K) (.ref (q_CI K)) = some true), decide (cellB K (q_ccI K) (q_CI K) = true), decide (PySem.W.findIn K (.ref (q_CI K)) "at" = some none), decide (fileB K (q_cdI K) "/claim/cut.py" = true), decide (PySem.W.typeIn K (.ref (q_fII K)) = some (.type "function")), decide (PySem.W.nsIn K mainGlobals "super" = some none), decide (PySem.W.specialIn K (.builtin "object.__class__") "__get__" = some (some (.builtin "getset_descriptor.__get__"))), decide (PySem.W.takesIn K (.builtin "object.__class__") = some true), decide (PySem.W.findIn K (.ref (q_CI K)) "__getattribute__" = some (some (.builtin "BaseException.__getattribute__"))), decide (PySem.W.findIn K (.ref (q_CI K)) "__getattr__" = some none), decide (PySem.W.hasDictIn K (q_CI K) = true), decide (PySem.W.findIn K (.ref (q_CI K)) "__class__" = some (some (.builtin "object.__class__"))), decide (PySem.W.mroIn K (q_CI K) (.type "object") = some true), decide (PySem.W.nsIn K mainGlobals "InvalidName" = some (some (.ref (q_d0 K)))), decide (PySem.W.nsIn K mainGlobals "InvalidNumber" = some (some (.ref (q_d1 K)))), decide (PySem.W.nsIn K mainGlobals "InvalidOrder" = some (some (.ref (q_d2 K)))), decide (PySem.W.nsIn K mainGlobals "InvalidParts" = some (some (.ref (q_d3 K)))), decide (PySem.W.nsIn K mainGlobals "InvalidStamping" = some (some (.ref (q_d4 K)))), decide (PySem.W.nsIn K mainGlobals "InvalidStamps" = some (some (.ref (q_d5 K)))), decide (PySem.W.nsIn K mainGlobals "InvalidStrip" = some (some (.ref (q_d6 K)))), decide (PySem.W.nsIn K mainGlobals "InvalidText" = some (some (.ref (q_d7 K)))), decide (PySem.W.nsIn K mainGlobals "NotPossible" = some (some (.ref (q_d8 K)))), decide (PySem.W.nsIn K mainGlobals "NothingToUndo" = some (some (.ref (q_d9 K)))), decide (PySem.W.kitAny K (.ref (q_CI K)) [.ref (q_d0 K), .ref (q_d1 K), .ref (q_d2 K), .ref (q_d3 K), .ref (q_d4 K), .ref (q_d5 K)] = some false), decide (PySem.W.kitAny K (.ref (q_CI K)) [.ref (q_d6 K), .ref (q_d7 K), .ref (q_d8 K), .ref (q_d9 K)] = some false), decide (PySem.W.kitOne K (.ref (q_CI K)) (.ref (q_CI K)) = some true), decide (xfB K (q_CI K) = true), decide (PySem.W.kitOne K (.ref (q_CI K)) (.type "ValueError") = some true), decide (PySem.W.nsIn K mainGlobals "StampError" = some (some (.ref (q_SE K)))), decide (PySem.W.exmOne K (.ref (q_CI K)) (.ref (q_SE K)) = some true), decide (PySem.W.nsIn K mainGlobals "all" = some none), decide (PySem.W.nsIn K mainGlobals "len" = some none), decide (PySem.W.nsIn K mainGlobals "isinstance" = some none), decide (PySem.W.nsIn K mainGlobals "str" = some none), decide (PySem.W.nsIn K mainGlobals "list" = some none), decide (PySem.W.nsIn K mainGlobals "set" = some none), decide (PySem.W.nsIn K mainGlobals "abs" = some none), decide (PySem.W.nsIn K mainGlobals "max" = some none)]
def fs2 (K : PySem.W.Frag) : List Bool := [decide (PySem.W.nsIn K mainGlobals "min" = some none), decide (PySem.W.nsIn K mainGlobals "range" = some none), decide (PySem.W.nsIn K mainGlobals "enumerate" = some none), decide (PySem.W.nsIn K mainGlobals "ValueError" = some none), decide (PySem.W.nsIn K mainGlobals "repr" = some none), decide (PySem.W.nsIn K mainGlobals "sorted" = some none), decide (PySem.W.nsIn K mainGlobals "dict" = some none), decide (PySem.W.nsIn K mainGlobals "int" = some none)]
def exA (K : PySem.W.Frag) : Bool := (fs0 K).all id && ((fs1 K).all id && ((fs2 K).all id))
def d_Low : DefP := ⟨q_fLow, "is_lowercase", "is_lowercase", defArgs sLow, defBody sLow, defScope sLow, []⟩
def d_Text : DefP := ⟨q_fText, "is_text", "is_text", defArgs sText, defBody sText, defScope sText, []⟩
def d_Are : DefP := ⟨q_fAre, "are_stamps", "are_stamps", defArgs sAre, defBody sAre, defScope sAre, []⟩
def d_Num : DefP := ⟨q_fNum, "number_of", "number_of", defArgs sNum, defBody sNum, defScope sNum, []⟩
def d_Tape : DefP := ⟨q_fTape, "_law_vat", "_law_vat", defArgs sTape, defBody sTape, defScope sTape, []⟩
def d_Next : DefP := ⟨q_fNext, "_law_sip", "_law_sip", defArgs sNext, defBody sNext, defScope sNext, []⟩
def d_RA : DefP := ⟨q_fRA, "_law_read_at", "_law_read_at", defArgs sRA, defBody sRA, defScope sRA, []⟩
def d_Be : DefP := ⟨q_fBe, "_law_bent", "_law_bent", defArgs sBe, defBody sBe, defScope sBe, []⟩
def d_Tl : DefP := ⟨q_fTl, "_law_told", "_law_told", defArgs sTl, defBody sTl, defScope sTl, []⟩
def d_Rt : DefP := ⟨q_fRt, "_law_right", "_law_right", defArgs sRt, defBody sRt, defScope sRt, []⟩
def d_PtW : DefP := ⟨q_fPtW, "part_written", "part_written", defArgs sPtW, defBody sPtW, defScope sPtW, []⟩
def d_Rd : DefP := ⟨q_fRd, "read_parts", "read_parts", defArgs sRdR, defBody sRdR, defScope sRdR, []⟩
def d_Wr : DefP := ⟨q_fWr, "write_parts", "write_parts", defArgs sWrR, defBody sWrR, defScope sWrR, []⟩
def d_Al : DefP := ⟨q_fAl, "_law_backs", "_law_backs", defArgs sAl, defBody sAl, defScope sAl, []⟩
def d_Du : DefP := ⟨q_fDu, "_law_due", "_law_due", defArgs sDuP, defBody sDuP, defScope sDuP, []⟩
def d_Wd : DefP := ⟨q_fWd, "_law_word", "_law_word", defArgs sWd, defBody sWd, defScope sWd, []⟩
def d_So : DefP := ⟨q_fSo, "_law_some", "_law_some", defArgs sSo, defBody sSo, defScope sSo, []⟩
def d_Law : DefP := ⟨q_fLaw, "law", "law", defArgs sLaw83, defBody sLaw83, defScope sLaw83, []⟩
def d_II : DefP := ⟨q_fII, "__init__", "InvalidCode.__init__", defArgs sIcI, defBody sIcI, defScope sIcI, ["__class__"]⟩
def fnA : List DefP := [d_Low, d_Text, d_Are, d_Num, d_Tape, d_Next, d_RA, d_Be, d_Tl, d_Rt, d_PtW, d_Rd, d_Wr, d_Al, d_Du, d_Wd, d_So, d_Law, d_II]
def tfA : List TabP := [fun K => (q_cNum K, q_PNum K)]
def names0 : List Str := ["StampError", "InvalidStamps", "InvalidText", "InvalidStrip", "InvalidParts", "InvalidStamping", "InvalidOrder", "InvalidName", "InvalidNumber", "NotPossible", "NothingToUndo", "InvalidCode", "WIDEST", "MOST_LETTERS", "MOST_CELLS", "is_lowercase", "is_text", "is_strip", "are_stamps", "over", "Stamps", "MOST_DIGITS", "number_of", "part_written", "write_parts", "read_parts", "_law_vat", "_law_sip", "_law_read_at", "_law_bent"]
def names1 : List Str := ["_law_word", "_law_backs", "_law_due", "_law_told", "_law_right", "_law_some"]
def namesA : List Str := names0 ++ names1
abbrev rowA : PySem.W.OpenRow := PySem.W.OpenLaw.row PySem.Challenge.rw_overstamps_k83_codes_of_parts
def as0 : List Addr := [2, 3, 6, 4, 24, 37, 49, 61, 73, 85, 97, 109, 121, 133, 145, 166, 175, 182, 189, 196, 203, 265, 276, 283, 288, 295, 302, 309, 316, 323, 330, 337, 342, 349, 356, 361, 366, 0, 23, 36, 48, 60, 72, 84, 96, 108, 120, 132, 144, 165, 174, 181, 188, 195, 202, 264, 275, 282, 287, 294]
def as1 : List Addr := [301, 308, 315, 322, 329, 336, 341, 348, 355, 360, 365, 22, 25, 35, 47, 59, 71, 83, 95, 107, 119, 131, 143, 163, 164, 169, 170, 171, 172, 173, 176, 177, 178, 179, 180, 183, 184, 185, 186, 187, 190, 191, 192, 193, 194, 197, 198, 199, 200, 201, 217, 226, 235, 243, 250, 255, 262, 263, 266, 267]
def as2 : List Addr := [270, 271, 272, 273, 274, 277, 278, 279, 280, 281, 284, 285, 286, 289, 290, 291, 292, 293, 296, 297, 298, 299, 300, 303, 304, 305, 306, 307, 310, 311, 312, 313, 314, 317, 318, 319, 320, 321, 324, 325, 326, 327, 328, 331, 332, 333, 334, 335, 338, 339, 340, 343, 344, 345, 346, 347, 350, 351, 352, 353]
def as3 : List Addr := [354, 357, 358, 359, 362, 363, 364, 162, 151, 216, 224, 225, 234, 242, 249, 254, 261, 157, 158, 159, 160, 161, 211, 212, 213, 214, 215, 223, 227, 233, 241, 244, 245, 246, 247, 248, 251, 252, 253, 256, 257, 258, 259, 260, 218, 219, 220, 221, 222, 228, 229, 230, 231, 232, 236, 237, 238, 239, 240]
def asA : List Addr := as0 ++ as1 ++ as2 ++ as3
abbrev hkA : PySem.W.Hook := hookP asA fnA tfA exA
def obA (s : PySem.W.SharedT) : AlP := obsP asA fnA tfA exA (HandSHeadRun.getT s)
theorem obA_eq (s : PySem.W.SharedT) : obA s = hkA.obs s.abs := obsP_eq (HandSHeadRun.getT_eq s)
theorem runA (w : World) : HandSHeadRun.RunEq rowA (PySem.W.view rowA.prog [40]) hkA obA 20000 namesA w := by
  intro os
  kernel_rfl
theorem factsA {w : World} {K : PySem.W.Frag} {h : Heap} {mg : Str → Option Value} {fa : Addr} (X : K.In h) (G : h.Ns mainGlobals mg) (hfa : mg "law" = some (.ref fa)) (c : SaysP fnA tfA exA h K) (l : PySem.W.OpenLaw) (hl : l.prog = PySem.Challenge.rw_overstamps_k83_codes_of_parts.prog) : LawAtG l w K 7 63 "script" mg fa h := by
  obtain ⟨g0, m0⟩ := He.ba (show ((fs0 K).all id && _) = true from c.more)
  obtain ⟨g1, m1⟩ := He.ba (show ((fs1 K).all id && _) = true from m0)
  have g2 : (fs2 K).all id = true := m1
  have aLow : PySem.W.nsIn K mainGlobals "is_lowercase" = some (some (.ref (q_fLow K))) := of_decide_eq_true (all_at g0 0 rfl)
  have aText : PySem.W.nsIn K mainGlobals "is_text" = some (some (.ref (q_fText K))) := of_decide_eq_true (all_at g0 1 rfl)
  have aAre : PySem.W.nsIn K mainGlobals "are_stamps" = some (some (.ref (q_fAre K))) := of_decide_eq_true (all_at g0 2 rfl)
  have aNum : PySem.W.nsIn K mainGlobals "number_of" = some (some (.ref (q_fNum K))) := of_decide_eq_true (all_at g0 3 rfl)
  have aTape : PySem.W.nsIn K mainGlobals "_law_vat" = some (some (.ref (q_fTape K))) := of_decide_eq_true (all_at g0 4 rfl)
  have aNext : PySem.W.nsIn K mainGlobals "_law_sip" = some (some (.ref (q_fNext K))) := of_decide_eq_true (all_at g0 5 rfl)
  have aRA : PySem.W.nsIn K mainGlobals "_law_read_at" = some (some (.ref (q_fRA K))) := of_decide_eq_true (all_at g0 6 rfl)
  have aBe : PySem.W.nsIn K mainGlobals "_law_bent" = some (some (.ref (q_fBe K))) := of_decide_eq_true (all_at g0 7 rfl)
  have aTl : PySem.W.nsIn K mainGlobals "_law_told" = some (some (.ref (q_fTl K))) := of_decide_eq_true (all_at g0 8 rfl)
  have aRt : PySem.W.nsIn K mainGlobals "_law_right" = some (some (.ref (q_fRt K))) := of_decide_eq_true (all_at g0 9 rfl)
  have aPtW : PySem.W.nsIn K mainGlobals "part_written" = some (some (.ref (q_fPtW K))) := of_decide_eq_true (all_at g0 10 rfl)
  have aRd : PySem.W.nsIn K mainGlobals "read_parts" = some (some (.ref (q_fRd K))) := of_decide_eq_true (all_at g0 11 rfl)
  have aWr : PySem.W.nsIn K mainGlobals "write_parts" = some (some (.ref (q_fWr K))) := of_decide_eq_true (all_at g0 12 rfl)
  have aAl : PySem.W.nsIn K mainGlobals "_law_backs" = some (some (.ref (q_fAl K))) := of_decide_eq_true (all_at g0 13 rfl)
  have aDu : PySem.W.nsIn K mainGlobals "_law_due" = some (some (.ref (q_fDu K))) := of_decide_eq_true (all_at g0 14 rfl)
  have aWd : PySem.W.nsIn K mainGlobals "_law_word" = some (some (.ref (q_fWd K))) := of_decide_eq_true (all_at g0 15 rfl)
  have aSo : PySem.W.nsIn K mainGlobals "_law_some" = some (some (.ref (q_fSo K))) := of_decide_eq_true (all_at g0 16 rfl)
  have aLaw : PySem.W.nsIn K mainGlobals "law" = some (some (.ref (q_fLaw K))) := of_decide_eq_true (all_at g0 17 rfl)
  have aWidest : PySem.W.nsIn K mainGlobals "WIDEST" = some (some (.int 8 (q_tW K))) := of_decide_eq_true (all_at g0 18 rfl)
  have aMostL : PySem.W.nsIn K mainGlobals "MOST_LETTERS" = some (some (.int 36 (q_tM K))) := of_decide_eq_true (all_at g0 19 rfl)
  have aCells : PySem.W.nsIn K mainGlobals "MOST_CELLS" = some (some (.int 120 (q_tCe K))) := of_decide_eq_true (all_at g0 20 rfl)
  have aDig : PySem.W.nsIn K mainGlobals "MOST_DIGITS" = some (some (.int 9 (q_tDi K))) := of_decide_eq_true (all_at g0 21 rfl)
  have aC : PySem.W.nsIn K mainGlobals "Stamps" = some (some (.ref (q_C K))) := of_decide_eq_true (all_at g0 22 rfl)
  have rdS : PySem.W.readsIn K (q_C K) (.type "type") = true := of_decide_eq_true (all_at g0 23 rfl)
  have gaS : PySem.W.specialIn K (.ref (q_C K)) "__getattribute__" = some (some (.builtin "type.__getattribute__")) := of_decide_eq_true (all_at g0 24 rfl)
  have pgS : PySem.W.plainGet K (q_C K) Str.empty = true := of_decide_eq_true (all_at g0 25 rfl)
  have hdS : PySem.W.hasDictIn K (q_C K) = true := of_decide_eq_true (all_at g0 26 rfl)
  have poS : PySem.W.plainOver K (q_C K) = true := of_decide_eq_true (all_at g0 27 rfl)
  have saS : PySem.W.findIn K (.ref (q_C K)) "__setattr__" = some (some (.builtin "object.__setattr__")) := of_decide_eq_true (all_at g0 28 rfl)
  have mkS : PySem.W.makesIn K (q_C K) = true := of_decide_eq_true (all_at g0 29 rfl)
  have kcS : PySem.W.keepIn K (.ref (q_C K)) = true := of_decide_eq_true (all_at g0 30 rfl)
  have mst : PySem.W.findCls K (.ref (q_C K)) (.type "type") "MOST" = some (.val (.int 6 (q_tMost K))) := of_decide_eq_true (all_at g0 31 rfl)
  have aCI : PySem.W.nsIn K mainGlobals "InvalidCode" = some (some (.ref (q_CI K))) := of_decide_eq_true (all_at g0 32 rfl)
  have iII : PySem.W.findIn K (.ref (q_CI K)) "__init__" = some (some (.ref (q_fII K))) := of_decide_eq_true (all_at g0 33 rfl)
  have xoCI : oexB K (q_CI K) = true := of_decide_eq_true (all_at g0 34 rfl)
  have saCI : PySem.W.findIn K (.ref (q_CI K)) "__setattr__" = some (some (.builtin "object.__setattr__")) := of_decide_eq_true (all_at g0 35 rfl)
  have bCI : PySem.W.subIn K (.ref (q_CI K)) (.type "BaseException") = some true := of_decide_eq_true (all_at g0 36 rfl)
  have tyCI : PySem.W.typeIn K (.ref (q_CI K)) = some (.type "type") := of_decide_eq_true (all_at g0 37 rfl)
  have kkCI : PySem.W.keepIn K (.ref (q_CI K)) = true := of_decide_eq_true (all_at g0 38 rfl)
  have stA : PySem.W.nsIn K cStatics "thirdparty.any" = some none := of_decide_eq_true (all_at g0 39 rfl)
  have suCI : PySem.W.ks_superIn K (q_CI K) (q_CI K) "__init__" = some (some (.builtin "ValueError.__init__")) := of_decide_eq_true (all_at g1 0 rfl)
  have svCI : PySem.W.subIn K (.ref (q_CI K)) (.type "ValueError") = some true := of_decide_eq_true (all_at g1 1 rfl)
  have mrCI : PySem.W.mroIn K (q_CI K) (.ref (q_CI K)) = some true := of_decide_eq_true (all_at g1 2 rfl)
  have ceCI : cellB K (q_ccI K) (q_CI K) = true := of_decide_eq_true (all_at g1 3 rfl)
  have naCI : PySem.W.findIn K (.ref (q_CI K)) "at" = some none := of_decide_eq_true (all_at g1 4 rfl)
  have fiCI : fileB K (q_cdI K) "/claim/cut.py" = true := of_decide_eq_true (all_at g1 5 rfl)
  have tfCI : PySem.W.typeIn K (.ref (q_fII K)) = some (.type "function") := of_decide_eq_true (all_at g1 6 rfl)
  have z_super : PySem.W.nsIn K mainGlobals "super" = some none := of_decide_eq_true (all_at g1 7 rfl)
  have e6 : PySem.W.specialIn K (.builtin "object.__class__") "__get__" = some (some (.builtin "getset_descriptor.__get__")) := of_decide_eq_true (all_at g1 8 rfl)
  have e7 : PySem.W.takesIn K (.builtin "object.__class__") = some true := of_decide_eq_true (all_at g1 9 rfl)
  have u1CI : PySem.W.findIn K (.ref (q_CI K)) "__getattribute__" = some (some (.builtin "BaseException.__getattribute__")) := of_decide_eq_true (all_at g1 10 rfl)
  have u2CI : PySem.W.findIn K (.ref (q_CI K)) "__getattr__" = some none := of_decide_eq_true (all_at g1 11 rfl)
  have u4CI : PySem.W.hasDictIn K (q_CI K) = true := of_decide_eq_true (all_at g1 12 rfl)
  have u5CI : PySem.W.findIn K (.ref (q_CI K)) "__class__" = some (some (.builtin "object.__class__")) := of_decide_eq_true (all_at g1 13 rfl)
  have u8CI : PySem.W.mroIn K (q_CI K) (.type "object") = some true := of_decide_eq_true (all_at g1 14 rfl)
  have ad0 : PySem.W.nsIn K mainGlobals "InvalidName" = some (some (.ref (q_d0 K))) := of_decide_eq_true (all_at g1 15 rfl)
  have ad1 : PySem.W.nsIn K mainGlobals "InvalidNumber" = some (some (.ref (q_d1 K))) := of_decide_eq_true (all_at g1 16 rfl)
  have ad2 : PySem.W.nsIn K mainGlobals "InvalidOrder" = some (some (.ref (q_d2 K))) := of_decide_eq_true (all_at g1 17 rfl)
  have ad3 : PySem.W.nsIn K mainGlobals "InvalidParts" = some (some (.ref (q_d3 K))) := of_decide_eq_true (all_at g1 18 rfl)
  have ad4 : PySem.W.nsIn K mainGlobals "InvalidStamping" = some (some (.ref (q_d4 K))) := of_decide_eq_true (all_at g1 19 rfl)
  have ad5 : PySem.W.nsIn K mainGlobals "InvalidStamps" = some (some (.ref (q_d5 K))) := of_decide_eq_true (all_at g1 20 rfl)
  have ad6 : PySem.W.nsIn K mainGlobals "InvalidStrip" = some (some (.ref (q_d6 K))) := of_decide_eq_true (all_at g1 21 rfl)
  have ad7 : PySem.W.nsIn K mainGlobals "InvalidText" = some (some (.ref (q_d7 K))) := of_decide_eq_true (all_at g1 22 rfl)
  have ad8 : PySem.W.nsIn K mainGlobals "NotPossible" = some (some (.ref (q_d8 K))) := of_decide_eq_true (all_at g1 23 rfl)
  have ad9 : PySem.W.nsIn K mainGlobals "NothingToUndo" = some (some (.ref (q_d9 K))) := of_decide_eq_true (all_at g1 24 rfl)
  have kaR : PySem.W.kitAny K (.ref (q_CI K)) [.ref (q_d0 K), .ref (q_d1 K), .ref (q_d2 K), .ref (q_d3 K), .ref (q_d4 K), .ref (q_d5 K)] = some false := of_decide_eq_true (all_at g1 25 rfl)
  have kbR : PySem.W.kitAny K (.ref (q_CI K)) [.ref (q_d6 K), .ref (q_d7 K), .ref (q_d8 K), .ref (q_d9 K)] = some false := of_decide_eq_true (all_at g1 26 rfl)
  have kiR : PySem.W.kitOne K (.ref (q_CI K)) (.ref (q_CI K)) = some true := of_decide_eq_true (all_at g1 27 rfl)
  have xfR : xfB K (q_CI K) = true := of_decide_eq_true (all_at g1 28 rfl)
  have kvR : PySem.W.kitOne K (.ref (q_CI K)) (.type "ValueError") = some true := of_decide_eq_true (all_at g1 29 rfl)
  have aSE : PySem.W.nsIn K mainGlobals "StampError" = some (some (.ref (q_SE K))) := of_decide_eq_true (all_at g1 30 rfl)
  have exS : PySem.W.exmOne K (.ref (q_CI K)) (.ref (q_SE K)) = some true := of_decide_eq_true (all_at g1 31 rfl)
  have z_all : PySem.W.nsIn K mainGlobals "all" = some none := of_decide_eq_true (all_at g1 32 rfl)
  have z_len : PySem.W.nsIn K mainGlobals "len" = some none := of_decide_eq_true (all_at g1 33 rfl)
  have z_isinstance : PySem.W.nsIn K mainGlobals "isinstance" = some none := of_decide_eq_true (all_at g1 34 rfl)
  have z_str : PySem.W.nsIn K mainGlobals "str" = some none := of_decide_eq_true (all_at g1 35 rfl)
  have z_list : PySem.W.nsIn K mainGlobals "list" = some none := of_decide_eq_true (all_at g1 36 rfl)
  have z_set : PySem.W.nsIn K mainGlobals "set" = some none := of_decide_eq_true (all_at g1 37 rfl)
  have z_abs : PySem.W.nsIn K mainGlobals "abs" = some none := of_decide_eq_true (all_at g1 38 rfl)
  have z_max : PySem.W.nsIn K mainGlobals "max" = some none := of_decide_eq_true (all_at g1 39 rfl)
  have z_min : PySem.W.nsIn K mainGlobals "min" = some none := of_decide_eq_true (all_at g2 0 rfl)
  have z_range : PySem.W.nsIn K mainGlobals "range" = some none := of_decide_eq_true (all_at g2 1 rfl)
  have z_enumerate : PySem.W.nsIn K mainGlobals "enumerate" = some none := of_decide_eq_true (all_at g2 2 rfl)
  have z_ValueError : PySem.W.nsIn K mainGlobals "ValueError" = some none := of_decide_eq_true (all_at g2 3 rfl)
  have z_repr : PySem.W.nsIn K mainGlobals "repr" = some none := of_decide_eq_true (all_at g2 4 rfl)
  have z_sorted : PySem.W.nsIn K mainGlobals "sorted" = some none := of_decide_eq_true (all_at g2 5 rfl)
  have z_dict : PySem.W.nsIn K mainGlobals "dict" = some none := of_decide_eq_true (all_at g2 6 rfl)
  have z_int : PySem.W.nsIn K mainGlobals "int" = some none := of_decide_eq_true (all_at g2 7 rfl)
  obtain ⟨ocLow, odLow, kVLow, dcLow, pmLow, anLow, cdLow, ctLow, slLow, l0Low, c0Low, k0Low⟩ := c.def_ 0 (d := d_Low) rfl rfl
  have lLow : K.lookup (q_fLow K) = some ⟨ocLow, odLow, .func (PySem.W.fnOf "is_lowercase" "is_lowercase" (defArgs sLow) (defBody sLow) (defScope sLow) .none kVLow dcLow pmLow anLow cdLow ctLow), slLow⟩ := l0Low
  have coLow : PySem.W.codeIn K cdLow "is_lowercase" = true := c0Low
  have kLow : PySem.W.keepIn K (.ref (q_fLow K)) = true := k0Low
  obtain ⟨ocText, odText, kVText, dcText, pmText, anText, cdText, ctText, slText, l0Text, c0Text, k0Text⟩ := c.def_ 1 (d := d_Text) rfl rfl
  have lText : K.lookup (q_fText K) = some ⟨ocText, odText, .func (PySem.W.fnOf "is_text" "is_text" (defArgs sText) (defBody sText) (defScope sText) .none kVText dcText pmText anText cdText ctText), slText⟩ := l0Text
  have coText : PySem.W.codeIn K cdText "is_text" = true := c0Text
  have kText : PySem.W.keepIn K (.ref (q_fText K)) = true := k0Text
  obtain ⟨ocAre, odAre, kVAre, dcAre, pmAre, anAre, cdAre, ctAre, slAre, l0Are, c0Are, k0Are⟩ := c.def_ 2 (d := d_Are) rfl rfl
  have lAre : K.lookup (q_fAre K) = some ⟨ocAre, odAre, .func (PySem.W.fnOf "are_stamps" "are_stamps" (defArgs sAre) (defBody sAre) (defScope sAre) .none kVAre dcAre pmAre anAre cdAre ctAre), slAre⟩ := l0Are
  have coAre : PySem.W.codeIn K cdAre "are_stamps" = true := c0Are
  have kAre : PySem.W.keepIn K (.ref (q_fAre K)) = true := k0Are
  obtain ⟨ocNum, odNum, kVNum, dcNum, pmNum, anNum, cdNum, ctNum, slNum, l0Num, c0Num, k0Num⟩ := c.def_ 3 (d := d_Num) rfl rfl
  obtain rfl : cdNum = .ref (q_cNum K) := codeP_eq l0Num c0Num
  have lNum : K.lookup (q_fNum K) = some ⟨ocNum, odNum, .func (PySem.W.fnOf "number_of" "number_of" (defArgs sNum) (defBody sNum) (defScope sNum) .none kVNum dcNum pmNum anNum (.ref (q_cNum K)) ctNum), slNum⟩ := l0Num
  have coNum : PySem.W.codeIn K (.ref (q_cNum K)) "number_of" = true := c0Num
  have kNum : PySem.W.keepIn K (.ref (q_fNum K)) = true := k0Num
  obtain ⟨ocTape, odTape, kVTape, dcTape, pmTape, anTape, cdTape, ctTape, slTape, l0Tape, c0Tape, k0Tape⟩ := c.def_ 4 (d := d_Tape) rfl rfl
  have lTape : K.lookup (q_fTape K) = some ⟨ocTape, odTape, .func (PySem.W.fnOf "_law_vat" "_law_vat" (defArgs sTape) (defBody sTape) (defScope sTape) .none kVTape dcTape pmTape anTape cdTape ctTape), slTape⟩ := l0Tape
  have coTape : PySem.W.codeIn K cdTape "_law_vat" = true := c0Tape
  have kTape : PySem.W.keepIn K (.ref (q_fTape K)) = true := k0Tape
  obtain ⟨ocNext, odNext, kVNext, dcNext, pmNext, anNext, cdNext, ctNext, slNext, l0Next, c0Next, k0Next⟩ := c.def_ 5 (d := d_Next) rfl rfl
  have lNext : K.lookup (q_fNext K) = some ⟨ocNext, odNext, .func (PySem.W.fnOf "_law_sip" "_law_sip" (defArgs sNext) (defBody sNext) (defScope sNext) .none kVNext dcNext pmNext anNext cdNext ctNext), slNext⟩ := l0Next
  have coNext : PySem.W.codeIn K cdNext "_law_sip" = true := c0Next
  have kNext : PySem.W.keepIn K (.ref (q_fNext K)) = true := k0Next
  obtain ⟨ocRA, odRA, kVRA, dcRA, pmRA, anRA, cdRA, ctRA, slRA, l0RA, c0RA, k0RA⟩ := c.def_ 6 (d := d_RA) rfl rfl
  have lRA : K.lookup (q_fRA K) = some ⟨ocRA, odRA, .func (PySem.W.fnOf "_law_read_at" "_law_read_at" (defArgs sRA) (defBody sRA) (defScope sRA) .none kVRA dcRA pmRA anRA cdRA ctRA), slRA⟩ := l0RA
  have coRA : PySem.W.codeIn K cdRA "_law_read_at" = true := c0RA
  have kRA : PySem.W.keepIn K (.ref (q_fRA K)) = true := k0RA
  obtain ⟨ocBe, odBe, kVBe, dcBe, pmBe, anBe, cdBe, ctBe, slBe, l0Be, c0Be, k0Be⟩ := c.def_ 7 (d := d_Be) rfl rfl
  have lBe : K.lookup (q_fBe K) = some ⟨ocBe, odBe, .func (PySem.W.fnOf "_law_bent" "_law_bent" (defArgs sBe) (defBody sBe) (defScope sBe) .none kVBe dcBe pmBe anBe cdBe ctBe), slBe⟩ := l0Be
  have coBe : PySem.W.codeIn K cdBe "_law_bent" = true := c0Be
  have kBe : PySem.W.keepIn K (.ref (q_fBe K)) = true := k0Be
  obtain ⟨ocTl, odTl, kVTl, dcTl, pmTl, anTl, cdTl, ctTl, slTl, l0Tl, c0Tl, k0Tl⟩ := c.def_ 8 (d := d_Tl) rfl rfl
  have lTl : K.lookup (q_fTl K) = some ⟨ocTl, odTl, .func (PySem.W.fnOf "_law_told" "_law_told" (defArgs sTl) (defBody sTl) (defScope sTl) .none kVTl dcTl pmTl anTl cdTl ctTl), slTl⟩ := l0Tl
  have coTl : PySem.W.codeIn K cdTl "_law_told" = true := c0Tl
  have kTl : PySem.W.keepIn K (.ref (q_fTl K)) = true := k0Tl
  obtain ⟨ocRt, odRt, kVRt, dcRt, pmRt, anRt, cdRt, ctRt, slRt, l0Rt, c0Rt, k0Rt⟩ := c.def_ 9 (d := d_Rt) rfl rfl
  have lRt : K.lookup (q_fRt K) = some ⟨ocRt, odRt, .func (PySem.W.fnOf "_law_right" "_law_right" (defArgs sRt) (defBody sRt) (defScope sRt) .none kVRt dcRt pmRt anRt cdRt ctRt), slRt⟩ := l0Rt
  have coRt : PySem.W.codeIn K cdRt "_law_right" = true := c0Rt
  have kRt : PySem.W.keepIn K (.ref (q_fRt K)) = true := k0Rt
  obtain ⟨ocPtW, odPtW, kVPtW, dcPtW, pmPtW, anPtW, cdPtW, ctPtW, slPtW, l0PtW, c0PtW, k0PtW⟩ := c.def_ 10 (d := d_PtW) rfl rfl
  have lPtW : K.lookup (q_fPtW K) = some ⟨ocPtW, odPtW, .func (PySem.W.fnOf "part_written" "part_written" (defArgs sPtW) (defBody sPtW) (defScope sPtW) .none kVPtW dcPtW pmPtW anPtW cdPtW ctPtW), slPtW⟩ := l0PtW
  have coPtW : PySem.W.codeIn K cdPtW "part_written" = true := c0PtW
  have kPtW : PySem.W.keepIn K (.ref (q_fPtW K)) = true := k0PtW
  obtain ⟨ocRd, odRd, kVRd, dcRd, pmRd, anRd, cdRd, ctRd, slRd, l0Rd, c0Rd, k0Rd⟩ := c.def_ 11 (d := d_Rd) rfl rfl
  have lRd : K.lookup (q_fRd K) = some ⟨ocRd, odRd, .func (PySem.W.fnOf "read_parts" "read_parts" (defArgs sRdR) (defBody sRdR) (defScope sRdR) .none kVRd dcRd pmRd anRd cdRd ctRd), slRd⟩ := l0Rd
  have coRd : PySem.W.codeIn K cdRd "read_parts" = true := c0Rd
  have kRd : PySem.W.keepIn K (.ref (q_fRd K)) = true := k0Rd
  obtain ⟨ocWr, odWr, kVWr, dcWr, pmWr, anWr, cdWr, ctWr, slWr, l0Wr, c0Wr, k0Wr⟩ := c.def_ 12 (d := d_Wr) rfl rfl
  have lWr : K.lookup (q_fWr K) = some ⟨ocWr, odWr, .func (PySem.W.fnOf "write_parts" "write_parts" (defArgs sWrR) (defBody sWrR) (defScope sWrR) .none kVWr dcWr pmWr anWr cdWr ctWr), slWr⟩ := l0Wr
  have coWr : PySem.W.codeIn K cdWr "write_parts" = true := c0Wr
  have kWr : PySem.W.keepIn K (.ref (q_fWr K)) = true := k0Wr
  obtain ⟨ocAl, odAl, kVAl, dcAl, pmAl, anAl, cdAl, ctAl, slAl, l0Al, c0Al, k0Al⟩ := c.def_ 13 (d := d_Al) rfl rfl
  have lAl : K.lookup (q_fAl K) = some ⟨ocAl, odAl, .func (PySem.W.fnOf "_law_backs" "_law_backs" (defArgs sAl) (defBody sAl) (defScope sAl) .none kVAl dcAl pmAl anAl cdAl ctAl), slAl⟩ := l0Al
  have coAl : PySem.W.codeIn K cdAl "_law_backs" = true := c0Al
  have kAl : PySem.W.keepIn K (.ref (q_fAl K)) = true := k0Al
  obtain ⟨ocDu, odDu, kVDu, dcDu, pmDu, anDu, cdDu, ctDu, slDu, l0Du, c0Du, k0Du⟩ := c.def_ 14 (d := d_Du) rfl rfl
  have lDu : K.lookup (q_fDu K) = some ⟨ocDu, odDu, .func (PySem.W.fnOf "_law_due" "_law_due" (defArgs sDuP) (defBody sDuP) (defScope sDuP) .none kVDu dcDu pmDu anDu cdDu ctDu), slDu⟩ := l0Du
  have coDu : PySem.W.codeIn K cdDu "_law_due" = true := c0Du
  have kDu : PySem.W.keepIn K (.ref (q_fDu K)) = true := k0Du
  obtain ⟨ocWd, odWd, kVWd, dcWd, pmWd, anWd, cdWd, ctWd, slWd, l0Wd, c0Wd, k0Wd⟩ := c.def_ 15 (d := d_Wd) rfl rfl
  have lWd : K.lookup (q_fWd K) = some ⟨ocWd, odWd, .func (PySem.W.fnOf "_law_word" "_law_word" (defArgs sWd) (defBody sWd) (defScope sWd) .none kVWd dcWd pmWd anWd cdWd ctWd), slWd⟩ := l0Wd
  have coWd : PySem.W.codeIn K cdWd "_law_word" = true := c0Wd
  have kWd : PySem.W.keepIn K (.ref (q_fWd K)) = true := k0Wd
  obtain ⟨ocSo, odSo, kVSo, dcSo, pmSo, anSo, cdSo, ctSo, slSo, l0So, c0So, k0So⟩ := c.def_ 16 (d := d_So) rfl rfl
  have lSo : K.lookup (q_fSo K) = some ⟨ocSo, odSo, .func (PySem.W.fnOf "_law_some" "_law_some" (defArgs sSo) (defBody sSo) (defScope sSo) .none kVSo dcSo pmSo anSo cdSo ctSo), slSo⟩ := l0So
  have coSo : PySem.W.codeIn K cdSo "_law_some" = true := c0So
  have kSo : PySem.W.keepIn K (.ref (q_fSo K)) = true := k0So
  obtain ⟨ocLaw, odLaw, kVLaw, dcLaw, pmLaw, anLaw, cdLaw, ctLaw, slLaw, l0Law, c0Law, k0Law⟩ := c.def_ 17 (d := d_Law) rfl rfl
  have lLaw : K.lookup (q_fLaw K) = some ⟨ocLaw, odLaw, .func (PySem.W.fnOf "law" "law" (defArgs sLaw83) (defBody sLaw83) (defScope sLaw83) .none kVLaw dcLaw pmLaw anLaw cdLaw ctLaw), slLaw⟩ := l0Law
  have coLaw : PySem.W.codeIn K cdLaw "law" = true := c0Law
  have kLaw : PySem.W.keepIn K (.ref (q_fLaw K)) = true := k0Law
  obtain ⟨ocII, odII, kVII, dcII, pmII, anII, cdII, ctII, slII, l0II, c0II, k0II⟩ := c.defC 18 (d := d_II) rfl rfl
  obtain rfl : cdII = .ref (q_cdI K) := codeP_eq l0II c0II
  have lII : K.lookup (q_fII K) = some ⟨ocII, odII, .func (PySem.W.ksFn "__init__" "InvalidCode.__init__" (defArgs sIcI) (defBody sIcI) (defScope sIcI) .none kVII dcII pmII anII (.ref (q_cdI K)) ctII (q_ccI K)), slII⟩ := l0II
  have coII : PySem.W.codeIn K (.ref (q_cdI K)) "InvalidCode.__init__" = true := c0II
  have kII : PySem.W.keepIn K (.ref (q_fII K)) = true := k0II
  have ptb0 : (fun K => (q_cNum K, q_PNum K) : TabP) ∈ tfA := by unfold tfA; simp
  have nNum : K.lookup (q_PNum K) = none := c.out _ ptb0
  have TB0 : PySem.W.CodeHd h (q_cNum K) (q_PNum K) ∧ h.get? (q_PNum K) = some { cls := .none, data := .fields #[] } := ⟨PySem.W.codeHd_of_K X (c.hd _ ptb0), c.empty _ ptb0⟩
  exact all_mk X G hfa TB0 aLow lLow coLow kLow aText lText coText kText aAre lAre coAre kAre aNum lNum coNum kNum nNum aTape lTape coTape kTape aNext lNext coNext kNext aRA lRA coRA kRA aBe lBe coBe kBe aTl lTl coTl kTl aRt lRt coRt kRt aPtW lPtW coPtW kPtW aRd lRd coRd kRd aWr lWr coWr kWr aAl lAl coAl kAl aDu lDu coDu kDu aWd lWd coWd kWd aSo lSo coSo kSo aLaw lLaw coLaw kLaw aWidest aMostL aCells aDig aC rdS gaS pgS hdS poS saS mkS kcS mst aCI iII lII coII kII xoCI saCI bCI tyCI kkCI stA suCI svCI mrCI ceCI naCI fiCI tfCI z_super e6 e7 u1CI u2CI u4CI u5CI u8CI ad0 ad1 ad2 ad3 ad4 ad5 ad6 ad7 ad8 ad9 kaR kbR kiR xfR kvR aSE exS z_all z_len z_isinstance z_str z_list z_set z_abs z_max z_min z_range z_enumerate z_ValueError z_repr z_sorted z_dict z_int (by kernel_rfl) (by kernel_rfl) l hl
end Ov

set_option Elab.async false
set_option linter.all false
open PySem PySem.W PySem.Calls PyProof.Rows
set_option maxRecDepth 100000 in
set_option maxHeartbeats 0 in
theorem PySem.Challenge.cw_overstamps_k83_codes_of_parts_holds : PySem.Challenge.rw_overstamps_k83_codes_of_parts.Holds := by
  w_on; o_law
  refine HandSHeadRun.head_any (r := OpenLaw.row PySem.Challenge.rw_overstamps_k83_codes_of_parts) (q := view (OpenLaw.row PySem.Challenge.rw_overstamps_k83_codes_of_parts).prog [40]) (H := Ov.hkA) (ob := Ov.obA) (M := 20000) (loose := Ov.namesA) (d := HandSHeadRun.topDef (OpenLaw.row PySem.Challenge.rw_overstamps_k83_codes_of_parts).prog 40) (kwd := []) Ov.obA_eq
    (by kernel_rfl) (fun s => by kernel_rfl) Ov.runA (by kernel_rfl) (by kernel_rfl) (by kernel_rfl) (by rfl) (by first | assumption | decide +kernel) (by decide +kernel) ⟨rfl, rfl, rfl, rfl, rfl, by decide +kernel⟩ ?hw ?hc
  case hw => w_witness2
  case hc =>
    refine Ov.walk_TGP (l := PySem.Challenge.rw_overstamps_k83_codes_of_parts) (n := 63) (k := 7) (x := "script") rfl (by decide) (by kernel_rfl) ⟨rfl, by decide, by decide⟩ ?F
    intro w mg fa h Y G hmg0
    obtain ⟨K, KX, c⟩ := Y
    have hmg : mg ("law" : PySem.Str) = some (.ref fa) := by
      have e : (HandSHeadRun.topDef (OpenLaw.row PySem.Challenge.rw_overstamps_k83_codes_of_parts).prog 40).name = ("law" : PySem.Str) := by kernel_rfl
      rw [← e]
      exact hmg0
    exact ⟨K, KX, Ov.factsA KX G hmg c PySem.Challenge.rw_overstamps_k83_codes_of_parts rfl⟩
