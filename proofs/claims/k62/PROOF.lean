import PyProof.Rows.All
import Wide.All
import OpenK.AllK
import Wide.FinOn
import PyProof.EqAt
import PyProof.EqKinds
import PyProof.TupleCall
import KE.KNest
import HandS.Base
import HandS.Call
import HandS.List
import HandS.Comp
import HandS.Text
import HandS.Iter
import HandS.AnyAll
import HandS.GenOver
import HandS.Words
import PyProof.InstEq
import PyProof.ReprRoads
import PyProof.StrOps2
import HandS.Exc
import HandS.ExcOwn
import HandS.Star
import HandS.ClsMeth
import HandS.Property
import HandS.IsInst
import HandS.OwnEq
import HandS.Wide
import Flt.Len
import PyProof.Rows.SetFrom
import HandS.Strs
import HandS.ForMost
import HandS.ForExc
import PyProof.ReprLen
import HandS.Codes
import HandS.MakeKw
import HandS.Defaults
import PyProof.Draws
import PyProof.EnumMake
import PyProof.ListStr
import PyProof.ListRange
import HandS.Sort
import HandS.ReplaceLit
import HandS.ReplaceDef
import PyProof.Rows.StrStrike
import HandS.Dict
import HandS.SetKeys
import HandS.WordsDict
import HandS.DictComp
import HandS.Walk
import HandS.Flow
import HandS.Style
import HandS.EndTab
import HandS.EndOwn
import HandS.Lambda
import OpenK.KOps
import OpenK.KMeth
import HandS.ExcIs
import KE.KIsAll
import HandS.Deep
import HandS.HotCalls
import HandS.TryOnly
import HandS.MethStar
import HandS.More
import KE.KStateDown
import HandS.Head0
import HandS.Head1
import HandS.Head2
import HandS.HeadEnd
import HandS.HeadHook1
import HandS.HeadHook2
import HandS.HeadHook4
import PySem.Challenge.RW_overstamps_k62_histories_undone
set_option Elab.async false
set_option linter.all false
set_option maxRecDepth 100000
set_option maxHeartbeats 4000000
/-! all, any over a generator expression whose element runs like any expression (own defs called, tables grown). -/
namespace Ov
open PySem PySem.Spec PyProof.Rows L2 GxR

/-! ### the consumer -/
/-- the protocol: a truth value is handed out; Dn b: what is to hold when the consumer stops with the answer b; stop: at which value it stops -/
def YB (a : Addr) (g : Nat) (stop : Bool) (Dn : Bool → Shared → Prop) : Protocol := fun _ _ v s1 kap =>
  ∃ b, v = Value.bool b ∧ s1.heap.NoLimit ∧ s1.heap.IsGen a g ∧ AllBare s1.gens ∧
    (b = stop → ∀ G, AllBare G → Dn stop { s1 with gens := G }) ∧ (b ≠ stop → ∀ G, AllBare G → kap (.send .none) { s1 with gens := G })
def RB (stop : Bool) (Dn : Bool → Shared → Prop) : GenEnd := fun _ _ r s1 => r = .ok .next ∧ AllBare s1.gens ∧ ∀ (h' : Heap) (G : Array GenState), (∀ b o, s1.heap.get? b = some o → h'.get? b = some o) → AllBare G → Dn (!stop) { s1 with heap := h', gens := G }

theorem bare_set {s : Shared} {g : Nat} {x : GenState} (h : AllBare s.gens) (hx : x.bare = true) : AllBare (s.setGen g x).gens := fun y hy => by
  obtain ⟨i, hi, e⟩ := Array.mem_iff_getElem.mp hy
  have hi' : i < s.gens.size := by
    have q : (s.setGen g x).gens.size = s.gens.size := GenW.setGen_size s g x
    rw [q] at hi; exact hi
  by_cases z : i = g
  · subst z
    have q : (s.setGen i x).gens[i]? = some x := by
      show (s.gens.setIfInBounds i x)[i]? = some x
      simp [hi']
    have q2 : (s.setGen i x).gens[i]? = some y := by rw [Array.getElem?_eq_getElem hi, e]
    rw [q] at q2; cases q2; exact hx
  · have q : (s.setGen g x).gens[i]? = s.gens[i]? := by
      show (s.gens.setIfInBounds g x)[i]? = _
      rw [Array.getElem?_setIfInBounds_ne (Ne.symm z)]
    have q2 : s.gens[i]? = some y := by rw [← q, Array.getElem?_eq_getElem hi, e]
    exact h y (Array.mem_of_getElem? q2)
theorem set_at {s : Shared} {g : Nat} {x : GenState} (h : g < s.gens.size) : (s.setGen g x).gens[g]? = some x := by
  show (s.gens.setIfInBounds g x)[g]? = some x
  simp [h]

section
variable {P : Program} {w : World} {A : Around}
theorem all_drain {R : Result → Shared → Prop} {a : Addr} {g : Nat} {Dn : Bool → Shared → Prop} (hh : A.handled = none) (hd : A.depth < recursionLimit)
    (hR : ∀ b s', Dn b s' → R (.ok (.ret (.bool b))) s') :
    ∀ (m : Nat) (s : Shared), s.heap.IsGen a g → s.heap.NoLimit → AllBare s.gens →
      (∃ gs, s.gens[g]? = some gs ∧ gs.Goes (model P w) A.in1.in1 (RB false Dn) (YB a g false Dn) m (.send .none) (s.setGen g .running)) →
      codeAny (model P w) A (.builtin "all.loop" ⟨[.ref a], []⟩) R s := by
  intro m
  induction m with
  | zero =>
    intro s hg hl hb ⟨gs, hgs, hgo⟩
    have hgl : g < s.gens.size := (Array.getElem?_eq_some_iff.mp hgs).1
    refine codeAny_builtin F.entry_all_loop ?_
    rw [Around.under_plainId F.plain_all_loop _]
    show wpAny _ A.in1 (pyNext (.ref a) >>= _) _ _ s
    refine wpAny_bind (GenW.wpAny_gsz (n := g + 1) hgl (wpAny_pyNext_genexpQ (A := A.in1) (P := fun n s₀ s₁ => AllBare s₁.gens ∧ ∀ (h' : Heap) (G : Array GenState), (∀ b o, s₁.heap.get? b = some o → h'.get? b = some o) → AllBare G → Dn (!false) { s₁ with heap := h', gens := G }) hh hl hd hg hgs hgo (fun v s₁ gs' hbare hv => ?_) (fun s₁ hp h' hk => ?_)))
    · intro hsz
      obtain ⟨b, rfl, hl1, hg1, hb1, hs1, hk1⟩ := hv
      cases b with
      | true => exact False.elim (hk1 (by decide) _ hb1)
      | false =>
        refine wpAny_bind (wpAny_holding (wpAny_truthy_bool ?_))
        refine wpAny_bind (wpAny_letGo ?_)
        simp only [Bool.false_eq_true, if_false]
        refine wpAny_bind (wpAny_rule (wpAny_pure ?_))
        exact hR false _ (hs1 rfl _ (bare_set hb1 hbare))
    · intro hsz
      refine wpAny_bind (wpAny_rule (wpAny_pure ?_))
      exact hR true _ (hp.2 h' _ hk (bare_set hp.1 rfl))
  | succ m ih =>
    intro s hg hl hb ⟨gs, hgs, hgo⟩
    have hgl : g < s.gens.size := (Array.getElem?_eq_some_iff.mp hgs).1
    refine codeAny_builtin F.entry_all_loop ?_
    rw [Around.under_plainId F.plain_all_loop _]
    show wpAny _ A.in1 (pyNext (.ref a) >>= _) _ _ s
    refine wpAny_bind (GenW.wpAny_gsz (n := g + 1) hgl (wpAny_pyNext_genexpQ (A := A.in1) (P := fun n s₀ s₁ => AllBare s₁.gens ∧ ∀ (h' : Heap) (G : Array GenState), (∀ b o, s₁.heap.get? b = some o → h'.get? b = some o) → AllBare G → Dn (!false) { s₁ with heap := h', gens := G }) hh hl hd hg hgs hgo (fun v s₁ gs' hbare hv => ?_) (fun s₁ hp h' hk => ?_)))
    · intro hsz
      obtain ⟨b, rfl, hl1, hg1, hb1, hs1, hk1⟩ := hv
      have hsz1 : g < s₁.gens.size := by
        have q : (s₁.setGen g gs').gens.size = s₁.gens.size := GenW.setGen_size _ _ _
        have hsz' : g + 1 ≤ (s₁.setGen g gs').gens.size := hsz
        omega
      cases b with
      | true =>
        refine wpAny_bind (wpAny_holding (wpAny_truthy_bool ?_))
        refine wpAny_bind (wpAny_letGo ?_)
        simp only [if_true]
        refine wpAny_pure ⟨plainId_quiet F.plain_all_loop _, ih (s₁.setGen g gs') hg1 hl1 (bare_set hb1 hbare) ⟨gs', set_at hsz1, ?_⟩⟩
        have z := hk1 (by decide) (((s₁.setGen g gs').setGen g .running).gens) (bare_set (bare_set hb1 hbare) rfl)
        exact z
      | false =>
        refine wpAny_bind (wpAny_holding (wpAny_truthy_bool ?_))
        refine wpAny_bind (wpAny_letGo ?_)
        simp only [Bool.false_eq_true, if_false]
        refine wpAny_bind (wpAny_rule (wpAny_pure ?_))
        exact hR false _ (hs1 rfl _ (bare_set hb1 hbare))
    · intro hsz
      refine wpAny_bind (wpAny_rule (wpAny_pure ?_))
      exact hR true _ (hp.2 h' _ hk (bare_set hp.1 rfl))
end
end Ov

set_option Elab.async false
set_option linter.all false
set_option maxRecDepth 100000
set_option maxHeartbeats 4000000
namespace Ov
open PySem PySem.Spec PyProof.Rows L2 GxR
/-- the values of the captured names -/
def caps (σ : L2.St) (pick : List Nat) : L2.St := pick.map fun j => (σ[j]?).join
/-- the context of the generator's block -/
abbrev cxG (X : Cx) (s : Shared) (H : Hp) (N : List Str) (cenv : Env) (A : Around) (fp : List Addr) (pn : List (Addr × Obj)) : Cx :=
  { X with A := A, N := N, s_0 := s, H_0 := H, env := cenv, outer := X.stack, stack := cenv :: X.stack, ex := fp, fn := fun _ => false, calm := true, pn := pn, xe := fun _ _ => False }
/-- the names of the block: its variable x, the captured ones cs with their places in the def's names -/
structure GenN (X : Cx) (scope : Scope) (x : Str) (cs : List Str) (pick : List Nat) : Prop where
  gen : GenS X.env scope x
  uniq : ∀ y ∈ scope.names, scope.names.lookup y.1 = some y.2
  nd : (x :: cs).Nodup
  len : cs.length = pick.length
  at_ : ∀ (i : Nat) (y : Str), cs[i]? = some y → scope.names.lookup y = some .free ∧ (X.env.scope.names.lookup y = some .cell ∨ X.env.scope.names.lookup y = some .free) ∧ ∃ j, pick[i]? = some j ∧ X.N[j]? = some y
section
variable {X : Cx} {pins : List (Addr × Obj)} {σ : L2.St} {H : Hp} {s : Shared}
theorem clo_get {cells : List (Str × Addr)} {names : List (Str × NameKind)} (h : ∀ y ∈ names, y.2 = .free → ∃ c, cells.lookup y.1 = some c) {y : Str} {c : Addr} (e : (cloFrom cells names []).lookup y = some c) : (y, NameKind.free) ∈ names ∧ cells.lookup y = some c := by
  rcases cloFrom_mem (PySem.mem_of_lookup e) with hm | ⟨h1, rfl⟩
  · cases hm
  · obtain ⟨c, hc⟩ := h _ h1 rfl
    rw [hc]
    exact ⟨h1, rfl⟩
theorem clo_has {cells : List (Str × Addr)} {names : List (Str × NameKind)} (h : ∀ y ∈ names, y.2 = .free → ∃ c, cells.lookup y.1 = some c) {y : Str} (hy : (y, NameKind.free) ∈ names) : ∃ c, (cloFrom cells names []).lookup y = some c ∧ cells.lookup y = some c := by
  obtain ⟨c', e'⟩ := mem_lookup (cloFrom_has (cells := cells) (acc := []) hy)
  exact ⟨c', e', (clo_get h e').2⟩
/-- the block's start: the frame at s.heap's size, empty of x; the generator's own object at a -/
theorem gen_start {scope : Scope} {x : Str} {cs : List Str} {pick : List Nat} {fp : List Addr} {A : Around} {code itv : Value} {go : Obj} {gs : Array GenState} {tk : Nat} {h' : Heap} {a : Addr}
    (I : Inv X pins σ H s) (G : GenN X scope x cs pick) (hA : A.handled = none) (hfr : A.frames = some (genEnv scope (cloFrom X.env.cells scope.names []) s.heap.objs.size code builtinsNs X.env :: X.stack))
    (hfp : ∀ b ∈ fp, FpOk X pins H b ∧ b < s.heap.objs.size)
    (hn : h'.Ns s.heap.objs.size fun y => if y = ".0" then some itv else none) (hk : ∀ b o, s.heap.get? b = some o → h'.get? b = some o) (ha : s.heap.objs.size < a) (hgo : h'.get? a = some go) (hgd : ∀ v, go.data ≠ .cell v)
    (hb : AllBare gs) :
    Inv (cxG X s H (x :: cs) (genEnv scope (cloFrom X.env.cells scope.names []) s.heap.objs.size code builtinsNs X.env) A fp [(a, go)]) [] (none :: caps σ pick) H { s with heap := h', gens := gs, toks := tk } := by
  have hfree : ∀ y ∈ scope.names, y.2 = .free → ∃ c, X.env.cells.lookup y.1 = some c := G.gen.free
  have okB : (cxG X s H (x :: cs) (genEnv scope (cloFrom X.env.cells scope.names []) s.heap.objs.size code builtinsNs X.env) A fp [(a, go)]).Ok := by
    refine ⟨I.ok.mod, G.gen.kind, I.ok.glob, rfl, Nat.le_refl _, fun y z c e1 e2 => ?_, fun y hy => ?_, fun y c z _ => ?_, fun _ => hA, hfr, .inr ⟨rfl, rfl⟩, fun b hb => ⟨?_, fun y c e z => ?_⟩, I.bs, Nat.le_trans I.ok.bsz I.sz, fun b o e hb => ?_, fun b hb z => ?_, I.stack, I.stkFree⟩
    · exact I.ok.inj y z c (clo_get hfree e1).2 (clo_get hfree e2).2
    · have hy : scope.names.lookup y = some .cell ∨ scope.names.lookup y = some .free := hy
      rcases hy with hy | hy
      · exact absurd rfl (G.gen.cell _ (PySem.mem_of_lookup hy))
      · obtain ⟨c, h1, _⟩ := clo_has hfree (PySem.mem_of_lookup hy)
        exact ⟨c, h1⟩
    · exact absurd (show false = true from z) (by decide)
    · exact Nat.ne_of_lt (hfp b hb).2
    · exact (hfp b hb).1.2.2.2.2.1 y c (clo_get hfree e).2 z
    · rcases (hfp b hb).1.2.2.2.1 with z | z
      · exact I.ok.noex b o e z
      · exact absurd (Nat.lt_of_lt_of_le (Heap.lt_size e) (Nat.le_trans I.ok.bsz z)) (Nat.lt_irrefl _)
    · rcases List.mem_cons.mp (I.stkSub b z) with z | z
      · exact (hfp b hb).1.2.1 z
      · exact (hfp b hb).1.2.2.1 z
  refine ⟨okB, rfl, hb, Un.kept hk, ⟨_, hn, fun i y av e1 e2 e3 => ?_⟩, fun y c e => ?_, I.hok.fresh (Nat.le_refl _), fun y c e => I.freeC y c (clo_get hfree e).2, fun p hp => ?_, I.hok.kept hk, ?_⟩
  · cases i with
    | zero => cases e2
    | succ i =>
      have e1 : cs[i]? = some y := e1
      obtain ⟨q1, q2, j, hj, hN⟩ := G.at_ i y e1
      have e2 : (caps σ pick)[i]? = some (some av) := e2
      unfold caps at e2
      rw [List.getElem?_map, hj] at e2
      have e2 : (σ[j]?).join = some av := Option.some.inj e2
      have e2' : σ[j]? = some (some av) := by
        cases q : σ[j]? with
        | none => rw [q] at e2; cases e2
        | some o =>
          rw [q] at e2
          have : o = some av := e2
          rw [this]
      obtain ⟨m, hm, hl⟩ := I.loc
      have hvis : Vis X.env.scope y := q2.elim (fun k => .inr (.inl k)) (fun k => .inr (.inr k))
      obtain ⟨u, r, q⟩ := hl j y av hN e2' hvis
      refine ⟨u, r, .inr ⟨.inr q1, ?_⟩⟩
      obtain ⟨c, h1, h2⟩ := clo_has hfree (PySem.mem_of_lookup q1)
      refine ⟨c, h1, ?_⟩
      rcases q with ⟨k, _⟩ | ⟨_, c', e', z⟩
      · have k : X.env.scope.names.lookup y = some .local := k
        rcases q2 with k' | k' <;> rw [k'] at k <;> cases k
      · rw [h2] at e'; cases e'
        exact z.keeps hk
  · obtain ⟨w, z⟩ := I.cell y c (clo_get hfree e).2
    exact ⟨w, z.keeps hk⟩
  · have e : p = (a, go) := by simpa using hp
    subst e
    refine ⟨hgo, I.hok.fresh (Nat.le_of_lt ha), Nat.ne_of_gt ha, ?_, hgd⟩
    intro z
    rcases List.mem_cons.mp (I.stkSub a z) with z | z
    · have := I.lt
      rw [← z] at this
      exact absurd (Nat.lt_trans this ha) (Nat.lt_irrefl _)
    · exact I.nofs (Nat.le_of_lt ha) z
  · show (none :: caps σ pick).length = (x :: cs).length
    unfold caps
    rw [List.length_cons, List.length_cons, List.length_map, G.len]
end
end Ov

set_option Elab.async false
set_option linter.all false
set_option maxRecDepth 100000
set_option maxHeartbeats 4000000
namespace Ov
open PySem PySem.Spec PyProof.Rows L2 GxR
/-- the reading of a turn for all: the element's answer b; true: on; false: the answer -/
def turnAll (J : It) (te : TE) (W : Nat → Nat → Hp → Prop) (caps : L2.St) (Q : VK) : Prop := ∀ i m H, W i m H →
  (J.stop i H ∧ Q (.bl true) H) ∨ (J.go i H ∧ ∀ x H', J.yld i H x H' → te (some x :: caps) H' fun y H'' => ∃ b, y = .bl b ∧ if b = true then ∃ m', m' < m ∧ W (i + 1) m' H'' else Q (.bl false) H'')
section
variable {X : Cx} {σ : L2.St} {H : Hp} {s : Shared}
/-- the context's own: nothing is raised, the generator's object is pinned -/
structure Gen (G : Cx) (A : Around) (a : Addr) (g : Nat) (x : Str) (go : Obj) : Prop where
  over : G.A = A.deeper G.env
  calm : G.calm = true
  xe : G.xe = fun _ _ => False
  nd : G.N.Nodup
  at0 : G.N[0]? = some x
  loc : G.env.scope.names.lookup x = some .local
  co : G.env.scope.isCoroutine = false
  pn : G.pn = [(a, go)]
  gen : ∀ h : Heap, h.get? a = some go → h.IsGen a g
theorem seg_all {G : Cx} {A : Around} {a : Addr} {g : Nat} {x : Str} {go : Obj} (S : Gen G A a g x go) {elt iter : Expr} {px pos : Pos} {scope : Scope} {te : TE} {J : It} {fp : List Addr} {it : Addr} {tn : Nat → Heap → Prop} {W : Nat → Nat → Hp → Prop} {cp : L2.St} {Q : VK} {Dn : Bool → Shared → Prop}
    (T : Turn G.prog G.w G.K (.Name x px) J fp it tn) (he : PE G elt te) (turn : turnAll J te W cp Q) (hex : G.ex = fp) (hfa : ∀ b ∈ fp, a ≠ b)
    (hD : ∀ b H' s' v, Inv G [] (v :: cp) H' s' → Q (.bl b) H' → Dn b s') :
    ∀ (n i m : Nat) (s₀ s : Shared) (v : Option V) (H : Hp), m < n → Inv G [] (v :: cp) H s → tn i s.heap → (∀ b ∈ fp, H b = none) → W i m H →
      Seg (model G.prog G.w) A (RB false Dn) (YB a g false Dn) n s₀ (.compLoop (.GeneratorExp elt [⟨.Name x px, iter, [], 0⟩] scope pos) 0 (.ref it) .none G.env)
        ((model G.prog G.w).den (.compLoop (.GeneratorExp elt [⟨.Name x px, iter, [], 0⟩] scope pos) 0 (.ref it) .none G.env)) [] s := by
  have stat : ∀ {σ' : L2.St} {H' : Hp} {s' : Shared}, Inv G [] σ' H' s' → (∀ b ∈ fp, H' b = none) → ∀ b ∈ fp, FpOk G [] H' b := fun {σ' H' s'} I' hn b hb => by
    have hb' : b ∈ G.ex := by rw [hex]; exact hb
    refine ⟨hn b hb, (I'.ok.exf b hb').1, I'.ok.exfs b hb', .inl hb', fun x c e => (I'.ok.exf b hb').2 x c e, fun p hp z => ?_⟩
    have hp' : p ∈ G.pn := by simpa using hp
    rw [S.pn] at hp'
    rw [List.mem_singleton.mp hp'] at z
    exact hfa b hb z
  intro n
  induction n with
  | zero => intro i m s₀ s v H hm; exact absurd hm (Nat.not_lt_zero _)
  | succ n ih =>
    intro i m s₀ s v H hm I st hf w
    show Seg _ A _ _ _ s₀ _ ((compTurn (.GeneratorExp elt [⟨.Name x px, iter, [], 0⟩] scope pos) 0 (.ref it) .none G.env).onRaise (leaving G.env)) [] s
    rw [compTurn_gen, Sem.onRaise_eq_wrap]
    have ov : A.over (.compLoop (.GeneratorExp elt [⟨.Name x px, iter, [], 0⟩] scope pos) 0 (.ref it) .none G.env) [] = G.A := by rw [S.over]; rfl
    refine seg_bind_wrap (wpAny_standAt ?_)
    rcases turn i m H w with ⟨stop, q⟩ | ⟨go', step⟩
    · refine seg_bind_wrap ?_
      rw [ov]
      refine wpAny_mono (T.done G rfl rfl rfl S.calm i [] s (v :: cp) H (fun _ _ => False) I (stat I hf) st stop) (fun r s1 hr => ?_) fun _ _ z => z.elim
      obtain ⟨rfl, I1⟩ := hr
      refine seg_end (.ok .next) ⟨rfl, I1.bare, fun h' gs hk hb => ?_⟩
      exact hD true H _ v (I1.call' (ch := []) rfl (Un.kept hk) (I1.hok.kept hk) hb fun b z => by simp at z) q
    · refine seg_bind_wrap ?_
      rw [ov]
      refine wpAny_mono (T.item G rfl rfl rfl S.calm i [] s (v :: cp) H (fun _ _ => False) I (stat I hf) st go') (fun r s1 hr => ?_) fun _ _ z => z.elim
      obtain ⟨u, rfl, h1⟩ := hr
      refine seg_bind_wrap ?_
      rw [ov]
      refine wpAny_mono h1 (fun _ s2 h2 => ?_) fun _ _ z => z.elim
      obtain ⟨y, H2, I2, r2, y2, st2, n2⟩ := h2
      have I2' := I2.pinned (stat I2 n2) (T.obj _ _ st2)
      refine seg_bind_wrap ?_
      rw [ov]
      refine wpAny_mono ((pg_name (X := G) (i := 0) (pos := px) S.nd S.at0 (.inl S.loc) (.inr S.loc)).run _ s2 (v :: cp) H2 y u (fun σ' H' => σ' = some y :: cp ∧ H' = H2) I2' r2 ⟨rfl, rfl⟩) (fun _ s3 h3 => ?_) fun _ _ z => by rw [S.xe] at z; exact z.elim
      obtain ⟨σ3, H3, I3, rfl, rfl⟩ := h3
      refine seg_bind_wrap ?_
      simp only [List.forIn_nil]
      refine wpAny_pure ?_
      simp only [if_true]
      have hy : ∀ v, yieldOut G.env v = yieldValue v := fun v => by simp only [yieldOut, S.co, Bool.false_eq_true, if_false]
      simp only [hy]
      rw [Sem.bind_eq_wrap', Sem.bind_eq_wrap', Sem.wrap_wrap, Sem.wrap_wrap]
      refine seg_wrap ?_
      rw [ov]
      refine wpAny_mono (he.run _ s3 (some y :: cp) H3 _ I3 (step y H3 y2)) (fun z s4 h4 => ?_) fun _ _ z => by rw [S.xe] at z; exact z.elim
      obtain ⟨zv, H4, I4, r4, b, rfl, q4⟩ := h4
      have ez : z = Value.bool b := r4
      subst ez
      have pin' : ∀ c ∈ fp, ∀ o, s2.heap.get? c = some o → s4.heap.get? c = some o ∧ H4 c = none := fun c hc o e =>
        let z := I4.pin (c, o) (List.mem_append_right _ (List.mem_append_right _ (mem_pinsAt hc e)))
        ⟨z.1, z.2.1⟩
      have st4 : tn (i + 1) s4.heap := T.keep _ _ _ st2 fun c hc o e => (pin' c hc o e).1
      have f4 : ∀ c ∈ fp, H4 c = none := fun c hc => by
        obtain ⟨o, e, _⟩ := T.obj _ _ st2 c hc
        exact (pin' c hc o e).2
      have I5 : Inv G [] (some y :: cp) H4 s4 := I4.unpinned (pins := [])
      have hgo : s4.heap.get? a = some go := (I5.pin (a, go) (by rw [S.pn]; simp)).1
      refine seg_at (seg_yield rfl rfl rfl ⟨b, rfl, I5.nolimit, S.gen _ hgo, I5.bare, fun eb gs hb => ?_, fun nb gs hb => ?_⟩)
      · subst eb
        exact hD false H4 _ (some y) (I5.call' (ch := []) rfl Un.refl I5.hok hb fun b z => by simp at z) q4
      · have eb : b = true := by cases b with
          | true => rfl
          | false => exact absurd rfl nb
        subst eb
        obtain ⟨m', hm', w'⟩ := (if_pos rfl : (if true = true then _ else _) = _) ▸ q4
        refine seg_again rfl (ih (i + 1) m' _ _ (some y) H4 (by omega) (I5.call' (ch := []) rfl Un.refl I5.hok hb fun b z => by simp at z) st4 f4 w')

theorem seg_allStart {G : Cx} {A : Around} {a : Addr} {g : Nat} {x : Str} {go : Obj} (S : Gen G A a g x go) {elt iter : Expr} {px pos : Pos} {scope : Scope} {te : TE} {J : It} {fp : List Addr} {it : Addr} {tn : Nat → Heap → Prop} {W : Nat → Nat → Hp → Prop} {cp : L2.St} {Q : VK} {Dn : Bool → Shared → Prop}
    (T : Turn G.prog G.w G.K (.Name x px) J fp it tn) (he : PE G elt te) (turn : turnAll J te W cp Q) (hex : G.ex = fp) (hfa : ∀ b ∈ fp, a ≠ b)
    (hD : ∀ b H' s' v, Inv G [] (v :: cp) H' s' → Q (.bl b) H' → Dn b s') (n m : Nat) (s₀ s : Shared) (v : Option V) (H : Hp) (hm : m < n) (I : Inv G [] (v :: cp) H s) (st : tn 0 s.heap) (hf : ∀ b ∈ fp, H b = none) (w : W 0 m H) :
      Seg (model G.prog G.w) A (RB false Dn) (YB a g false Dn) n s₀ (.compStart (.GeneratorExp elt [⟨.Name x px, iter, [], 0⟩] scope pos) 0 (.ref it) .none G.env)
        ((model G.prog G.w).den (.compStart (.GeneratorExp elt [⟨.Name x px, iter, [], 0⟩] scope pos) 0 (.ref it) .none G.env)) [] s := by
  have loop := seg_all (iter := iter) (pos := pos) (scope := scope) S T he turn hex hfa hD n 0 m s₀ s v H hm I st hf w
  show Seg _ A _ _ _ s₀ _ ((compStart (.GeneratorExp elt [⟨.Name x px, iter, [], 0⟩] scope pos) 0 (.ref it) .none G.env).onRaise (leaving G.env)) [] s
  unfold compStart
  rw [Sem.onRaise_eq_wrap]
  show Seg _ A _ _ _ s₀ _ ((ask >>= _).wrap _ _ _ _) [] s
  refine seg_bind_wrap (wpAny_askSetting ?_)
  split
  · exact seg_again rfl loop
  · first
      | exact seg_bind_wrap (wpAny_rule (seg_bind_wrap (wpAny_standAt (seg_bind_wrap (T.self _ 0 s _ _ st (seg_again rfl loop))))))
      | (refine seg_bind_wrap (wpAny_rule ?_); show Seg _ A _ _ _ s₀ _ ((standAt iter.pos >>= _).wrap _ _ _ _) [] s; exact seg_bind_wrap (wpAny_standAt (seg_bind_wrap (T.self _ 0 s _ _ st (seg_again rfl loop)))))

/-- all(elt for x in iter): J walks; W by the turn and a measure -/
def tAllG (P : Addr) (wi : TI) (pick : List Nat) (te : TE) : TE := fun σ H Q => wi σ H fun J H1 => TabG H1 P ∧ ∀ H2, Tabbed P H1 H2 → ∃ W : Nat → Nat → Hp → Prop, (∃ m, W 0 m H2) ∧ turnAll J te W (caps σ pick) Q

theorem fpOk_tab {pins : List (Addr × Obj)} {H1 H2 : Hp} {P b : Addr} {ps : Array Value} (hP : H1 P = some (.tbl ps)) (hT : ∀ b, b ≠ P → H2 b = H1 b) (f : FpOk X pins H1 b) : FpOk X pins H2 b := by
  refine ⟨?_, f.2⟩
  rw [hT b (fun z => by have := f.1; rw [z, hP] at this; cases this)]
  exact f.1

theorem pe_allG {c P : Addr} {elt iter : Expr} {x : Str} {px p pos gpos : Pos} {scope : Scope} {cs : List Str} {pick : List Nat} {wi : TI} {te : TE} {k : Nat}
    (hc : X.calm = true) (hr : Room (k + 1) X.A) (hg : Gl X "all") (hm : X.mg "all" = none) (hb : bootBuiltins "all" = some (.builtin "all")) (TB : TabB X.base X.mg c P) (hcode : X.env.code = .ref c) (S : GenN X scope x cs pick)
    (hi : PI X (.Name x px) iter wi)
    (he : ∀ (s : Shared) (H : Hp) (code : Value) (C : Addr) (A : Around) (fp : List Addr) (pn : List (Addr × Obj)), Room k A → PE (cxG X s H (x :: cs) (genEnv scope (cloFrom X.env.cells scope.names []) C code builtinsNs X.env) A fp pn) elt te)
    (hs : ∀ v, genFold iter X.env v = pure v := by intro _; rfl)
    (hst : starEach [.GeneratorExp elt [⟨.Name x px, iter, [], 0⟩] scope gpos] X.env = (false, eval (.GeneratorExp elt [⟨.Name x px, iter, [], 0⟩] scope gpos) X.env) :: starEach [] X.env := by rfl) :
    PE X (.Call (.Name "all" p) [.GeneratorExp elt [⟨.Name x px, iter, [], 0⟩] scope gpos] [] pos) (tAllG P wi pick te) := by
  refine ⟨fun pins s σ H Q I h => ?_⟩
  refine wpAny_Call_Name_kw (ld_blt I hg hm hb ?_)
  refine PyProof.Rows.callWith_builtin1 ?_ hst (by rfl)
  rw [hst]
  show wpAny _ _ (spliced ((false, eval (.GeneratorExp elt [⟨.Name x px, iter, [], 0⟩] scope gpos) X.env) :: backTo pos (starEach [] X.env))) _ _ s
  refine Calls.spliced_cons ?_
  refine wpAny_GeneratorExp_make S.gen.co (closure_ok S.gen.free) S.gen.cell S.gen.dot S.gen.kind (by have := hr.dp; omega) ?_ hs
  refine thn (hi.run pins s σ H _ I h) fun xv s1 h1 => thn h1 fun itv s2 h2 => ?_
  obtain ⟨it, fp, tn, J, H2, rfl, I2, T, st2, f2, ⟨ps, hP, ht⟩, hW⟩ := h2
  refine ⟨I2.nolimit, ?_⟩
  have hPs : s2.heap.get? P = some { cls := .none, data := .fields ps } := I2.hok P _ hP
  have hPlt : P < s2.heap.objs.size := Heap.lt_size hPs
  have cd : PySem.W.CodeHd s2.heap c P := TB.code.keeps fun b u e => I2.bk b u e
  -- behind the code object
  have cont : ∀ (code : Value) (h3 : Heap) (tk : Nat) (ps' : Array Value), Heap.ExtBut P s2.heap h3 → h3.get? P = some { cls := .none, data := .fields ps' } → (∃ more, ps' = ps ++ more) → TriplesOk ps'.toList →
      wpAny (model X.prog X.w) X.A (builtinsFor X.env.globals X.env.builtins) (fun bi s₄ =>
        ∀ h', h'.Ns s₄.heap.objs.size (fun y => if y = ".0" then some (.ref it) else none) → Heap.SameBut s₄.heap.objs.size (s₄.heap.push { cls := .type "frame", data := .dict #[] }) h' →
          wpAny (model X.prog X.w) X.A (spliced (backTo pos (starEach [] X.env))) (fun us s' => wpAny (model X.prog X.w) X.A (call (.builtin "all") (.ref h'.objs.size :: us)) (EP X pins σ Q) X.xe s') X.xe { s₄ with
            gens := s₄.gens.push (.fresh (.compStart (.GeneratorExp elt [⟨.Name x px, iter, [], 0⟩] scope gpos) 0 (.ref it) .none (genEnv scope (cloFrom X.env.cells scope.names []) s₄.heap.objs.size code bi X.env))),
            toks := s₄.toks + 1 + 1 + 1,
            heap := h'.push { cls := .type "generator", data := .fields #[.int s₄.gens.size 0, .str "<genexpr>" (s₄.toks + 1), .str (X.env.qual ++ "<genexpr>") (s₄.toks + 1 + 1)] } }) X.xe { s2 with heap := h3, toks := tk } := by
    intro code h3 tk ps' hx hP3 hmore ht3
    obtain ⟨more, em⟩ := hmore
    subst em
    obtain ⟨bm, ob, e1, e2, e3, e4, e5, e6, e7, e8⟩ := TB.bm
    have keep3 : ∀ b u, b ≠ P → s2.heap.get? b = some u → h3.get? b = some u := fun b u hb e => hx b u hb e
    refine wpAny_builtinsFor (m := X.mg) (by rw [I2.ok.glob]; exact (I2.mod.glob.keeps I2.bk).extBut hx TB.gP) e1 e2 (keep3 _ _ e4 (I2.bk _ _ e5)) e6 e7 e8 ?_
    intro h' hn' hs'
    have I3 : Inv X pins σ (upd H2 P (.tbl (ps ++ more))) { s2 with heap := h3, toks := tk } := inv_tab (more := more) (h' := h3) (g' := s2.gens) (d' := s2.drawn) (t' := tk) I2 hP keep3 hP3 I2.bare
    generalize hs3 : ({ s2 with heap := h3, toks := tk } : Shared) = s3 at I3 ⊢
    have hh3 : s3.heap = h3 := by rw [← hs3]
    have hg3 : s3.gens = s2.gens := by rw [← hs3]
    have hn' : h'.Ns s3.heap.objs.size (fun y => if y = ".0" then some (.ref it) else none) := hh3.symm ▸ hn'
    have hs' : Heap.SameBut s3.heap.objs.size (s3.heap.push { cls := .type "frame", data := .dict #[] }) h' := hh3.symm ▸ hs'
    have hsz : h'.objs.size = s3.heap.objs.size + 1 := by rw [hs'.1, Heap.size_push]
    have keep' : ∀ b o, s3.heap.get? b = some o → h'.get? b = some o := fun b o e => hs'.extBut b o (Nat.ne_of_lt (Heap.lt_size e)) (Heap.get?_push_of_some _ e)
    have hT23 : Tabbed P H2 (upd H2 P (.tbl (ps ++ more))) := ⟨⟨_, upd_same, ht3⟩, fun b hb => upd_ne hb⟩
    obtain ⟨W, ⟨m0, w0⟩, turn⟩ := hW _ hT23
    generalize hH3 : upd H2 P (.tbl (ps ++ more)) = H3 at I3 w0 hT23
    have nfpP : ∀ b ∈ fp, b ≠ P := fun b hb z => by have := (f2 b hb).1; rw [z, hP] at this; cases this
    have st3 : tn 0 s3.heap := T.keep _ _ _ st2 fun b hb o e => by rw [hh3]; exact keep3 b o (nfpP b hb) e
    have f3 : ∀ b ∈ fp, FpOk X pins H3 b ∧ b < s3.heap.objs.size := fun b hb => by
      refine ⟨fpOk_tab hP hT23.2 (f2 b hb), ?_⟩
      obtain ⟨o, e, _⟩ := T.obj _ _ st3 b hb
      exact Heap.lt_size e
    generalize hgo : ({ cls := .type "generator", data := .fields #[.int s3.gens.size 0, .str "<genexpr>" (s3.toks + 1), .str (X.env.qual ++ "<genexpr>") (s3.toks + 1 + 1)] } : Obj) = go
    generalize hcenv : genEnv scope (cloFrom X.env.cells scope.names []) s3.heap.objs.size code builtinsNs X.env = cenv
    have keep5 : ∀ b o, s3.heap.get? b = some o → (h'.push go).get? b = some o := fun b o e => Heap.get?_push_of_some _ (keep' b o e)
    have hga : (h'.push go).get? h'.objs.size = some go := Heap.get?_push_size _ (by subst hgo; rfl)
    have hgd : ∀ v, go.data ≠ .cell v := fun v => by rw [← hgo]; exact fun z => by cases z
    have hgen : ∀ h : Heap, h.get? h'.objs.size = some go → h.IsGen h'.objs.size s3.gens.size := fun h e => ⟨go, _, _, e, by subst hgo; rfl, by subst hgo; rfl, by subst hgo; rfl⟩
    have bareG : AllBare (s3.gens.push (.fresh (.compStart (.GeneratorExp elt [⟨.Name x px, iter, [], 0⟩] scope gpos) 0 (.ref it) .none cenv))) := I3.bare.push rfl
    refine Calls.spliced_nil ?_
    refine call_function_tree F.kind_all F.plain_all F.entry_all (F.args_all1 _) ?_
    unfold Builtin.«all»
    refine wpAny_bind (m := oneArg "all" _) (wpAny_pure ?_)
    refine wpAny_bind (wpAny_pyIter_gen (hgen _ hga) ?_)
    refine wpAny_pure ⟨plainId_quiet F.plain_all_loop _, ?_⟩
    have hA : X.A.in1.in1.handled = none := hr.hd
    have hfr : (X.A.in1.in1.deeper cenv).frames = some (cenv :: X.stack) := Around.frames_deeper (A := X.A.in1.in1) I3.ok.frames
    have start : ∀ gs : Array GenState, AllBare gs → Inv (cxG X s3 H3 (x :: cs) cenv (X.A.in1.in1.deeper cenv) fp [(h'.objs.size, go)]) [] (none :: caps σ pick) H3 { s3 with heap := h'.push go, gens := gs, toks := s3.toks + 1 + 1 + 1 } := fun gs hb => by
      subst hcenv
      exact gen_start I3 S hA hfr f3 (hn'.push _) keep5 (by omega) hga hgd hb
    have rm : Room k (X.A.in1.in1.deeper cenv) := ⟨hr.hd, by have := hr.dp; show X.A.depth + 1 + 3 * k + 5 < _; omega, by have := hr.un; show X.A.units + 1 + 1 + 3 + 16 * k + 200 < _; omega⟩
    have hel : PE (cxG X s3 H3 (x :: cs) cenv (X.A.in1.in1.deeper cenv) fp [(h'.objs.size, go)]) elt te := by
      subst hcenv
      exact he s3 H3 code s3.heap.objs.size _ fp _ rm
    refine all_drain (P := X.prog) (w := X.w) (A := X.A) (Dn := fun b s' => EP X pins σ Q (.bool b) s') hr.hd (by have := hr.dp; omega) (fun b s' hb => hb) (m0 + 1) _ (hgen _ hga) (I3.nolimit.keeps keep5) bareG ⟨_, Array.getElem?_push_size .., rfl, ?_⟩
    have GG : Gen (cxG X s3 H3 (x :: cs) cenv (X.A.in1.in1.deeper cenv) fp [(h'.objs.size, go)]) X.A.in1.in1 h'.objs.size s3.gens.size x go := by
      refine ⟨rfl, rfl, rfl, S.nd, rfl, ?_, ?_, rfl, hgen⟩
      · subst hcenv; exact S.gen.loc
      · subst hcenv; exact S.gen.co
    refine seg_allStart (iter := iter) (pos := gpos) (scope := scope) GG T hel turn rfl (fun b hb z => ?_) (fun b H' s' v I' q => ?_) (m0 + 1) m0 _ _ none H3 (Nat.lt_succ_self _) (start _ (bare_set bareG rfl)) (T.keep _ _ _ st3 fun b hb o e => keep5 b o e) (fun b hb => (f3 b hb).1.1) w0
    · have z1 : h'.objs.size < s3.heap.objs.size := by
        rw [show h'.objs.size = b from z]
        exact (f3 b hb).2
      have z2 : (h'.objs.size : Nat) = s3.heap.objs.size + 1 := hsz
      omega
    · exact ⟨.bl b, H', I3.call' (ch := fp) I'.os I'.base I'.hok I'.bare fun b hb => ⟨(f3 b hb).1.2.2.2.1, (f3 b hb).1.2.1, (f3 b hb).1.2.2.2.2.1, (f3 b hb).1.2.2.2.2.2⟩, rfl, q⟩
  cases hf : codeAmong gpos ps.toList with
  | none =>
    refine wpAny_genexprCodeX hcode (cd.code hPs ht) (cd.tab hPs) hf fun c' h' tk hx hge hlt hco' _ htab' _ => ?_
    obtain ⟨o1, vs, f1, tf, fl, tg, inF, tx, tt, op, _, _, _, _, _, _, _, _, _, htr, _⟩ := hco'
    exact cont _ h' tk _ hx htab'.2 ⟨_, rfl⟩ htr
  | some cv =>
    refine wpAny_genexprCode_hit hcode (cd.code hPs ht) hf ?_
    exact cont cv s2.heap s2.toks ps (Heap.ExtBut.refl _ _) hPs ⟨#[], by simp⟩ ht
end
end Ov

set_option Elab.async false
set_option linter.all false
set_option maxRecDepth 100000
set_option maxHeartbeats 4000000
/-! rules that the layer lacks: powers of great ints, <= of texts, text * int, == of own instances by identity, an own __add__, an own __len__, C(*xs), repr of a list of texts -/
namespace Ov
open PySem PySem.Spec PyProof.Rows L2
/-! ### == by identity -/
section
variable {prog : Program} {w : World} {A : Around} {E : Value → Shared → Prop} {s : Shared} {K : PySem.W.Frag} {x y C : Addr} {ox oy : Obj} {od od' : Option Obj}
theorem call_objEq {Q : Value → Shared → Prop} (X : K.In s.heap) (I : PySem.W.InstAt s.heap x ox C od) (J : PySem.W.InstAt s.heap y oy C od') (hsub : PySem.W.subIn K (.ref C) (.type "object") = some true)
    (h : Q (if x = y then .bool true else .notImplemented) s) : wpAny (model prog w) A (call (.builtin "object.__eq__") [.ref x, .ref y]) Q E s := by
  refine wpAny_call (codeAny_call_builtin F.cmp_object.eq.plain F.cmpEntry_eq ?_)
  have fin : wpAny (model prog w) A.in1 (Builtin.«object.__eq__» ⟨[.ref x, .ref y], []⟩) (fun fin s' => match fin with | .done f => (wants Q E) (.ok f) s' | .again c' => c'.quiet = true ∧ codeAny (model prog w) A c' (wants Q E) s') (fun e s' => (wants Q E) (.error e) s') s := by
    by_cases hxy : x = y
    · subst hxy
      exact objEq_entry_same (by rw [if_pos rfl] at h; exact h)
    · refine objEq_entry_other hxy I.at_ J.at_ ?_ (by rw [if_neg hxy] at h; exact h)
      rw [I.cls]
      intro z; cases z
  simp only [checkBuiltinCall, F.cmpKind_eq, F.cmpSplit_eq]
  refine wpAny_bind ?_
  unfold isInstance
  refine wpAny_bind (I.type.here ?_)
  refine (PySem.W.looks_subIn X hsub).here ?_
  cases hsig : Manifest.signature? "object.__eq__" with
  | none => exact wpAny_pure fin
  | some sig =>
    have ha := F.cmpArgs_eq (.ref x) (.ref y)
    simp only [argsOk, hsig] at ha
    have h2 : Bind.checkArgs "object.__eq__" sig ⟨[.ref x, .ref y], []⟩ = pure () := ha
    show wpAny _ A.in1 (Bind.checkArgs "object.__eq__" sig ⟨[.ref x, .ref y], []⟩) _ _ _
    rw [h2]; exact wpAny_pure fin
theorem special_eq {Q : Option Value → Shared → Prop} (X : K.In s.heap) (I : PySem.W.InstAt s.heap x ox C od) (J : PySem.W.InstAt s.heap y oy C od') (hs : PySem.W.findIn K (.ref C) "__eq__" = some (some (.builtin "object.__eq__"))) (hsub : PySem.W.subIn K (.ref C) (.type "object") = some true)
    (h : Q (some (if x = y then .bool true else .notImplemented)) s) : wpAny (model prog w) A (callSpecialIfBound? (.ref x) "__eq__" [.ref y]) Q E s := by
  simp only [callSpecialIfBound?, bindSpecialIfBound?]
  refine wpAny_holding (wpAny_bind (wpAny_bind (wpAny_bind (I.type.here ((PySem.W.looks_findIn X hs).here ?_)))))
  have fin : wpAny (model prog w) A (call (.builtin "object.__eq__") ([.ref x] ++ [.ref y]) >>= fun v => pure (some v)) Q E s := wpAny_bind (call_objEq X I J hsub (wpAny_pure h))
  simp only [F.cmp_object.eq.bind]
  refine wpAny_bind (wpAny_askSetting (wpAny_ite ?_))
  split
  · exact wpAny_bind (wpAny_pure (wpAny_pure fin))
  · exact wpAny_tryCatch (wpAny_bind (wpAny_pure (wpAny_pure fin)))
theorem try_eq {Q : Option Value → Shared → Prop} (X : K.In s.heap) (I : PySem.W.InstAt s.heap x ox C od) (J : PySem.W.InstAt s.heap y oy C od') (hs : PySem.W.findIn K (.ref C) "__eq__" = some (some (.builtin "object.__eq__"))) (hsub : PySem.W.subIn K (.ref C) (.type "object") = some true)
    (h : Q (if x = y then some (.bool true) else none) s) : wpAny (model prog w) A (tryCompare (.ref x) "__eq__" (.ref y)) Q E s := by
  unfold tryCompare
  refine wpAny_bind (special_eq X I J hs hsub ?_)
  by_cases hxy : x = y
  · rw [if_pos hxy] at h ⊢
    exact wpAny_pure h
  · rw [if_neg hxy] at h ⊢
    exact wpAny_pure h
theorem eq_id {Q : Value → Shared → Prop} (hu : A.units < cLine) (X : K.In s.heap) (I : PySem.W.InstAt s.heap x ox C od) (J : PySem.W.InstAt s.heap y oy C od') (hs : PySem.W.findIn K (.ref C) "__eq__" = some (some (.builtin "object.__eq__"))) (hsub : PySem.W.subIn K (.ref C) (.type "object") = some true)
    (h : Q (.bool (decide (x = y))) s) : wpAny (model prog w) A (compareOp .Eq (.ref x) (.ref y)) Q E s := by
  show wpAny _ _ (richCompare .Eq (.ref x) (.ref y)) _ _ _
  unfold richCompare
  simp only [oneThing_ref, cmpInfo_Eq]
  refine wpAny_holding (wpAny_bind (wpAny_cRoomFor hu ?_))
  refine wpAny_bind (I.type.here (wpAny_bind (J.type.here ?_)))
  rw [if_neg (by simp)]
  refine wpAny_bind (wpAny_pure ?_)
  simp only [Bool.false_eq_true, if_false]
  refine wpAny_bind (try_eq X I J hs hsub ?_)
  by_cases hxy : x = y
  · rw [if_pos hxy]
    subst hxy
    exact wpAny_pure (by simpa using h)
  · rw [if_neg hxy]
    have hyx : ¬ y = x := fun z => hxy z.symm
    simp only [Bool.not_false, if_true]
    refine wpAny_bind (try_eq X J I hs hsub ?_)
    rw [if_neg hyx]
    refine wpAny_bind (wpAny_rule ?_)
    refine wpAny_bind (wpAny_isSame_ref_other hxy I.at_ J.at_ (by rw [I.cls]; intro z; cases z) ?_)
    exact wpAny_pure (by simpa [hxy] using h)
end

/-! ### the same over the layer; powers; texts -/
section
variable {X : Cx}
/-- the class has no == of its own -/
structure NoEq (K : PySem.W.Frag) (C : Addr) : Prop where
  eq : PySem.W.findIn K (.ref C) "__eq__" = some (some (.builtin "object.__eq__"))
  sub : PySem.W.subIn K (.ref C) (.type "object") = some true
theorem op_eqId {C : Addr} (hu : X.A.units < cLine) (n : NoEq X.K C) : OpR X (compareOp .Eq) (fun x y H Q => ∃ a b dx dy fs gs, x = .ref a ∧ y = .ref b ∧ H a = some (.ins C dx fs) ∧ H b = some (.ins C dy gs) ∧ Q (.bl (decide (a = b))) H) := by
  intro pins s σ H x y v u Q I rx ry h
  obtain ⟨a, b, dx, dy, fs, gs, rfl, rfl, ha, hb, q⟩ := h
  obtain rfl : v = Value.ref a := rx
  obtain rfl : u = Value.ref b := ry
  obtain ⟨mA, O, _⟩ := ins_get I.hok ha
  obtain ⟨od, J, _⟩ := O.look
  obtain ⟨mB, O', _⟩ := ins_get I.hok hb
  obtain ⟨od', J', _⟩ := O'.look
  exact eq_id hu I.kIn J J' n.eq n.sub ⟨.bl _, H, I, rfl, q⟩
/-- a power of a great number -/
def CPowW (i j : Int) : Prop := 0 ≤ j ∧ (Builtin.Int.intBits i : Int) * j ≤ 2 ^ 27
theorem op_powW : OpR X (binaryOp .Pow) (rI CPowW fun i j => .int (i ^ j.toNat)) := opI fun _ _ _ _ _ _ _ hc q => pow_int hc.1 hc.2 q
theorem bits_le {i : Int} {b : Nat} (h : i.natAbs < 2 ^ b) (h0 : 0 < b) : Builtin.Int.intBits i ≤ b := by
  have x := PySem.Flt.log2_lt_of h0 h
  unfold Builtin.Int.intBits
  split <;> omega
theorem op_le_str : OpR X (compareOp .LtE) (fun x y H Q => ∃ i j, x = .str i ∧ y = .str j ∧ Q (.bl (!decide (j.cps.toList < i.cps.toList))) H) := by
  intro pins s σ H x y v u Q I rx ry h
  obtain ⟨i, j, rfl, rfl, q⟩ := h
  obtain ⟨t, rfl⟩ := rx
  obtain ⟨t', rfl⟩ := ry
  exact PySem.P.le_str ⟨.bl _, H, I, rfl, q⟩
end
/-! ### C(*xs) -/
def tMakeS (X : Cx) (C : Addr) (sp : Sp) (E : XK) (tc te : TE) : TE := fun σ H Q => tc σ H fun c H0 => c = .ref C ∧ te σ H0 fun y H1 => ∃ a xs, y = V.ref a ∧ (SqT X.K H1 a xs ∨ SqL X.K H1 a xs) ∧
  ∀ x dx, H1 x = none → H1 dx = none → dx ≠ x → sp (V.ref x :: xs) (upd (upd H1 dx (.own x)) x (.ins C dx [])) (fun v H2 => v = .non ∧ Q (.ref x) H2) E
section
variable {X : Cx} {CX : CXT} {k : Nat} {f C : Addr} {sp : Sp} {E : XK} {x : Str} {e : Expr} {tc te : TE} {p pos sp_ : Pos}
/-- c(*xs), c a name whose value is the class -/
theorem pe_makeS (M : Mk X.K C f) (F : FnR X.prog X.w X.K X.mg X.base CX k f sp) (hr : Room (k + 1) X.A) (hx : Passes CX X E) (hn : PE X (.Name x p) tc) (he : PE X e te)
    (hst : starEach [.Starred e sp_] X.env = [(true, eval e X.env)] := by rfl) : PE X (.Call (.Name x p) [.Starred e sp_] [] pos) (tMakeS X C sp E tc te) := by
  refine ⟨fun pins s σ H Q I h => ?_⟩
  refine wpAny_Call_Name_kw (thn (hn.run pins s σ H _ I h) fun c s0 ⟨cv, H0, I0, rc, ec, h⟩ => ?_)
  subst ec
  obtain rfl : c = Value.ref C := rc
  refine PySem.W.callWith_S (h₀ := X.base) I0.ok.mod.kin M.kp (thn (he.run pins s0 σ H0 _ I0 h) fun v s1 ⟨y, H1, I1, ry, a, xs, ey, hxs, q⟩ => ?_) hst
  subst ey
  obtain rfl : v = Value.ref a := ry
  exact StX.star_any I1 hxs fun us s2 I2 rv => ⟨I2.kIn, StX.run_makeR M F hr hx I2 rv q⟩
end
end Ov

set_option Elab.async false
set_option linter.all false
set_option maxRecDepth 100000
set_option maxHeartbeats 4000000
/-! len(set(xs)), xs a tuple of any number of texts (below 4000) -/
namespace Ov
open PySem PySem.Spec PyProof.Rows L2
/-- the texts without those that were there before -/
def addS (z : List Str) (v : Str) : List Str := if z.any (· == v) = true then z else z ++ [v]
def once (xs : List Str) : List Str := xs.foldl addS []
theorem addS_len (z : List Str) (v : Str) : (addS z v).length = if z.any (· == v) = true then z.length else z.length + 1 := by
  unfold addS; split <;> simp
theorem addS_any (z : List Str) (v k : Str) : (addS z v).any (· == k) = (z.any (· == k) || decide (k = v)) := by
  unfold addS
  by_cases h : z.any (· == v) = true
  · rw [if_pos h]
    by_cases e : k = v
    · subst e; rw [h]; simp
    · simp [e]
  · rw [if_neg h, List.any_append]
    by_cases e : k = v
    · subst e; simp
    · have hb : (v == k) = false := by simpa [beq_iff_eq] using (fun h' : v = k => e h'.symm)
      simp [hb, e]
theorem once_take {xs : List Str} {i : Nat} (h : i < xs.length) : once (xs.take (i + 1)) = addS (once (xs.take i)) (xs.getD i Str.empty) := by
  unfold once
  rw [List.take_succ, List.foldl_append, List.getElem?_eq_getElem h]
  simp [List.getD, List.getElem?_eq_getElem h]
theorem once_le (xs : List Str) : (once xs).length ≤ xs.length := by
  have key : ∀ (l z : List Str), (l.foldl addS z).length ≤ z.length + l.length := by
    intro l
    induction l with
    | nil => intro z; simp
    | cons a l ih =>
      intro z
      rw [List.foldl_cons, List.length_cons]
      refine Nat.le_trans (ih _) ?_
      rw [addS_len]
      split <;> omega
  have := key xs []
  simpa [once] using this
/-- as many as there are, exactly if no two are alike -/
theorem once_nodup (xs : List Str) : (once xs).length = xs.length ↔ xs.Nodup := by
  have key : ∀ (l z : List Str), ((l.foldl addS z).length = z.length + l.length ↔ (l.Nodup ∧ ∀ a ∈ l, ¬ z.any (· == a) = true)) := by
    intro l
    induction l with
    | nil => intro z; simp
    | cons a l ih =>
      intro z
      rw [List.foldl_cons, List.length_cons, List.nodup_cons]
      have bound : ∀ (l z : List Str), (l.foldl addS z).length ≤ z.length + l.length := by
        intro l
        induction l with
        | nil => intro z; simp
        | cons a l ih =>
          intro z
          rw [List.foldl_cons, List.length_cons]
          refine Nat.le_trans (ih _) ?_
          rw [addS_len]
          split <;> omega
      by_cases h : z.any (· == a) = true
      · have e : addS z a = z := if_pos h
        rw [e]
        have := bound l z
        constructor
        · intro q; omega
        · rintro ⟨_, q⟩; exact absurd h (q a List.mem_cons_self)
      · have e : addS z a = z ++ [a] := if_neg h
        rw [e]
        have ih' := ih (z ++ [a])
        rw [List.length_append, List.length_singleton] at ih'
        rw [show z.length + (l.length + 1) = z.length + 1 + l.length by omega, ih']
        constructor
        · rintro ⟨h1, h2⟩
          refine ⟨⟨fun hm => ?_, h1⟩, fun b hb => ?_⟩
          · have := h2 a hm
            rw [List.any_append] at this
            simp at this
          · rcases List.mem_cons.mp hb with e | hb
            · rw [e]; exact h
            · have := h2 b hb
              rw [List.any_append] at this
              intro q
              rw [q] at this
              simp at this
        · rintro ⟨⟨h1, h2⟩, h3⟩
          refine ⟨h2, fun b hb => ?_⟩
          rw [List.any_append]
          have q := h3 b (List.mem_cons_of_mem _ hb)
          have nb : (a == b) = false := by
            rw [beq_eq_false_iff_ne]
            intro e
            exact h1 (e ▸ hb)
          simp only [Bool.not_eq_true] at q ⊢
          rw [q]
          simp [nb]
  have := key xs []
  simpa [once] using this

section
variable {prog : Program} {w : World} {A : Around} {R : Result → Shared → Prop} {I : Addr} {fp wr : List Addr} {G : Array GenState → Array GenState → Prop} {n : Nat} {P : Nat → Value → Prop} {St : Nat → Shared → Prop}
theorem set_loop (W : WalksS prog w A.in1 I fp wr G n P St) (S : Addr) (hSf : S ∉ fp) (xs : List Str) (hsz : xs.length = n) (hn : n + 1 < scanBound)
    (hval : ∀ i v, P i v → ∃ t, v = .str (xs.getD i Str.empty) t) :
    ∀ (k i : Nat) (s : Shared), n - i = k → i ≤ n → St i s →
      s.heap.SetOf (PySem.strKind prog w) S (fun k' => (once (xs.take i)).any (· == k')) (once (xs.take i)).length →
      (∀ s', Moved (S :: wr) G s s' → s'.heap.SetOf (PySem.strKind prog w) S (fun k' => (once xs).any (· == k')) (once xs).length → R (.ok (.ret .none)) s') →
      codeAny (model prog w) A (.builtin "set.update.loop" ⟨[.ref S, .ref I], []⟩) R s := by
  have hSw : S ∉ wr := fun h => hSf (W.sub _ h)
  have hsub : ∀ b ∈ wr, b ∈ S :: wr := fun b hb => List.mem_cons_of_mem _ hb
  intro k
  induction k with
  | zero =>
    intro i s hk hi hst hS hR
    have hin : i = n := by omega
    subst hin
    refine codeAny_builtin PyProof.Rows.F.entry_set_update_loop ?_
    rw [Around.under_plainId PyProof.Rows.F.plain_set_update_loop _]
    show wpAny _ A.in1 (pyNext (.ref I) >>= _) _ _ s
    refine wpAny_bind (W.done s _ _ hst fun s' hm => ?_)
    show wpAny _ A.in1 (ret Value.none) _ _ s'
    rw [← hsz, List.take_length] at hS
    exact wpAny_pure (hR s' (hm.mono hsub) (by
      obtain ⟨o, es, ep, t, ho, rest⟩ := hS
      exact ⟨o, es, ep, t, hm.heap S _ hSw ho, rest⟩))
  | succ k ih =>
    intro i s hk hi hst hS hR
    have hlt : i < n := by omega
    refine codeAny_builtin PyProof.Rows.F.entry_set_update_loop ?_
    rw [Around.under_plainId PyProof.Rows.F.plain_set_update_loop _]
    show wpAny _ A.in1 (pyNext (.ref I) >>= _) _ _ s
    refine wpAny_bind (W.item i s _ _ hlt hst fun v s' hP hst' hm => ?_)
    obtain ⟨t, rfl⟩ := hval i v hP
    have hS' : s'.heap.SetOf (PySem.strKind prog w) S (fun k' => (once (xs.take i)).any (· == k')) (once (xs.take i)).length := by
      obtain ⟨o, es, ep, tb, ho, rest⟩ := hS
      exact ⟨o, es, ep, tb, hm.heap S _ hSw ho, rest⟩
    have hle : (once (xs.take i)).length ≤ i := Nat.le_trans (once_le _) (by rw [List.length_take]; omega)
    show wpAny _ A.in1 (holding [Value.str (xs.getD i Str.empty) t] (setAdd S (.str (xs.getD i Str.empty) t)) >>= _) _ _ s'
    refine wpAny_bind (wpAny_holding ?_)
    unfold setAdd
    refine wpAny_holding ?_
    refine wpAny_bind ((PySem.strKind prog w).pyHash (k := xs.getD i Str.empty) (strKind_is _ _ _ _) ?_)
    refine wpAny_setAddHashed_of (knd := PySem.strKind prog w) (s := { s' with toks := s'.toks + 1 }) (strKind_is _ _ _ _) rfl hS' (by omega) fun h' hsb hS2 => ?_
    have hSi : h'.SetOf (PySem.strKind prog w) S (fun k' => (once (xs.take (i + 1))).any (· == k')) (once (xs.take (i + 1))).length := by
      rw [once_take (by omega)]
      exact SetOf_congr hS2 (fun k' => by rw [addS_any]) (by rw [addS_len])
    refine wpAny_pure ⟨plainId_quiet PyProof.Rows.F.plain_set_update_loop _, ih (i + 1) _ (by omega) hlt (W.frame _ s' _ _ hst' (Nat.le_succ _) fun b hb o e => ?_) hSi fun s'' hm'' hS'' => ?_⟩
    · rw [hsb.2 b (fun h : b = S => hSf (by rw [← h]; exact hb))]; exact e
    · refine hR s'' (Moved.trans W.gtrans ((hm.mono hsub).then_heap (Nat.le_succ _) fun b o hb e => ?_) hm'') hS''
      rw [hsb.2 b (fun h : b = S => hb (by rw [h]; exact List.mem_cons_self))]; exact e
end
section
variable {prog : Program} {w : World} {A : Around} {E : Value → Shared → Prop} {s : Shared}
theorem set_of_tuple {l : Addr} {items : Array Value} {xs : List Str} {Q : Value → Shared → Prop}
    (hh : A.handled = none) (hl : s.heap.IsTuple l items) (hi : PyProof.Rows.StrsAre items.toList xs) (hn1 : xs.length + 1 < scanBound)
    (h : ∀ (h' : Heap) (tk : Nat), h'.SetOf (PySem.strKind prog w) s.heap.objs.size (fun k' => (once xs).any (· == k')) (once xs).length →
      (∀ b o, b < s.heap.objs.size → s.heap.get? b = some o → h'.get? b = some o) → Q (.ref s.heap.objs.size) { s with heap := h', toks := tk }) :
    wpAny (model prog w) A (call (.type "set") [.ref l]) Q E s := by
  obtain ⟨c, tl, hmro⟩ := PySem.F.called_set.mro
  have hmade := PySem.F.called_set.made
  have hsub := PySem.F.called_set.sub
  have h1 := PySem.F.called_set.notType
  have h2 := PySem.F.called_set.canCreate
  have hct := PySem.F.typeCall_set_1 (.ref l)
  refine wpAny_call (codeAny_of_tree ?_)
  show wpAny _ _ (callAny (.type "set") _) _ _ _
  refine wpAny_pure ⟨Code.quiet_builtin _ (by decide +kernel), codeAny_builtin PySem.F.entry_type_call ?_⟩
  rw [Around.under_plain (weight_type_call_type "set" [.ref l] []) rfl]
  repeat (any_goals (first | assumption | wp_step))
  refine codeAny_mono (code_set_new_1 (.ref l) (E := E) (Q₁ := fun obj s₁ => ∃ led : Bool, obj = .ref s.heap.objs.size ∧ s₁ = { s with heap := s.heap.push { cls := .type "set", dict := none, data := .set #[] 0 (.fresh 0 0 led) } }) fun led => ⟨led, rfl, rfl⟩) fun r s₁ hr => ?_
  cases r with
  | error e => exact hr
  | ok fl =>
    cases fl with
    | ret obj =>
      obtain ⟨led, rfl, rfl⟩ := hr
      have hS : (s.heap.push { cls := .type "set", dict := none, data := .set #[] 0 (.fresh 0 0 led) }).get? s.heap.objs.size = some { cls := .type "set", dict := none, data := .set #[] 0 (.fresh 0 0 led) } := Heap.get?_push_size _ rfl
      have hT : Shared.TypeIs { s with heap := s.heap.push { cls := .type "set", dict := none, data := .set #[] 0 (.fresh 0 0 led) } } (.ref s.heap.objs.size) "set" := ⟨_, hS, rfl⟩
      have hli := PySem.F.called_set.init.lookup
      have hbi := PySem.F.called_set.init.bind (.ref s.heap.objs.size)
      repeat (any_goals (first | assumption | wp_step))
      refine codeAny_mono (codeAny_call_builtin (R := wants (fun r s₂ => r = .none ∧ ∃ h' tk, s₂ = { s with heap := h', toks := tk } ∧
          h'.SetOf (PySem.strKind prog w) s.heap.objs.size (fun k' => (once xs).any (· == k')) (once xs).length ∧
          (∀ b o, b < s.heap.objs.size → s.heap.get? b = some o → h'.get? b = some o)) E) PySem.F.called_set.init.plain PySem.F.entry_set_init (check_set_init_1 hT ?_)) fun r₂ s₂ hr₂ => ?_
      · obtain ⟨ol, hol, hcl, nl, hdl⟩ := hl
        obtain ⟨ocls, odict, odata, oslots⟩ := ol
        simp only at hcl hdl
        subst hcl; subst hdl
        have hol' : (s.heap.push { cls := .type "set", dict := none, data := .set #[] 0 (.fresh 0 0 led) }).get? l = some { cls := .type "tuple", dict := odict, data := .seq items nl, slots := oslots } := Heap.get?_push_of_some _ hol
        have hsls := PySem.F.sub_tuple_set
        have hslf := PySem.F.sub_tuple_frozenset
        have hne : (Value.type "tuple" == Value.type "dict") = false := by decide
        have hl1 : (s.heap.push { cls := .type "set", dict := none, data := .set #[] 0 (.fresh 0 0 led) }).IsTuple l items := ⟨_, hol', rfl, nl, rfl⟩
        unfold Builtin.«set.__init__» noKeywords Builtin.Frozenset.updateFrom
        generalize hPI : pyIter = PI
        wp_walk
        subst hPI
        refine wpAny_pyIter_tuple hl1 ?_
        refine wpAny_bind (wpAny_runValue ?_)
        have hlS : l < s.heap.objs.size := Heap.lt_size hol
        have hh3 : A.in1.in1.in1.handled = none := by simp [hh]
        have hneI : l ≠ (s.heap.push { cls := .type "set", dict := none, data := .set #[] 0 (.fresh 0 0 led) }).objs.size := by
          rw [Heap.size_push]; exact Nat.ne_of_lt (Nat.lt_succ_of_lt hlS)
        have hSf : s.heap.objs.size ∉ [(s.heap.push { cls := .type "set", dict := none, data := .set #[] 0 (.fresh 0 0 led) }).objs.size, l] := by
          rw [Heap.size_push]; simp only [List.mem_cons, List.mem_singleton, List.not_mem_nil, or_false, not_or]
          exact ⟨Nat.ne_of_lt (Nat.lt_succ_self _), Nat.ne_of_gt hlS⟩
        have hsz : xs.length = items.size := by rw [← StrsAre.len_eq hi, Array.length_toList]
        have hval : ∀ (i : Nat) (v : Value), items[i]? = some v → ∃ t, v = .str (xs.getD i Str.empty) t := fun i v hv => SS.strs_at hi i v (by rw [Array.getElem?_toList]; exact hv)
        refine set_loop ((Walks.tuple hh3 _ l hneI items).toS) s.heap.objs.size
          hSf xs hsz (by rw [← hsz]; exact hn1) hval (items.size - 0) 0 _ (by omega) (Nat.zero_le _)
          ⟨⟨_, Heap.get?_push_size _ rfl, rfl, rfl⟩, (hl1.push _)⟩ ?hS0 ?hR
        case hS0 =>
          have hget : ((s.heap.push { cls := .type "set", dict := none, data := .set #[] 0 (.fresh 0 0 led) }).push { cls := .type "tuple_iterator", data := .fields #[.ref l, .int 0 0] }).get? s.heap.objs.size
              = some { cls := .type "set", dict := none, data := .set #[] 0 (.fresh 0 0 led) } := Heap.get?_push_of_some _ hS
          exact PyProof.Rows.SetOf_congr ((PyProof.Rows.setObjOf_fresh (knd := PySem.strKind prog w) led).setOf hget (by unfold scanBound; omega)) (fun _ => rfl) rfl
        case hR =>
          intro s' hm hS'
          obtain ⟨h', g', d', tk', os'⟩ := s'
          have eg : g' = s.gens := hm.gens
          have ed : d' = s.drawn := hm.drawn
          have eo : os' = s.os := hm.os
          subst eg; subst ed; subst eo
          show wpAny _ _ _ _ _ _
          refine wpAny_pure ?_
          show wpAny _ _ (ret Value.none) _ _ _
          refine wpAny_pure ⟨rfl, h', tk', rfl, hS', fun b o hb e => ?_⟩
          have hb1 : b ≠ s.heap.objs.size := Nat.ne_of_lt hb
          have hb2 : b ≠ (s.heap.push { cls := .type "set", dict := none, data := .set #[] 0 (.fresh 0 0 led) }).objs.size := by
            rw [Heap.size_push]; exact Nat.ne_of_lt (Nat.lt_succ_of_lt hb)
          exact hm.heap b o (by simp only [List.mem_cons, List.mem_singleton, List.not_mem_nil, or_false, not_or]; exact ⟨hb1, hb2⟩) (Heap.get?_push_of_some _ (Heap.get?_push_of_some _ e))
      · cases r₂ with
        | error e => exact hr₂
        | ok fl₂ =>
          cases fl₂ with
          | ret r =>
            obtain ⟨rfl, h', tk, rfl, hS', hk'⟩ := hr₂
            repeat (any_goals (first | assumption | wp_step))
            exact h _ _ hS' hk'
          | _ => exact hr₂.elim
    | _ => exact hr.elim
end
/-- len(set(xs)), xs a tuple of texts -/
def tLenOnce (K : PySem.W.Frag) (ta : TE) : TE := fun σ H Q => ta σ H fun x H1 => ∃ (l : Addr) (xs : List Str), x = .ref l ∧ SqT K H1 l (xs.map V.str) ∧ xs.length ≤ 4000 ∧ Q (.int ((once xs).length : Nat)) H1
theorem pe_lenOnce {X : Cx} {a : Expr} {ta : TE} {p p2 q pos : Pos} (hc : X.calm = true) (hg : Gl X "len") (hm : X.mg "len" = none) (hg2 : Gl X "set") (hm2 : X.mg "set" = none) (ha : PE X a ta)
    (na : starEach [a] X.env = (false, eval a X.env) :: starEach [] X.env := by rfl) : PE X (.Call (.Name "len" p) [.Call (.Name "set" p2) [a] [] q] [] pos) (tLenOnce X.K ta) := by
  refine ⟨fun pins s σ H Q I h => ?_⟩
  refine Call_ (ld_blt I hg hm boot_len ?_)
  refine PyProof.Rows.callWith_builtin1 (PyProof.Rows.args_cons ?_ rfl) rfl rfl
  refine Call_ (ld_blt I hg2 hm2 boot_set ?_)
  refine PyProof.Rows.callWith_type1 (PyProof.Rows.args_cons (thn (ha.run pins s σ H _ I h) fun v s1 ⟨x, H1, I1, r1, q1⟩ => PyProof.Rows.args_nil ?_) na) na rfl
  obtain ⟨l, xs, rfl, hq, h1, q1⟩ := q1
  cases r1
  obtain ⟨its, r, pl, hz⟩ := I1.tuple hq
  refine set_of_tuple (I1.ok.hd hc) pl (by simpa using strsAre_of r) (by unfold scanBound; omega) fun h' tk hS hk => ?_
  refine PyProof.Rows.args_nil ?_
  have hle := once_le xs
  obtain ⟨o, es, ep, t, ho, hex, hd, _, _, _, hf, hn⟩ := hS
  have I2 : Inv X pins σ H1 { s1 with heap := h', toks := tk } := I1.kept fun b o e => hk b o (Heap.lt_size e) e
  exact call_len_set ho hex hd hf (by rw [hn] <;> omega) ⟨.int (once xs).length, H1, I2.tok _, ⟨_, by rw [hn]⟩, q1⟩
end Ov

set_option Elab.async false
set_option linter.all false
set_option maxRecDepth 100000
set_option maxHeartbeats 4000000
namespace Ov
open PySem PySem.Spec PyProof.Rows L2 GxR
/-! ### all, by its items -/
theorem all_str {x : Str} {te : TE} {cp : L2.St} {Q : VK} {H2 : Hp} (f : Nat → Bool) (he : ∀ c, ∀ R : VK, R (.bl (f c)) H2 → te (some (.str ⟨#[c]⟩) :: cp) H2 R) (q : Q (.bl (x.cps.toList.all f)) H2) :
    ∃ W : Nat → Nat → Hp → Prop, (∃ m, W 0 m H2) ∧ turnAll (Its x) te W cp Q := by
  refine ⟨fun i m H => H = H2 ∧ m = x.cps.size - i ∧ i ≤ x.cps.size ∧ (x.cps.toList.take i).all f = true, ⟨x.cps.size, rfl, by simp, Nat.zero_le _, rfl⟩, ?_⟩
  rintro i m H ⟨rfl, rfl, hi, ha⟩
  by_cases hlt : i < x.cps.size
  · refine .inr ⟨hlt, fun v H' hy => ?_⟩
    obtain ⟨rfl, c, hc, rfl⟩ := hy
    refine he c _ ⟨f c, rfl, ?_⟩
    have hcl : x.cps.toList[i]? = some c := by rw [Array.getElem?_toList]; exact hc
    cases hf : f c with
    | true =>
      refine iteT ⟨x.cps.size - (i + 1), by omega, rfl, rfl, hlt, ?_⟩
      rw [List.take_succ, hcl, List.all_append, ha]
      simp [hf]
    | false =>
      refine iteF ?_
      have e : x.cps.toList.all f = false := by
        rw [List.all_eq_false]
        exact ⟨c, List.mem_of_getElem? hcl, by simp [hf]⟩
      rw [← e]; exact q
  · have e : i = x.cps.size := by omega
    subst e
    refine .inl ⟨Nat.le_refl _, ?_⟩
    have e2 : x.cps.toList.take x.cps.size = x.cps.toList := by rw [List.take_of_length_le (by simp)]
    rw [e2] at ha
    rw [ha] at q
    exact q
theorem all_tup {K : PySem.W.Frag} {a : Addr} {xs : List V} {te : TE} {cp : L2.St} {Q : VK} {H2 : Hp} (f : V → Bool) (Pv : Hp → Prop) (h0 : Pv H2) (hs : ∀ H, Pv H → SqT K H a xs)
    (he : ∀ x ∈ xs, ∀ H, Pv H → ∀ R : VK, (∀ H', Pv H' → R (.bl (f x)) H') → te (some x :: cp) H R) (q : ∀ H, Pv H → Q (.bl (xs.all f)) H) :
    ∃ W : Nat → Nat → Hp → Prop, (∃ m, W 0 m H2) ∧ turnAll (Itt K a) te W cp Q := by
  refine ⟨fun i m H => Pv H ∧ m = xs.length - i ∧ i ≤ xs.length ∧ (xs.take i).all f = true, ⟨xs.length, h0, by simp, Nat.zero_le _, rfl⟩, ?_⟩
  rintro i m H ⟨hp, rfl, hi, ha⟩
  by_cases hlt : i < xs.length
  · refine .inr ⟨⟨xs, xs[i], hs H hp, List.getElem?_eq_getElem hlt⟩, fun v H' hy => ?_⟩
    obtain ⟨rfl, hy⟩ := hy
    have hv := hy xs (hs _ hp)
    refine he v (List.mem_of_getElem? hv) _ hp _ fun H'' hp'' => ⟨f v, rfl, ?_⟩
    cases hf : f v with
    | true =>
      refine iteT ⟨xs.length - (i + 1), by omega, hp'', rfl, hlt, ?_⟩
      rw [List.take_succ, hv, List.all_append, ha]
      simp [hf]
    | false =>
      refine iteF ?_
      have e : xs.all f = false := by
        rw [List.all_eq_false]
        exact ⟨v, List.mem_of_getElem? hv, by simp [hf]⟩
      rw [← e]; exact q _ hp''
  · have e : i = xs.length := by omega
    subst e
    refine .inl ⟨⟨xs, hs _ hp, Nat.le_refl _⟩, ?_⟩
    rw [List.take_length] at ha
    rw [← ha]
    exact q _ hp
/-! ### a def whose code object is known -/
structure FunC (K : PySem.W.Frag) (x qual : Str) (st : Stmt) (f : Addr) (fd : FuncData) (c : Addr) : Prop where
  ex : ∃ (oc : Value) (od : Option Addr) (kV doc pm : Value) (an : Option Addr) (ct : Value) (osl : Array (Option Value)),
    fd = PySem.W.fnOf x qual (defArgs st) (defBody st) (defScope st) .none kV doc pm an (.ref c) ct ∧ K.lookup f = some ⟨oc, od, .func fd, osl⟩ ∧ PySem.W.codeIn K (.ref c) qual = true
  kp : PySem.W.keepIn K (.ref f) = true
section
variable {P : Program} {w : World} {K : PySem.W.Frag} {mg : Str → Option Value} {base : Heap}
theorem FunC.ok {x qual : Str} {st : Stmt} {f c : Addr} {fd : FuncData} {N ps : List Str} {k : Nat} {sp : Sp} (F : FunC K x qual st f fd c) (S : FnScope N ps (defScope st)) (len : ∀ vs H Q E, sp vs H Q E → vs.length = ps.length)
    (hbody : ∀ (A : Around) (outer : List Env) (s : Shared) (H : Hp) (vs : List V) (Q : VK) (E : XK), Room k (A.deeper (envOfC qual (defScope st) s.heap.objs.size f (.ref c))) → sp vs H Q E →
      ∃ t, PSs (cxOf CX0 P w K mg base N qual (defScope st) f (.ref c) A outer s H E).nox (defBody st) t ∧ t { nx := fun _ H' => Q .non H', rt := Q } (start N vs) H) : FnOk P w K mg base CX0 (k + 1) f fd ps sp := by
  obtain ⟨oc, od, kV, doc, pm, an, ct, osl, rfl, lk, hcd⟩ := F.ex
  refine fn_of lk hcd S len fun A outer s H vs Q E hr hsp => ?_
  obtain ⟨t, h, q⟩ := hbody A outer s H vs Q E hr hsp
  exact ⟨t, h.nox, q⟩
theorem FunC.toFun {x qual : Str} {st : Stmt} {f c : Addr} {fd : FuncData} (F : FunC K x qual st f fd c) : Fun K x qual st f fd := by
  obtain ⟨oc, od, kV, doc, pm, an, ct, osl, e, lk, hcd⟩ := F.ex
  exact ⟨⟨oc, od, kV, doc, pm, an, _, ct, osl, e, lk, hcd⟩, F.kp⟩
theorem funC_mk {x qual : Str} {st : Stmt} {f c : Addr} {oc : Value} {od an : Option Addr} {osl : Array (Option Value)} {kV doc pm ct : Value} (l : K.lookup f = some ⟨oc, od, .func (PySem.W.fnOf x qual (defArgs st) (defBody st) (defScope st) .none kV doc pm an (.ref c) ct), osl⟩)
    (hc : PySem.W.codeIn K (.ref c) qual = true) (k : PySem.W.keepIn K (.ref f) = true) : FunC K x qual st f (PySem.W.fnOf x qual (defArgs st) (defBody st) (defScope st) .none kV doc pm an (.ref c) ct) c := ⟨⟨oc, od, kV, doc, pm, an, ct, osl, rfl, l, hc⟩, k⟩
end
/-! ### heaps that differ in the tables of the defs alone -/
/-- the tables at T may grow; nothing else has changed -/
def Tbs (T : List Addr) (H H' : Hp) : Prop := (∀ P ∈ T, TabG H' P) ∧ ∀ b, b ∉ T → H' b = H b
/-- .. what stood stands -/
def Kep (T : List Addr) (H H' : Hp) : Prop := (∀ P ∈ T, TabG H' P) ∧ ∀ b o, b ∉ T → H b = some o → H' b = some o
theorem Tbs.refl {T : List Addr} {H : Hp} (h : ∀ P ∈ T, TabG H P) : Tbs T H H := ⟨h, fun _ _ => rfl⟩
theorem Tbs.trans {T : List Addr} {H H1 H2 : Hp} (a : Tbs T H H1) (b : Tbs T H1 H2) : Tbs T H H2 := ⟨b.1, fun c hc => (b.2 c hc).trans (a.2 c hc)⟩
theorem Tbs.kep {T : List Addr} {H H' : Hp} (a : Tbs T H H') : Kep T H H' := ⟨a.1, fun b o hb e => (a.2 b hb).trans e⟩
theorem Kep.refl {T : List Addr} {H : Hp} (h : ∀ P ∈ T, TabG H P) : Kep T H H := ⟨h, fun _ _ _ e => e⟩
theorem Kep.trans {T : List Addr} {H H1 H2 : Hp} (a : Kep T H H1) (b : Kep T H1 H2) : Kep T H H2 := ⟨b.1, fun c o hc e => b.2 c o hc (a.2 c o hc e)⟩
theorem Tbs.of1 {T : List Addr} {H H' : Hp} {P : Addr} (h : ∀ p ∈ T, TabG H p) (hP : P ∈ T) (t : Tabbed P H H') : Tbs T H H' := by
  refine ⟨fun p hp => ?_, fun b hb => t.2 b fun z => hb (by rw [z]; exact hP)⟩
  by_cases e : p = P
  · rw [e]; exact t.1
  · obtain ⟨ps, h1, h2⟩ := h p hp
    exact ⟨ps, (t.2 p e).trans h1, h2⟩
/-- a tracked thing of another kind is no table -/
theorem not_tab {T : List Addr} {H : Hp} {b : Addr} {o : HO} (h : ∀ p ∈ T, TabG H p) (e : H b = some o) (n : ∀ ps, o ≠ .tbl ps) : b ∉ T := fun z => by
  obtain ⟨ps, h1, _⟩ := h b z
  rw [e] at h1
  exact n ps (Option.some.inj h1)
theorem free_tab {T : List Addr} {H : Hp} {b : Addr} (h : ∀ p ∈ T, TabG H p) (e : H b = none) : b ∉ T := fun z => by
  obtain ⟨ps, h1, _⟩ := h b z
  rw [e] at h1
  cases h1
theorem Kep.at {T : List Addr} {H H' : Hp} {b : Addr} {o : HO} (a : Kep T H H') (h : ∀ p ∈ T, TabG H p) (e : H b = some o) (n : ∀ ps, o ≠ .tbl ps) : H' b = some o := a.2 b o (not_tab h e n) e
/-- a new thing -/
theorem Kep.new {T : List Addr} {H : Hp} {p : Addr} {o : HO} (h : ∀ q ∈ T, TabG H q) (e : H p = none) : Kep T H (upd H p o) := by
  refine ⟨fun q hq => ?_, fun b u _ hb => ?_⟩
  · obtain ⟨ps, h1, h2⟩ := h q hq
    exact ⟨ps, (upd_ne (ne_of_none h1 e)).trans h1, h2⟩
  · exact (upd_ne (ne_of_none hb e)).trans hb
/-- a list that was not there at H may be written -/
theorem Kep.put {T : List Addr} {H H1 : Hp} {p : Addr} {o : HO} (a : Kep T H H1) (e : H p = none) (n : p ∉ T) : Kep T H (upd H1 p o) := by
  refine ⟨fun q hq => ?_, fun b u hb hu => ?_⟩
  · obtain ⟨ps, h1, h2⟩ := a.1 q hq
    exact ⟨ps, (upd_ne (fun z => n (by rw [← z]; exact hq))).trans h1, h2⟩
  · exact (upd_ne (ne_of_none hu e)).trans (a.2 b u hb hu)
theorem Kep.seqL {T : List Addr} {K : PySem.W.Frag} {H H' : Hp} {a : Addr} {xs : List V} (k : Kep T H H') (h : ∀ p ∈ T, TabG H p) (e : SqL K H a xs) : SqL K H' a xs := by
  rcases e with (e | ⟨o, e⟩) | e
  · exact .inl (.inl (k.at h e fun _ z => by cases z))
  · exact .inl (.inr ⟨o, k.at h e fun _ z => by cases z⟩)
  · exact .inr e
theorem Kep.seqT {T : List Addr} {K : PySem.W.Frag} {H H' : Hp} {a : Addr} {xs : List V} (k : Kep T H H') (h : ∀ p ∈ T, TabG H p) (e : SqT K H a xs) : SqT K H' a xs := by
  rcases e with (e | ⟨o, e⟩) | e
  · exact .inl (.inl (k.at h e fun _ z => by cases z))
  · exact .inl (.inr ⟨o, k.at h e fun _ z => by cases z⟩)
  · exact .inr e
theorem Kep.free {T : List Addr} {H H' : Hp} {b : Addr} (k : Kep T H H') (h : ∀ p ∈ T, TabG H p) (e : H' b = none) : H b = none := by
  cases q : H b with
  | none => rfl
  | some o =>
    by_cases hb : b ∈ T
    · obtain ⟨ps, h1, _⟩ := k.1 b hb
      rw [h1] at e; cases e
    · rw [k.2 b o hb q] at e; cases e
end Ov
namespace Ov
open PySem PySem.Spec PyProof.Rows L2 GxR
theorem one_lt (a b : Nat) : ([a] < [b]) ↔ a < b := by
  rw [List.cons_lt_cons_iff]
  constructor
  · rintro (h | ⟨_, h⟩)
    · exact h
    · exact absurd h (by simp)
  · exact .inl
/-! ### a generator's names, by a check -/
def genC (N : List Str) (sc scope : Scope) (x : Str) (cs : List Str) (pick : List Nat) : Bool :=
  (scope.kind == .function) && (scope.isCoroutine == false) && (scope.names.all fun y => y.2 != .cell) && (scope.names.lookup (".0" : Str) == some NameKind.local) && (scope.names.lookup x == some NameKind.local) &&
  (scope.names.all fun y => y.2 != .free || (sc.names.lookup y.1 == some NameKind.cell)) && (scope.names.all fun y => scope.names.lookup y.1 == some y.2) && decide ((x :: cs).Nodup) && (cs.length == pick.length) &&
  ((cs.zip pick).all fun p => (scope.names.lookup p.1 == some NameKind.free) && (sc.names.lookup p.1 == some NameKind.cell) && (N[p.2]? == some p.1))
theorem genN_by {X : Cx} {N : List Str} {sc scope : Scope} {x : Str} {cs : List Str} {pick : List Nat} (hN : X.N = N) (hs : X.env.scope = sc) (hc : ∀ y, sc.names.lookup y = some .cell → ∃ c, X.env.cells.lookup y = some c) (h : genC N sc scope x cs pick = true) : GenN X scope x cs pick := by
  unfold genC at h
  simp only [Bool.and_eq_true, beq_iff_eq, decide_eq_true_eq] at h
  obtain ⟨⟨⟨⟨⟨⟨⟨⟨⟨h1, h2⟩, h3⟩, h4⟩, h5⟩, h6⟩, h7⟩, h8⟩, h9⟩, h10⟩ := h
  refine ⟨⟨h1, h2, fun y hy e => ?_, h4, h5, fun y hy e => ?_⟩, fun y hy => ?_, h8, h9, fun i y hi => ?_⟩
  · have := List.all_eq_true.mp h3 y hy
    rw [e] at this
    exact absurd this (by decide)
  · have := List.all_eq_true.mp h6 y hy
    rw [e] at this
    simp only [bne_self_eq_false, Bool.false_or, beq_iff_eq] at this
    exact hc y.1 this
  · exact beq_iff_eq.mp (List.all_eq_true.mp h7 y hy)
  · obtain ⟨j, hj⟩ : ∃ j, pick[i]? = some j := by
      have : i < pick.length := by rw [← h9]; exact (List.getElem?_eq_some_iff.mp hi).1
      exact ⟨_, List.getElem?_eq_getElem this⟩
    have hz : (cs.zip pick)[i]? = some (y, j) := by
      rw [List.getElem?_zip_eq_some]
      exact ⟨hi, hj⟩
    have := List.all_eq_true.mp h10 (y, j) (List.mem_of_getElem? hz)
    simp only [Bool.and_eq_true, beq_iff_eq] at this
    obtain ⟨⟨q1, q2⟩, q3⟩ := this
    exact ⟨q1, .inl (by rw [hs]; exact q2), j, hj, by rw [hN]; exact q3⟩
end Ov

set_option Elab.async false
set_option linter.all false
set_option maxRecDepth 100000
set_option maxHeartbeats 4000000
/-! lists of texts as data -/
namespace Ov
open PySem PySem.Spec PyProof.Rows L2 GxR
def lowB (z : Str) : Bool := z.cps.toList.all fun c => decide (97 ≤ c) && decide (c ≤ 122)
/-- a list of strings as data -/
def dStrs (ws : List Str) : PyData := .list (ws.map PyData.str)
theorem lay_strs : ∀ (ws : List Str), (∀ z ∈ ws, PyData.strOk z = true) → PyData.canLayAll0 (ws.map PyData.str) = true
  | [], _ => by rw [List.map_nil]; rfl
  | z :: r, h => by
    rw [List.map_cons]
    show (PyData.strOk z && PyData.canLayAll0 (r.map PyData.str)) = true
    rw [h z List.mem_cons_self, lay_strs r fun y hy => h y (List.mem_cons_of_mem _ hy)]; rfl
theorem depth_strs : ∀ (ws : List Str), PyData.depthAll (ws.map PyData.str) ≤ 1
  | [] => by rw [List.map_nil]; decide
  | z :: r => by
    rw [List.map_cons]
    have h := depth_strs r
    show max (PyData.depth (.str z)) (PyData.depthAll (r.map PyData.str)) ≤ 1
    have : PyData.depth (.str z) ≤ 1 := by simp [PyData.depth]
    omega
theorem shaped_strs {ws : List Str} (h : ∀ z ∈ ws, PyData.strOk z = true) : SeqAt.shaped (dStrs ws) = true := by
  unfold SeqAt.shaped
  have e : PyData.canLay0 (dStrs ws) = true := lay_strs ws h
  rw [e, Bool.true_and]
  refine decide_eq_true ?_
  have := depth_strs ws
  show PyData.depthAll (ws.map PyData.str) + 1 ≤ 64
  omega
theorem dp_strs {K : PySem.W.Frag} {H : Hp} : ∀ (ws : List Str), DpAll K H (ws.map V.str) (ws.map PyData.str)
  | [] => .nil
  | z :: r => .cons (.str z) (dp_strs r)
theorem low_ok {z : Str} (h : lowB z = true) : PyData.strOk z = true := by
  unfold lowB at h
  unfold PyData.strOk
  rw [Array.all_eq_true]
  intro i hi
  have h2 := List.all_eq_true.mp h z.cps[i] (by simp)
  simp only [Bool.and_eq_true, decide_eq_true_eq] at h2 ⊢
  omega
theorem eqv_nil (ws : List Str) : PyData.eqv (dStrs ws) (.list []) = ws.isEmpty := by
  cases ws with
  | nil => rfl
  | cons z r => rfl
theorem show_strs : ∀ ws : List Str, PyData.showableAll (ws.map PyData.str) = true
  | [] => rfl
  | z :: r => by
    rw [List.map_cons]
    show (true && PyData.showableAll (r.map PyData.str)) = true
    rw [show_strs r]; rfl
theorem nodict_strs : ∀ ws : List Str, PyData.hasDictAll (ws.map PyData.str) = false
  | [] => rfl
  | z :: r => by
    rw [List.map_cons]
    show (false || PyData.hasDictAll (r.map PyData.str)) = false
    rw [nodict_strs r]; rfl
theorem weight_strs : ∀ ws : List Str, (∀ z ∈ ws, z.length ≤ 100) → PyData.weightAll (ws.map PyData.str) ≤ 101 * ws.length
  | [], _ => by rw [List.map_nil]; exact Nat.le_refl _
  | z :: r, h => by
    rw [List.map_cons]
    have h1 := weight_strs r fun y hy => h y (List.mem_cons_of_mem _ hy)
    have h2 : z.cps.size ≤ 100 := h z List.mem_cons_self
    show z.cps.size + 1 + PyData.weightAll (r.map PyData.str) ≤ 101 * (r.length + 1)
    omega
theorem low_lt {z : Str} (h : lowB z = true) : (z.cps.toList.all fun c => decide (c < 16 ^ 8)) = true := by
  unfold lowB at h
  refine List.all_eq_true.mpr fun c hc => decide_eq_true ?_
  have := List.all_eq_true.mp h c hc
  simp only [Bool.and_eq_true, decide_eq_true_eq] at this
  exact Nat.lt_of_le_of_lt this.2 (by decide)
theorem short_strs : ∀ ws : List Str, (∀ z ∈ ws, lowB z = true) → PyData.leavesShortAll 8 (ws.map PyData.str) = true
  | [], _ => rfl
  | z :: r, h => by
    rw [List.map_cons]
    show ((z.cps.toList.all fun c => decide (c < 16 ^ 8)) && PyData.leavesShortAll 8 (r.map PyData.str)) = true
    rw [low_lt (h z List.mem_cons_self), short_strs r fun y hy => h y (List.mem_cons_of_mem _ hy)]; rfl
theorem eqv_strs : ∀ ws : List Str, PyData.eqv (dStrs ws) (dStrs ws) = true
  | [] => rfl
  | z :: r => by
    have h := eqv_strs r
    show ((z == z) && PyData.eqv (dStrs r) (dStrs r)) = true
    rw [h]; simp
end Ov

set_option Elab.async false
set_option linter.all false
set_option maxRecDepth 100000
set_option maxHeartbeats 4000000
namespace Ov
open PySem PySem.Spec PyProof.Rows L2 GxR
theorem iteT' {b : Bool} {A B : Prop} (e : b = true) (h : A) : if b = true then A else B := by rw [if_pos e]; exact h
theorem iteF' {b : Bool} {A B : Prop} (e : b = false) (h : B) : if b = true then A else B := by rw [if_neg (by rw [e]; decide)]; exact h
def top (i : Nat) : Stmt := PySem.Challenge.pw_overstamps_k62_histories_undone.main.body.getD i (.Pass ⟨0, 0, 0, 0⟩)
abbrev sLow : Stmt := top 44
abbrev sText : Stmt := top 45
abbrev sAre : Stmt := top 47
abbrev sInit : Stmt := inClass (top 49) 1
abbrev sOf : Stmt := inClass (top 49) 2
abbrev sTape : Stmt := top 56
abbrev sNext : Stmt := top 57
abbrev sInks : Stmt := top 58
/-! ### what the top has left -/
structure Txt (K : PySem.W.Frag) (mg : Str → Option Value) (C fLow fText fAre fTape fNext fInks : Addr) : Prop where
  all : mg "all" = none
  len : mg "len" = none
  isi : mg "isinstance" = none
  str : mg "str" = none
  lst : mg "list" = none
  set : mg "set" = none
  abs : mg "abs" = none
  max : mg "max" = none
  min : mg "min" = none
  rng : mg "range" = none
  gTape : mg "_law_stock" = some (.ref fTape)
  kTape : PySem.W.keepIn K (.ref fTape) = true
  gNext : mg "_law_roll" = some (.ref fNext)
  kNext : PySem.W.keepIn K (.ref fNext) = true
  gInks : mg "_law_words" = some (.ref fInks)
  kInks : PySem.W.keepIn K (.ref fInks) = true
  gLow : mg "is_lowercase" = some (.ref fLow)
  kLow : PySem.W.keepIn K (.ref fLow) = true
  gText : mg "is_text" = some (.ref fText)
  kText : PySem.W.keepIn K (.ref fText) = true
  gAre : mg "are_stamps" = some (.ref fAre)
  kAre : PySem.W.keepIn K (.ref fAre) = true
  gC : mg "Stamps" = some (.ref C)
  widest : ∃ t, mg "WIDEST" = some (.int 8 t)
  letters : ∃ t, mg "MOST_LETTERS" = some (.int 36 t)
  rd : ClX.CRead K C (.type "type")
  most : ∃ t, ClX.CVal K C (.type "type") "MOST" (.int 6) (.int 6 t)
/-- where the tables stand -/
structure Tab (base : Heap) (mg : Str → Option Value) (T : List Addr) (cLow PLow cAre PAre : Addr) : Prop where
  low : TabB base mg cLow PLow
  are : TabB base mg cAre PAre
  lowT : PLow ∈ T
  areT : PAre ∈ T
section
variable {P : Program} {w : World} {K : PySem.W.Frag} {mg : Str → Option Value} {base : Heap} {T : List Addr} {C fLow fText fAre fTape fNext fInks cLow PLow cAre PAre : Addr}
/-! ### is_lowercase -/
def spLow (T : List Addr) : Sp := fun vs H Q _ => ∃ z : Str, vs = [.str z] ∧ (∀ p ∈ T, TabG H p) ∧ ∀ H2, Tbs T H H2 → Q (.bl (lowB z)) H2
theorem scLow : FnScope ["text"] ["text"] (defScope sLow) := ⟨rfl, rfl, rfl, by decide +kernel, rfl, by decide +kernel, by decide +kernel⟩
theorem sign_le (c : Nat) : (!decide (([c] : List Nat) < ("a" : Str).cps.toList)) = decide (97 ≤ c) := by
  have e : ("a" : Str).cps.toList = [97] := by rfl
  rw [e]
  have h := one_lt c 97
  by_cases q : 97 ≤ c
  · have : ¬ ([c] < [97]) := fun z => by have := h.mp z; omega
    simp [q, this]
  · have : [c] < [97] := h.mpr (by omega)
    simp [q, this]
theorem sign_ge (c : Nat) : (!decide (("z" : Str).cps.toList < ([c] : List Nat))) = decide (c ≤ 122) := by
  have e : ("z" : Str).cps.toList = [122] := by rfl
  rw [e]
  have h := one_lt 122 c
  by_cases q : c ≤ 122
  · have : ¬ ([122] < [c]) := fun z => by have := h.mp z; omega
    simp [q, this]
  · have : [122] < [c] := h.mpr (by omega)
    simp [q, this]
theorem ok_low {f : Addr} {fd : FuncData} (F : FunC K "is_lowercase" "is_lowercase" sLow f fd cLow) (X : Txt K mg C fLow fText fAre fTape fNext fInks) (B : Tab base mg T cLow PLow cAre PAre) : FnOk P w K mg base CX0 2 f fd ["text"] (spLow T) := by
  refine F.ok scLow (fun vs H Q E h => ?_) (fun A outer s H vs Q E hr h => ?_)
  · obtain ⟨z, rfl, _⟩ := h
    rfl
  · obtain ⟨z, rfl, hT, k⟩ := h
    refine ⟨_, pss_one (ps_ret (pe_allG (k := 0) (cs := []) (pick := []) rfl hr (by rfl) X.all (by decide +kernel) B.low rfl (genN_by (sc := defScope sLow) (N := ["text"]) rfl rfl (fun y h => cell_has h) (by decide +kernel))
      (pi_str (pv 0)) (fun s H code C A fp pn hr => pe_chain op_le_str op_le_str pe_str (pv 0) pe_str))), ?_⟩
    refine ⟨_, rfl, z, rfl, hT _ B.lowT, fun H2 h2 => ?_⟩
    refine all_str (fun c => decide (97 ≤ c) && decide (c ≤ 122)) (fun c R hR => ?_) (k _ (Tbs.of1 hT B.lowT h2))
    refine ⟨_, rfl, _, _, rfl, rfl, _, rfl, ?_⟩
    have e1 := sign_le c
    have e2 := sign_ge c
    by_cases h1 : 97 ≤ c
    · refine iteT' (by rw [e1]; simpa using h1) ?_
      refine ⟨_, _, rfl, rfl, ?_⟩
      rw [e2]
      simpa [h1] using hR
    · refine iteF' (by rw [e1]; simpa using h1) ?_
      simpa [h1] using hR
/-! ### is_text -/
def textB (z : Str) (m : Int) : Bool := decide (1 ≤ (z.length : Int)) && decide ((z.length : Int) ≤ m) && lowB z
def spText (K : PySem.W.Frag) (T : List Addr) : Sp := fun vs H Q _ => ∃ (x : V) (m : Int), vs = [x, .int m] ∧ (∀ p ∈ T, TabG H p) ∧
  ((∃ z : Str, x = .str z ∧ z.length ≤ sizeLine ∧ ∀ H2, Tbs T H H2 → Q (.bl (textB z m)) H2) ∨ (∃ t, TyX K H x t ∧ PySem.W.kitOne K t (.type "str") = some false ∧ Q (.bl false) H))
theorem scText : FnScope ["thing", "most"] ["thing", "most"] (defScope sText) := ⟨rfl, rfl, rfl, by decide +kernel, rfl, by decide +kernel, by decide +kernel⟩
theorem ok_text {f : Addr} {fd fdL : FuncData} (F : L2.Fun K "is_text" "is_text" sText f fd) (FL : FunC K "is_lowercase" "is_lowercase" sLow fLow fdL cLow) (X : Txt K mg C fLow fText fAre fTape fNext fInks) (B : Tab base mg T cLow PLow cAre PAre) : FnOk P w K mg base CX0 3 f fd ["thing", "most"] (spText K T) := by
  refine F.ok scText (fun vs H Q E h => ?_) (fun cdv A outer s H vs Q E hr h => ?_)
  · obtain ⟨x, m, rfl, _⟩ := h
    rfl
  · obtain ⟨x, m, rfl, hT, k⟩ := h
    refine ⟨_, pss_one (ps_ret (pe_and (pe_callB call_isi (by rfl) X.isi boot_isinstance (pa_cons (pv 0) (pa_cons (pe_bltn (v := .ty "str") (by rfl) X.str PySem.Pv.boot_str rfl) pa_nil)))
      (pe_and (pe_chain op_le op_le pe_int (pe_callB call_len_str (by rfl) X.len boot_len (pa_cons (pv 0) pa_nil)) (pv 1))
        (pe_one (pe_call (ok_low FL X B) hr (by rfl) X.gLow X.kLow (FL.toFun.binds fun _ _ _ _ _ _ us hl => match us, hl with | [_], _ => rfl) .nil L2.pass0 (pa_cons (pv 0) pa_nil)))))), ?_⟩
    rcases k with ⟨z, rfl, hz, k⟩ | ⟨t, ht, hk, k⟩
    · refine ⟨_, rfl, _, _, _, _, _, rfl, .ty _, .base (.str _), kit_ty (r := true) (by decide +kernel), true, rfl, ?_⟩
      refine iteT ?_
      refine ⟨_, rfl, z, rfl, hz, _, _, rfl, rfl, _, rfl, ?_⟩
      by_cases h1 : 1 ≤ (z.length : Int)
      · refine iteT' (by simpa using h1) ?_
        refine ⟨_, rfl, _, _, rfl, rfl, _, rfl, ?_⟩
        by_cases h2 : (z.length : Int) ≤ m
        · refine iteT' (by simpa using h2) ?_
          refine ⟨_, rfl, z, rfl, hT, fun H2 q => ?_⟩
          have := k H2 q
          unfold textB at this
          simpa [h1, h2] using this
        · refine iteF' (by simpa using h2) ?_
          have := k H (.refl hT)
          unfold textB at this
          simpa [h1, h2] using this
      · refine iteF' (by simpa using h1) ?_
        refine ⟨_, rfl, ?_⟩
        refine iteF ?_
        have := k H (.refl hT)
        unfold textB at this
        simpa [h1] using this
    · refine ⟨_, rfl, _, _, _, _, _, rfl, .ty _, ht, hk, false, rfl, ?_⟩
      exact iteF k
/-! ### are_stamps -/
def isTextV : V → Bool
  | .str z => textB z 8
  | _ => false
def strV : V → Str
  | .str z => z
  | _ => Str.empty
/-- the words, once each of them is a text -/
def tailB (ws : List Str) : Bool := ws.all (fun z => decide (z.length = (ws.headD Str.empty).length)) && (decide ((once ws).length = ws.length) && decide ((ws.headD Str.empty).length * ws.length ≤ 36))
def stampsV (xs : List V) : Bool := decide (1 ≤ xs.length) && (decide (xs.length ≤ 6) && (xs.all isTextV && tailB (xs.map strV)))
theorem isTextV_str {x : V} (h : isTextV x = true) : x = .str (strV x) ∧ (strV x).length ≤ 8 := by
  cases x with
  | str z =>
    refine ⟨rfl, ?_⟩
    unfold isTextV textB at h
    simp only [Bool.and_eq_true, decide_eq_true_eq] at h
    show z.length ≤ 8
    omega
  | _ => cases h
theorem all_str_eq {xs : List V} (h : xs.all isTextV = true) : xs = (xs.map strV).map V.str ∧ ∀ z ∈ xs.map strV, z.length ≤ 8 := by
  rw [List.all_eq_true] at h
  refine ⟨?_, fun z hz => ?_⟩
  · rw [List.map_map]
    conv => lhs; rw [← List.map_id xs]
    exact List.map_congr_left fun x hx => (isTextV_str (h x hx)).1
  · obtain ⟨x, hx, rfl⟩ := List.mem_map.mp hz
    exact (isTextV_str (h x hx)).2
def spAre (K : PySem.W.Frag) (T : List Addr) : Sp := fun vs H Q _ => ∃ (a : Addr) (xs : List V), vs = [.ref a] ∧ (∀ p ∈ T, TabG H p) ∧ SqT K H a xs ∧ xs.length ≤ 4000 ∧
  (∀ x ∈ xs, (∃ z : Str, x = .str z ∧ z.length ≤ sizeLine) ∨ (isTextV x = false ∧ ∃ t, PySem.W.kitOne K t (.type "str") = some false ∧ ∀ H2, Tbs T H H2 → TyX K H2 x t)) ∧ ∀ H2, Tbs T H H2 → Q (.bl (stampsV xs)) H2
theorem scAre : FnScope ["words", "width"] ["words"] (defScope sAre) := ⟨rfl, rfl, rfl, by decide +kernel, rfl, by decide +kernel, by decide +kernel⟩
theorem ok_are {f : Addr} {fd fdT fdL : FuncData} (F : FunC K "are_stamps" "are_stamps" sAre f fd cAre) (FT : L2.Fun K "is_text" "is_text" sText fText fdT) (FL : FunC K "is_lowercase" "is_lowercase" sLow fLow fdL cLow) (X : Txt K mg C fLow fText fAre fTape fNext fInks) (B : Tab base mg T cLow PLow cAre PAre) : FnOk P w K mg base CX0 5 f fd ["words"] (spAre K T) := by
  refine F.ok scAre (fun vs H Q E h => ?_) (fun A outer s H vs Q E hr h => ?_)
  · obtain ⟨a, xs, rfl, _⟩ := h
    rfl
  · obtain ⟨a, xs, rfl, hT, hs, hn, hx, k⟩ := h
    obtain ⟨t8, g8⟩ := X.widest
    obtain ⟨t36, g36⟩ := X.letters
    refine ⟨_, pss_cons (ps_if (pt_not (pt_chain op_le op_le pe_int (pe_callB call_len_seq (by rfl) X.len boot_len (pa_cons (pv 0) pa_nil)) (ClX.pe_cval (pe_glob (v := .ref C) (by rfl) X.gC rfl)))) (pss_one (ps_ret pe_bl)) pss_nil)
      (pss_cons (ps_if (pt_not (pt_val (pe_allG (k := 3) (cs := []) (pick := []) rfl hr (by rfl) X.all (by decide +kernel) B.are rfl (genN_by (sc := defScope sAre) (N := ["words", "width"]) rfl rfl (fun y h => cell_has h) (by decide +kernel))
        (pi_tup (pv 0)) (fun s H code C A fp pn hr => pe_call (ok_text FT FL X B) hr (by rfl) X.gText X.kText (FT.binds fun _ _ _ _ _ _ us hl => match us, hl with | [_, _], _ => rfl) .nil L2.pass0 (pa_cons (pv 0) (pa_cons (pe_glob (v := .int 8) (by rfl) g8 ⟨_, rfl⟩) pa_nil)))))) (pss_one (ps_ret pe_bl)) pss_nil)
      (pss_cons (ps_set (i := 1) scAre.nd rfl (.inr rfl) (pe_callB call_len_str (by rfl) X.len boot_len (pa_cons (pe_ix ix_seq (pv 0) pe_int fun _ _ => rfl) pa_nil)))
      (pss_cons (ps_if (pt_not (pt_val (pe_allG (k := 3) (cs := ["width"]) (pick := [1]) rfl hr (by rfl) X.all (by decide +kernel) B.are rfl (genN_by (sc := defScope sAre) (N := ["words", "width"]) rfl rfl (fun y h => cell_has h) (by decide +kernel))
        (pi_tup (pv 0)) (fun s H code C A fp pn hr => pe_cmpR op_eq (pe_callB call_len_str (by rfl) X.len boot_len (pa_cons (pv 0) pa_nil)) (pv 1) (by rfl))))) (pss_one (ps_ret pe_bl)) pss_nil)
      (pss_one (ps_ret (pe_and (pe_cmpR op_eq (pe_lenOnce rfl (by rfl) X.len (by rfl) X.set (pv 0)) (pe_callB call_len_seq (by rfl) X.len boot_len (pa_cons (pv 0) pa_nil)) (by rfl))
        (pe_one (pe_cmpR op_le (pe_op op_mul (pv 1) (pe_callB call_len_seq (by rfl) X.len boot_len (pa_cons (pv 0) pa_nil))) (pe_glob (v := .int 36) (by rfl) g36 ⟨_, rfl⟩) (by rfl))))))))), ?_⟩
    obtain ⟨tm, hm⟩ := X.most
    refine ⟨_, rfl, a, xs, rfl, .inr hs, _, _, rfl, rfl, _, rfl, ?_⟩
    by_cases h1 : 1 ≤ xs.length
    case neg =>
      refine iteF' (by simp; omega) ⟨_, rfl, iteT ?_⟩
      have := k H (.refl hT)
      unfold stampsV at this
      rw [decide_eq_false h1, Bool.false_and] at this
      exact this
    refine iteT' (by simp; omega) ⟨C, _, _, _, rfl, X.rd, hm, _, _, rfl, rfl, _, rfl, ?_⟩
    by_cases h2 : xs.length ≤ 6
    case neg =>
      refine iteT' (by simp; omega) ?_
      have := k H (.refl hT)
      unfold stampsV at this
      rw [decide_eq_false h2, Bool.false_and, Bool.and_false] at this
      exact this
    refine iteF' (by simp; omega) ?_
    refine ⟨_, rfl, a, rfl, ⟨xs, hs⟩, hT _ B.areT, fun H2 h2' => ?_⟩
    refine all_tup isTextV (Tbs T H) (Tbs.of1 hT B.areT h2') (fun H1 q => q.kep.seqT hT hs) (fun x hxm H1 q R hR => ?_) (fun H1 q => ?_)
    · refine ⟨x, rfl, x, 8, rfl, q.1, ?_⟩
      rcases hx x hxm with ⟨z, rfl, hz⟩ | ⟨hf, t, hk, ht⟩
      · exact .inl ⟨z, rfl, hz, fun H3 q3 => hR H3 (q.trans q3)⟩
      · refine .inr ⟨t, ht H1 q, hk, ?_⟩
        rw [hf] at hR
        exact hR H1 q
    refine ⟨_, rfl, ?_⟩
    cases hall : xs.all isTextV with
    | false =>
      refine iteT ?_
      have := k H1 q
      unfold stampsV at this
      rw [hall, Bool.false_and, Bool.and_false, Bool.and_false] at this
      exact this
    | true =>
    refine iteF ?_
    obtain ⟨hws, hle⟩ := all_str_eq hall
    generalize hw : xs.map strV = ws at hws hle
    have hl : ws.length = xs.length := by rw [← hw, List.length_map]
    have hb : stampsV xs = tailB ws := by
      unfold stampsV
      rw [decide_eq_true h1, decide_eq_true h2, hall, hw]; rfl
    rw [hb] at k
    subst hws
    clear hall hb hx
    obtain ⟨z0, zs, rfl⟩ : ∃ z0 zs, ws = z0 :: zs := by
      cases ws with
      | nil => simp at h1
      | cons z0 zs => exact ⟨z0, zs, rfl⟩
    have hz0 : z0.length ≤ 8 := hle z0 List.mem_cons_self
    have hs1 : SqT K H1 a ((z0 :: zs).map V.str) := q.kep.seqT hT hs
    have h8 : (8 : Nat) ≤ sizeLine := by decide
    have hsz : ∀ z ∈ z0 :: zs, z.length ≤ sizeLine := fun z hz => Nat.le_trans (hle z hz) h8
    refine ⟨_, rfl, .inr (.inl ⟨a, _, 0, .str z0, rfl, rfl, hs1, by simp [atI, ixN], z0, rfl, hsz z0 List.mem_cons_self, ?_⟩)⟩
    refine ⟨_, rfl, a, rfl, ⟨_, hs1⟩, q.1 _ B.areT, fun H3 h3 => ?_⟩
    refine all_tup (fun x => decide ((strV x).length = z0.length)) (Tbs T H) (q.trans (Tbs.of1 q.1 B.areT h3)) (fun H1 q => q.kep.seqT hT hs) (fun x hxm H1 q R hR => ?_) (fun H4 q4 => ?_)
    · obtain ⟨z, hz, rfl⟩ := List.mem_map.mp hxm
      refine ⟨_, rfl, z, rfl, hsz z hz, _, rfl, rfl, ?_⟩
      have := hR H1 q
      have e : decide (V.int (z.length : Nat) = V.int (z0.length : Nat)) = decide ((strV (V.str z)).length = z0.length) := by
        show _ = decide (z.length = z0.length)
        rw [Bool.eq_iff_iff]
        simp
        omega
      rw [← e] at this
      exact this
    refine ⟨_, rfl, ?_⟩
    have e1 : ((z0 :: zs).map V.str).all (fun x => decide ((strV x).length = z0.length)) = (z0 :: zs).all (fun z => decide (z.length = z0.length)) := by
      rw [List.all_map]; rfl
    have hs4 : SqT K H4 a ((z0 :: zs).map V.str) := q4.kep.seqT hT hs
    have k4 : Q (.bl ((z0 :: zs).all (fun z => decide (z.length = z0.length)) && (decide ((once (z0 :: zs)).length = (z0 :: zs).length) && decide (z0.length * (z0 :: zs).length ≤ 36)))) H4 := k H4 q4
    rw [e1]
    cases hal : (z0 :: zs).all (fun z => decide (z.length = z0.length)) with
    | false =>
      refine iteT ?_
      rw [hal, Bool.false_and] at k4
      exact k4
    | true =>
      rw [hal, Bool.true_and] at k4
      refine iteF ?_
      have hln : ((z0 :: zs).map V.str).length = (z0 :: zs).length := List.length_map ..
      refine ⟨_, rfl, a, z0 :: zs, rfl, hs4, by rw [← hln]; exact hn, _, rfl, a, _, rfl, .inr hs4, rfl, _, rfl, ?_⟩
      have e2 : decide (V.int ((once (z0 :: zs)).length : Nat) = V.int (((z0 :: zs).map V.str).length : Nat)) = decide ((once (z0 :: zs)).length = (z0 :: zs).length) := by
        rw [hln, Bool.eq_iff_iff]
        simp
        omega
      rw [e2]
      by_cases h5 : (once (z0 :: zs)).length = (z0 :: zs).length
      case neg =>
        refine iteF' (decide_eq_false h5) ?_
        rw [decide_eq_false h5, Bool.false_and] at k4
        exact k4
      refine iteT' (decide_eq_true h5) ?_
      rw [decide_eq_true h5, Bool.true_and] at k4
      refine ⟨_, rfl, _, rfl, a, _, rfl, .inr hs4, _, _, rfl, rfl, .inl ⟨by omega, by omega⟩, _, _, rfl, rfl, ?_⟩
      have e3 : decide ((z0.length : Int) * (((z0 :: zs).map V.str).length : Nat) ≤ 36) = decide (z0.length * (z0 :: zs).length ≤ 36) := by
        rw [hln, Bool.eq_iff_iff]
        simp only [decide_eq_true_eq]
        constructor <;> intro h
        · exact_mod_cast h
        · exact_mod_cast h
      rw [← e3] at k4
      exact k4
end
/-! ### Stamps -/
structure ErrC (K : PySem.W.Frag) (mg : Str → Option Value) (x : Str) (D : Addr) : Prop where
  e : PySem.W.excIn K D [.type "ValueError", .type "Exception", .type "BaseException", .type "object"] "ValueError.__new__" = true
  g : mg x = some (.ref D)
  k : PySem.W.keepIn K (.ref D) = true
  b : PySem.W.subIn K (.ref D) (.type "BaseException") = some true
  t : PySem.W.typeIn K (.ref D) = some (.type "type")
/-- what stood stands, but for the tables and the object at a -/
def KepX (T : List Addr) (a : Addr) (H H' : Hp) : Prop := (∀ P ∈ T, TabG H' P) ∧ ∀ b o, b ∉ T → b ≠ a → H b = some o → H' b = some o
/-- an object of the program: a text, or something else -/
def Wd (K : PySem.W.Frag) (T : List Addr) (H : Hp) (x : V) : Prop := (∃ z : Str, x = .str z ∧ z.length ≤ sizeLine) ∨ (isTextV x = false ∧ ∃ t, PySem.W.kitOne K t (.type "str") = some false ∧ ∀ H2, Kep T H H2 → TyX K H2 x t)
/-- stamps stand at a: their list at l -/
def Stp (H : Hp) (C a l dx : Addr) (xs : List V) : Prop := H a = some (.ins C dx [("_words", .ref l)]) ∧ H l = some (.lst xs)
def spInit (K : PySem.W.Frag) (T : List Addr) (C D : Addr) : Sp := fun vs H Q E => ∃ (a dx : Addr) (xs : List V), vs = V.ref a :: xs ∧ H a = some (.ins C dx []) ∧ (∀ p ∈ T, TabG H p) ∧ xs.length ≤ 4000 ∧ (∀ x ∈ xs, Wd K T H x) ∧
  (stampsV xs = true → ∀ H3 l, H l = none → l ∉ T → l ≠ a → Stp H3 C a l dx xs → KepX T a H H3 → Q .non H3) ∧ (stampsV xs = false → ∀ H3, Kep T H H3 → E (.ref D) none H3)
theorem scInit : FnScope ["self", "words"] ((["self"] : List Str) ++ (["words"] : List Str)) (defScope sInit) := ⟨rfl, rfl, rfl, by decide +kernel, rfl, by decide +kernel, by decide +kernel⟩
structure Own (K : PySem.W.Frag) (C : Addr) : Prop where
  cls : Cls K C
  noW : NoAttr K C "_words"
section
variable {P : Program} {w : World} {K : PySem.W.Frag} {mg : Str → Option Value} {base : Heap} {T : List Addr} {C D fLow fText fAre fTape fNext fInks fInit cLow PLow cAre PAre : Addr}
theorem Kep.ty {H H1 H2 : Hp} (h : Kep T H H1) (h2 : Tbs T H1 H2) : Kep T H H2 := h.trans h2.kep
theorem ok_init {fd fdA fdT fdL : FuncData} (F : L2.Fun K "__init__" "Stamps.__init__" sInit fInit fd) (FA : FunC K "are_stamps" "are_stamps" sAre fAre fdA cAre) (FT : L2.Fun K "is_text" "is_text" sText fText fdT) (FL : FunC K "is_lowercase" "is_lowercase" sLow fLow fdL cLow) (X : Txt K mg C fLow fText fAre fTape fNext fInks) (B : Tab base mg T cLow PLow cAre PAre) (O : Own K C) (Er : ErrC K mg "InvalidStamps" D) :
    FnR P w K mg base (L2.CX P w) 6 fInit (spInit K T C D) := by
  obtain ⟨oc, od, kV, doc, pm, an, cdv, ct, osl, rfl, lk, hcd⟩ := F.ex
  have R := StX.fn_star (CX := L2.CX P w) (P := P) (w := w) (mg := mg) (base := base) (ps := ["self"]) (pv := "words") (N := ["self", "words"]) (k := 5)
    (sp := fun vs H Q E => ∃ (a p dx : Addr) (xs : List V), vs = [.ref a, .ref p] ∧ H p = some (.tup xs) ∧ H a = some (.ins C dx []) ∧ p ∉ T ∧ (∀ p ∈ T, TabG H p) ∧ xs.length ≤ 4000 ∧ (∀ x ∈ xs, Wd K T H x) ∧
      (stampsV xs = true → ∀ H3 l, H l = none → l ∉ T → l ≠ a → Stp H3 C a l dx xs → KepX T a H H3 → Q .non H3) ∧ (stampsV xs = false → ∀ H3, Kep T H H3 → E (.ref D) none H3))
    lk hcd scInit StX.cxUp (StX.bind_star1 (B := fun us => bindArgs _ ⟨us, []⟩) (fun _ => rfl) (fun _ _ _ => rfl)) (fun A outer s H vs Q E hr h => ?_)
  · intro A outer s H us vs Q E hr e0 r h
    refine R A outer s H us vs Q E hr e0 r ?_
    obtain ⟨a, dx, xs, rfl, ha, hT, hn, hx, k1, k2⟩ := h
    have hz : xs.length ≤ sizeLine := Nat.le_trans hn (by decide)
    refine ⟨[.ref a], xs, rfl, rfl, hz, fun p hp => ?_⟩
    have hpT : p ∉ T := free_tab hT hp
    have kn : Kep T H (upd H p (.tup xs)) := Kep.new hT hp
    have hpa : a ≠ p := ne_of_none ha hp
    refine ⟨a, p, dx, xs, rfl, upd_same, (upd_ne hpa).trans ha, hpT, kn.1, hn, fun x hx' => ?_, fun hv H3 l hl hlT hla st kx => ?_, fun hv H3 k => k2 hv H3 (kn.trans k)⟩
    · rcases hx x hx' with z | ⟨z1, t, z2, z3⟩
      · exact .inl z
      · exact .inr ⟨z1, t, z2, fun H2 q => z3 H2 (kn.trans q)⟩
    · have hl' : H l = none := kn.free hT hl
      exact k1 hv H3 l hl' hlT hla st ⟨kx.1, fun b o hb hba e => kx.2 b o hb hba (kn.2 b o hb e)⟩
  · obtain ⟨a, p, dx, xs, rfl, hp, ha, hpT, hT, hn, hx, k1, k2⟩ := h
    refine ⟨_, pss_cons (ps_if (pt_not (pt_val (pe_call (ok_are FA FT FL X B) hr (by rfl) X.gAre X.kAre (FA.toFun.binds fun _ _ _ _ _ _ us hl => match us, hl with | [_], _ => rfl) .nil L2.pass0 (pa_cons (pv 1) pa_nil))))
      (pss_one (ps_raise rfl (takes_of rfl rfl rfl rfl) (pmk_own PySem.F.excBase_ValueError Er.e Er.g Er.k (raises_own Er.b Er.t) (by rfl)))) pss_nil)
      (pss_one (ps_fld (pv 0) (pe_callTy call_list_of (by rfl) X.lst (by decide +kernel) (pa_cons (pv 1) pa_nil)) (by rfl))), ?_⟩
    refine ⟨_, rfl, p, xs, rfl, hT, .inl (.inl hp), hn, fun x hx' => ?_, fun H2 h2 => ⟨_, rfl, ?_⟩⟩
    · rcases hx x hx' with z | ⟨z1, t, z2, z3⟩
      · exact .inl z
      · exact .inr ⟨z1, t, z2, fun H2 q => z3 H2 q.kep⟩
    have hp2 : H2 p = some (.tup xs) := h2.kep.at hT hp fun _ z => by cases z
    have ha2 : H2 a = some (.ins C dx []) := h2.kep.at hT ha fun _ z => by cases z
    cases hv : stampsV xs with
    | false => exact iteT (k2 hv H2 h2.kep)
    | true =>
      refine iteF ?_
      refine ⟨_, rfl, p, xs, rfl, .inr (.inl (.inl hp2)), fun l hl => ⟨_, rfl, a, C, dx, [], rfl, ?_, O.cls, O.noW, by decide, ?_⟩⟩
      · exact (upd_ne (ne_of_none ha2 hl)).trans ha2
      · have hla : l ≠ a := fun z => by rw [z, ha2] at hl; cases hl
        have hlT : l ∉ T := free_tab h2.1 hl
        have haT : a ∉ T := not_tab hT ha fun _ z => by cases z
        refine k1 hv _ l (h2.kep.free hT hl) hlT hla ⟨upd_same, (upd_ne hla).trans upd_same⟩ ⟨fun q hq => ?_, fun b o hb hba e => ?_⟩
        · obtain ⟨ps, h1, h2'⟩ := h2.1 q hq
          exact ⟨ps, (upd_ne (show q ≠ a from fun z => haT (z ▸ hq))).trans ((upd_ne (show q ≠ l from fun z => hlT (z ▸ hq))).trans h1), h2'⟩
        · have e2 := h2.kep.2 b o hb e
          exact (upd_ne hba).trans ((upd_ne (ne_of_none e2 hl)).trans e2)
theorem KepX.kep {H H1 H3 : Hp} {a : Addr} (k : Kep T H H1) (ha : H a = none) (x : KepX T a H1 H3) : Kep T H H3 := ⟨x.1, fun b o hb e => x.2 b o hb (ne_of_none e ha) (k.2 b o hb e)⟩
theorem Wd.kep {H H1 : Hp} {x : V} (k : Kep T H H1) (h : Wd K T H x) : Wd K T H1 x := by
  rcases h with z | ⟨z1, t, z2, z3⟩
  · exact .inl z
  · exact .inr ⟨z1, t, z2, fun H2 q => z3 H2 (k.trans q)⟩
/-- a new object with its dict -/
theorem Kep.made {H : Hp} {x dx C : Addr} (hT : ∀ p ∈ T, TabG H p) (hx : H x = none) (hdx : H dx = none) (hne : dx ≠ x) : Kep T H (upd (upd H dx (.own x)) x (.ins C dx [])) :=
  (Kep.new hT hdx).trans (Kep.new (Kep.new hT hdx).1 ((upd_ne hne.symm).trans hx))
/-- C(*xs) for stamps: what it asks -/
def Makes (K : PySem.W.Frag) (T : List Addr) (C D : Addr) (H : Hp) (xs : List V) (Q : VK) (E : XK) : Prop := (∀ p ∈ T, TabG H p) ∧ xs.length ≤ 4000 ∧ (∀ x ∈ xs, Wd K T H x) ∧
  (stampsV xs = true → ∀ H3 a l dx, H a = none → H l = none → H dx = none → a ∉ T → l ∉ T → Stp H3 C a l dx xs → Kep T H H3 → Q (.ref a) H3) ∧ (stampsV xs = false → ∀ H3, Kep T H H3 → E (.ref D) none H3)
theorem Makes.init {H : Hp} {xs : List V} {Q : VK} {E : XK} (m : Makes K T C D H xs Q E) {x dx : Addr} (hx : H x = none) (hdx : H dx = none) (hne : dx ≠ x) :
    spInit K T C D (V.ref x :: xs) (upd (upd H dx (.own x)) x (.ins C dx [])) (fun v H2 => v = .non ∧ Q (.ref x) H2) E := by
  obtain ⟨hT, hn, hw, k1, k2⟩ := m
  have kn : Kep T H (upd (upd H dx (.own x)) x (.ins C dx [])) := Kep.made hT hx hdx hne
  exact ⟨x, dx, xs, rfl, upd_same, kn.1, hn, fun y hy => (hw y hy).kep kn, fun hv H3 l hl hlT hla st kx => ⟨rfl, k1 hv H3 x l dx hx (kn.free hT hl) hdx (free_tab hT hx) hlT st (KepX.kep kn hx kx)⟩, fun hv H3 k => k2 hv H3 (kn.trans k)⟩
def spOf (K : PySem.W.Frag) (T : List Addr) (C D : Addr) : Sp := fun vs H Q E => ∃ y, vs = [V.ref C, y] ∧
  ((∃ p xs, y = V.ref p ∧ H p = some (.lst xs) ∧ Makes K T C D H xs Q E) ∨ (∃ t, TyX K H y t ∧ PySem.W.kitOne K t (.type "list") = some false ∧ E (.ref D) none H))
theorem scOf : FnScope ["cls", "words"] ["cls", "words"] (defScope sOf) := ⟨rfl, rfl, rfl, by decide +kernel, rfl, by decide +kernel, by decide +kernel⟩
theorem ok_of {f : Addr} {fd : FuncData} (F : L2.Fun K "of" "Stamps.of" sOf f fd) (FI : FnR P w K mg base (L2.CX P w) 6 fInit (spInit K T C D)) (M : Mk K C fInit) (X : Txt K mg C fLow fText fAre fTape fNext fInks) (Er : ErrC K mg "InvalidStamps" D) :
    FnOk P w K mg base (L2.CX P w) 8 f fd ["cls", "words"] (spOf K T C D) := by
  refine F.okX scOf (fun vs H Q E h => ?_) (fun cdv A outer s H vs Q E hr h => ?_)
  · obtain ⟨y, rfl, _⟩ := h
    rfl
  · obtain ⟨y, rfl, h⟩ := h
    refine ⟨_, pss_cons (ps_if (pt_not (pt_val (pe_callB call_isi (by rfl) X.isi boot_isinstance (pa_cons (pv 1) (pa_cons (pe_bltn (v := .ty "list") (by rfl) X.lst (by decide +kernel) rfl) pa_nil)))))
      (pss_one (ps_raise rfl (takes_of rfl rfl rfl rfl) (pmk_own PySem.F.excBase_ValueError Er.e Er.g Er.k (raises_own Er.b Er.t) (by rfl)))) pss_nil)
      (pss_one (ps_ret (pe_makeS M FI hr (passes_call (E := E) (takes_of rfl rfl rfl rfl) (fun _ _ _ _ h => h)) (pv 0) (pv 1)))), ?_⟩
    rcases h with ⟨p, xs, rfl, hp, m⟩ | ⟨t, ht, hk, he⟩
    · refine ⟨_, rfl, _, _, _, _, _, rfl, .ty _, .base (.lst hp), kit_ty (r := true) (by decide +kernel), true, rfl, iteF ?_⟩
      refine ⟨_, rfl, rfl, _, rfl, p, xs, rfl, .inr (.inl (.inl hp)), fun x dx hx hdx hne => m.init hx hdx hne⟩
    · refine ⟨_, rfl, _, _, _, _, _, rfl, .ty _, ht, hk, false, rfl, iteT ?_⟩
      exact he
end
/-! ### the law's tape -/
/-- a tape at t that was asked n times at most -/
def Tp (H : Hp) (t : Addr) (n : Nat) : Prop := ∃ a b c : Int, H t = some (.lst [.int a, .int b, .int c]) ∧ 0 ≤ a ∧ 0 ≤ b ∧ b < 10 ^ 40 ∧ 0 ≤ c ∧ c ≤ n
/-- all but the thing at t is as it was -/
def But (t : Addr) (H H' : Hp) : Prop := ∀ b, b ≠ t → H' b = H b
theorem But.put {H : Hp} {t : Addr} {o : HO} : But t H (upd H t o) := fun _ hb => upd_ne hb
theorem But.trans {H H1 H2 : Hp} {t : Addr} (a : But t H H1) (b : But t H1 H2) : But t H H2 := fun c hc => (b c hc).trans (a c hc)
def spTape (K : PySem.W.Frag) : Sp := fun vs H Q _ => ∃ (p : Addr) (ns : List Int), vs = [.ref p] ∧ SqL K H p (ns.map V.int) ∧ ns.length ≤ 63 ∧ ∀ t H', H t = none → Tp H' t 0 → L2.Same H H' → Q (.ref t) H'
def spNext : Sp := fun vs H Q _ => ∃ (t : Addr) (many : Int) (n : Nat), vs = [.ref t, .int many] ∧ Tp H t n ∧ n < 2 ^ 40 ∧ 0 < many ∧ many < 1000000 ∧ ∀ d H', 0 ≤ d → d < many → Tp H' t (n + 1) → But t H H' → Q (.int d) H'
section
variable {P : Program} {w : World} {K : PySem.W.Frag} {mg : Str → Option Value} {base : Heap} {T : List Addr} {C D fLow fText fAre fTape fNext fInks fInit cLow PLow cAre PAre : Addr}
theorem same_newT {H : Hp} {p : Addr} {o : HO} (e : H p = none) : L2.Same H (upd H p o) := fun b u hb => (upd_ne (ne_of_none hb e)).trans hb
theorem scTape : FnScope ["script", "digits", "mix", "piece"] ["script"] (defScope sTape) := ⟨rfl, rfl, rfl, by decide +kernel, rfl, by decide +kernel, by decide +kernel⟩
theorem cut_60 (ns : List Int) : cutV (ns.map V.int) none (some 60) = (ns.take 60).map V.int := by
  unfold cutV
  rw [HT.sIx_none, List.drop_zero, Nat.sub_zero, show (60 : Int) = ((60 : Nat) : Int) from rfl, HT.sIx_nat, ← List.map_take]
  by_cases h : 60 ≤ (ns.map V.int).length
  · rw [Nat.min_eq_left h]
  · rw [Nat.min_eq_right (by omega), List.length_map, List.take_of_length_le (Nat.le_refl _), List.take_of_length_le (by rw [List.length_map] at h; omega)]
theorem nat_lt_of {x : Int} {n m : Nat} (h0 : 0 ≤ x) (h : x < (m : Int)) (hm : m ≤ 2 ^ n) : x.natAbs < 2 ^ n := by omega
theorem ok_tape {f : Addr} {fd : FuncData} (F : L2.Fun K "_law_stock" "_law_stock" sTape f fd) (X : Txt K mg C fLow fText fAre fTape fNext fInks) : FnOk P w K mg base CX0 1 f fd ["script"] (spTape K) := by
  refine F.ok scTape (fun vs H Q E h => ?_) (fun cdv A outer s H vs Q E hr h => ?_)
  · obtain ⟨p, ns, rfl, _⟩ := h
    rfl
  · obtain ⟨p, ns, rfl, hs, h63, q⟩ := h
    refine ⟨_, (pss_cons (ps_asg (pe_tup (pa_cons pe_int (pa_cons pe_int pa_nil))) (pg_tup rfl (pgs_cons (pg_name (i := 1) scTape.nd rfl (Or.inl rfl)) (pgs_cons (pg_name (i := 2) scTape.nd rfl (Or.inl rfl)) pgs_nil))))
      (pss_cons (ps_for PassesOwn.never rfl (pi_list (pe_slice sl_list (pv 0) po_none (po_some pe_int))) (pg_name (i := 3) scTape.nd rfl (Or.inl rfl)) (C8.pss_cut (ps_if (pt_cmpR op_ge (pe_callB call_abs (by rfl) X.abs (by decide +kernel) (pa_cons (pv 3) pa_nil)) (pe_op op_pow pe_int pe_int) (by rfl)) (pss_one (ps_set (i := 1) scTape.nd rfl (.inl rfl) (pe_op op_add (pe_op op_mulW (pv 1) (pe_op op_powW (pe_op op_pow pe_int pe_int) pe_int)) (pe_op op_mod (pe_callB call_abs (by rfl) X.abs (by decide +kernel) (pa_cons (pv 3) pa_nil)) (pe_op op_powW (pe_op op_pow pe_int pe_int) pe_int))))) pss_nil)
      (pss_one (ps_set (i := 2) scTape.nd rfl (.inl rfl) (pe_op op_mod (pe_op op_add (pe_op op_add (pe_op op_mul (pv 2) pe_int) (pe_op op_mod (pv 3) pe_int)) pe_int) pe_int)))))
      (pss_one (ps_ret (pe_lst (pa_cons (pv 1) (pa_cons (pv 2) (pa_cons pe_int pa_nil)))))))), ?_⟩
    have bp : CPowW ((10 : Int) ^ Int.toNat 60) 5 := ⟨by decide, by decide +kernel⟩
    obtain ⟨B, hB⟩ : ∃ B : Nat, B = 10 ^ 300 := ⟨_, rfl⟩
    have eB : ((10 : Int) ^ Int.toNat 60) ^ Int.toNat 5 = (B : Int) := by rw [hB]; decide +kernel
    have B0 : 0 < B := by rw [hB]; decide +kernel
    have B2 : B ≤ 2 ^ 1000 := by rw [hB]; decide +kernel
    refine ⟨(by decide : 2 ≤ sizeLine), fun tp htp => ⟨tp, _, rfl, .inl (.inl upd_same), rfl, _, _, rfl, _, _, rfl, rfl, ?_⟩⟩
    have smt := same_newT (o := .tup [.int 0, .int 4121]) htp
    generalize upd H tp (.tup [.int 0, .int 4121]) = H1 at smt
    refine ⟨_, rfl, _, rfl, p, _, rfl, smt.seq hs, fun sl hsl => ?_⟩
    have sm0 := smt.trans (same_newT (o := .lst (cutV (ns.map V.int) none (some 60))) hsl)
    have hl0 : upd H1 sl (.lst (cutV (ns.map V.int) none (some 60))) sl = some (.lst ((ns.take 60).map V.int)) := by rw [upd_same, cut_60]
    generalize upd H1 sl (.lst (cutV (ns.map V.int) none (some 60))) = G at sm0 hl0
    refine ⟨sl, rfl, ⟨_, .inl (.inl hl0)⟩, for_list (xs := (ns.take 60).map V.int) (fun i σ H' => H' = G ∧ ∃ (v3 : Option V) (dg : Nat) (mx : Int), σ = [some (.ref p), some (.int (dg : Nat)), some (.int mx), v3] ∧ dg < 2 ^ (1001 * i + 1) ∧ 0 ≤ mx ∧ mx < 170141183460469231731687303715884105727)
      ⟨rfl, none, 0, 4121, rfl, by omega, by decide, by decide⟩ (fun i σ H' hi p => by rw [p.1]; exact .inl (.inl hl0)) (fun i x σ H' hx pp => ?_) (fun σ H' pp => ?_)⟩
    · obtain ⟨rfl, v3, dg, mx, rfl, hdg, m0, m1⟩ := pp
      rw [List.getElem?_map] at hx
      obtain ⟨y, hy, rfl⟩ := Option.map_eq_some_iff.mp hx
      have hi : i < 60 := by
        have := (List.getElem?_eq_some_iff.mp hy).1
        rw [List.length_take] at this
        omega
      refine ⟨fun σ' H'' => H'' = H' ∧ ∃ dg' : Nat, σ' = [some (.ref p), some (.int (dg' : Nat)), some (.int mx), some (.int y)] ∧ dg' < 2 ^ (1001 * (i + 1) + 1), ?_, ?_⟩
      · refine ⟨_, rfl, _, rfl, _, _, rfl, rfl, ⟨by decide, by decide, by decide⟩, _, _, rfl, rfl, _, rfl, ?_⟩
        refine ite2 (fun _ => ?_) (fun _ => ?_)
        · refine ⟨_, rfl, _, _, rfl, rfl, ⟨by decide, by decide, by decide⟩, _, _, rfl, rfl, bp, ?_⟩
          refine ⟨_, _, rfl, rfl, (by rw [eB]; exact wide_mul (a := 1001 * i + 1) (b := 1001) (by simpa using hdg) (by simp only [Int.natAbs_natCast]; exact Nat.lt_of_le_of_lt B2 (Nat.pow_lt_pow_right (by decide) (by decide))) (by omega) (by omega) (by omega)), ?_⟩
          refine ⟨_, rfl, _, rfl, _, _, rfl, rfl, ⟨by decide, by decide, by decide⟩, _, _, rfl, rfl, bp, ?_⟩
          refine ⟨_, _, rfl, rfl, (by rw [eB]; omega), _, _, rfl, rfl, rfl, dg * B + ((if y < 0 then -y else y) % (B : Int)).toNat, ?_, ?_⟩
          · have h0 := Int.emod_nonneg (if y < 0 then -y else y) (b := (B : Int)) (by omega)
            show [some (V.ref p), some (V.int ((dg : Int) * ((10 : Int) ^ Int.toNat 60) ^ Int.toNat 5 + (if y < 0 then -y else y) % ((10 : Int) ^ Int.toNat 60) ^ Int.toNat 5)), some (V.int mx), some (V.int y)] = _
            rw [eB]
            generalize (if y < 0 then -y else y) % (B : Int) = r at h0
            have : (dg : Int) * (B : Int) + r = ((dg * B + r.toNat : Nat) : Int) := by
              rw [Int.natCast_add, Int.natCast_mul]
              omega
            rw [this]
          · have h0 := Int.emod_nonneg (if y < 0 then -y else y) (b := (B : Int)) (by omega)
            have h1 := Int.emod_lt_of_pos (if y < 0 then -y else y) (b := (B : Int)) (by omega)
            generalize (if y < 0 then -y else y) % (B : Int) = r at h0 h1
            have h2 : dg * B + r.toNat < (dg + 1) * B := by rw [Nat.succ_mul]; omega
            have h3 : (dg + 1) * B ≤ 2 ^ (1001 * i + 1) * 2 ^ 1000 := Nat.mul_le_mul (by omega) B2
            rw [← Nat.pow_add] at h3
            exact Nat.lt_of_lt_of_le h2 (Nat.le_trans h3 (Nat.pow_le_pow_right (by decide) (by omega)))
        · exact ⟨rfl, dg, rfl, Nat.lt_of_lt_of_le hdg (Nat.pow_le_pow_right (by decide) (by omega))⟩
      · rintro σ' H'' ⟨rfl, dg', rfl, hdg'⟩
        refine ⟨_, rfl, _, _, rfl, rfl, .inr ⟨by decide, by decide⟩, _, rfl, _, _, rfl, rfl, (by decide : (0 : Int) < 2305843009213693951), _, _, rfl, rfl, _, _, rfl, rfl, _, _, rfl, rfl, (by decide : (0 : Int) < 170141183460469231731687303715884105727), ?_⟩
        exact ⟨rfl, _, dg', _, rfl, hdg', Int.emod_nonneg _ (by decide), Int.emod_lt_of_pos _ (by decide)⟩
    · obtain ⟨rfl, v3, dg, mx, rfl, hdg, m0, m1⟩ := pp
      refine ⟨_, rfl, _, rfl, (by decide : 3 ≤ sizeLine), fun t ht => q t _ (sm0.free ht) ⟨_, _, _, upd_same, by omega, m0, ?_, by decide, by decide⟩ (sm0.trans (same_newT ht))⟩
      have e : (10 : Int) ^ 40 = 10000000000000000000000000000000000000000 := by decide
      rw [e]
      omega
end
end Ov

set_option Elab.async false
set_option linter.all false
set_option maxRecDepth 100000
set_option maxHeartbeats 4000000
namespace Ov
open PySem PySem.Spec PyProof.Rows L2 GxR
section
variable {P : Program} {w : World} {K : PySem.W.Frag} {mg : Str → Option Value} {base : Heap} {T : List Addr} {C D fLow fText fAre fTape fNext fInks fInit cLow PLow cAre PAre : Addr}
theorem scNext : FnScope ["stock", "many", "found", "mixed"] ["stock", "many"] (defScope sNext) := ⟨rfl, rfl, rfl, by decide +kernel, rfl, by decide +kernel, by decide +kernel⟩
theorem pow3_bits {x : Int} (h0 : 0 ≤ x) (h : x < 2 ^ 140) : CPowW x 3 := by
  refine ⟨by decide, ?_⟩
  have e : (2 : Int) ^ 140 = 1393796574908163946345982392040522594123776 := by decide
  have e2 : (2 : Nat) ^ 140 = 1393796574908163946345982392040522594123776 := by decide
  have hb : Builtin.Int.intBits x ≤ 140 := bits_le (by rw [e2]; omega) (by decide)
  have e3 : (2 : Int) ^ 27 = 134217728 := by decide
  rw [e3]
  omega
theorem ok_next {f : Addr} {fd : FuncData} (F : L2.Fun K "_law_roll" "_law_roll" sNext f fd) (X : Txt K mg C fLow fText fAre fTape fNext fInks) : FnOk P w K mg base CX0 1 f fd ["stock", "many"] spNext := by
  refine F.ok scNext (fun vs H Q E h => ?_) (fun cdv A outer s H vs Q E hr h => ?_)
  · obtain ⟨t, m, n, rfl, _⟩ := h
    rfl
  · obtain ⟨t, m, n, rfl, ⟨a, b, c, ht, ha, hb, hb2, hc, hcn⟩, hn, hm, hm2, q⟩ := h
    refine ⟨_, pss_cons (ps_if (pt_cmpR op_gt (pe_ix ix_seq (pv 0) pe_int fun _ _ => rfl) pe_int (by rfl))
        (pss_cons (ps_set (i := 2) scNext.nd rfl (.inl rfl) (pe_op op_mod (pe_ix ix_seq (pv 0) pe_int fun _ _ => rfl) (pv 1)))
          (pss_cons (ps_asg (pe_op op_fdiv (pe_ix ix_seq (pv 0) pe_int fun _ _ => rfl) (pv 1)) (pg_sub (pv 0) pe_int set_list)) (pss_one (ps_ret (pv 2))))) pss_nil)
      (pss_cons (ps_asg (pe_op op_add (pe_ix ix_seq (pv 0) pe_int fun _ _ => rfl) pe_int) (pg_sub (pv 0) pe_int set_list))
      (pss_cons (ps_set (i := 3) scNext.nd rfl (.inl rfl) (pe_op op_mod (pe_op op_powW (pe_op op_add (pe_ix ix_seq (pv 0) pe_int fun _ _ => rfl) (pe_op op_mul pe_int (pe_ix ix_seq (pv 0) pe_int fun _ _ => rfl))) pe_int) pe_int))
      (pss_cons (ps_set (i := 3) scNext.nd rfl (.inl rfl) (pe_op op_mod (pe_op op_powW (pe_op op_add (pv 3) (pe_op op_mul pe_int (pe_ix ix_seq (pv 0) pe_int fun _ _ => rfl))) pe_int) (pe_op op_add (pe_op op_pow pe_int pe_int) pe_int)))
      (pss_one (ps_ret (pe_op op_mod (pe_op op_fdiv (pv 3) pe_int) (pv 1))))))), ?_⟩
    have at0 : ∀ {x y z : V}, atI [x, y, z] 0 = some x := fun {x y z} => by simp [atI, ixN]
    have at1 : ∀ {x y z : V}, atI [x, y, z] 1 = some y := fun {x y z} => by simp [atI, ixN]
    have at2 : ∀ {x y z : V}, atI [x, y, z] 2 = some z := fun {x y z} => by simp [atI, ixN]
    refine ⟨_, rfl, .inl ⟨t, _, 0, .int a, rfl, rfl, .inl (.inl ht), at0, _, _, rfl, rfl, _, rfl, ?_⟩⟩
    refine ite2 (fun hk => ?_) (fun hk => ?_)
    · refine ⟨_, rfl, .inl ⟨t, _, 0, .int a, rfl, rfl, .inl (.inl ht), at0, _, rfl, _, _, rfl, rfl, hm, ?_⟩⟩
      refine ⟨_, rfl, .inl ⟨t, _, 0, .int a, rfl, rfl, .inl (.inl ht), at0, _, rfl, _, _, rfl, rfl, ⟨hm, by omega⟩, ?_⟩⟩
      refine ⟨_, rfl, t, _, 0, 0, rfl, rfl, ht, by simp [ixN], _, rfl, ?_⟩
      exact q _ _ (Int.emod_nonneg _ (by omega)) (Int.emod_lt_of_pos _ hm) ⟨_, _, _, upd_same, Int.ediv_nonneg ha (by omega), hb, hb2, hc, by omega⟩ But.put
    · refine ⟨_, rfl, .inl ⟨t, _, 2, .int c, rfl, rfl, .inl (.inl ht), at2, _, _, rfl, rfl, ?_⟩⟩
      refine ⟨_, rfl, t, _, 2, 2, rfl, rfl, ht, by simp [ixN], ?_⟩
      have h2 : upd H t (.lst [.int a, .int b, .int (c + 1)]) t = some (.lst [.int a, .int b, .int (c + 1)]) := upd_same
      have e40 : (10 : Int) ^ 40 = 10000000000000000000000000000000000000000 := by decide
      have e140 : (2 : Int) ^ 140 = 1393796574908163946345982392040522594123776 := by decide
      have en : (2 : Nat) ^ 40 = 1099511627776 := by decide
      rw [en] at hn
      rw [e40] at hb2
      refine ⟨_, rfl, .inl ⟨t, _, 1, .int b, rfl, rfl, .inl (.inl h2), at1, _, rfl, .inl ⟨t, _, 2, .int (c + 1), rfl, rfl, .inl (.inl h2), at2, _, _, rfl, rfl, .inl ⟨by decide, by decide⟩, _, _, rfl, rfl, ?_⟩⟩⟩
      refine ⟨_, _, rfl, rfl, pow3_bits (by omega) (by rw [e140]; omega), _, _, rfl, rfl, (by decide : (0 : Int) < 170141183460469231731687303715884105727), ?_⟩
      generalize hm1 : ((b + 15487469 * (c + 1)) ^ Int.toNat 3) % 170141183460469231731687303715884105727 = m1
      have m1a : 0 ≤ m1 := by rw [← hm1]; exact Int.emod_nonneg _ (by decide)
      have m1b : m1 < 170141183460469231731687303715884105727 := by
        rw [← hm1]
        exact Int.emod_lt_of_pos _ (by decide)
      refine ⟨_, rfl, _, rfl, .inl ⟨t, _, 2, .int (c + 1), rfl, rfl, .inl (.inl h2), at2, _, _, rfl, rfl, .inl ⟨by decide, by decide⟩, _, _, rfl, rfl, ?_⟩⟩
      refine ⟨_, _, rfl, rfl, pow3_bits (by omega) (by rw [e140]; omega), _, _, rfl, rfl, ⟨by decide, by decide, by decide⟩, _, _, rfl, rfl, _, _, rfl, rfl, (by decide : (0 : Int) < 10 ^ Int.toNat 38 + 133), ?_⟩
      generalize ((m1 + 32452867 * (c + 1)) ^ Int.toNat 3) % (10 ^ Int.toNat 38 + 133) = m2
      refine ⟨_, rfl, _, _, rfl, rfl, ⟨by decide, by decide⟩, _, rfl, _, _, rfl, rfl, hm, ?_⟩
      exact q _ _ (Int.emod_nonneg _ (by omega)) (Int.emod_lt_of_pos _ hm) ⟨_, _, _, upd_same, ha, hb, by rw [e40]; exact hb2, by omega, by omega⟩ But.put
end
end Ov

set_option Elab.async false
set_option linter.all false
set_option maxRecDepth 100000
set_option maxHeartbeats 4000000
namespace Ov
open PySem PySem.Spec PyProof.Rows L2 GxR
/-- what stood stands, but for the thing at t -/
def Bt (t : Addr) (H H' : Hp) : Prop := ∀ b o, b ≠ t → H b = some o → H' b = some o
theorem Bt.refl {t : Addr} {H : Hp} : Bt t H H := fun _ _ _ h => h
theorem Bt.trans {t : Addr} {H H1 H2 : Hp} (a : Bt t H H1) (b : Bt t H1 H2) : Bt t H H2 := fun c o hc e => b c o hc (a c o hc e)
theorem But.bt {t : Addr} {H H1 : Hp} (a : But t H H1) : Bt t H H1 := fun c o hc e => (a c hc).trans e
theorem Bt.new {t : Addr} {H : Hp} {p : Addr} {o : HO} (e : H p = none) : Bt t H (upd H p o) := fun b u _ hb => (upd_ne (ne_of_none hb e)).trans hb
theorem Bt.put {t : Addr} {H H1 : Hp} {p : Addr} {o : HO} (a : Bt t H H1) (e : H p = none) : Bt t H (upd H1 p o) := fun b u hb hu => (upd_ne (ne_of_none hu e)).trans (a b u hb hu)
theorem Tp.at {t : Addr} {H H' : Hp} {n : Nat} (h : Tp H t n) (e : H' t = H t) : Tp H' t n := by
  obtain ⟨a, b, c, h1, h2⟩ := h
  exact ⟨a, b, c, e.trans h1, h2⟩
theorem Tp.new {t : Addr} {H : Hp} {n : Nat} {p : Addr} {o : HO} (h : Tp H t n) (e : H p = none) : Tp (upd H p o) t n := h.at (by
  obtain ⟨a, b, c, h1, h2⟩ := h
  exact upd_ne (ne_of_none h1 e))
theorem Tp.ne {t : Addr} {H : Hp} {n : Nat} {p : Addr} (h : Tp H t n) (e : H p = none) : t ≠ p := by
  obtain ⟨a, b, c, h1, h2⟩ := h
  exact ne_of_none h1 e
theorem Tp.mono {t : Addr} {H : Hp} {n m : Nat} (h : Tp H t n) (e : n ≤ m) : Tp H t m := by
  obtain ⟨a, b, c, h1, h2, h3, h4, h5, h6⟩ := h
  exact ⟨a, b, c, h1, h2, h3, h4, h5, by omega⟩
theorem Bt.free {t : Addr} {H H1 : Hp} (a : Bt t H H1) {p : Addr} (hp : p ≠ t) (e : H1 p = none) : H p = none := by
  cases q : H p with
  | none => rfl
  | some o => rw [a p o hp q] at e; cases e
def lowL (l : List Nat) : Bool := l.all fun c => decide (97 ≤ c) && decide (c ≤ 122)
theorem join_nil : ∀ ls : List (List Nat), TL.joinL [] ls = ls.flatten
  | [] => rfl
  | [p] => by simp [TL.joinL]
  | p :: q :: r => by
    have := join_nil (q :: r)
    simp only [TL.joinL, List.nil_append, this, List.flatten_cons]
theorem join_cps (e : Str) (he : e.cps.toList = []) (ys : List Str) : (Txt.join e ys).cps.toList = (ys.map fun z => z.cps.toList).flatten := by
  show (Builtin.Str.glued e ys).cps.toList = _
  rw [StrLaws.glued_eq_join]
  have := TL.tl_join e ys
  unfold TL.tl at this
  rw [this, he, join_nil]
/-- one lowercase letter -/
def One (z : Str) : Prop := ∃ c, z.cps.toList = [c] ∧ 97 ≤ c ∧ c ≤ 122
theorem join_ones (e : Str) (he : e.cps.toList = []) : ∀ ys : List Str, (∀ z ∈ ys, One z) → (Txt.join e ys).length = ys.length ∧ lowB (Txt.join e ys) = true := by
  intro ys h
  have key : ((ys.map fun z => z.cps.toList).flatten).length = ys.length ∧ ((ys.map fun z => z.cps.toList).flatten).all (fun c => decide (97 ≤ c) && decide (c ≤ 122)) = true := by
    induction ys with
    | nil => exact ⟨rfl, rfl⟩
    | cons z r ih =>
      obtain ⟨i1, i2⟩ := ih fun y hy => h y (List.mem_cons_of_mem _ hy)
      obtain ⟨c, hc, h1, h2⟩ := h z List.mem_cons_self
      simp only [List.map_cons, List.flatten_cons, hc, List.length_append, List.all_append, i1, i2]
      refine ⟨by simp; omega, by simp [h1, h2]⟩
  rw [← join_cps e he] at key
  refine ⟨?_, key.2⟩
  rw [← key.1]
  simp [Str.length]
def spInks (K : PySem.W.Frag) : Sp := fun vs H Q _ => ∃ (t : Addr) (n : Nat), vs = [.ref t] ∧ Tp H t n ∧ n + 70 < 2 ^ 40 ∧
  ∀ (l : Addr) (ws : List Str) H', H l = none → H' l = some (.lst (ws.map V.str)) → stampsV (ws.map V.str) = true → Tp H' t (n + 70) → Bt t H H' → Q (.ref l) H'
section
variable {P : Program} {w : World} {K : PySem.W.Frag} {mg : Str → Option Value} {base : Heap} {T : List Addr} {C D fLow fText fAre fTape fNext fInks fInit cLow PLow cAre PAre : Addr}
theorem wide_at {d1 d2 d : Int} (a0 : 0 ≤ d1) (a1 : d1 < 8) (b0 : 0 ≤ d2) (b1 : d2 < 3) (h0 : 0 ≤ d) (h4 : d < 3) : ∃ W : Nat, atI [V.int (1 + d1), V.int (1 + d2), V.int 3] d = some (.int (W : Nat)) ∧ 1 ≤ W ∧ W ≤ 8 := by
  have : d = 0 ∨ d = 1 ∨ d = 2 := by omega
  rcases this with rfl | rfl | rfl
  · refine ⟨(1 + d1).toNat, ?_, by omega, by omega⟩
    rw [show (((1 + d1).toNat : Nat) : Int) = 1 + d1 by omega]
    simp [atI, ixN]
  · refine ⟨(1 + d2).toNat, ?_, by omega, by omega⟩
    rw [show (((1 + d2).toNat : Nat) : Int) = 1 + d2 by omega]
    simp [atI, ixN]
  · exact ⟨3, by simp [atI, ixN], by decide, by decide⟩
theorem pool_at (d : Int) (h0 : 0 ≤ d) (h4 : d < 4) : ∃ z : Str, atI [V.str "a", V.str "ab", V.str "abc", V.str "abcdefghijklmnopqrstuvwxyz"] d = some (.str z) ∧ 1 ≤ z.length ∧ z.length ≤ 26 ∧ lowB z = true := by
  have : d = 0 ∨ d = 1 ∨ d = 2 ∨ d = 3 := by omega
  rcases this with rfl | rfl | rfl | rfl
  · exact ⟨"a", by simp [atI, ixN], by decide +kernel, by decide +kernel, by decide +kernel⟩
  · exact ⟨"ab", by simp [atI, ixN], by decide +kernel, by decide +kernel, by decide +kernel⟩
  · exact ⟨"abc", by simp [atI, ixN], by decide +kernel, by decide +kernel, by decide +kernel⟩
  · exact ⟨"abcdefghijklmnopqrstuvwxyz", by simp [atI, ixN], by decide +kernel, by decide +kernel, by decide +kernel⟩
theorem pool_ch {z : Str} (hl : lowB z = true) {d : Int} (h0 : 0 ≤ d) (hd : d < z.length) : ∃ c, atI z.cps.toList d = some c ∧ One ⟨#[c]⟩ := by
  have hk : d.toNat < z.cps.toList.length := by
    have : z.cps.toList.length = z.length := by simp [Str.length]
    omega
  have e : d = (d.toNat : Int) := by omega
  have z1 : atI z.cps.toList (d.toNat : Int) = some z.cps.toList[d.toNat] := atI_nat (List.getElem?_eq_getElem hk)
  rw [← e] at z1
  have := List.all_eq_true.mp hl _ (List.getElem_mem hk)
  simp only [Bool.and_eq_true, decide_eq_true_eq] at this
  exact ⟨_, z1, _, rfl, this.1, this.2⟩
/-- the words made so far -/
structure Ws (W : Nat) (i : Nat) (ws : List Str) : Prop where
  len : ws.length ≤ i
  some : 0 < i → 0 < ws.length
  nd : ws.Nodup
  all : ∀ z ∈ ws, z.length = W ∧ lowB z = true
theorem Ws.ok {W i : Nat} {ws : List Str} (h : Ws W i ws) (h1 : 1 ≤ W) (h8 : W ≤ 8) (hi : 0 < i) (hi6 : i ≤ 6) (h36 : W * i ≤ 36) : stampsV (ws.map V.str) = true := by
  have hl := h.some hi
  have hli := h.len
  have e : (ws.map V.str).map strV = ws := by rw [List.map_map]; exact List.map_id ws
  have hd : (ws.headD Str.empty).length = W := by
    cases ws with
    | nil => simp at hl
    | cons z r => exact (h.all z List.mem_cons_self).1
  unfold stampsV
  rw [e, List.length_map, decide_eq_true (by omega : 1 ≤ ws.length), decide_eq_true (by omega : ws.length ≤ 6), Bool.true_and, Bool.true_and, Bool.and_eq_true]
  refine ⟨?_, ?_⟩
  · rw [List.all_eq_true]
    intro x hx
    obtain ⟨z, hz, rfl⟩ := List.mem_map.mp hx
    obtain ⟨q1, q2⟩ := h.all z hz
    show textB z 8 = true
    unfold textB
    rw [q2, q1]
    simp
    omega
  · unfold tailB
    rw [hd, Bool.and_eq_true, Bool.and_eq_true]
    refine ⟨?_, decide_eq_true ((once_nodup ws).mpr h.nd), decide_eq_true ?_⟩
    · rw [List.all_eq_true]
      intro z hz
      exact decide_eq_true (h.all z hz).1
    · exact Nat.le_trans (Nat.mul_le_mul_left W hli) h36
theorem inV_str (z : Str) (ws : List Str) : inV (.str z) (ws.map V.str) = true ↔ z ∈ ws := by
  unfold inV
  rw [List.any_map, List.any_eq_true]
  constructor
  · rintro ⟨y, hy, e⟩
    have : y = z := by simpa [eqV] using e
    exact this ▸ hy
  · intro h
    exact ⟨z, h, by simp [eqV]⟩
abbrev NInks : List Str := ["stock", "wide", "pool", "found", "turn", "one", "spot"]
theorem scInks : FnScope NInks ["stock"] (defScope sInks) := ⟨rfl, rfl, rfl, by decide +kernel, rfl, by decide +kernel, by decide +kernel⟩
theorem pe_next {X : Cx} {f : Addr} {fd : FuncData} (F : FnOk X.prog X.w X.K X.mg X.base CX0 1 f fd ["stock", "many"] spNext) (hb : Binds X.K fd ["stock", "many"] []) (hr : Room 1 X.A) (hg : Gl X "_law_roll") (hm : X.mg "_law_roll" = some (.ref f)) (hk : PySem.W.keepIn X.K (.ref f) = true)
    {e1 e2 : Expr} {p pos : Pos} {ta : TA} (ha : PA X [e1, e2] ta) (he : starEach [e1, e2] X.env = (false, eval e1 X.env) :: starEach [e2] X.env := by rfl) (hpl : (backTo pos (starEach [e2] X.env)).any (·.1) = false := by rfl) : PE X (.Call (.Name "_law_roll" p) [e1, e2] [] pos) (tCall spNext [] E0 ta) :=
  pe_call F hr hg hm hk hb .nil L2.pass0 ha (by decide) he hpl
theorem ok_inks {f : Addr} {fd fdN : FuncData} (F : L2.Fun K "_law_words" "_law_words" sInks f fd) (FN : L2.Fun K "_law_roll" "_law_roll" sNext fNext fdN) (X : Txt K mg C fLow fText fAre fTape fNext fInks) : FnOk P w K mg base CX0 2 f fd ["stock"] (spInks K) := by
  have N1 : FnOk P w K mg base CX0 1 fNext fdN ["stock", "many"] spNext := ok_next FN X
  have bN : Binds K fdN ["stock", "many"] [] := FN.binds fun _ _ _ _ _ _ us hl => match us, hl with | [_, _], _ => rfl
  refine F.ok scInks (fun vs H Q E h => ?_) (fun cdv A outer s H vs Q E hr h => ?_)
  · obtain ⟨t, n, rfl, _⟩ := h
    rfl
  · obtain ⟨t, n, rfl, ht, hn, q⟩ := h
    refine ⟨_, (pss_cons (ps_set (i := 1) scInks.nd rfl (.inl rfl) (pe_ix ix_seq (pe_lst (pa_cons (pe_op op_add pe_int (pe_next N1 bN hr (by rfl) X.gNext X.kNext (pa_cons (pv 0) (pa_cons pe_int pa_nil)))) (pa_cons (pe_op op_add pe_int (pe_next N1 bN hr (by rfl) X.gNext X.kNext (pa_cons (pv 0) (pa_cons pe_int pa_nil)))) (pa_cons pe_int pa_nil)))) (pe_next N1 bN hr (by rfl) X.gNext X.kNext (pa_cons (pv 0) (pa_cons pe_int pa_nil))) fun _ _ => rfl))
      (pss_cons (ps_set (i := 2) scInks.nd rfl (.inr rfl) (pe_ix ix_seq (pe_lst (pa_cons pe_str (pa_cons pe_str (pa_cons pe_str (pa_cons pe_str pa_nil))))) (pe_next N1 bN hr (by rfl) X.gNext X.kNext (pa_cons (pv 0) (pa_cons pe_int pa_nil))) fun _ _ => rfl))
      (pss_cons (ps_set (i := 3) scInks.nd rfl (.inl rfl) (pe_lst pa_nil))
      (pss_cons (ps_for PassesOwn.never rfl (pi_range1 (by rfl) X.rng (pa_cons (pe_op op_add pe_int (pe_next N1 bN hr (by rfl) X.gNext X.kNext (pa_cons (pv 0) (pa_cons (pe_callB (call_min2 rfl) (by rfl) X.min boot_min (pa_cons pe_int (pa_cons (pe_op op_fdiv pe_int (pv 1)) pa_nil))) pa_nil)))) pa_nil)) (pg_name (i := 4) scInks.nd rfl (Or.inl rfl)) (pss_cons (ps_set (i := 5) scInks.nd rfl (.inl rfl) (pe_join pe_str (pe_lc (own := [("spot", 6)]) (g := gName 6) (tt := tYes) (by rfl) scInks.nd (pi_range1 (by rfl) X.rng (pa_cons (pv 1) pa_nil)) (blkOk_by (own := [("spot", 6)]) (N := NInks) (sc := defScope sInks) (by decide +kernel)) (fun _ _ _ _ _ => pg_name (i := 6) scInks.nd rfl (Or.inl rfl)) (fun _ _ _ _ _ => pts_nil) (fun s H C cl fp => pe_ix (show IxR _ (rIx K) from ix_seq) (pv 2) (pe_next N1 bN hr (by rfl) X.gNext X.kNext (pa_cons (pv 0) (pa_cons (pe_callB call_len_str (by rfl) X.len boot_len (pa_cons (pv 2) pa_nil)) pa_nil))) fun _ _ => rfl))))
      (pss_one (ps_if (pt_cmpR op_notIn_seq (pv 5) (pv 3) (by rfl)) (pss_one (ps_expr (pe_bm PySem.F.plainAttrs_list PySem.F.slot_list_append PySem.F.type_list_append mt_append (pv 3) (pa_cons (pv 5) pa_nil)))) pss_nil))))
      (pss_one (ps_ret (pv 3))))))), ?_⟩
    refine ⟨_, rfl, t, 8, n, rfl, ht, by omega, by decide, by decide, fun d1 H1 d10 d1m t1 b1 => ⟨_, _, rfl, rfl, ?_⟩⟩
    refine ⟨_, rfl, t, 3, n + 1, rfl, t1, by omega, by decide, by decide, fun e1 H1b e10 e1m t1b b1b => ⟨_, _, rfl, rfl, (by decide : 3 ≤ sizeLine), fun wl hwl => ?_⟩⟩
    refine ⟨_, rfl, t, 3, n + 2, rfl, t1b.new hwl, by omega, by decide, by decide, fun e2 H1c e20 e2m t1c b1c => ?_⟩
    obtain ⟨W, hW, W1, W8⟩ := wide_at d10 d1m e10 e1m e20 e2m
    refine .inl ⟨wl, _, e2, .int (W : Nat), rfl, rfl, .inl (.inl ((b1c wl (t1b.ne hwl).symm).trans upd_same)), hW, ?_⟩
    have bt1 : Bt t H H1c := b1.bt.trans (b1b.bt.trans ((Bt.new hwl).trans b1c.bt))
    refine ⟨(by decide : 4 ≤ sizeLine), fun pl hpl => ?_⟩
    refine ⟨_, rfl, t, 4, n + 3, rfl, t1c.new hpl, by omega, by decide, by decide, fun d2 H2 d20 d24 t2 b2 => ?_⟩
    obtain ⟨z, hz, z1, z26, zl⟩ := pool_at d2 d20 d24
    refine .inl ⟨pl, _, d2, .str z, rfl, rfl, .inl (.inl ((b2 pl (t1c.ne hpl).symm).trans upd_same)), hz, ?_⟩
    refine ⟨(by decide : 0 ≤ sizeLine), fun fl hfl => ?_⟩
    have e36 : (36 : Int) / (W : Int) = ((36 / W : Nat) : Int) := by first | exact (Int.natCast_ediv 36 W).symm | exact (Int.ofNat_ediv 36 W).symm | rfl
    have w4 : 4 ≤ 36 / W := by
      have : W * 4 ≤ 36 := by omega
      exact (Nat.le_div_iff_mul_le (by omega)).mpr (by omega)
    have w36 : W * (36 / W) ≤ 36 := Nat.mul_div_le 36 W
    have M1 : (0 : Int) < (if (36 : Int) / (W : Int) < 6 then (36 : Int) / (W : Int) else 6) := by rw [e36]; split <;> omega
    have M6 : (if (36 : Int) / (W : Int) < 6 then (36 : Int) / (W : Int) else 6) ≤ 6 := by rw [e36]; split <;> omega
    have M36 : (if (36 : Int) / (W : Int) < 6 then (36 : Int) / (W : Int) else 6) ≤ ((36 / W : Nat) : Int) := by rw [e36]; split <;> omega
    refine ⟨_, rfl, _, rfl, _, _, rfl, rfl, ⟨by omega, by omega⟩, _, _, rfl, t, _, n + 4, rfl, t2.new hfl, by omega, M1, by omega, fun d3 H3 d30 d3m t3 b3 => ?_⟩
    generalize (if (36 : Int) / (W : Int) < 6 then (36 : Int) / (W : Int) else 6) = M at M1 M6 M36 d3m
    obtain ⟨R, hR⟩ : ∃ R : Nat, 1 + d3 = (R : Int) := ⟨(1 + d3).toNat, by omega⟩
    have R1 : 0 < R := by omega
    have R6 : R ≤ 6 := by omega
    have R36 : W * R ≤ 36 := Nat.le_trans (Nat.mul_le_mul_left W (by omega : R ≤ 36 / W)) w36
    refine ⟨_, _, rfl, rfl, _, rfl, by omega, by omega, ?_⟩
    have bt3 : Bt t H H3 := bt1.trans ((Bt.new hpl).trans (b2.bt.trans ((Bt.new hfl).trans b3.bt)))
    have flt : fl ≠ t := (t2.ne hfl).symm
    have hfl0 : H fl = none := (bt1.trans ((Bt.new hpl).trans b2.bt)).free flt hfl
    have zsz : z.length ≤ sizeLine := Nat.le_trans z26 (by decide)
    refine for_range (lo := 0) (n := (1 + d3).toNat) (fun i σ H' => ∃ v5 v6 ws, σ = [some (.ref t), some (.int (W : Nat)), some (.str z), some (.ref fl), v5, v6, none] ∧ H' fl = some (.lst (ws.map V.str)) ∧ Ws W i ws ∧ Tp H' t (n + 5 + i * W) ∧ Bt t H H')
      ⟨none, none, [], rfl, (b3 fl flt).trans upd_same, ⟨Nat.le_refl _, fun z => absurd z (Nat.lt_irrefl _), List.nodup_nil, fun z hz => by simp at hz⟩, t3.mono (by omega), bt3⟩ (fun i σ H4 hi hp => ?_) (fun σ H' hp => ?_)
    · obtain ⟨v5, v6, ws, rfl, hf4, hws, t4, bt4⟩ := hp
      have hiR : i < R := by omega
      have hiW : i * W ≤ 36 := Nat.le_trans (Nat.mul_le_mul_right W (by omega : i ≤ R)) (by rw [Nat.mul_comm]; exact R36)
      refine ⟨⟨_, rfl⟩, _, rfl, (W : Nat), rfl, by omega, by omega, fun D hD => ?_⟩
      have Dt : D ≠ t := (t4.ne hD).symm
      refine lc_range (lo := 0) (n := ((W : Nat) : Int).toNat) (fun j H5 => ∃ ys : List Str, H5 D = some (.lst (ys.map V.str)) ∧ ys.length = j ∧ (∀ y ∈ ys, One y) ∧ Tp H5 t (n + 5 + i * W + j) ∧ Bt t H4 H5)
        ⟨[], upd_same, rfl, fun y hy => by simp at hy, t4.new hD, Bt.new hD⟩ (fun j H5 hj hp => ?_) (fun H5 hp => ?_)
      · obtain ⟨ys, hD5, hyl, hy1, t5, bt5⟩ := hp
        refine ⟨rfl, ?_⟩
        unfold tYes
        refine iteT' (b := true) rfl ?_
        refine ⟨_, rfl, _, rfl, _, rfl, z, rfl, zsz, t, z.length, n + 5 + i * W + j, rfl, t5, by omega, by omega, by omega, fun d H6 hd0 hdz t6 b6 => ?_⟩
        obtain ⟨c, hc, hone⟩ := pool_ch zl hd0 hdz
        have e6 : H6 D = some (.lst (ys.map V.str)) := (b6 D Dt).trans hD5
        refine .inr (.inr ⟨z, d, c, rfl, rfl, zsz, hc, ys.map V.str, e6, by rw [List.length_map, hyl]; exact Nat.lt_of_lt_of_le (by omega : j < 9) (by decide), ys ++ [⟨#[c]⟩], ?_, by simp [hyl], fun y hy => ?_, ?_, ?_⟩)
        · rw [List.map_append]; exact upd_same
        · rcases List.mem_append.mp hy with h | h
          · exact hy1 y h
          · rw [List.mem_singleton.mp h]; exact hone
        · exact t6.at (upd_ne Dt.symm)
        · exact (bt5.trans b6.bt).put hD
      · obtain ⟨ys, hD5, hyl, hy1, t5, bt5⟩ := hp
        obtain ⟨j1, j2⟩ := join_ones "" rfl ys hy1
        have ysum : ∀ ys : List Str, (∀ y ∈ ys, One y) → (ys.map (·.length)).sum = ys.length := fun ys h => by
          induction ys with
          | nil => rfl
          | cons y r ih =>
            obtain ⟨c, hc, _⟩ := h y List.mem_cons_self
            have e1 : y.length = 1 := by
              have : y.cps.toList.length = 1 := by rw [hc]; rfl
              simpa [Str.length] using this
            rw [List.map_cons, List.sum_cons, ih fun z hz => h z (List.mem_cons_of_mem _ hz), List.length_cons, e1]
            omega
        refine ⟨"", D, ys, rfl, rfl, .inl (.inl (.inl hD5)), ?_, ?_⟩
        · rw [ysum ys hy1]
          show ys.length + ys.length * 0 ≤ 16777216
          omega
        generalize hk : Txt.join ("" : Str) ys = ink at j1 j2
        have ilen : ink.length = W := by omega
        have hf5 : H5 fl = some (.lst (ws.map V.str)) := bt5 fl _ flt hf4
        refine ⟨_, rfl, _, rfl, fl, _, rfl, .inl (.inl (.inl hf5)), rfl, ?_, _, rfl, ?_⟩
        · rw [List.all_map]; exact List.all_eq_true.mpr fun _ _ => rfl
        · by_cases hin : ink ∈ ws
          · refine iteF' (by rw [(inV_str ink ws).mpr hin]; rfl) ?_
            refine ⟨_, _, ws, rfl, hf5, ⟨Nat.le_succ_of_le hws.len, fun _ => List.length_pos_of_mem hin, hws.nd, hws.all⟩, t5.mono ?_, bt4.trans bt5⟩
            rw [Nat.succ_mul]; omega
          · have hnin : inV (.str ink) (ws.map V.str) = false := by
              cases h : inV (.str ink) (ws.map V.str) with
              | false => rfl
              | true => exact absurd ((inV_str ink ws).mp h) hin
            refine iteT' (by rw [hnin]; rfl) ?_
            have wl := hws.len
            refine ⟨_, rfl, .inl ⟨rfl, _, .inl (.inl hf5)⟩, _, rfl, fl, _, _, rfl, rfl, hf5, by rw [List.length_map]; exact Nat.lt_of_lt_of_le (by omega : ws.length < 9) (by decide), ?_⟩
            refine ⟨_, _, ws ++ [ink], rfl, by rw [List.map_append]; exact upd_same, ⟨by rw [List.length_append, List.length_singleton]; omega, fun _ => by rw [List.length_append, List.length_singleton]; omega, ?_, fun y hy => ?_⟩, (t5.at (upd_ne flt.symm)).mono ?_, (bt4.trans bt5).put hfl0⟩
            · rw [List.nodup_append]
              exact ⟨hws.nd, by simp, fun a ha b hb e => hin (by rw [List.mem_singleton.mp hb] at e; exact e ▸ ha)⟩
            · rcases List.mem_append.mp hy with h | h
              · exact hws.all y h
              · rw [List.mem_singleton.mp h]; exact ⟨ilen, j2⟩
            · rw [Nat.succ_mul]; omega
    · obtain ⟨v5, v6, ws, rfl, hf4, hws, t4, bt4⟩ := hp
      refine ⟨_, rfl, ?_⟩
      refine q fl ws H' hfl0 hf4 (hws.ok W1 W8 (by omega) (by omega) ?_) (t4.mono ?_) bt4
      · have : (1 + d3).toNat = R := by omega
        rw [this]; exact R36
      · have : (1 + d3).toNat = R := by omega
        rw [this, Nat.mul_comm]; omega
end
end Ov

set_option Elab.async false
set_option linter.all false
set_option maxRecDepth 100000
set_option maxHeartbeats 4000000
/-! == and != of instances of own classes without == of their own, of two classes -/
namespace Ov
open PySem PySem.Spec PyProof.Rows L2
section
variable {prog : Program} {w : World} {A : Around} {E : Value → Shared → Prop} {s : Shared} {K : PySem.W.Frag} {x y C D : Addr} {ox oy : Obj} {od od' : Option Obj}
/-- no == and no != of their own -/
structure NoEq2 (K : PySem.W.Frag) (C : Addr) : Prop where
  eq : PySem.W.findIn K (.ref C) "__eq__" = some (some (.builtin "object.__eq__"))
  ne : PySem.W.findIn K (.ref C) "__ne__" = some (some (.builtin "object.__ne__"))
  sub : PySem.W.subIn K (.ref C) (.type "object") = some true
theorem chk2 {id n : String} (hk : builtinKind id = some .slot) (hsp : splitId id = some ("object", n)) (ha : argsOk id ⟨[.ref x, .ref y], []⟩) {Q : Unit → Shared → Prop} (X : K.In s.heap) (I : PySem.W.InstAt s.heap x ox C od) (hsub : PySem.W.subIn K (.ref C) (.type "object") = some true) (fin : Q () s) :
    wpAny (model prog w) A (checkBuiltinCall id ⟨[.ref x, .ref y], []⟩) Q E s := by
  simp only [checkBuiltinCall, hk, hsp]
  refine wpAny_bind ?_
  unfold isInstance
  refine wpAny_bind (I.type.here ?_)
  refine (PySem.W.looks_subIn X hsub).here ?_
  cases hsig : Manifest.signature? id with
  | none => exact wpAny_pure fin
  | some sig =>
    simp only [argsOk, hsig] at ha
    have h2 : Bind.checkArgs id sig ⟨[.ref x, .ref y], []⟩ = pure () := ha
    show wpAny _ A (Bind.checkArgs id sig ⟨[.ref x, .ref y], []⟩) _ _ _
    rw [h2]; exact wpAny_pure fin
theorem call_objEq2 {Q : Value → Shared → Prop} (X : K.In s.heap) (I : PySem.W.InstAt s.heap x ox C od) (J : PySem.W.InstAt s.heap y oy D od') (n : NoEq2 K C)
    (h : Q (if x = y then .bool true else .notImplemented) s) : wpAny (model prog w) A (call (.builtin "object.__eq__") [.ref x, .ref y]) Q E s := by
  refine wpAny_call (codeAny_call_builtin F.cmp_object.eq.plain F.cmpEntry_eq (chk2 F.cmpKind_eq F.cmpSplit_eq (F.cmpArgs_eq _ _) X I n.sub ?_))
  by_cases hxy : x = y
  · subst hxy
    exact objEq_entry_same (by rw [if_pos rfl] at h; exact h)
  · refine objEq_entry_other hxy I.at_ J.at_ ?_ (by rw [if_neg hxy] at h; exact h)
    rw [I.cls]
    intro z; cases z
theorem special2 {f : String} {name : Str} (hs : PySem.W.findIn K (.ref C) name = some (some (.builtin f))) (hbind : ∀ self : Value, bindSpecial (.builtin f) self = pure (.builtin f, [self])) {Q : Option Value → Shared → Prop} (X : K.In s.heap) (I : PySem.W.InstAt s.heap x ox C od)
    (h : wpAny (model prog w) A (call (.builtin f) [.ref x, .ref y]) (fun v s' => Q (some v) s') E s) : wpAny (model prog w) A (callSpecialIfBound? (.ref x) name [.ref y]) Q E s := by
  simp only [callSpecialIfBound?, bindSpecialIfBound?]
  refine wpAny_holding (wpAny_bind (wpAny_bind (wpAny_bind (I.type.here ((PySem.W.looks_findIn X hs).here ?_)))))
  have fin : wpAny (model prog w) A (call (.builtin f) ([.ref x] ++ [.ref y]) >>= fun v => pure (some v)) Q E s := wpAny_bind (wpAny_mono h (fun v s' hq => wpAny_pure hq) fun _ _ e => e)
  simp only [hbind]
  refine wpAny_bind (wpAny_askSetting (wpAny_ite ?_))
  split
  · exact wpAny_bind (wpAny_pure (wpAny_pure fin))
  · exact wpAny_tryCatch (wpAny_bind (wpAny_pure (wpAny_pure fin)))
theorem try_eq2 {Q : Option Value → Shared → Prop} (X : K.In s.heap) (I : PySem.W.InstAt s.heap x ox C od) (J : PySem.W.InstAt s.heap y oy D od') (n : NoEq2 K C)
    (h : Q (if x = y then some (.bool true) else none) s) : wpAny (model prog w) A (tryCompare (.ref x) "__eq__" (.ref y)) Q E s := by
  unfold tryCompare
  refine wpAny_bind (special2 n.eq F.cmp_object.eq.bind X I (call_objEq2 X I J n ?_))
  by_cases hxy : x = y
  · rw [if_pos hxy] at h ⊢
    exact wpAny_pure h
  · rw [if_neg hxy] at h ⊢
    exact wpAny_pure h
theorem special_t {Q : Option Value → Shared → Prop} (hxy : x = y) (X : K.In s.heap) (I : PySem.W.InstAt s.heap x ox C od) (J : PySem.W.InstAt s.heap y oy D od') (n : NoEq2 K C) (h : Q (some (.bool true)) s) : wpAny (model prog w) A (callSpecialIfBound? (.ref x) "__eq__" [.ref y]) Q E s :=
  special2 n.eq F.cmp_object.eq.bind X I (call_objEq2 X I J n (by rw [if_pos hxy]; exact h))
theorem special_f {Q : Option Value → Shared → Prop} (hxy : x ≠ y) (X : K.In s.heap) (I : PySem.W.InstAt s.heap x ox C od) (J : PySem.W.InstAt s.heap y oy D od') (n : NoEq2 K C) (h : Q (some .notImplemented) s) : wpAny (model prog w) A (callSpecialIfBound? (.ref x) "__eq__" [.ref y]) Q E s :=
  special2 n.eq F.cmp_object.eq.bind X I (call_objEq2 X I J n (by rw [if_neg hxy]; exact h))
theorem objNe_entry2 {Q : Fin → Shared → Prop} (hu : A.units < cLine) (X : K.In s.heap) (I : PySem.W.InstAt s.heap x ox C od) (J : PySem.W.InstAt s.heap y oy D od') (n : NoEq2 K C)
    (h : Q (.done (.ret (if x = y then .bool false else .notImplemented))) s) : wpAny (model prog w) A (Builtin.«object.__ne__» ⟨[.ref x, .ref y], []⟩) Q E s := by
  unfold Builtin.«object.__ne__»
  by_cases hxy : x = y
  · rw [if_pos hxy] at h
    repeat (first | with_reducible refine wpAny_cRoomFor hu ?_ | with_reducible refine special_t hxy X I J n ?_ | wp_step)
    exact h
  · rw [if_neg hxy] at h
    repeat (first | with_reducible refine wpAny_cRoomFor hu ?_ | with_reducible refine special_f hxy X I J n ?_ | wp_step)
    exact h
theorem try_ne2 {Q : Option Value → Shared → Prop} (hu : A.units + 1 < cLine) (X : K.In s.heap) (I : PySem.W.InstAt s.heap x ox C od) (J : PySem.W.InstAt s.heap y oy D od') (n : NoEq2 K C)
    (h : Q (if x = y then some (.bool false) else none) s) : wpAny (model prog w) A (tryCompare (.ref x) "__ne__" (.ref y)) Q E s := by
  unfold tryCompare
  refine wpAny_bind (special2 n.ne F.cmp_object.ne.bind X I (wpAny_call (codeAny_call_builtin F.cmp_object.ne.plain F.cmpEntry_ne (chk2 F.cmpKind_ne F.cmpSplit_ne (F.cmpArgs_ne _ _) X I n.sub (objNe_entry2 (A := A.in1) hu X I J n ?_)))))
  by_cases hxy : x = y
  · rw [if_pos hxy] at h ⊢
    exact wpAny_pure h
  · rw [if_neg hxy] at h ⊢
    exact wpAny_pure h
theorem eq_id2 {Q : Value → Shared → Prop} {b : Bool} (hu : A.units < cLine) (X : K.In s.heap) (I : PySem.W.InstAt s.heap x ox C od) (J : PySem.W.InstAt s.heap y oy D od') (n : NoEq2 K C) (m : NoEq2 K D) (hsub : C ≠ D → PySem.W.subIn K (.ref D) (.ref C) = some b)
    (h : Q (.bool (decide (x = y))) s) : wpAny (model prog w) A (compareOp .Eq (.ref x) (.ref y)) Q E s := by
  show wpAny _ _ (richCompare .Eq (.ref x) (.ref y)) _ _ _
  unfold richCompare
  simp only [oneThing_ref, cmpInfo_Eq]
  refine wpAny_holding (wpAny_bind (wpAny_cRoomFor hu ?_))
  refine wpAny_bind (I.type.here (wpAny_bind (J.type.here ?_)))
  by_cases hCD : C = D
  · subst hCD
    rw [if_neg (by simp)]
    refine wpAny_bind (wpAny_pure ?_)
    simp only [Bool.false_eq_true, if_false]
    refine wpAny_bind (try_eq2 X I J n ?_)
    by_cases hxy : x = y
    · rw [if_pos hxy]
      subst hxy
      exact wpAny_pure (by simpa using h)
    · rw [if_neg hxy]
      have hyx : ¬ y = x := fun z => hxy z.symm
      simp only [Bool.not_false, if_true]
      refine wpAny_bind (try_eq2 X J I n ?_)
      rw [if_neg hyx]
      refine wpAny_bind (wpAny_rule ?_)
      refine wpAny_bind (wpAny_isSame_ref_other hxy I.at_ J.at_ (by rw [I.cls]; intro z; cases z) ?_)
      exact wpAny_pure (by simpa [hxy] using h)
  · have hxy : ¬ x = y := fun z => by
      subst z
      have e1 := I.at_.symm.trans J.at_
      cases e1
      have e2 := I.cls.symm.trans J.cls
      cases e2
      exact hCD rfl
    have hyx : ¬ y = x := fun z => hxy z.symm
    rw [if_pos (by simp [hCD])]
    refine wpAny_bind ((PySem.W.looks_subIn X (hsub hCD)).here ?_)
    cases b with
    | true =>
      simp only [if_true]
      refine wpAny_bind (try_eq2 X J I m ?_)
      rw [if_neg hyx]
      refine wpAny_bind (try_eq2 X I J n ?_)
      rw [if_neg hxy]
      simp only [Bool.not_true, Bool.false_eq_true, if_false]
      refine wpAny_bind (wpAny_rule ?_)
      refine wpAny_bind (wpAny_isSame_ref_other hxy I.at_ J.at_ (by rw [I.cls]; intro z; cases z) ?_)
      exact wpAny_pure (by simpa [hxy] using h)
    | false =>
      simp only [Bool.false_eq_true, if_false]
      refine wpAny_bind (try_eq2 X I J n ?_)
      rw [if_neg hxy]
      simp only [Bool.not_false, if_true]
      refine wpAny_bind (try_eq2 X J I m ?_)
      rw [if_neg hyx]
      refine wpAny_bind (wpAny_rule ?_)
      refine wpAny_bind (wpAny_isSame_ref_other hxy I.at_ J.at_ (by rw [I.cls]; intro z; cases z) ?_)
      exact wpAny_pure (by simpa [hxy] using h)
theorem ne_id2 {Q : Value → Shared → Prop} {b : Bool} (hu : A.units + 1 < cLine) (X : K.In s.heap) (I : PySem.W.InstAt s.heap x ox C od) (J : PySem.W.InstAt s.heap y oy D od') (n : NoEq2 K C) (m : NoEq2 K D) (hsub : C ≠ D → PySem.W.subIn K (.ref D) (.ref C) = some b)
    (h : Q (.bool (!decide (x = y))) s) : wpAny (model prog w) A (compareOp .NotEq (.ref x) (.ref y)) Q E s := by
  show wpAny _ _ (richCompare .NotEq (.ref x) (.ref y)) _ _ _
  unfold richCompare
  simp only [oneThing_ref, cmpInfo_NotEq]
  refine wpAny_holding (wpAny_bind (wpAny_cRoomFor (Nat.lt_of_succ_lt hu) ?_))
  refine wpAny_bind (I.type.here (wpAny_bind (J.type.here ?_)))
  by_cases hCD : C = D
  · subst hCD
    rw [if_neg (by simp)]
    refine wpAny_bind (wpAny_pure ?_)
    simp only [Bool.false_eq_true, if_false]
    refine wpAny_bind (try_ne2 hu X I J n ?_)
    by_cases hxy : x = y
    · rw [if_pos hxy]
      subst hxy
      exact wpAny_pure (by simpa using h)
    · rw [if_neg hxy]
      have hyx : ¬ y = x := fun z => hxy z.symm
      simp only [Bool.not_false, if_true]
      refine wpAny_bind (try_ne2 hu X J I n ?_)
      rw [if_neg hyx]
      refine wpAny_bind (wpAny_rule ?_)
      refine wpAny_bind (wpAny_isSame_ref_other hxy I.at_ J.at_ (by rw [I.cls]; intro z; cases z) ?_)
      exact wpAny_pure (by simpa [hxy] using h)
  · have hxy : ¬ x = y := fun z => by
      subst z
      have e1 := I.at_.symm.trans J.at_
      cases e1
      have e2 := I.cls.symm.trans J.cls
      cases e2
      exact hCD rfl
    have hyx : ¬ y = x := fun z => hxy z.symm
    rw [if_pos (by simp [hCD])]
    refine wpAny_bind ((PySem.W.looks_subIn X (hsub hCD)).here ?_)
    cases b with
    | true =>
      simp only [if_true]
      refine wpAny_bind (try_ne2 hu X J I m ?_)
      rw [if_neg hyx]
      refine wpAny_bind (try_ne2 hu X I J n ?_)
      rw [if_neg hxy]
      simp only [Bool.not_true, Bool.false_eq_true, if_false]
      refine wpAny_bind (wpAny_rule ?_)
      refine wpAny_bind (wpAny_isSame_ref_other hxy I.at_ J.at_ (by rw [I.cls]; intro z; cases z) ?_)
      exact wpAny_pure (by simpa [hxy] using h)
    | false =>
      simp only [Bool.false_eq_true, if_false]
      refine wpAny_bind (try_ne2 hu X I J n ?_)
      rw [if_neg hxy]
      simp only [Bool.not_false, if_true]
      refine wpAny_bind (try_ne2 hu X J I m ?_)
      rw [if_neg hyx]
      refine wpAny_bind (wpAny_rule ?_)
      refine wpAny_bind (wpAny_isSame_ref_other hxy I.at_ J.at_ (by rw [I.cls]; intro z; cases z) ?_)
      exact wpAny_pure (by simpa [hxy] using h)

end
/-! ### over the layer -/
section
variable {X : Cx}
/-- == of instances of two such classes -/
def rEqId (C D : Addr) (f : Bool → Bool) : R2 := fun x y H Q => ∃ a b dx dy fs gs, x = .ref a ∧ y = .ref b ∧ H a = some (.ins C dx fs) ∧ H b = some (.ins D dy gs) ∧ Q (.bl (f (decide (a = b)))) H
structure Pair2 (K : PySem.W.Frag) (C D : Addr) : Prop where
  l : NoEq2 K C
  r : NoEq2 K D
  sub : C ≠ D → ∃ b, PySem.W.subIn K (.ref D) (.ref C) = some b
/-- .. of classes that a test tells -/
def rEqS (K : PySem.W.Frag) (f : Bool → Bool) : R2 := fun x y H Q => ∃ C D, Pair2 K C D ∧ rEqId C D f x y H Q
theorem op_eqS (hu : X.A.units < cLine) : OpR X (compareOp .Eq) (rEqS X.K id) := by
  intro pins s σ H x y v u Q I rx ry h
  obtain ⟨C, D, p, a, b, dx, dy, fs, gs, rfl, rfl, ha, hb, q⟩ := h
  obtain rfl : v = Value.ref a := rx
  obtain rfl : u = Value.ref b := ry
  obtain ⟨mA, O, _⟩ := ins_get I.hok ha
  obtain ⟨od, J, _⟩ := O.look
  obtain ⟨mB, O', _⟩ := ins_get I.hok hb
  obtain ⟨od', J', _⟩ := O'.look
  by_cases hCD : C = D
  · exact eq_id2 (b := true) hu I.kIn J J' p.l p.r (fun z => absurd hCD z) ⟨.bl _, H, I, rfl, q⟩
  · obtain ⟨b, hb⟩ := p.sub hCD
    exact eq_id2 hu I.kIn J J' p.l p.r (fun _ => hb) ⟨.bl _, H, I, rfl, q⟩
theorem op_neS (hu : X.A.units + 1 < cLine) : OpR X (compareOp .NotEq) (rEqS X.K (!·)) := by
  intro pins s σ H x y v u Q I rx ry h
  obtain ⟨C, D, p, a, b, dx, dy, fs, gs, rfl, rfl, ha, hb, q⟩ := h
  obtain rfl : v = Value.ref a := rx
  obtain rfl : u = Value.ref b := ry
  obtain ⟨mA, O, _⟩ := ins_get I.hok ha
  obtain ⟨od, J, _⟩ := O.look
  obtain ⟨mB, O', _⟩ := ins_get I.hok hb
  obtain ⟨od', J', _⟩ := O'.look
  by_cases hCD : C = D
  · exact ne_id2 (b := true) hu I.kIn J J' p.l p.r (fun z => absurd hCD z) ⟨.bl _, H, I, rfl, q⟩
  · obtain ⟨b, hb⟩ := p.sub hCD
    exact ne_id2 hu I.kIn J J' p.l p.r (fun _ => hb) ⟨.bl _, H, I, rfl, q⟩
end
end Ov

set_option Elab.async false
set_option linter.all false
set_option maxRecDepth 100000
set_option maxHeartbeats 4000000
/-! calls with keywords alone: C(k = v), C.m(k = v) with a classmethod m -/
namespace Ov
open PySem PySem.Spec PyProof.Rows L2 GxR ClX
section
variable {X : Cx} {CX : CXT} {k n : Nat} {f C : Addr} {fd : FuncData} {ps ks : List Str} {sp : Sp} {E : XK} {x : Str} {p pos : Pos} {e : Expr} {es : List Expr} {kws : List Keyword} {t tk : TA} {g : List Value → List Value → List Value} {gV : List V → List V → List V}
def tMake0K (C : Addr) (m : Nat) (sp : Sp) (gV : List V → List V → List V) (E : XK) (tk : TA) : TE := fun σ H Q => tk σ H fun zs H2 => zs.length = m ∧
  ∀ x dx, H2 x = none → H2 dx = none → dx ≠ x → sp (gV [V.ref x] zs) (upd (upd H2 dx (.own x)) x (.ins C dx [])) (fun v H3 => v = .non ∧ Q (.ref x) H3) E
theorem pe_make0K (M : Mk X.K C f) (F : FnOk X.prog X.w X.K X.mg X.base CX k f fd ps sp) (hr : Room (k + 1) X.A) (hg : Gl X x) (hm : X.mg x = some (.ref C)) (hb : KBn X.K fd ps 1 ks g gV) (hx : Passes CX X E)
    (hkw : PK X kws tk) (hall : (backToKw pos (keywordEach kws X.env)).all (·.1.isSome) = true := by rfl) (hks : (backToKw pos (keywordEach kws X.env)).filterMap (·.1) = ks := by rfl)
    (hdb : (x == ("__debug__" : Str)) = false := by decide)
    (hpl : ((backTo pos (starEach [] X.env)).any (·.1) || (backToKw pos (keywordEach kws X.env)).any (·.1.isNone)) = false := by rfl) :
    PE X (.Call (.Name x p) [] kws pos) (tMake0K C ks.length sp gV E tk) := by
  refine ⟨fun pins s σ H Q I h => ?_⟩
  refine wpAny_Call_Name_kw (ld_glob I hg hm ?_ hdb)
  refine PySem.W.callWith_KW0 (h₀ := X.base) I.ok.mod.kin M.kp hall ?_ hpl
  refine thn (hkw.run pos pins s σ H _ I h) fun ws s2 ⟨zs, H2, I2, rz, l2, q2⟩ => ⟨I2.kIn, ?_⟩
  rw [hks]
  exact run_makeN M F hr hb hx I2 .nil rz rfl l2 q2
def tCMethK (C : Addr) (m : Nat) (sp : Sp) (gV : List V → List V → List V) (E : XK) (ta : TE) (tk : TA) : TE := fun σ H Q => ta σ H fun x H1 => x = .ref C ∧ tk σ H1 fun zs H2 => zs.length = m ∧ sp (gV [V.ref C] zs) H2 Q E
theorem run_cmK {pins : List (Addr × Obj)} {σ : L2.St} {H : Hp} {s : Shared} {q c : Addr} {Q : VK} {ws : List Value} {zs : List V} (F : FnOk X.prog X.w X.K X.mg X.base CX k c fd ps sp) (hr : Room k X.A) (hb : KBn X.K fd ps 1 ks g gV) (hx : Passes CX X E) (I : Inv X ((q, PySem.W.methodObj (.ref c) (.ref C)) :: pins) σ H s)
    (r : Vals zs ws) (l2 : zs.length = ks.length) (h : sp (gV [V.ref C] zs) H Q E) : wpAny (model X.prog X.w) X.A (call (.ref q) [] (ks.zip ws)) (EP X pins σ Q) X.xe s := by
  have z : wpAny (model X.prog X.w) X.A (call (.ref q) [] (ks.zip ws)) (EP X ((q, PySem.W.methodObj (.ref c) (.ref C)) :: pins) σ Q) X.xe s := by
    refine wpAny_call (PySem.W.method_call (pin_at I) (codeAny_mono (F.run X.A X.stack s H ⟨.ref C :: [], ks.zip ws⟩ (g [.ref C] ws) (gV [V.ref C] zs) Q E hr I.env0 (hb.to s [.ref C] ws I.kIn rfl (r.length.symm.trans l2)) (hb.rel (.cons rfl .nil) r) h) fun r s' hq => ?_))
    cases r with
    | error e => exact hx _ σ H s e s' I hq
    | ok fl =>
      cases fl with
      | ret u => exact I.after hq
      | next => exact False.elim hq
      | brk => exact False.elim hq
      | cont => exact False.elim hq
  exact thn z fun _ _ y => unpinE y
theorem pe_cmethK {mc : Value} {m : Str} {q c : Addr} {o : Expr} {apos : Pos} {ta : TE} {pl : Sem Bool} (he : PE X o ta) (r : CRead X.K C mc) (cm : CMet X.K C mc m q c) (F : FnOk X.prog X.w X.K X.mg X.base CX k c fd ps sp) (hr : Room k X.A) (hb : KBn X.K fd ps 1 ks g gV) (hx : Passes CX X E)
    (hkw : PK X kws tk) (hall : (backToKw pos (keywordEach kws X.env)).all (·.1.isSome) = true := by rfl) (hks : (backToKw pos (keywordEach kws X.env)).filterMap (·.1) = ks := by rfl)
    (hpl : ((backTo pos (starEach [] X.env)).any (·.1) || (backToKw pos (keywordEach kws X.env)).any (·.1.isNone)) = false := by rfl)
    (ht : eval (.Call (.Attribute o m apos) [] kws pos) X.env = (do
      let ov ← eval o X.env
      standAt apos.atName
      let (f, first) ← holding [ov] (getMethod ov m pl)
      callWith pos f first (backTo pos (starEach [] X.env)) (backToKw pos (keywordEach kws X.env))) := by rfl) :
    PE X (.Call (.Attribute o m apos) [] kws pos) (tCMethK C ks.length sp gV E ta tk) := by
  refine ⟨fun pins s σ H Q I h => ?_⟩
  refine PySem.W.methodCall_KW (pl := pl) (thn (he.run pins s σ H _ I h) fun u s1 ⟨x, H1, I1, rx, ex, q⟩ => ?_) ht
  subst ex
  obtain rfl : u = Value.ref C := rx
  refine getmethcm_ok I1 r cm fun s2 I2 => ?_
  refine PySem.W.callWith_of hpl (P := PySem.W.MethP X.K s1.heap.objs.size c (.ref C)) (PySem.W.keeps_M cm.fi) ?_
  refine evalArgs_kw2_nil hall ?_
  refine thn (hkw.run pos _ s2 σ H1 _ I2 q) fun ws s3 ⟨zs, H2, I3, rz, l2, q2⟩ => ⟨⟨pin_at I3, I3.kIn⟩, ?_⟩
  rw [hks]
  exact run_cmK F hr hb hx I3 rz l2 q2
end
/-! ### .. in the body of a try: what is wished of an error may speak of the slots -/
section
variable {X : Cx} {CX : CXT} {k n : Nat} {f C : Addr} {fd : FuncData} {ps ks : List Str} {sp : Sp} {E : L2.St → XK} {x : Str} {p pos : Pos} {e : Expr} {es : List Expr} {kws : List Keyword} {t tk : TA} {g : List Value → List Value → List Value} {gV : List V → List V → List V}
def tCMethS (C : Addr) (sp : Sp) (E : L2.St → XK) (ta : TE) (t : TA) : TE := fun σ H Q => ta σ H fun x H1 => x = .ref C ∧ t σ H1 fun vs H2 => sp (.ref C :: vs) H2 Q (E σ)
theorem pe_cmethS {mc : Value} {m : Str} {q c : Addr} {o : Expr} {apos : Pos} {ta : TE} {pl : Sem Bool} (he : PE X o ta) (r : CRead X.K C mc) (cm : CMet X.K C mc m q c) (F : FnR X.prog X.w X.K X.mg X.base CX k c sp) (hr : Room k X.A) (hx : ∀ σ, PassesAt CX X σ (E σ)) (ha : PA X (e :: es) t)
    (hst : starEach (e :: es) X.env = (false, eval e X.env) :: starEach es X.env := by rfl) (hpl : (backTo pos (starEach es X.env)).any (·.1) = false := by rfl)
    (ht : eval (.Call (.Attribute o m apos) (e :: es) [] pos) X.env = (do
      let ov ← eval o X.env
      standAt apos.atName
      let (f, first) ← holding [ov] (getMethod ov m pl)
      callWith pos f first (backTo pos (starEach (e :: es) X.env)) (backToKw pos (keywordEach [] X.env))) := by rfl) :
    PE X (.Call (.Attribute o m apos) (e :: es) [] pos) (tCMethS C sp E ta t) := by
  refine ⟨fun pins s σ H Q I h => ?_⟩
  refine PySem.W.methodCall_KW (pl := pl) (thn (he.run pins s σ H _ I h) fun u s1 ⟨x, H1, I1, rx, ex, q0⟩ => ?_) ht
  subst ex
  obtain rfl : u = Value.ref C := rx
  refine getmethcm_ok I1 r cm fun s2 I2 => ?_
  refine callwith_cm I2 (base_none I1 (Nat.le_refl _)) cm.fi (thn (ha.run pos _ s2 σ H1 _ I2 q0) fun us s3 ⟨vs, H2, I3, rv, q2⟩ => ⟨⟨pin_at I3, I3.kIn⟩, ?_⟩) hst hpl
  have z : wpAny (model X.prog X.w) X.A (call (.ref s1.heap.objs.size) ([] ++ us)) (EP X ((s1.heap.objs.size, PySem.W.methodObj (.ref c) (.ref C)) :: pins) σ Q) X.xe s3 := by
    refine wpAny_call (PySem.W.method_call (pin_at I3) (codeAny_mono (F X.A X.stack s3 H2 (.ref C :: us) (V.ref C :: vs) Q (E σ) hr I3.env0 (.cons rfl rv) q2) fun r s' hq => ?_))
    cases r with
    | error e => exact hx σ _ H2 s3 e s' I3 hq
    | ok fl =>
      cases fl with
      | ret u => exact I3.after hq
      | next => exact False.elim hq
      | brk => exact False.elim hq
      | cont => exact False.elim hq
  exact thn z fun _ _ y => unpinE y
def tCMethKS (C : Addr) (m : Nat) (sp : Sp) (gV : List V → List V → List V) (E : L2.St → XK) (ta : TE) (tk : TA) : TE := fun σ H Q => ta σ H fun x H1 => x = .ref C ∧ tk σ H1 fun zs H2 => zs.length = m ∧ sp (gV [V.ref C] zs) H2 Q (E σ)
theorem pe_cmethKS {mc : Value} {m : Str} {q c : Addr} {o : Expr} {apos : Pos} {ta : TE} {pl : Sem Bool} (he : PE X o ta) (r : CRead X.K C mc) (cm : CMet X.K C mc m q c) (F : FnOk X.prog X.w X.K X.mg X.base CX k c fd ps sp) (hr : Room k X.A) (hb : KBn X.K fd ps 1 ks g gV) (hx : ∀ σ, PassesAt CX X σ (E σ))
    (hkw : PK X kws tk) (hall : (backToKw pos (keywordEach kws X.env)).all (·.1.isSome) = true := by rfl) (hks : (backToKw pos (keywordEach kws X.env)).filterMap (·.1) = ks := by rfl)
    (hpl : ((backTo pos (starEach [] X.env)).any (·.1) || (backToKw pos (keywordEach kws X.env)).any (·.1.isNone)) = false := by rfl)
    (ht : eval (.Call (.Attribute o m apos) [] kws pos) X.env = (do
      let ov ← eval o X.env
      standAt apos.atName
      let (f, first) ← holding [ov] (getMethod ov m pl)
      callWith pos f first (backTo pos (starEach [] X.env)) (backToKw pos (keywordEach kws X.env))) := by rfl) :
    PE X (.Call (.Attribute o m apos) [] kws pos) (tCMethKS C ks.length sp gV E ta tk) := by
  refine ⟨fun pins s σ H Q I h => ?_⟩
  refine PySem.W.methodCall_KW (pl := pl) (thn (he.run pins s σ H _ I h) fun u s1 ⟨x, H1, I1, rx, ex, q0⟩ => ?_) ht
  subst ex
  obtain rfl : u = Value.ref C := rx
  refine getmethcm_ok I1 r cm fun s2 I2 => ?_
  refine PySem.W.callWith_of hpl (P := PySem.W.MethP X.K s1.heap.objs.size c (.ref C)) (PySem.W.keeps_M cm.fi) ?_
  refine evalArgs_kw2_nil hall ?_
  refine thn (hkw.run pos _ s2 σ H1 _ I2 q0) fun ws s3 ⟨zs, H2, I3, rz, l2, q2⟩ => ⟨⟨pin_at I3, I3.kIn⟩, ?_⟩
  rw [hks]
  have z : wpAny (model X.prog X.w) X.A (call (.ref s1.heap.objs.size) [] (ks.zip ws)) (EP X ((s1.heap.objs.size, PySem.W.methodObj (.ref c) (.ref C)) :: pins) σ Q) X.xe s3 := by
    refine wpAny_call (PySem.W.method_call (pin_at I3) (codeAny_mono (F.run X.A X.stack s3 H2 ⟨.ref C :: [], ks.zip ws⟩ (g [.ref C] ws) (gV [V.ref C] zs) Q (E σ) hr I3.env0 (hb.to s3 [.ref C] ws I3.kIn rfl (rz.length.symm.trans l2)) (hb.rel (.cons rfl .nil) rz) q2) fun r s' hq => ?_))
    cases r with
    | error e => exact hx σ _ H2 s3 e s' I3 hq
    | ok fl =>
      cases fl with
      | ret u => exact I3.after hq
      | next => exact False.elim hq
      | brk => exact False.elim hq
      | cont => exact False.elim hq
  exact thn z fun _ _ y => unpinE y
end
theorem valsGet : ∀ {vs : List V} {us : List Value} (_ : Vals vs us) (i : Nat), RelV (vs.getD i .non) (us.getD i .none)
  | _, _, .nil, i => by simp; rfl
  | _, _, .cons r t, 0 => by simpa using r
  | _, _, .cons r t, i + 1 => by simpa using valsGet t i
end Ov

set_option Elab.async false
set_option linter.all false
set_option maxRecDepth 100000
set_option maxHeartbeats 4000000
/-! a walk over enumerate; a property of an object whose class the reading tells; lists of bools -/
namespace Ov
open PySem PySem.Spec PyProof.Rows L2 GxR
theorem for_enumL {K : PySem.W.Frag} {a : Addr} {xs : List V} {g : TG} {tb : TS} {D : Ends} {σ : L2.St} {H : Hp} (Pv : Nat → L2.St → Hp → Prop) (h0 : Pv 0 σ H) (hl : ∀ i σ H, i ≤ xs.length → Pv i σ H → SqL K H a xs)
    (hs : ∀ i x σ H T, xs[i]? = some x → Pv i σ H → H T = none → g (.ref T) σ (upd H T (.tup [.int (i : Nat), x])) fun σ2 H2 => tb { D with nx := Pv (i + 1), ct := Pv (i + 1), bk := D.nx } σ2 H2) (hd : ∀ σ H, Pv xs.length σ H → D.nx σ H) :
    ∃ W : Nat → Nat → L2.St → Hp → Prop, (∃ m, W 0 m σ H) ∧ ∀ i m σ H, W i m σ H →
      ((Ite K a).stop i H ∧ D.nx σ H) ∨ ((Ite K a).go i H ∧ ∃ N : L2.St → Hp → Prop, (∀ σ' H', N σ' H' → ∃ m', m' < m ∧ W (i + 1) m' σ' H') ∧ ∀ x H', (Ite K a).yld i H x H' → g x σ H' fun σ2 H2 => tb { D with nx := N, ct := N, bk := D.nx } σ2 H2) := by
  refine ⟨fun i m σ H => m = xs.length - i ∧ i ≤ xs.length ∧ Pv i σ H, ⟨xs.length, by simp, Nat.zero_le _, h0⟩, ?_⟩
  rintro i m σ H ⟨rfl, hi, p⟩
  have q := hl i σ H hi p
  by_cases hlt : i < xs.length
  · refine .inr ⟨⟨xs, xs[i], q, by simp [hlt]⟩, Pv (i + 1), fun σ' H' p' => ⟨xs.length - (i + 1), by omega, rfl, hlt, p'⟩, fun x H' y => ?_⟩
    obtain ⟨T, x', e, hT, e2, y⟩ := y
    subst e e2
    exact hs i x' σ H T (y xs q) p hT
  · have e : i = xs.length := by omega
    subst e
    exact .inl ⟨⟨xs, q, Nat.le_refl _⟩, hd σ H p⟩
def tPropX (K : PySem.W.Frag) (f : Str) (p g : Addr) (sp : Sp) (dvs : List V) (E : XK) (ta : TE) : TE := fun σ H Q => ta σ H fun x H1 => ∃ a C dx fs, x = .ref a ∧ Cls K C ∧ PropOf K C f p g ∧ H1 a = some (.ins C dx fs) ∧ sp (.ref a :: dvs) H1 Q E
theorem pe_propX {X : Cx} {CX : CXT} {k : Nat} {p g : Addr} {f : Str} {fd : FuncData} {ps : List Str} {sp : Sp} {dvs : List V} {ds : List Value} {E : XK} {e : Expr} {pos : Pos} {ta : TE} (he : PE X e ta) (F : FnOk X.prog X.w X.K X.mg X.base CX k g fd ps sp) (hr : Room (k + 1) X.A) (hb : Binds X.K fd ps ds) (hd : Vals dvs ds) (hx : Passes CX X.nox E)
    (hab : attributeBase e f X.env (eval e X.env) = eval e X.env := by rfl) : PE X (.Attribute e f pos) (tPropX X.K f p g sp dvs E ta) := by
  refine ⟨fun pins s σ H Q I h => ?_⟩
  refine attr_of hab (thn (he.run pins s σ H _ I h) fun u s1 ⟨x, H1, I1, rx, a, C, dx, fs, ex, c, hp, ea, q⟩ => ?_)
  subst ex
  obtain rfl : u = Value.ref a := rx
  exact getprop_ok I1 ea c hp F hr hb hd hx q
/-- a list of bools as data -/
theorem dp_bools {K : PySem.W.Frag} {H : Hp} : ∀ bs : List Bool, DpAll K H (bs.map V.bl) (bs.map PyData.bool)
  | [] => .nil
  | b :: r => .cons (.bl b) (dp_bools r)
theorem eqv_4 (a b c d : Bool) : PyData.eqv (.list ([a, b, c, d].map PyData.bool)) (.list ([a, b, c, d].map PyData.bool)) = true := by
  cases a <;> cases b <;> cases c <;> cases d <;> decide
theorem shaped_4 (a b c d : Bool) : SeqAt.shaped (.list ([a, b, c, d].map PyData.bool)) = true := by
  cases a <;> cases b <;> cases c <;> cases d <;> decide
theorem same_new {H : Hp} {p : Addr} {o : HO} (e : H p = none) : L2.Same H (upd H p o) := fun b u hb => (upd_ne (ne_of_none hb e)).trans hb
end Ov

set_option Elab.async false
set_option linter.all false
set_option maxRecDepth 100000
set_option maxHeartbeats 4000000
/-! enumerate over a text, list of a text, list of a range, text * int -/
namespace Ov
open PySem PySem.Spec PyProof.Rows L2 GxR
/-- a text of small signs, each one with its place in a new pair -/
def Ites (x : Str) : It :=
  ⟨fun i _ => i < x.cps.size, fun i H v H' => ∃ T c, v = .ref T ∧ H T = none ∧ H' = upd H T (.tup [.int (i : Nat), .str ⟨#[c]⟩]) ∧ x.cps[i]? = some c, fun i _ => i = x.cps.size⟩
theorem turn_enumS {P : Program} {w : World} {K : PySem.W.Frag} {es : List Expr} {j : Nat} {tp : Pos} (x : Str) (t : Tok) (e it : Addr) :
    Turn P w K (.Tuple es j tp) (Ites x) [e, it] e (fun i h => (∃ old, IsEnum h e it ((i : Nat) : Int) old) ∧ h.IsStrIter it "str_ascii_iterator" x t i ∧ e ≠ it) where
  mem := by simp
  obj := fun i h st b hb => by
    obtain ⟨⟨old, he⟩, ⟨o, ho, hc, hd⟩, _⟩ := st
    rcases (by simpa using hb : b = e ∨ b = it) with z | z
    · subst z; exact ⟨_, he, fun v q => nomatch q⟩
    · subst z; exact ⟨o, ho, fun v q => by rw [hd] at q; cases q⟩
  keep := fun i h h' st k => by
    obtain ⟨⟨old, he⟩, ⟨o, ho, hc, hd⟩, hne⟩ := st
    exact ⟨⟨old, k e (by simp) _ he⟩, ⟨o, k it (by simp) _ ho, hc, hd⟩, hne⟩
  item := by
    intro X hP hw hK hcalm i pins s σ H E I hf st hg
    subst hP; subst hw; subst hK
    obtain ⟨⟨old, he⟩, hit, hne⟩ := st
    have lt_e : e < s.heap.objs.size := Heap.lt_size he
    have lt_i : it < s.heap.objs.size := by
      obtain ⟨_, q, _⟩ := hit
      exact Heap.lt_size q
    have hand : X.A.in1.handled = none := I.ok.hd hcalm
    refine wpAny_pyNext_enum_itemD (Draws.strAscii hand it x t) he hit hg hne (by simpa using hne) fun y h' tk py out st' pair size kept => ?_
    obtain ⟨c, u, hcx, rfl⟩ := py
    refine ⟨_, rfl, wpAny_letOwnedTupleGo_enum (s := { s with heap := h', toks := tk + 1 }) out fun h2 he2 sb => ?_⟩
    have pair2 := (sb.2 _ (Nat.ne_of_gt lt_e)).trans pair
    have fresh : ObjOk X.prog X.w (upd H s.heap.objs.size (.tup [.int (i : Nat), .str ⟨#[c]⟩])) h2 s.heap.objs.size (.tup [.int (i : Nat), .str ⟨#[c]⟩]) :=
      ⟨(by decide : 2 ≤ sizeLine), [.int i _, .str ⟨#[c]⟩ u], .cons ⟨_, rfl⟩ (.cons ⟨_, rfl⟩ .nil), ⟨_, pair2, rfl, _, rfl⟩⟩
    have J : Inv X pins σ (upd H s.heap.objs.size (.tup [.int (i : Nat), .str ⟨#[c]⟩])) { s with heap := h2, toks := tk + 1 } :=
      I.turnedNew (ch := [e, it]) (fun b ob hb q => (sb.2 b fun z => hb (by simp [z])).trans (kept b ob (fun z => hb (by simp [z])) (fun z => hb (by simp [z])) q)) hf (Nat.le_refl _) fresh
    obtain ⟨o2, ho2, hc2, hd2⟩ := st'
    refine ⟨.ref s.heap.objs.size, _, J, rfl, ⟨_, c, rfl, I.hok.fresh (Nat.le_refl _), rfl, hcx⟩, ⟨⟨.str ⟨#[c]⟩ u, ?_⟩, ⟨o2, (sb.2 it (Ne.symm hne)).trans ho2, hc2, hd2⟩, hne⟩, fun b hb => ?_⟩
    · rw [show ((i + 1 : Nat) : Int) = (i : Int) + 1 by omega]; exact he2
    · have lt_b : b < s.heap.objs.size := by
        rcases (by simpa using hb : b = e ∨ b = it) with z | z
        · subst z; exact lt_e
        · subst z; exact lt_i
      exact (upd_ne (Nat.ne_of_lt lt_b)).trans (hf b hb).1
  done := by
    intro X hP hw hK hcalm i pins s σ H E I hf st hg
    subst hP; subst hw; subst hK
    obtain ⟨⟨old, he⟩, hit, hne⟩ := st
    obtain ⟨z0, z1, z2, z3, z4, z5⟩ := hf it (by simp)
    have hand : X.A.in1.handled = none := I.ok.hd hcalm
    have hit' : s.heap.IsStrIter it "str_ascii_iterator" x t x.cps.size := by
      have hg' : i = x.cps.size := hg
      rw [← hg']; exact hit
    exact wpAny_pyNext_enum_endD (Draws.strAscii hand it x t) he hit' fun h' eb => ⟨rfl, I.turned (t' := s.toks) (fun b o hb q => eb b o hb q) z0 z1 z3 z4 z5⟩
  self := fun A i s Q E st h => by
    obtain ⟨⟨_, he⟩, _⟩ := st
    exact wpAny_pyIter_enum he h
def iEnumS (ta : TA) : TI := fun σ H R => ta σ H fun vs H1 => ∃ x : Str, vs = [.str x] ∧ x.cps.all (· < 128) = true ∧ R (Ites x) H1
theorem pi_enumS {X : Cx} {e : Expr} {ta : TA} {p pos tp : Pos} {es : List Expr} {j : Nat} (hg : Gl X "enumerate") (hm : X.mg "enumerate" = none) (ha : PA X [e] ta) (hs : starEach [e] X.env = [(false, eval e X.env)] := by rfl) :
    PI X (.Tuple es j tp) (.Call (.Name "enumerate" p) [e] [] pos) (iEnumS ta) := by
  refine ⟨fun pins s σ H R I h => ?_⟩
  refine Call_ (ld_blt I hg hm boot_enumerate (PyProof.Rows.callWith_type1 (thn (ha.run pos pins s σ H _ I h) fun us s1 ⟨vs, H1, I1, r1, q1⟩ => ?_) hs rfl))
  obtain ⟨x, rfl, asc, q⟩ := q1
  obtain ⟨u, rfl, t, rfl⟩ := vals1 r1
  refine call_enumerate_str fun h' he hit size kept => wpAny_pyIter_enum he ?_
  have hit' : h'.IsStrIter s1.heap.objs.size "str_ascii_iterator" x t 0 := by simpa [strIterType, asc] using hit
  have J : Inv X pins σ H1 { s1 with heap := h' } := I1.kept (t' := s1.toks) kept
  refine ⟨s1.heap.objs.size + 1, [s1.heap.objs.size + 1, s1.heap.objs.size], _, _, H1, rfl, J, turn_enumS x t (s1.heap.objs.size + 1) s1.heap.objs.size, ⟨⟨.none, he⟩, hit', Nat.succ_ne_self _⟩, fun b hb => ?_, q⟩
  have le_b : s1.heap.objs.size ≤ b := by
    rcases (by simpa using hb : b = s1.heap.objs.size + 1 ∨ b = s1.heap.objs.size) with z | z
    · subst z; exact Nat.le_succ _
    · subst z; exact Nat.le_refl _
  exact I1.fpOk le_b (I1.hok.fresh le_b)
theorem for_enumS {x : Str} {g : TG} {tb : TS} {D : Ends} {σ : L2.St} {H : Hp} (Pv : Nat → L2.St → Hp → Prop) (h0 : Pv 0 σ H)
    (hs : ∀ i c σ H T, x.cps[i]? = some c → Pv i σ H → H T = none → g (.ref T) σ (upd H T (.tup [.int (i : Nat), .str ⟨#[c]⟩])) fun σ2 H2 => tb { D with nx := Pv (i + 1), ct := Pv (i + 1), bk := D.nx } σ2 H2) (hd : ∀ σ H, Pv x.cps.size σ H → D.nx σ H) :
    ∃ W : Nat → Nat → L2.St → Hp → Prop, (∃ m, W 0 m σ H) ∧ ∀ i m σ H, W i m σ H →
      ((Ites x).stop i H ∧ D.nx σ H) ∨ ((Ites x).go i H ∧ ∃ N : L2.St → Hp → Prop, (∀ σ' H', N σ' H' → ∃ m', m' < m ∧ W (i + 1) m' σ' H') ∧ ∀ x' H', (Ites x).yld i H x' H' → g x' σ H' fun σ2 H2 => tb { D with nx := N, ct := N, bk := D.nx } σ2 H2) := by
  refine ⟨fun i m σ H => m = x.cps.size - i ∧ i ≤ x.cps.size ∧ Pv i σ H, ⟨x.cps.size, by simp, Nat.zero_le _, h0⟩, ?_⟩
  rintro i m σ H ⟨rfl, hi, p⟩
  by_cases hlt : i < x.cps.size
  · refine .inr ⟨hlt, Pv (i + 1), fun σ' H' p' => ⟨x.cps.size - (i + 1), by omega, rfl, hlt, p'⟩, fun y H' yy => ?_⟩
    obtain ⟨T, c, rfl, hT, rfl, hc⟩ := yy
    exact hs i c σ H T hc p hT
  · have e : i = x.cps.size := by omega
    subst e
    exact .inl ⟨rfl, hd σ H p⟩
theorem vals_ext : ∀ {xs : List V} {us : List Value}, xs.length = us.length → (∀ (i : Nat) (x : V) (u : Value), xs[i]? = some x → us[i]? = some u → RelV x u) → Vals xs us
  | [], [], _, _ => .nil
  | x :: xs, u :: us, h, k => .cons (k 0 x u rfl rfl) (vals_ext (by simpa using h) fun i y w h1 h2 => k (i + 1) y w (by simpa using h1) (by simpa using h2))
/-- list(text) -/
theorem call_listS {X : Cx} (hc : X.calm = true) : CallR X (.type "list") (fun xs H Q => ∃ z : Str, xs = [.str z] ∧ z.length ≤ sizeLine ∧ ∀ l, H l = none → Q (.ref l) (upd H l (.lst (z.cps.toList.map fun c => V.str ⟨#[c]⟩)))) := by
  intro pins s σ H xs us Q I r h
  obtain ⟨z, rfl, hz, q⟩ := h
  obtain ⟨u, rfl, t, rfl⟩ := vals1 r
  refine call_list_str (I.ok.hd hc) z t (hn := hz) fun h' tk acc' c' hk hS' hacc => ?_
  have lz : z.cps.toList.length = z.length := by simp [Str.length]
  have rel : Vals (z.cps.toList.map fun c => V.str ⟨#[c]⟩) acc'.toList := by
    refine vals_ext (by rw [List.length_map, lz, Array.length_toList, hacc.1]; rfl) fun i y w h1 h2 => ?_
    obtain ⟨c, u, e1, rfl⟩ := hacc.2 i w (by simpa using h2)
    rw [List.getElem?_map, Array.getElem?_toList, e1] at h1
    cases h1
    exact ⟨_, rfl⟩
  refine ⟨.ref s.heap.objs.size, _, I.laid (t' := tk) hk (Nat.le_refl _) ?_, rfl, q _ (I.hok.fresh (Nat.le_refl _))⟩
  exact ⟨by rw [List.length_map, lz]; exact hz, acc'.toList, c', rel, by simpa using hS'⟩
/-- text * int -/
theorem op_mulS {X : Cx} : OpR X (binaryOp .Mult) (fun x y H Q => ∃ (z : Str) (n : Int), x = .str z ∧ y = .int n ∧ 0 ≤ n ∧ n ≤ 1000 ∧ z.length ≤ 1000 ∧ Q (.str ⟨(List.replicate n.toNat z.cps.toList).flatten.toArray⟩) H) := by
  intro pins s σ H x y v u Q I rx ry h
  obtain ⟨z, n, rfl, rfl, h0, h1', hz, q⟩ := h
  obtain ⟨t, rfl⟩ := rx
  obtain ⟨t', rfl⟩ := ry
  have hn : ¬ n < -(2 ^ 63 : Int) := by omega
  refine PySem.P.mul_str (by simp; omega) (fun h1 h2 => ?_) (fun h1 h2 => ?_) ?_
  · refine Int.not_lt.mpr (Int.le_ediv_of_mul_le (by omega) ?_)
    have : (z.length : Int) * n ≤ 1000 * 1000 := Int.mul_le_mul (by omega) h1' h0 (by decide)
    omega
  · unfold Builtin.Str.tooLong
    have : z.length * n.toNat ≤ 1000 * 1000 := Nat.mul_le_mul hz (by omega)
    exact decide_eq_false (by rw [sizeLine_eq]; omega)
  · have e1 : n < 1 → (⟨(List.replicate n.toNat z.cps.toList).flatten.toArray⟩ : Str) = Str.empty := fun h => by
      have : n.toNat = 0 := by omega
      rw [this]; rfl
    have e2 : (n == 1 || z.length == 0) = true → (⟨(List.replicate n.toNat z.cps.toList).flatten.toArray⟩ : Str) = z := fun h => by
      rw [Bool.or_eq_true, beq_iff_eq, beq_iff_eq] at h
      rcases h with rfl | h
      · simp
      · have e : z.cps = #[] := Array.eq_empty_of_size_eq_zero h
        rw [show z = ⟨#[]⟩ from by cases z; simp_all]
        simp
    have e3 : ∀ (k : Nat) (acc : Array Nat), (List.replicate k z.cps).foldl (· ++ ·) acc = acc ++ (List.replicate k z.cps.toList).flatten.toArray := fun k => by
      induction k with
      | zero => intro acc; simp
      | succ k ih =>
        intro acc
        rw [List.replicate_succ, List.foldl_cons, ih, List.replicate_succ, List.flatten_cons]
        apply Array.ext'
        simp
    split
    · rename_i hlt
      rw [e1 hlt] at q
      exact ⟨by decide, .str _, H, I.tok _, ⟨_, rfl⟩, q⟩
    · split
      · rename_i hb
        rw [e2 hb] at q
        exact ⟨.str z, H, I, ⟨_, rfl⟩, q⟩
      · rw [e3 n.toNat #[]]
        have hl : ∀ k : Nat, ((List.replicate k z.cps.toList).flatten).length = z.length * k := fun k => by
          simp [Str.length, Nat.mul_comm]
        refine ⟨?_, .str _, H, I.tok _, ⟨_, rfl⟩, by simpa using q⟩
        have : z.length * n.toNat ≤ 1000 * 1000 := Nat.mul_le_mul hz (by omega)
        show (#[] ++ (List.replicate n.toNat z.cps.toList).flatten.toArray : Array Nat).size ≤ sizeLine
        have e5 : (#[] ++ (List.replicate n.toNat z.cps.toList).flatten.toArray : Array Nat).size = z.length * n.toNat := by
          rw [← hl n.toNat, Array.size_append, List.size_toArray, List.size_toArray]
          simp
        rw [e5, sizeLine_eq]
        omega
/-- list(a range object) -/
def rListR : List V → Hp → VK → Prop := fun xs H Q => ∃ (r : Addr) (lo hi : Int), xs = [.ref r] ∧ H r = some (.rng lo hi) ∧ -(2 ^ 40) ≤ lo ∧ lo ≤ 2 ^ 40 ∧ -(2 ^ 40) ≤ hi ∧ hi ≤ 2 ^ 40 ∧ hi - lo ≤ 100000 ∧
  ∀ l, H l = none → Q (.ref l) (upd H l (.lst ((List.range (hi - lo).toNat).map fun i => V.int (lo + (i : Nat)))))
theorem call_listR {X : Cx} (hc : X.calm = true) : CallR X (.type "list") rListR := by
  intro pins s σ H xs us Q I r h
  obtain ⟨a, lo, hi, rfl, ha, l1, l2, l3, l4, l5, q⟩ := h
  obtain ⟨u0, rfl, ru⟩ := vals1 r
  obtain rfl : u0 = Value.ref a := ru
  obtain ⟨t, u, v, hr⟩ := (show ObjOk X.prog X.w H s.heap a (.rng lo hi) from I.hok a _ ha)
  have sz : Builtin.Range.rangeSize lo hi 1 = ((hi - lo).toNat : Int) := by
    rw [rangeSize_one]
    split <;> omega
  have sm : Builtin.Range.small lo hi 1 = true := by
    unfold Builtin.Range.small Builtin.Range.rangeFitsLong
    simp only [sz]
    simp
    omega
  refine call_list_range (I.ok.hd hc) hr sm sz (by omega) fun h' tk acc' c' hk hS' hacc => ?_
  have rel : Vals ((List.range (hi - lo).toNat).map fun i => V.int (lo + (i : Nat))) acc'.toList := by
    refine vals_ext (by rw [List.length_map, List.length_range, Array.length_toList, hacc.1]) fun i y w h1 h2 => ?_
    obtain ⟨tt, rfl⟩ := hacc.2 i w (by simpa using h2)
    obtain ⟨hj, e⟩ := List.getElem?_eq_some_iff.mp h1
    simp at e
    subst e
    exact ⟨tt, by simp⟩
  refine ⟨.ref s.heap.objs.size, _, I.laid (t' := tk) hk (Nat.le_refl _) ?_, rfl, q _ (I.hok.fresh (Nat.le_refl _))⟩
  exact ⟨by rw [List.length_map, List.length_range, sizeLine_eq]; omega, acc'.toList, c', rel, by simpa using hS'⟩
end Ov

set_option Elab.async false
set_option linter.all false
set_option maxRecDepth 100000
set_option maxHeartbeats 4000000
/-! calls of an instance: in a try's body, by keywords -/
namespace Ov
open PySem PySem.Spec PyProof.Rows L2 GxR
theorem callI_of {M : Model} {A : Around} {Ex : Value → Shared → Prop} {s : Shared} {x : Addr} {ps : Pos} {Q : Value → Shared → Prop} {as : List (Bool × Sem Value)} {ks : List (Option Str × Sem Value)} (no : (as.any (·.1) || ks.any (·.1.isNone)) = false)
    (h : wpAny M A (evalArgs (.ref x) true as ks) (fun z t => (∃ C o od, PySem.W.InstAt t.heap x o C od ∧ o.data = .plain) ∧ wpAny M A (call (.ref x) ([] ++ z.pos) z.kw) Q Ex t) Ex s) : wpAny M A (callWith ps (.ref x) [] as ks) Q Ex s := by
  unfold callWith
  refine wpAny_bind (wpAny_holding (wpAny_mono h (fun z t ht => ?_) fun _ _ y => y))
  obtain ⟨⟨C, o, od, J, plain⟩, hc⟩ := ht
  refine wpAny_bind (wpAny_standAt ?_)
  simp only [no]
  refine wpAny_bind ((PySem.W.kco_keeper (M := M) J plain).here ?_)
  exact wpAny_bind (wpAny_mono (wpAny_operateT hc) (fun r u hu => wpAny_bind (wpAny_holding (wpAny_point (wpAny_pure hu)))) fun _ _ y => y)
section
variable {X : Cx} {CX : CXT} {k : Nat} {C g : Addr} {fd : FuncData} {ps ks : List Str} {sp : Sp} {E : L2.St → XK} {fe e : Expr} {es : List Expr} {kws : List Keyword} {tf : TE} {t tk : TA} {pos : Pos} {gL : List Value → List Value → List Value} {gV : List V → List V → List V}
/-- f(e, ..), f an instance of C with __call__ -/
def tCallI (C : Addr) (sp : Sp) (E : L2.St → XK) (tf : TE) (t : TA) : TE := fun σ H Q => tf σ H fun y H1 => ∃ a, y = V.ref a ∧ t σ H1 fun vs H2 => (∃ dx fs, H2 a = some (.ins C dx fs)) ∧ sp (V.ref a :: vs) H2 Q (E σ)
theorem inst_at {pins : List (Addr × Obj)} {σ : L2.St} {H : Hp} {s : Shared} {a dx : Addr} {fs : List (Str × V)} (I : Inv X pins σ H s) (h : H a = some (.ins C dx fs)) : ∃ o od, PySem.W.InstAt s.heap a o C od ∧ o.data = .plain := by
  obtain ⟨m, O, _⟩ := ins_get I.hok h
  obtain ⟨od, J, _⟩ := O.look
  exact ⟨_, _, J, rfl⟩
theorem pe_callI (hf : PE X fe tf) (c : StX.CallO X.K C g) (F : FnR X.prog X.w X.K X.mg X.base CX k g sp) (hr : Room k X.A) (hx : ∀ σ, PassesAt CX X σ (E σ)) (ha : PA X (e :: es) t)
    (ht : eval (.Call fe (e :: es) [] pos) X.env = (do callWith pos (← eval fe X.env) [] (backTo pos (starEach (e :: es) X.env)) (backToKw pos (keywordEach [] X.env))) := by rfl)
    (he : starEach (e :: es) X.env = (false, eval e X.env) :: starEach es X.env := by rfl) (hpl : (backTo pos (starEach es X.env)).any (·.1) = false := by rfl) : PE X (.Call fe (e :: es) [] pos) (tCallI C sp E tf t) := by
  refine ⟨fun pins s σ H Q I h => ?_⟩
  refine Call_ (thn (hf.run pins s σ H _ I h) fun u s1 ⟨y, H1, I1, ry, a, ey, q⟩ => ?_) ht
  subst ey
  obtain rfl : u = Value.ref a := ry
  refine StX.callO_with (thn (ha.run pos pins s1 σ H1 _ I1 q) fun us s2 ⟨vs, H2, I2, r, ⟨dx, fs, hi⟩, q2⟩ => ?_) he hpl
  obtain ⟨o, od, J, plain⟩ := inst_at I2 hi
  refine ⟨⟨C, o, od, J, plain⟩, wpAny_call (PySem.W.kco_code I2.kIn J plain c.at_ c.fn c.fi (codeAny_mono (F X.A X.stack s2 H2 (.ref a :: us) (V.ref a :: vs) Q (E σ) hr I2.env0 (.cons rfl r) q2) fun r s' hq => ?_))⟩
  cases r with
  | error e => exact hx σ _ H2 s2 e s' I2 hq
  | ok fl =>
    cases fl with
    | ret u => exact I2.after hq
    | next => exact False.elim hq
    | brk => exact False.elim hq
    | cont => exact False.elim hq
def tCallIK (C : Addr) (m : Nat) (sp : Sp) (gV : List V → List V → List V) (E : L2.St → XK) (tf : TE) (tk : TA) : TE := fun σ H Q => tf σ H fun y H1 => ∃ a, y = V.ref a ∧ tk σ H1 fun zs H2 => (∃ dx fs, H2 a = some (.ins C dx fs)) ∧ zs.length = m ∧ sp (gV [V.ref a] zs) H2 Q (E σ)
theorem pe_callIK (hf : PE X fe tf) (c : StX.CallO X.K C g) (F : FnOk X.prog X.w X.K X.mg X.base CX k g fd ps sp) (hr : Room k X.A) (hb : KBn X.K fd ps 1 ks gL gV) (hx : ∀ σ, PassesAt CX X σ (E σ)) (hkw : PK X kws tk)
    (hall : (backToKw pos (keywordEach kws X.env)).all (·.1.isSome) = true := by rfl) (hks : (backToKw pos (keywordEach kws X.env)).filterMap (·.1) = ks := by rfl)
    (hpl : ((backTo pos (starEach [] X.env)).any (·.1) || (backToKw pos (keywordEach kws X.env)).any (·.1.isNone)) = false := by rfl)
    (ht : eval (.Call fe [] kws pos) X.env = (do callWith pos (← eval fe X.env) [] (backTo pos (starEach [] X.env)) (backToKw pos (keywordEach kws X.env))) := by rfl) : PE X (.Call fe [] kws pos) (tCallIK C ks.length sp gV E tf tk) := by
  refine ⟨fun pins s σ H Q I h => ?_⟩
  show wpAny _ _ (eval (.Call fe [] kws pos) X.env) _ _ _
  rw [ht]
  refine wpAny_bind (thn (hf.run pins s σ H _ I h) fun u s1 ⟨y, H1, I1, ry, a, ey, q⟩ => ?_)
  subst ey
  obtain rfl : u = Value.ref a := ry
  refine callI_of hpl (evalArgs_kw2_nil hall ?_)
  refine thn (hkw.run pos pins s1 σ H1 _ I1 q) fun ws s2 ⟨zs, H2, I2, rz, ⟨dx, fs, hi⟩, l2, q2⟩ => ?_
  rw [hks]
  obtain ⟨o, od, J, plain⟩ := inst_at I2 hi
  refine ⟨⟨C, o, od, J, plain⟩, wpAny_call (PySem.W.kco_code I2.kIn J plain c.at_ c.fn c.fi (codeAny_mono (F.run X.A X.stack s2 H2 ⟨[.ref a], ks.zip ws⟩ (gL [.ref a] ws) (gV [V.ref a] zs) Q (E σ) hr I2.env0 (hb.to s2 [.ref a] ws I2.kIn rfl (rz.length.symm.trans l2)) (hb.rel (.cons rfl .nil) rz) q2) fun r s' hq => ?_))⟩
  cases r with
  | error e => exact hx σ _ H2 s2 e s' I2 hq
  | ok fl =>
    cases fl with
    | ret u => exact I2.after hq
    | next => exact False.elim hq
    | brk => exact False.elim hq
    | cont => exact False.elim hq
end
end Ov

set_option Elab.async false
set_option linter.all false
set_option maxRecDepth 100000
set_option maxHeartbeats 4000000
/-! x.replace('.', '') in a def's last test -/
namespace Ov
open PySem PySem.Spec PyProof.Rows L2 GxR CwR
section
variable {X : Cx} {a b e : Expr} {rest : List Expr} {ta tb te : TE} {pos p : Pos}
theorem pet_one {op : BoolOp} (h : PET X e te) : PET X (.BoolOp op [e] pos) te := fun pins s σ H Q h0 I q => BoolOp_one (h pins s σ H Q h0 I q)
theorem pet_and (ha : PE X a ta) (hb : PET X (.BoolOp .And (b :: rest) pos) tb) : PET X (.BoolOp .And (a :: b :: rest) pos) (tAndV ta tb) := by
  intro pins s σ H Q h0 I h
  refine BoolOp_and (wpAny_mono (PySem.wpAny_toks (ha.run pins s σ H _ I h)) (fun v s1 z => ?_) fun _ _ z => z.2)
  obtain ⟨hk, x, H1, I1, r1, c, rfl, q1⟩ := z
  cases r1
  refine wpAny_truthy_bool ?_
  cases c with
  | false => exact ⟨.bl false, H1, I1, rfl, q1⟩
  | true => exact hb pins s1 σ H1 Q (Nat.le_trans h0 hk) I1 q1
theorem pet_call1 {CX : CXT} {k : Nat} {f : Addr} {fd : FuncData} {ps : List Str} {sp : Sp} {E : XK} {x : Str} (F : FnOk X.prog X.w X.K X.mg X.base CX k f fd ps sp) (hr : Room k X.A) (hg : Gl X x) (hm : X.mg x = some (.ref f)) (hk : PySem.W.keepIn X.K (.ref f) = true) (hb : Binds X.K fd ps []) (hx : Passes CX X E) (he : PET X e te)
    (hdb : (x == ("__debug__" : Str)) = false := by decide) (hst : starEach [e] X.env = [(false, eval e X.env)] := by rfl) : PET X (.Call (.Name x p) [e] [] pos) (tCall sp [] E (tCons te tNil)) := by
  intro pins s σ H Q h0 I h
  refine wpAny_Call_Name_kw (ld_glob I hg hm ?_ hdb)
  have hst' : starEach [e] X.env = (false, eval e X.env) :: starEach [] X.env := hst
  refine PySem.W.callWith_K (h₀ := X.base) I.ok.mod.kin hk ?_ hst' (by rfl)
  refine PyProof.Rows.args_cons (thn (he pins s σ H _ h0 I h) fun v s1 ⟨y, H1, I1, r1, q1⟩ => PyProof.Rows.args_nil ?_) hst'
  exact ⟨I1.kIn, run_fn F hr hb .nil hx I1 (.cons r1 .nil) q1⟩
end
end Ov

set_option Elab.async false
set_option linter.all false
set_option maxRecDepth 100000
set_option maxHeartbeats 4000000
namespace Ov
open PySem PySem.Spec PyProof.Rows L2 GxR
abbrev sStrip : Stmt := top 46
abbrev sOver : Stmt := top 48
abbrev sWords : Stmt := inClass (top 49) 3
abbrev sWidth : Stmt := inClass (top 49) 4
abbrev sCall : Stmt := inClass (top 49) 7
def dotsB (z : Str) : Bool := z.cps.toList.all fun c => c == 46 || (decide (97 ≤ c) && decide (c ≤ 122))
def stripB (z : Str) (m : Int) : Bool := decide (1 ≤ (z.length : Int)) && decide ((z.length : Int) ≤ m) && dotsB z
theorem low_dots (z : Str) : lowB (Txt.replace z "." "") = dotsB z := by
  have e := replace_strikes z 46
  have e2 : (("." : Str), ("" : Str)) = (⟨#[46]⟩, ⟨#[]⟩) := by decide +kernel
  rw [(Prod.mk.inj e2).1, (Prod.mk.inj e2).2]
  unfold lowB dotsB
  rw [e, List.all_filter]
  congr 1
  funext c
  by_cases h : c = 46
  · subst h; rfl
  · have h1 : (c != 46) = true := by simp [h]
    have h2 : (c == 46) = false := by simp [h]
    rw [h1, h2]; simp
/-- the names that these defs read at the top -/
structure Txt2 (K : PySem.W.Frag) (mg : Str → Option Value) (fStrip fOver : Addr) : Prop where
  gStrip : mg "is_strip" = some (.ref fStrip)
  kStrip : PySem.W.keepIn K (.ref fStrip) = true
  gOver : mg "over" = some (.ref fOver)
  kOver : PySem.W.keepIn K (.ref fOver) = true
  cells : ∃ t, mg "MOST_CELLS" = some (.int 120 t)
section
variable {P : Program} {w : World} {K : PySem.W.Frag} {mg : Str → Option Value} {base : Heap} {T : List Addr} {C D fLow fText fAre fTape fNext fInks fInit cLow PLow cAre PAre fStrip fOver pWi fWi DSp DSg : Addr}
def spStrip (K : PySem.W.Frag) (T : List Addr) : Sp := fun vs H Q _ => ∃ (x : V) (m : Int), vs = [x, .int m] ∧ (∀ p ∈ T, TabG H p) ∧
  ((∃ z : Str, x = .str z ∧ z.length ≤ 4000 ∧ ∀ H2, Tbs T H H2 → Q (.bl (stripB z m)) H2) ∨ (∃ t, TyX K H x t ∧ PySem.W.kitOne K t (.type "str") = some false ∧ Q (.bl false) H))
theorem scStrip : FnScope ["thing", "most"] ["thing", "most"] (defScope sStrip) := ⟨rfl, rfl, rfl, by decide +kernel, rfl, by decide +kernel, by decide +kernel⟩
theorem ok_strip {f : Addr} {fd fdL : FuncData} (F : L2.Fun K "is_strip" "is_strip" sStrip f fd) (FL : FunC K "is_lowercase" "is_lowercase" sLow fLow fdL cLow) (X : Txt K mg C fLow fText fAre fTape fNext fInks) (B : Tab base mg T cLow PLow cAre PAre) : FnOk P w K mg base CX0 3 f fd ["thing", "most"] (spStrip K T) := by
  obtain ⟨oc, od, kV, doc, pm, an, cdv, ct, osl, rfl, lk, hcd⟩ := F.ex
  refine fn_ofT lk hcd scStrip (by decide +kernel) (by decide) (fun vs H Q E h => ?_) (fun A outer s H vs Q E hr h => ?_)
  · obtain ⟨x, m, rfl, _⟩ := h
    rfl
  · obtain ⟨x, m, rfl, hT, k⟩ := h
    refine ⟨_, CwR.psst_one (CwR.pst_ret (pet_and (pe_callB call_isi (by rfl) X.isi boot_isinstance (pa_cons (pv 0) (pa_cons (pe_bltn (v := .ty "str") (by rfl) X.str PySem.Pv.boot_str rfl) pa_nil)))
      (pet_and (pe_chain op_le op_le pe_int (pe_callB call_len_str (by rfl) X.len boot_len (pa_cons (pv 0) pa_nil)) (pv 1))
        (pet_one (pet_call1 (ok_low FL X B) hr (by rfl) X.gLow X.kLow (FL.toFun.binds fun _ _ _ _ _ _ us hl => match us, hl with | [_], _ => rfl) L2.pass0 (CwR.pet_replC (y := ".") (z := "") (pv 0))))))), ?_⟩
    rcases k with ⟨z, rfl, hz, k⟩ | ⟨t, ht, hk, k⟩
    · have hzs : z.length ≤ sizeLine := Nat.le_trans hz (by decide)
      refine ⟨_, rfl, _, _, _, _, _, rfl, .ty _, .base (.str _), kit_ty (r := true) (by decide +kernel), true, rfl, ?_⟩
      refine iteT ?_
      refine ⟨_, rfl, z, rfl, hzs, _, _, rfl, rfl, _, rfl, ?_⟩
      by_cases h1 : 1 ≤ (z.length : Int)
      · refine iteT' (by simpa using h1) ?_
        refine ⟨_, rfl, _, _, rfl, rfl, _, rfl, ?_⟩
        by_cases h2 : (z.length : Int) ≤ m
        · refine iteT' (by simpa using h2) ?_
          refine ⟨_, rfl, z, rfl, ?_, Txt.replace z "." "", rfl, hT, fun H2 q => ?_⟩
          · have : (("" : Str)).length = 0 := rfl
            rw [this]
            omega
          · have := k H2 q
            unfold stripB at this
            rw [low_dots]
            simpa [h1, h2] using this
        · refine iteF' (by simpa using h2) ?_
          have := k H (.refl hT)
          unfold stripB at this
          simpa [h1, h2] using this
      · refine iteF' (by simpa using h1) ?_
        refine ⟨_, rfl, ?_⟩
        refine iteF ?_
        have := k H (.refl hT)
        unfold stripB at this
        simpa [h1] using this
    · refine ⟨_, rfl, _, _, _, _, _, rfl, .ty _, ht, hk, false, rfl, ?_⟩
      exact iteF k
/-- the strip after a stamping at p -/
def overS (z w : Str) (p : Nat) : Str := ⟨(z.cps.toList.take p ++ w.cps.toList ++ z.cps.toList.drop (p + w.length)).toArray⟩
theorem tl_len (z : Str) : z.cps.toList.length = z.length := by simp [Str.length]
theorem over_cut (z w : Str) (p : Nat) (h : p + w.length ≤ z.length) : (cutS z none (some (p : Int)) ++ w) ++ cutS z (some ((p : Int) + w.length)) none = overS z w p := by
  have e1 : cutS z none (some (p : Int)) = ⟨(z.cps.toList.take p).toArray⟩ := by
    unfold cutS
    rw [HT.sIx_none, HT.sIx_nat, Nat.min_eq_left (by omega : p ≤ z.length), List.drop_zero, Nat.sub_zero]
  have e2 : cutS z (some ((p : Int) + w.length)) none = ⟨(z.cps.toList.drop (p + w.length)).toArray⟩ := by
    unfold cutS
    have : ((p : Int) + w.length) = ((p + w.length : Nat) : Int) := by omega
    rw [this, HT.sIx_none, HT.sIx_nat, Nat.min_eq_left h, List.take_of_length_le (by rw [List.length_drop, tl_len]; omega)]
  rw [e1, e2]
  show (⟨((z.cps.toList.take p).toArray ++ w.cps) ++ (z.cps.toList.drop (p + w.length)).toArray⟩ : Str) = overS z w p
  unfold overS
  congr 1
  apply Array.ext'
  simp
theorem overS_len (z w : Str) (p : Nat) (h : p + w.length ≤ z.length) : (overS z w p).length = z.length := by
  show ((z.cps.toList.take p ++ w.cps.toList ++ z.cps.toList.drop (p + w.length)).toArray).size = z.length
  rw [List.size_toArray, List.length_append, List.length_append, List.length_take, List.length_drop, tl_len, tl_len]
  omega
def spOver : Sp := fun vs H Q _ => ∃ (z u : Str) (p : Nat), vs = [.str z, .str u, .int (p : Nat)] ∧ p + u.length ≤ z.length ∧ z.length ≤ 4000 ∧ Q (.str (overS z u p)) H
theorem scOver : FnScope ["strip", "letters", "place"] ["strip", "letters", "place"] (defScope sOver) := ⟨rfl, rfl, rfl, by decide +kernel, rfl, by decide +kernel, by decide +kernel⟩
theorem ok_over {f : Addr} {fd : FuncData} (F : L2.Fun K "over" "over" sOver f fd) (X : Txt K mg C fLow fText fAre fTape fNext fInks) : FnOk P w K mg base CX0 1 f fd ["strip", "letters", "place"] spOver := by
  refine F.ok scOver (fun vs H Q E h => ?_) (fun cdv A outer s H vs Q E hr h => ?_)
  · obtain ⟨z, u, p, rfl, _⟩ := h
    rfl
  · obtain ⟨z, u, p, rfl, hp, hz, q⟩ := h
    have hzs : z.length ≤ sizeLine := Nat.le_trans hz (by decide)
    have hus : u.length ≤ sizeLine := Nat.le_trans (by omega : u.length ≤ z.length) hzs
    refine ⟨_, pss_one (ps_ret (pe_op op_add_str (pe_op op_add_str (pe_slice sl_str (pv 0) po_none (po_some (pv 2))) (pv 1)) (pe_slice sl_str (pv 0) (po_some (pe_op op_add (pv 2) (pe_callB call_len_str (by rfl) X.len boot_len (pa_cons (pv 1) pa_nil)))) po_none))), ?_⟩
    refine ⟨_, rfl, _, rfl, _, rfl, z, rfl, hzs, _, rfl, _, _, rfl, rfl, ?_, _, rfl, _, rfl, _, rfl, u, rfl, hus, _, _, rfl, rfl, _, rfl, z, rfl, hzs, _, _, rfl, rfl, ?_, ?_⟩
    · have := cutS_length z none (some (p : Int))
      rw [sizeLine_eq]; omega
    · have h1 := cutS_length z none (some (p : Int))
      have h2 := cutS_length z (some ((p : Int) + u.length)) none
      have h3 : (cutS z none (some (p : Int)) ++ u).length = (cutS z none (some (p : Int))).length + u.length := by
        show ((cutS z none (some (p : Int))).cps ++ u.cps).size = _
        rw [Array.size_append]; rfl
      rw [sizeLine_eq, h3]
      omega
    · have := over_cut z u p hp
      rw [this]
      exact q
end
end Ov

set_option Elab.async false
set_option linter.all false
set_option maxRecDepth 100000
set_option maxHeartbeats 4000000
namespace Ov
open PySem PySem.Spec PyProof.Rows L2 GxR
/-- words of stamps, their width -/
structure Good (ws : List Str) (W : Nat) : Prop where
  n1 : 1 ≤ ws.length
  n6 : ws.length ≤ 6
  w1 : 1 ≤ W
  w8 : W ≤ 8
  all : ∀ z ∈ ws, z.length = W ∧ lowB z = true
theorem good_of {ws : List Str} (h : stampsV (ws.map V.str) = true) : ∃ W, Good ws W := by
  have e : (ws.map V.str).map strV = ws := by rw [List.map_map]; exact List.map_id ws
  unfold stampsV at h
  rw [e] at h
  simp only [Bool.and_eq_true, decide_eq_true_eq, List.length_map] at h
  obtain ⟨h1, h2, h3, h4⟩ := h
  unfold tailB at h4
  simp only [Bool.and_eq_true] at h4
  have ta : ∀ z ∈ ws, textB z 8 = true := fun z hz => List.all_eq_true.mp h3 (.str z) (List.mem_map.mpr ⟨z, hz, rfl⟩)
  have la := List.all_eq_true.mp h4.1
  have hd : ∃ z, z ∈ ws ∧ ws.headD Str.empty = z := by
    cases ws with
    | nil => simp at h1
    | cons z r => exact ⟨z, List.mem_cons_self, rfl⟩
  obtain ⟨z0, hz0, e0⟩ := hd
  have t0 := ta z0 hz0
  unfold textB at t0
  simp only [Bool.and_eq_true, decide_eq_true_eq] at t0
  refine ⟨z0.length, h1, h2, by omega, by omega, fun z hz => ?_⟩
  have e1 := of_decide_eq_true (la z hz)
  rw [e0] at e1
  have t1 := ta z hz
  unfold textB at t1
  simp only [Bool.and_eq_true, decide_eq_true_eq] at t1
  exact ⟨e1, t1.2⟩
theorem Good.at {ws : List Str} {W : Nat} (g : Good ws W) {i : Nat} (hi : i < ws.length) : ws[i].length = W := (g.all _ (List.getElem_mem hi)).1
section
variable {P : Program} {w : World} {K : PySem.W.Frag} {mg : Str → Option Value} {base : Heap} {T : List Addr} {C D fLow fText fAre fTape fNext fInks fInit cLow PLow cAre PAre fStrip fOver pWi fWi pWo fWo fCl DSp DSg : Addr}
def spWidth (C : Addr) : Sp := fun vs H Q _ => ∃ (a l dx : Addr) (ws : List Str) (W : Nat), vs = [.ref a] ∧ Stp H C a l dx (ws.map V.str) ∧ Good ws W ∧ Q (.int (W : Nat)) H
theorem scSelf1 : FnScope ["self"] ["self"] (defScope sWidth) := ⟨rfl, rfl, rfl, by decide +kernel, rfl, by decide +kernel, by decide +kernel⟩
theorem scSelf2 : FnScope ["self"] ["self"] (defScope sWords) := ⟨rfl, rfl, rfl, by decide +kernel, rfl, by decide +kernel, by decide +kernel⟩
theorem at_0 {ws : List Str} (h : 1 ≤ ws.length) : atI (ws.map V.str) 0 = some (.str ws[0]) := by
  have h0 : (ws.map V.str)[0]? = some (.str ws[0]) := by rw [List.getElem?_map, List.getElem?_eq_getElem (by omega)]; rfl
  exact atI_nat (j := 0) h0
theorem at_i {ws : List Str} {i : Int} (h0 : 0 ≤ i) (h : i < ws.length) : atI (ws.map V.str) i = some (.str (ws.getD i.toNat Str.empty)) := by
  have hi : i.toNat < ws.length := by omega
  have h1 : (ws.map V.str)[i.toNat]? = some (.str (ws.getD i.toNat Str.empty)) := by
    rw [List.getElem?_map, List.getElem?_eq_getElem hi]
    simp [List.getD, hi]
  have e : i = (i.toNat : Int) := by omega
  have := atI_nat (j := i.toNat) h1
  rw [← e] at this
  exact this
theorem Good.get {ws : List Str} {W : Nat} (g : Good ws W) {i : Nat} (hi : i < ws.length) : (ws.getD i Str.empty).length = W ∧ lowB (ws.getD i Str.empty) = true := by
  have e : ws.getD i Str.empty = ws[i] := by simp [List.getD, hi]
  rw [e]
  exact g.all _ (List.getElem_mem hi)
theorem ok_width {f : Addr} {fd : FuncData} (F : L2.Fun K "width" "Stamps.width" sWidth f fd) (X : Txt K mg C fLow fText fAre fTape fNext fInks) (O : Own K C) : FnOk P w K mg base CX0 1 f fd ["self"] (spWidth C) := by
  refine F.ok scSelf1 (fun vs H Q E h => ?_) (fun cdv A outer s H vs Q E hr h => ?_)
  · obtain ⟨a, l, dx, ws, W, rfl, _⟩ := h
    rfl
  · obtain ⟨a, l, dx, ws, W, rfl, st, g, q⟩ := h
    refine ⟨_, pss_one (ps_ret (pe_callB call_len_str (by rfl) X.len boot_len (pa_cons (pe_ix ix_seq (pe_fld (pv 0) (by rfl)) pe_int fun _ _ => rfl) pa_nil))), ?_⟩
    have hl : 0 < ws.length := g.n1
    refine ⟨_, rfl, a, C, dx, _, _, rfl, st.1, O.cls, O.noW, rfl, .inl ⟨l, _, 0, .str ws[0], rfl, rfl, .inl (.inl st.2), at_0 g.n1, ws[0], rfl, ?_, ?_⟩⟩
    · rw [g.at hl]; exact Nat.le_trans g.w8 (by decide)
    · rw [g.at hl]; exact q
def spWords (C : Addr) : Sp := fun vs H Q _ => ∃ (a l dx : Addr) (xs : List V), vs = [.ref a] ∧ Stp H C a l dx xs ∧ ∀ p, H p = none → Q (.ref p) (upd H p (.lst xs))
theorem ok_words {f : Addr} {fd : FuncData} (F : L2.Fun K "words" "Stamps.words" sWords f fd) (X : Txt K mg C fLow fText fAre fTape fNext fInks) (O : Own K C) : FnOk P w K mg base CX0 1 f fd ["self"] (spWords C) := by
  refine F.ok scSelf2 (fun vs H Q E h => ?_) (fun cdv A outer s H vs Q E hr h => ?_)
  · obtain ⟨a, l, dx, xs, rfl, _⟩ := h
    rfl
  · obtain ⟨a, l, dx, xs, rfl, st, q⟩ := h
    refine ⟨_, pss_one (ps_ret (pe_callTy call_list_of (by rfl) X.lst (by decide +kernel) (pa_cons (pe_fld (pv 0) (by rfl)) pa_nil))), ?_⟩
    exact ⟨_, rfl, a, C, dx, _, _, rfl, st.1, O.cls, O.noW, rfl, l, xs, rfl, .inl (.inl (.inl st.2)), q⟩
/-- what a call of stamps gives: a strip, or the class of the error -/
inductive Called where
  | row (z : Str)
  | noStrip
  | noStamping
def calledS (ws : List Str) (W : Nat) (z : Str) (i at_ : Int) : Called :=
  if stripB z 120 = false then .noStrip else if 0 ≤ i ∧ i < ws.length ∧ 0 ≤ at_ ∧ at_ + W ≤ z.length then .row (overS z (ws.getD i.toNat Str.empty) at_.toNat) else .noStamping
def ans (c : Called) (DSp DSg : Addr) (H : Hp) (Q : VK) (E : XK) : Prop := match c with
  | .row z => Q (.str z) H
  | .noStrip => E (.ref DSp) none H
  | .noStamping => E (.ref DSg) none H
def spCall (K : PySem.W.Frag) (T : List Addr) (C DSp DSg : Addr) : Sp := fun vs H Q E => ∃ (a l dx : Addr) (ws : List Str) (W : Nat) (x : V) (i at_ : Int), vs = [.ref a, x, .int i, .int at_] ∧ Stp H C a l dx (ws.map V.str) ∧ Good ws W ∧ (∀ p ∈ T, TabG H p) ∧
  ((∃ z : Str, x = .str z ∧ z.length ≤ 4000 ∧ ∀ H2, Tbs T H H2 → ans (calledS ws W z i at_) DSp DSg H2 Q E) ∨ (∃ t, TyX K H x t ∧ PySem.W.kitOne K t (.type "str") = some false ∧ E (.ref DSp) none H))
theorem scCall : FnScope ["self", "strip", "word", "place"] ["self", "strip", "word", "place"] (defScope sCall) := ⟨rfl, rfl, rfl, by decide +kernel, rfl, by decide +kernel, by decide +kernel⟩
theorem ok_call {f : Addr} {fd fdS fdL fdO fdW : FuncData} (F : L2.Fun K "__call__" "Stamps.__call__" sCall f fd) (FS : L2.Fun K "is_strip" "is_strip" sStrip fStrip fdS) (FL : FunC K "is_lowercase" "is_lowercase" sLow fLow fdL cLow) (FO : L2.Fun K "over" "over" sOver fOver fdO) (FW : L2.Fun K "width" "Stamps.width" sWidth fWi fdW)
    (X : Txt K mg C fLow fText fAre fTape fNext fInks) (X2 : Txt2 K mg fStrip fOver) (B : Tab base mg T cLow PLow cAre PAre) (O : Own K C) (hp : PropOf K C "width" pWi fWi) (E1 : ErrC K mg "InvalidStrip" DSp) (E2 : ErrC K mg "InvalidStamping" DSg) :
    FnOk P w K mg base (L2.CX P w) 4 f fd ["self", "strip", "word", "place"] (spCall K T C DSp DSg) := by
  have SS : FnOk P w K mg base CX0 3 fStrip fdS ["thing", "most"] (spStrip K T) := ok_strip FS FL X B
  have bS : Binds K fdS ["thing", "most"] [] := FS.binds fun _ _ _ _ _ _ us hl => match us, hl with | [_, _], _ => rfl
  have OO : FnOk P w K mg base CX0 1 fOver fdO ["strip", "letters", "place"] spOver := ok_over FO X
  have bO : Binds K fdO ["strip", "letters", "place"] [] := FO.binds fun _ _ _ _ _ _ us hl => match us, hl with | [_, _, _], _ => rfl
  have WW : FnOk P w K mg base CX0 1 fWi fdW ["self"] (spWidth C) := ok_width FW X O
  have bW : Binds K fdW ["self"] [] := FW.binds fun _ _ _ _ _ _ us hl => match us, hl with | [_], _ => rfl
  obtain ⟨t120, g120⟩ := X2.cells
  refine F.okX scCall (fun vs H Q E h => ?_) (fun cdv A outer s H vs Q E hr h => ?_)
  · obtain ⟨a, l, dx, ws, W, x, i, at_, rfl, _⟩ := h
    rfl
  · obtain ⟨a, l, dx, ws, W, x, i, at_, rfl, st, g, hT, k⟩ := h
    refine ⟨_, pss_cons (ps_if (pt_not (pt_val (pe_call SS hr (by rfl) X2.gStrip X2.kStrip bS .nil L2.pass0 (pa_cons (pv 1) (pa_cons (pe_glob (v := .int 120) (by rfl) g120 ⟨_, rfl⟩) pa_nil))))) (pss_one (ps_raise rfl (takes_of rfl rfl rfl rfl) (pmk_own PySem.F.excBase_ValueError E1.e E1.g E1.k (raises_own E1.b E1.t) (by rfl)))) pss_nil)
      (pss_cons (ps_if (pt_not (pt_chain op_le op_lt pe_int (pv 2) (pe_callB call_len_seq (by rfl) X.len boot_len (pa_cons (pe_fld (pv 0) (by rfl)) pa_nil)))) (pss_one (ps_raise rfl (takes_of rfl rfl rfl rfl) (pmk_own PySem.F.excBase_ValueError E2.e E2.g E2.k (raises_own E2.b E2.t) (by rfl)))) pss_nil)
      (pss_cons (ps_if (pt_not (pt_chain op_le op_le pe_int (pv 3) (pe_op op_sub (pe_callB call_len_str (by rfl) X.len boot_len (pa_cons (pv 1) pa_nil)) (pe_propX (p := pWi) (pv 0) WW (hr.mono (by decide)) bW .nil L2.pass0)))) (pss_one (ps_raise rfl (takes_of rfl rfl rfl rfl) (pmk_own PySem.F.excBase_ValueError E2.e E2.g E2.k (raises_own E2.b E2.t) (by rfl)))) pss_nil)
      (pss_one (ps_ret (pe_call OO (hr.mono (by decide)) (by rfl) X2.gOver X2.kOver bO .nil L2.pass0 (pa_cons (pv 1) (pa_cons (pe_ix ix_seq (pe_fld (pv 0) (by rfl)) (pv 2) fun _ _ => rfl) (pa_cons (pv 3) pa_nil)))))))), ?_⟩
    rcases k with ⟨z, rfl, hz, k⟩ | ⟨t, ht, hk, k⟩
    · refine ⟨_, rfl, _, _, rfl, hT, .inl ⟨z, rfl, hz, fun H2 h2 => ⟨_, rfl, ?_⟩⟩⟩
      have kk := k H2 h2
      have st2 : Stp H2 C a l dx (ws.map V.str) := ⟨h2.kep.at hT st.1 fun _ z => (by cases z), h2.kep.at hT st.2 fun _ z => (by cases z)⟩
      unfold calledS at kk
      cases hs : stripB z 120 with
      | false =>
        rw [hs, if_pos rfl] at kk
        exact iteT kk
      | true =>
        rw [hs, if_neg (by decide)] at kk
        refine iteF ?_
        have hzs : z.length ≤ sizeLine := Nat.le_trans hz (by decide)
        have lws : (ws.map V.str).length = ws.length := List.length_map ..
        have no : ∀ {X : Prop}, ¬ (0 ≤ i ∧ i < ws.length ∧ 0 ≤ at_ ∧ at_ + W ≤ z.length) → (E (.ref DSg) none H2 → X) → X := fun h f => by
          rw [if_neg h] at kk
          exact f kk
        refine ⟨_, rfl, _, _, rfl, rfl, _, rfl, ?_⟩
        by_cases c1 : 0 ≤ i
        case neg =>
          refine iteF' (by simpa using c1) ⟨_, rfl, iteT ?_⟩
          exact no (fun h => c1 h.1) id
        refine iteT' (by simpa using c1) ⟨_, rfl, a, C, dx, _, _, rfl, st2.1, O.cls, O.noW, rfl, l, _, rfl, .inl (.inl (.inl st2.2)), _, _, rfl, rfl, _, rfl, ?_⟩
        by_cases c2 : i < ws.length
        case neg =>
          refine iteT' (by rw [lws]; simpa using c2) ?_
          exact no (fun h => c2 h.2.1) id
        refine iteF' (by rw [lws]; simpa using c2) ?_
        refine ⟨_, rfl, _, _, rfl, rfl, _, rfl, ?_⟩
        by_cases c3 : 0 ≤ at_
        case neg =>
          refine iteF' (by simpa using c3) ⟨_, rfl, iteT ?_⟩
          exact no (fun h => c3 h.2.2.1) id
        refine iteT' (by simpa using c3) ⟨_, rfl, z, rfl, hzs, _, rfl, a, C, dx, _, rfl, O.cls, hp, st2.1, ⟨a, l, dx, ws, W, rfl, st2, g, ?_⟩⟩
        refine ⟨_, _, rfl, rfl, _, _, rfl, rfl, _, rfl, ?_⟩
        by_cases c4 : at_ + W ≤ z.length
        case neg =>
          refine iteT' (by simp; omega) ?_
          exact no (fun h => c4 h.2.2.2) id
        refine iteF' (by simp; omega) ?_
        rw [if_pos ⟨c1, c2, c3, c4⟩] at kk
        obtain ⟨gl, _⟩ := g.get (i := i.toNat) (by omega)
        have ea : at_ = (at_.toNat : Int) := by omega
        refine ⟨_, rfl, _, rfl, a, C, dx, _, _, rfl, st2.1, O.cls, O.noW, rfl, _, rfl, .inl ⟨l, _, i, _, rfl, rfl, .inl (.inl st2.2), at_i c1 c2, _, rfl, ?_⟩⟩
        refine ⟨z, _, at_.toNat, by rw [← ea]; rfl, ?_, hz, kk⟩
        rw [gl]; omega
    · refine ⟨_, rfl, _, _, rfl, hT, .inr ⟨t, ht, hk, _, rfl, iteT k⟩⟩
end
end Ov

set_option Elab.async false
set_option linter.all false
set_option maxRecDepth 100000
set_option maxHeartbeats 4000000
/-! the pieces of words: what the program's dicts of them hold -/
namespace Ov
open PySem PySem.Spec PyProof.Rows L2 GxR
abbrev Sp4 := List (Str × List (Nat × Nat))
def addP (M : Sp4) (p : Str) (x : Nat × Nat) : Sp4 := if (M.any fun e => decide (e.1 = p)) = true then M.map (fun e => if e.1 = p then (e.1, e.2 ++ [x]) else e) else M ++ [(p, [x])]
def sub (z : Str) (o e : Nat) : Str := cutS z (some (o : Int)) (some (e : Int))
def foldK (z : Str) (w o : Nat) (M : Sp4) (k : Nat) : Sp4 := (List.range k).foldl (fun M k => addP M (sub z o (o + 1 + k)) (w, o)) M
def foldO (z : Str) (w : Nat) (M : Sp4) (j : Nat) : Sp4 := (List.range j).foldl (fun M o => foldK z w o M (z.length - o)) M
def foldW (ws : List Str) (i : Nat) : Sp4 := (List.range i).foldl (fun M w => foldO (ws.getD w Str.empty) w M (ws.getD w Str.empty).length) []
/-- the pieces of the words, each with its places, in the order in which they are met -/
def spotsF (ws : List Str) : Sp4 := foldW ws ws.length
theorem foldK_succ {z : Str} {w o k : Nat} {M : Sp4} : foldK z w o M (k + 1) = addP (foldK z w o M k) (sub z o (o + 1 + k)) (w, o) := by
  unfold foldK; rw [List.range_succ, List.foldl_append]; rfl
theorem foldO_succ {z : Str} {w j : Nat} {M : Sp4} : foldO z w M (j + 1) = foldK z w j (foldO z w M j) (z.length - j) := by
  unfold foldO; rw [List.range_succ, List.foldl_append]; rfl
theorem foldW_succ {ws : List Str} {i : Nat} : foldW ws (i + 1) = foldO (ws.getD i Str.empty) i (foldW ws i) (ws.getD i Str.empty).length := by
  unfold foldW; rw [List.range_succ, List.foldl_append]; rfl
/-- at most n pieces, at most n places each -/
def Bd (n : Nat) (M : Sp4) : Prop := M.length ≤ n ∧ ∀ e ∈ M, e.2.length ≤ n
theorem Bd.add {n : Nat} {M : Sp4} {p : Str} {x : Nat × Nat} (h : Bd n M) : Bd (n + 1) (addP M p x) := by
  obtain ⟨h1, h2⟩ := h
  unfold addP
  split
  · refine ⟨by rw [List.length_map]; omega, fun e he => ?_⟩
    obtain ⟨e', he', rfl⟩ := List.mem_map.mp he
    have := h2 e' he'
    split
    · rw [List.length_append, List.length_singleton]; omega
    · omega
  · refine ⟨by rw [List.length_append, List.length_singleton]; omega, fun e he => ?_⟩
    rcases List.mem_append.mp he with h | h
    · have := h2 e h; omega
    · rw [List.mem_singleton.mp h]
      show 1 ≤ n + 1
      omega
theorem Bd.mono {n m : Nat} {M : Sp4} (h : Bd n M) (e : n ≤ m) : Bd m M := ⟨by have := h.1; omega, fun x hx => by have := h.2 x hx; omega⟩
theorem Bd.K {n : Nat} {z : Str} {w o : Nat} {M : Sp4} (h : Bd n M) : ∀ k, Bd (n + k) (foldK z w o M k)
  | 0 => h
  | k + 1 => by rw [foldK_succ]; exact (Bd.K h k).add
theorem Bd.O {n : Nat} {z : Str} {w : Nat} {M : Sp4} (h : Bd n M) (hz : z.length ≤ 8) : ∀ j, Bd (n + 8 * j) (foldO z w M j)
  | 0 => h
  | j + 1 => by rw [foldO_succ]; exact (Bd.K (Bd.O h hz j) _).mono (by omega)
theorem Bd.W {ws : List Str} (hz : ∀ z ∈ ws, z.length ≤ 8) : ∀ i, Bd (64 * i) (foldW ws i)
  | 0 => ⟨Nat.le_refl 0, fun e he => by cases he⟩
  | i + 1 => by
    rw [foldW_succ]
    have h8 : (ws.getD i Str.empty).length ≤ 8 := by
      by_cases c : i < ws.length
      · have e : ws.getD i Str.empty = ws[i] := by simp [List.getD, c]
        rw [e]; exact hz _ (List.getElem_mem c)
      · have e : ws.getD i Str.empty = Str.empty := by simp [List.getD, c]
        rw [e]; decide
    exact (Bd.O (Bd.W hz i) h8 _).mono (by omega)
/-! ### the heap -/
/-- a pair (word, offset), a tuple that is new -/
def Tu (H0 H : Hp) (v : V) (x : Nat × Nat) : Prop := ∃ q, v = .ref q ∧ H0 q = none ∧ H q = some (.tup [.int (x.1 : Nat), .int (x.2 : Nat)])
def SpE (H0 H : Hp) (kv : Key × V) (e : Str × List (Nat × Nat)) : Prop := kv.1 = .inr e.1 ∧ ∃ l vs, kv.2 = .ref l ∧ H0 l = none ∧ H l = some (.lst vs) ∧ Paired (Tu H0 H) vs e.2
/-- the dict of the pieces' places -/
structure SpI (H0 H : Hp) (d : Addr) (kvs : List (Key × V)) (M : Sp4) : Prop where
  at_ : H d = some (.dK kvs)
  new : H0 d = none
  pr : Paired (SpE H0 H) kvs M
  vd : (kvs.map (·.2)).Nodup
  nd : (M.map (·.1)).Nodup
/-- what was made since H0 stays -/
def NK (H0 H H2 : Hp) : Prop := ∀ b o, H0 b = none → (∀ ps, o ≠ HO.tbl ps) → H b = some o → H2 b = some o
theorem NK.refl {H0 H : Hp} : NK H0 H H := fun _ _ _ _ e => e
theorem NK.trans {H0 H1 H2 H3 : Hp} (a : NK H0 H1 H2) (b : NK H0 H2 H3) : NK H0 H1 H3 := fun c o h n e => b c o h n (a c o h n e)
theorem Tu.keep {H0 H H2 : Hp} {v : V} {x : Nat × Nat} (k : NK H0 H H2) (h : Tu H0 H v x) : Tu H0 H2 v x := by
  obtain ⟨q, e, n, a⟩ := h
  exact ⟨q, e, n, k q _ n (fun _ z => by cases z) a⟩
theorem pairedMono {α β : Type} {F G : α → β → Prop} (h : ∀ a b, F a b → G a b) : ∀ {l : List α} {m : List β}, Paired F l m → Paired G l m
  | _, _, .nil => .nil
  | _, _, .cons a t => .cons (h _ _ a) (pairedMono h t)
theorem SpE.keep {H0 H H2 : Hp} {kv : Key × V} {e : Str × List (Nat × Nat)} (k : NK H0 H H2) (h : SpE H0 H kv e) : SpE H0 H2 kv e := by
  obtain ⟨e1, l, vs, e2, n, a, p⟩ := h
  exact ⟨e1, l, vs, e2, n, k l _ n (fun _ z => by cases z) a, pairedMono (fun _ _ => Tu.keep k) p⟩
theorem SpI.keep {H0 H H2 : Hp} {d : Addr} {kvs : List (Key × V)} {M : Sp4} (k : NK H0 H H2) (h : SpI H0 H d kvs M) : SpI H0 H2 d kvs M :=
  ⟨k d _ h.new (fun _ z => by cases z) h.at_, h.new, pairedMono (fun _ _ => SpE.keep k) h.pr, h.vd, h.nd⟩
theorem pairedAppend {α β : Type} {F : α → β → Prop} : ∀ {l l2 : List α} {m m2 : List β}, Paired F l m → Paired F l2 m2 → Paired F (l ++ l2) (m ++ m2)
  | _, _, _, _, .nil, h => h
  | _, _, _, _, .cons a t, h => .cons a (pairedAppend t h)
theorem pairedLen {α β : Type} {F : α → β → Prop} : ∀ {l : List α} {m : List β}, Paired F l m → l.length = m.length
  | _, _, .nil => rfl
  | _, _, .cons _ t => congrArg (· + 1) (pairedLen t)
/-- no piece p: no key -/
theorem SpI.none_iff {H0 H : Hp} {p : Str} : ∀ {kvs : List (Key × V)} {M : Sp4}, Paired (SpE H0 H) kvs M → (valV kvs (.inr p) = none ↔ (M.any fun e => decide (e.1 = p)) = false)
  | _, _, .nil => by simp [valV]
  | _, _, .cons (a := kv) (b := e) h t => by
    have ih := none_iff (p := p) t
    obtain ⟨e1, _⟩ := h
    by_cases c : e.1 = p
    · rw [valV_pos (by rw [e1, c])]
      simp [c]
    · rw [valV_neg (by rw [e1]; intro z; exact c (Sum.inr.inj z)), ih]
      simp [c]
/-- a piece that is there: its list -/
theorem SpI.some_of {H0 H : Hp} {p : Str} {v : V} : ∀ {kvs : List (Key × V)} {M : Sp4}, Paired (SpE H0 H) kvs M → valV kvs (.inr p) = some v → ∃ l vs e, e ∈ M ∧ e.1 = p ∧ v = .ref l ∧ H0 l = none ∧ H l = some (.lst vs) ∧ Paired (Tu H0 H) vs e.2
  | _, _, .nil, h => by simp [valV] at h
  | _, _, .cons (a := kv) (b := e) h t, hv => by
    have h' := h
    obtain ⟨e1, l, vs, e2, n, a, pr⟩ := h'
    by_cases c : e.1 = p
    · rw [valV_pos (by rw [e1, c])] at hv
      have : kv.2 = v := Option.some.inj hv
      exact ⟨l, vs, e, List.mem_cons_self, c, by rw [← this, e2], n, a, pr⟩
    · rw [valV_neg (by rw [e1]; intro z; exact c (Sum.inr.inj z))] at hv
      obtain ⟨l, vs, e', m, q⟩ := some_of t hv
      exact ⟨l, vs, e', List.mem_cons_of_mem _ m, q⟩
theorem tu_but {H0 H H2 : Hp} {l : Addr} {vs : List V} (hl : H l = some (.lst vs)) (oth : ∀ b o, b ≠ l → H b = some o → H2 b = some o) {v : V} {x : Nat × Nat} (h : Tu H0 H v x) : Tu H0 H2 v x := by
  obtain ⟨q, e, n, a⟩ := h
  refine ⟨q, e, n, oth q _ (fun z => ?_) a⟩
  rw [z, hl] at a
  cases a
theorem spE_but {H0 H H2 : Hp} {l : Addr} {vs : List V} (hl : H l = some (.lst vs)) (oth : ∀ b o, b ≠ l → H b = some o → H2 b = some o) {kv : Key × V} {e : Str × List (Nat × Nat)} (n : kv.2 ≠ .ref l) (h : SpE H0 H kv e) : SpE H0 H2 kv e := by
  obtain ⟨e1, l', vs', e2, n', a, p⟩ := h
  exact ⟨e1, l', vs', e2, n', oth l' _ (fun z => n (by rw [e2, z])) a, pairedMono (fun _ _ => tu_but hl oth) p⟩
theorem valV_mem {kvs : List (Key × V)} {k : Key} {v : V} (h : valV kvs k = some v) : v ∈ kvs.map (·.2) := by
  unfold valV at h
  cases q : kvs.find? fun kv => decide (kv.1 = k) with
  | none => rw [q] at h; cases h
  | some kv =>
    rw [q] at h
    have : kv.2 = v := Option.some.inj h
    exact List.mem_map.mpr ⟨kv, List.mem_of_find?_eq_some q, this⟩
theorem step_old_pr {H0 H H2 : Hp} {p : Str} {x : Nat × Nat} {l : Addr} {vs : List V} {v2 : V} (hl : H l = some (.lst vs)) (oth : ∀ b o, b ≠ l → H b = some o → H2 b = some o) (hl2 : H2 l = some (.lst (vs ++ [v2]))) (hx : Tu H0 H2 v2 x) :
    ∀ {kvs : List (Key × V)} {M : Sp4}, Paired (SpE H0 H) kvs M → (kvs.map (·.2)).Nodup → (M.map (·.1)).Nodup → valV kvs (.inr p) = some (.ref l) → Paired (SpE H0 H2) kvs (M.map fun e => if e.1 = p then (e.1, e.2 ++ [x]) else e)
  | _, _, .nil, _, _, h => by simp [valV] at h
  | _, _, .cons (a := kv) (b := e) (l₁ := ks) (l₂ := Ms) h t, vd, nd, hv => by
    rw [List.map_cons, List.nodup_cons] at vd nd
    by_cases c : e.1 = p
    · rw [valV_pos (by rw [h.1, c])] at hv
      have ev : kv.2 = .ref l := Option.some.inj hv
      have rest : Paired (SpE H0 H2) ks (Ms.map fun e => if e.1 = p then (e.1, e.2 ++ [x]) else e) := by
        have e1 : (Ms.map fun e => if e.1 = p then (e.1, e.2 ++ [x]) else e) = Ms := by
          conv => rhs; rw [← List.map_id Ms]
          refine List.map_congr_left fun e' he' => if_neg fun z => nd.1 ?_
          rw [c, ← z]
          exact List.mem_map.mpr ⟨e', he', rfl⟩
        rw [e1]
        have go : ∀ {ks : List (Key × V)} {Ms : Sp4}, (∀ kv' ∈ ks, kv'.2 ≠ .ref l) → Paired (SpE H0 H) ks Ms → Paired (SpE H0 H2) ks Ms := fun {ks Ms} hn pr => by
          induction pr with
          | nil => exact .nil
          | cons a _ ih => exact .cons (spE_but hl oth (hn _ List.mem_cons_self) a) (ih fun y hy => hn y (List.mem_cons_of_mem _ hy))
        exact go (fun kv' hk z => vd.1 (by rw [ev, ← z]; exact List.mem_map.mpr ⟨kv', hk, rfl⟩)) t
      rw [List.map_cons, if_pos c]
      obtain ⟨e1, l', vs', e2, n', a, pr⟩ := h
      have el : l' = l := V.ref.inj (e2.symm.trans ev)
      subst el
      rw [hl] at a
      cases a
      exact .cons ⟨e1, l', vs ++ [v2], e2, n', hl2, (pairedMono (fun _ _ => tu_but hl oth) pr).snoc hx⟩ rest
    · have ih := hv
      rw [valV_neg (by rw [h.1]; intro z; exact c (Sum.inr.inj z))] at ih
      rw [List.map_cons, if_neg c]
      have nk : kv.2 ≠ .ref l := fun z => vd.1 (by rw [z]; exact valV_mem ih)
      exact .cons (spE_but hl oth nk h) (step_old_pr hl oth hl2 hx t vd.2 nd.2 ih)
theorem addP_old {M : Sp4} {p : Str} {x : Nat × Nat} (h : (M.any fun e => decide (e.1 = p)) = true) : addP M p x = M.map fun e => if e.1 = p then (e.1, e.2 ++ [x]) else e := if_pos h
theorem addP_new {M : Sp4} {p : Str} {x : Nat × Nat} (h : (M.any fun e => decide (e.1 = p)) = false) : addP M p x = M ++ [(p, [x])] := if_neg (by rw [h]; decide)
theorem addP_nd {M : Sp4} {p : Str} {x : Nat × Nat} (h : (M.map (·.1)).Nodup) : ((addP M p x).map (·.1)).Nodup := by
  cases c : M.any fun e => decide (e.1 = p) with
  | true =>
    rw [addP_old c, List.map_map]
    have e1 : ((fun e : Str × List (Nat × Nat) => e.1) ∘ fun e => if e.1 = p then (e.1, e.2 ++ [x]) else e) = fun e => e.1 := by
      funext e
      show (if e.1 = p then (e.1, e.2 ++ [x]) else e).1 = e.1
      split <;> rfl
    rw [e1]; exact h
  | false =>
    rw [addP_new c, List.map_append, List.nodup_append]
    refine ⟨h, by simp, fun a ha b hb => ?_⟩
    have hb : b = p := by simpa using hb
    subst hb
    obtain ⟨e, he, rfl⟩ := List.mem_map.mp ha
    intro z
    have := List.any_eq_false.mp c e he
    simp at this
    exact this z
/-- a place more of a piece that is there -/
theorem SpI.old {H0 H H2 : Hp} {d l q : Addr} {kvs : List (Key × V)} {M : Sp4} {p : Str} {x : Nat × Nat} {vs : List V} (I : SpI H0 H d kvs M) (hv : valV kvs (.inr p) = some (.ref l)) (hl : H l = some (.lst vs)) (q0 : H0 q = none) (hq : H2 q = some (.tup [.int (x.1 : Nat), .int (x.2 : Nat)]))
    (hl2 : H2 l = some (.lst (vs ++ [.ref q]))) (oth : ∀ b o, b ≠ l → H b = some o → H2 b = some o) : SpI H0 H2 d kvs (addP M p x) := by
  have c : (M.any fun e => decide (e.1 = p)) = true := by
    cases q : M.any fun e => decide (e.1 = p) with
    | true => rfl
    | false => rw [(SpI.none_iff I.pr).mpr q] at hv; cases hv
  refine ⟨oth d _ (fun z => ?_) I.at_, I.new, ?_, I.vd, addP_nd I.nd⟩
  · have := I.at_
    rw [z, hl] at this
    cases this
  · rw [addP_old c]
    exact step_old_pr hl oth hl2 ⟨q, rfl, q0, hq⟩ I.pr I.vd I.nd hv
/-- a piece more -/
theorem SpI.add {H0 H H2 : Hp} {d l q : Addr} {kvs : List (Key × V)} {M : Sp4} {p : Str} {x : Nat × Nat} (I : SpI H0 H d kvs M) (hv : valV kvs (.inr p) = none) (hl : H l = none) (l0 : H0 l = none) (q0 : H0 q = none) (hq : H2 q = some (.tup [.int (x.1 : Nat), .int (x.2 : Nat)]))
    (hl2 : H2 l = some (.lst [.ref q])) (hd : H2 d = some (.dK (kvs ++ [(.inr p, .ref l)]))) (oth : ∀ b o, b ≠ d → H b = some o → H2 b = some o) : SpI H0 H2 d (kvs ++ [(.inr p, .ref l)]) (addP M p x) := by
  have c := (SpI.none_iff I.pr).mp hv
  have keep : ∀ {ks : List (Key × V)} {Ms : Sp4}, Paired (SpE H0 H) ks Ms → Paired (SpE H0 H2) ks Ms := fun {ks Ms} pr => pairedMono (fun kv e h => by
    obtain ⟨e1, l', vs', e2, n', a, pr⟩ := h
    refine ⟨e1, l', vs', e2, n', oth l' _ (fun z => ?_) a, pairedMono (fun v x h => ?_) pr⟩
    · rw [z, I.at_] at a; cases a
    · obtain ⟨q', e, n, a'⟩ := h
      refine ⟨q', e, n, oth q' _ (fun z => ?_) a'⟩
      rw [z, I.at_] at a'; cases a') pr
  refine ⟨hd, I.new, ?_, ?_, addP_nd I.nd⟩
  · rw [addP_new c]
    exact (keep I.pr).snoc ⟨rfl, l, [.ref q], rfl, l0, hl2, .cons ⟨q, rfl, q0, hq⟩ .nil⟩
  · rw [List.map_append, List.nodup_append]
    refine ⟨I.vd, by simp, fun a ha b hb => ?_⟩
    have hb : b = .ref l := by simpa using hb
    subst hb
    intro z
    subst z
    obtain ⟨kv, hk, e⟩ := List.mem_map.mp ha
    have go : ∀ {ks : List (Key × V)} {Ms : Sp4}, Paired (SpE H0 H) ks Ms → kv ∈ ks → False := fun {ks Ms} pr hk => by
      induction pr with
      | nil => cases hk
      | cons a _ ih =>
        rcases List.mem_cons.mp hk with rfl | hk
        · obtain ⟨_, l', vs', e2, _, a', _⟩ := a
          have : l' = l := V.ref.inj (e2.symm.trans e)
          rw [this, hl] at a'
          cases a'
        · exact ih hk
    exact go I.pr hk
theorem pairedGet {α β : Type} {F : α → β → Prop} : ∀ {l : List α} {m : List β} {i : Nat} {a : α}, Paired F l m → l[i]? = some a → ∃ b, m[i]? = some b ∧ F a b
  | _, _, _, _, .nil, h => by cases h
  | _, _, 0, _, .cons h t, e => by cases e; exact ⟨_, rfl, h⟩
  | _, _, i + 1, _, .cons h t, e => by
    obtain ⟨b, h1, h2⟩ := pairedGet (i := i) t (by simpa using e)
    exact ⟨b, by simpa using h1, h2⟩
/-! ### the kinds of a piece's parts: 0 begins only, 1 neither, 2 ends only, 3 whole -/
def kindOf (n W o : Nat) : Nat := if n = W then 3 else if o = 0 then 0 else if o + n = W then 2 else 1
def kindC (n W c : Nat) (ps : List (Nat × Nat)) : Nat := ps.countP fun x => decide (kindOf n W x.2 = c)
def kindT (n W : Nat) (ps : List (Nat × Nat)) : List V := [.int (n : Nat), .int (kindC n W 0 ps : Nat), .int (kindC n W 1 ps : Nat), .int (kindC n W 2 ps : Nat), .int (kindC n W 3 ps : Nat)]
def KiE (H0 H : Hp) (W : Nat) (kv : Key × V) (e : Str × List (Nat × Nat)) : Prop := kv.1 = .inr e.1 ∧ ∃ q, kv.2 = .ref q ∧ H0 q = none ∧ H q = some (.tup (kindT e.1.length W e.2))
/-- the dict of the pieces' kinds -/
structure KiI (H0 H : Hp) (d : Addr) (kk : List (Key × V)) (M : Sp4) (W : Nat) : Prop where
  at_ : H d = some (.dK kk)
  new : H0 d = none
  pr : Paired (KiE H0 H W) kk M
theorem KiE.keep {H0 H H2 : Hp} {W : Nat} {kv : Key × V} {e : Str × List (Nat × Nat)} (k : NK H0 H H2) (h : KiE H0 H W kv e) : KiE H0 H2 W kv e := by
  obtain ⟨e1, q, e2, n, a⟩ := h
  exact ⟨e1, q, e2, n, k q _ n (fun _ z => by cases z) a⟩
theorem KiI.keep {H0 H H2 : Hp} {d : Addr} {kk : List (Key × V)} {M : Sp4} {W : Nat} (k : NK H0 H H2) (h : KiI H0 H d kk M W) : KiI H0 H2 d kk M W :=
  ⟨k d _ h.new (fun _ z => by cases z) h.at_, h.new, pairedMono (fun _ _ => KiE.keep k) h.pr⟩
/-- a dict comprehension over what is walked -/
theorem dc_it {J : It} {n : Nat} {G : Hp → Prop} {Y : Nat → Hp → V → Hp → Prop} (w : Walk J n G Y) {g : TG} {tt : TT} {tk tv : TE} {vs : List Nat} {σ : L2.St} {H1 : Hp} {D : Addr} {Qd : Hp → Prop} (Pv : Nat → Hp → Prop) (h0 : Pv 0 (upd H1 D (.dK []))) (hG : ∀ i H, i ≤ n → Pv i H → G H)
    (hs : ∀ i x H H', i < n → Pv i H → Y i H x H' → g x (wipe σ vs) H' fun σ2 H2 => wipe σ2 vs = wipe σ vs ∧ tt σ2 H2 fun b H3 =>
      if b = true then tk σ2 H3 fun y H4 => tv σ2 H4 fun z H5 => ∃ kvs k, y = kV k ∧ H5 D = some (.dK kvs) ∧ kvs.length < sizeLine ∧ Pv (i + 1) (upd H5 D (.dK (putK kvs k z))) else Pv (i + 1) H3) (hd : ∀ H, Pv n H → Qd H) :
    ∃ W : Nat → Nat → Hp → Prop, (∃ m, W 0 m (upd H1 D (.dK []))) ∧ ∀ i m H, W i m H →
      (J.stop i H ∧ Qd H) ∨ (J.go i H ∧ ∃ Nx : Hp → Prop, (∀ H', Nx H' → ∃ m', m' < m ∧ W (i + 1) m' H') ∧ ∀ x H', J.yld i H x H' → g x (wipe σ vs) H' fun σ2 H2 => wipe σ2 vs = wipe σ vs ∧ tt σ2 H2 fun b H3 =>
        if b = true then tk σ2 H3 fun y H4 => tv σ2 H4 fun z H5 => ∃ kvs k, y = kV k ∧ H5 D = some (.dK kvs) ∧ kvs.length < sizeLine ∧ Nx (upd H5 D (.dK (putK kvs k z))) else Nx H3) := by
  refine ⟨fun i m H => m = n - i ∧ i ≤ n ∧ Pv i H, ⟨n, by simp, Nat.zero_le _, h0⟩, ?_⟩
  rintro i m H ⟨rfl, hi, p⟩
  have q := hG i H hi p
  by_cases c : i < n
  · exact .inr ⟨w.goes i H c q, Pv (i + 1), fun H' p' => ⟨n - (i + 1), by omega, rfl, c, p'⟩, fun x H' y => hs i x H H' c p (w.yields i H x H' c q y)⟩
  · have e : i = n := by omega
    subst e
    exact .inl ⟨w.stops H q, hd H p⟩
theorem SpI.base {H0 H1 H : Hp} {d : Addr} {kvs : List (Key × V)} {M : Sp4} (h : ∀ b, H1 b = none → H0 b = none) (I : SpI H1 H d kvs M) : SpI H0 H d kvs M :=
  ⟨I.at_, h _ I.new, pairedMono (fun _ _ e => by
    obtain ⟨e1, l, vs, e2, n, a, p⟩ := e
    exact ⟨e1, l, vs, e2, h _ n, a, pairedMono (fun _ _ t => by
      obtain ⟨q, t1, t2, t3⟩ := t
      exact ⟨q, t1, h _ t2, t3⟩) p⟩) I.pr, I.vd, I.nd⟩
theorem KiI.base {H0 H1 H : Hp} {d : Addr} {kk : List (Key × V)} {M : Sp4} {W : Nat} (h : ∀ b, H1 b = none → H0 b = none) (I : KiI H1 H d kk M W) : KiI H0 H d kk M W :=
  ⟨I.at_, h _ I.new, pairedMono (fun _ _ e => by
    obtain ⟨e1, q, e2, n, a⟩ := e
    exact ⟨e1, q, e2, h _ n, a⟩) I.pr⟩
theorem ki_none {H0 H : Hp} {W : Nat} {p : Str} : ∀ {kk : List (Key × V)} {Ms : Sp4}, Paired (KiE H0 H W) kk Ms → (∀ e ∈ Ms, e.1 ≠ p) → valV kk (.inr p) = none
  | _, _, .nil, _ => rfl
  | _, _, .cons h t, n => by
    rw [valV_neg (by rw [h.1]; intro z; exact n _ List.mem_cons_self (Sum.inr.inj z))]
    exact ki_none t fun e he => n e (List.mem_cons_of_mem _ he)
/-- pieces of at most n letters -/
def Ks (n : Nat) (M : Sp4) : Prop := ∀ e ∈ M, e.1.length ≤ n
theorem Ks.add {n : Nat} {M : Sp4} {p : Str} {x : Nat × Nat} (h : Ks n M) (hp : p.length ≤ n) : Ks n (addP M p x) := by
  intro e he
  unfold addP at he
  split at he
  · obtain ⟨e', he', rfl⟩ := List.mem_map.mp he
    have := h e' he'
    split <;> exact this
  · rcases List.mem_append.mp he with q | q
    · exact h e q
    · rw [List.mem_singleton.mp q]; exact hp
theorem sub_len (z : Str) (o e : Nat) : (sub z o e).length ≤ z.length := by
  unfold sub cutS
  show (List.take _ (List.drop _ z.cps.toList)).toArray.size ≤ z.cps.size
  rw [List.size_toArray, List.length_take, List.length_drop]
  have : z.cps.toList.length = z.cps.size := rfl
  omega
theorem Ks.K {n : Nat} {z : Str} {w o : Nat} {M : Sp4} (h : Ks n M) (hz : z.length ≤ n) : ∀ k, Ks n (foldK z w o M k)
  | 0 => h
  | k + 1 => by rw [foldK_succ]; exact (Ks.K h hz k).add (Nat.le_trans (sub_len _ _ _) hz)
theorem Ks.O {n : Nat} {z : Str} {w : Nat} {M : Sp4} (h : Ks n M) (hz : z.length ≤ n) : ∀ j, Ks n (foldO z w M j)
  | 0 => h
  | j + 1 => by rw [foldO_succ]; exact Ks.K (Ks.O h hz j) hz _
theorem Ks.W {ws : List Str} {n : Nat} (hz : ∀ z ∈ ws, z.length ≤ n) : ∀ i, Ks n (foldW ws i)
  | 0 => fun e he => by cases he
  | i + 1 => by
    rw [foldW_succ]
    refine Ks.O (Ks.W hz i) ?_ _
    by_cases c : i < ws.length
    · have e : ws.getD i Str.empty = ws[i] := by simp [List.getD, c]
      rw [e]; exact hz _ (List.getElem_mem c)
    · have e : ws.getD i Str.empty = Str.empty := by simp [List.getD, c]
      rw [e]; exact Nat.zero_le n
theorem valV_nd {k : Key} {v : V} : ∀ {kvs : List (Key × V)}, (kvs.map (·.1)).Nodup → (k, v) ∈ kvs → valV kvs k = some v
  | [], _, h => by cases h
  | kv :: r, nd, h => by
    rw [List.map_cons, List.nodup_cons] at nd
    rcases List.mem_cons.mp h with e | e
    · rw [← e, valV_pos rfl]
    · have : kv.1 ≠ k := fun z => nd.1 (by rw [z]; exact List.mem_map.mpr ⟨_, e, rfl⟩)
      rw [valV_neg this]
      exact valV_nd nd.2 e
end Ov

set_option Elab.async false
set_option linter.all false
set_option maxRecDepth 100000
set_option maxHeartbeats 4000000
/-! rules whose reading names the written part, with that part told (for blocks: comprehensions, a try's body) -/
namespace Ov
open PySem PySem.Spec PyProof.Rows L2 GxR
section
variable {X : Cx} {K : PySem.W.Frag}
theorem ix_K (h : X.K = K) : IxR X (rIx K) := by subst h; exact ix_seq
def rLenS (K : PySem.W.Frag) : List V → Hp → VK → Prop := fun xs H Q => ∃ p ys, xs = [.ref p] ∧ (SqL K H p ys ∨ SqT K H p ys) ∧ Q (.int ys.length) H
theorem len_K (h : X.K = K) : CallR X (.builtin "len") (rLenS K) := by subst h; exact call_len_seq
theorem isi_K (h : X.K = K) : CallR X (.builtin "isinstance") (rIsi K) := by subst h; exact call_isi
theorem in_K (h : X.K = K) : OpR X (compareOp .In) (rIn K false) := by subst h; exact op_in_seq
theorem notIn_K (h : X.K = K) : OpR X (compareOp .NotIn) (rIn K true) := by subst h; exact op_notIn_seq
theorem sl_K (h : X.K = K) : SlR X (rSlL K) := by subst h; exact sl_list
theorem eqD_K (h : X.K = K) (hu : X.A.units + 64 < cLine) : OpR X (compareOp .Eq) (rEqD K) := by subst h; exact op_eqD hu
theorem neD_K (h : X.K = K) (hu : X.A.units + 64 < cLine) : OpR X (compareOp .NotEq) (rNeD K) := by subst h; exact op_neD hu
end
end Ov

set_option Elab.async false
set_option linter.all false
set_option maxRecDepth 100000
set_option maxHeartbeats 4000000
namespace Ov
open PySem PySem.Spec PyProof.Rows L2 GxR
abbrev sSpots : Stmt := top 24
abbrev sKinds : Stmt := top 25
abbrev sPInit : Stmt := inClass (top 26) 0
section
variable {X : Cx} {e : Expr} {te : TE} {pos : Pos}
theorem pe_fldKp {X : Cx} {K : PySem.W.Frag} (hK : X.K = K) {e : Expr} {f : Str} {ta : TE} {pos : Pos} (he : PE X e ta) (hb : attributeBase e f X.env (eval e X.env) = eval e X.env) : PE X (.Attribute e f pos) (tFld K ta f) := by subst hK; exact pe_fld he hb
theorem ps_asg4 {t1 t2 t3 t4 : Expr} {g1 g2 g3 g4 : TG} (he : PE X e te) (h1 : PG X t1 g1) (h2 : PG X t2 g2) (h3 : PG X t3 g3) (h4 : PG X t4 g4)
    (ha : (assignEach [t1, t2, t3, t4] X.env).map (·.2) = [assign t1 X.env, assign t2 X.env, assign t3 X.env, assign t4 X.env] := by rfl) (hw : swappedStores [t1, t2, t3, t4] e X.env = pure none := by rfl) :
    PS X (.Assign [t1, t2, t3, t4] e pos) (fun D σ H => te σ H fun x K1 => g1 x σ K1 fun σ1 K2 => g2 x σ1 K2 fun σ2 K3 => g3 x σ2 K3 fun σ3 K4 => g4 x σ3 K4 D.nx) := by
  refine ⟨fun pins s σ H D I h => ?_⟩
  have go : wpAny (model X.prog X.w) X.A (eval e X.env) (fun v s₁ => wpAny (model X.prog X.w) X.A (assign t1 X.env v) (fun _ s₂ => wpAny (model X.prog X.w) X.A (assign t2 X.env v) (fun _ s₃ => wpAny (model X.prog X.w) X.A (assign t3 X.env v) (fun _ s₄ => wpAny (model X.prog X.w) X.A (assign t4 X.env v) (fun _ => SP X pins D .next) X.xe s₄) X.xe s₃) X.xe s₂) X.xe s₁) X.xe s := by
    refine thn (he.run pins s σ H _ I h) fun v s1 ⟨x, K1, J1, r1, q1⟩ => ?_
    refine thn (h1.run pins s1 σ K1 x v _ J1 r1 q1) fun _ s2 ⟨σ2, K2, J2, q2⟩ => ?_
    refine thn (h2.run pins s2 σ2 K2 x v _ J2 r1 q2) fun _ s3 ⟨σ3, K3, J3, q3⟩ => ?_
    refine thn (h3.run pins s3 σ3 K3 x v _ J3 r1 q3) fun _ s4 ⟨σ4, K4, J4, q4⟩ => ?_
    exact thn (h4.run pins s4 σ4 K4 x v _ J4 r1 q4) fun _ s5 q => q
  refine wpAny_Assign_stores (wpAny_mono go (fun v s₁ h₁ => ?_) fun _ _ x => x) rfl hw
  rw [ha]
  exact wpAny_bind (wpAny_holding (wpAny_mono h₁ (fun _ s₂ h₂ => wpAny_bind (wpAny_holding (wpAny_mono h₂ (fun _ s₃ h₃ => wpAny_bind (wpAny_holding h₃)) fun _ _ x => x))) fun _ _ x => x))
end
section
variable {P : Program} {w : World} {K : PySem.W.Frag} {mg : Str → Option Value} {base : Heap} {T : List Addr} {C D fLow fText fAre fTape fNext fInks fInit cLow PLow cAre PAre : Addr}
/-! ### spots_of -/
def spSpots : Sp := fun vs H Q _ => ∃ (l : Addr) (ws : List Str), vs = [.ref l] ∧ H l = some (.lst (ws.map V.str)) ∧ ws.length ≤ 6 ∧ (∀ z ∈ ws, z.length ≤ 8) ∧ ∀ d kvs H3, SpI H H3 d kvs (spotsF ws) → L2.Same H H3 → Q (.ref d) H3
theorem scSpots : FnScope ["words", "spots", "word", "stamp", "offset", "stop"] ["words"] (defScope sSpots) := ⟨rfl, rfl, rfl, by decide +kernel, rfl, by decide +kernel, by decide +kernel⟩
theorem ok_spots {f : Addr} {fd : FuncData} (F : L2.Fun K "spots_of" "spots_of" sSpots f fd) (X : Txt K mg C fLow fText fAre fTape fNext fInks) (enu : mg "enumerate" = none) : FnOk P w K mg base CX0 1 f fd ["words"] spSpots := by
  refine F.ok scSpots (fun vs H Q E h => ?_) (fun cdv A outer s H vs Q E hr h => ?_)
  · obtain ⟨l, ws, rfl, _⟩ := h
    rfl
  · obtain ⟨l, ws, rfl, hl, hn, h8, k⟩ := h
    refine ⟨_, (pss_cons (ps_set (i := 1) scSpots.nd rfl (.inl rfl) pe_dnewK)
      (pss_cons (ps_for PassesOwn.never rfl (pi_enum (by rfl) enu (pa_cons (pv 0) pa_nil)) (pg_tup rfl (pgs_cons (pg_name (i := 2) scSpots.nd rfl (Or.inl rfl)) (pgs_cons (pg_name (i := 3) scSpots.nd rfl (Or.inl rfl)) pgs_nil))) (pss_one (ps_for PassesOwn.never rfl (pi_range1 (by rfl) X.rng (pa_cons (pe_callB call_len_str (by rfl) X.len boot_len (pa_cons (pv 3) pa_nil)) pa_nil)) (pg_name (i := 4) scSpots.nd rfl (Or.inl rfl)) (pss_one (ps_for PassesOwn.never rfl (pi_range2 (by rfl) X.rng (pa_cons (pe_op op_add (pv 4) pe_int) (pa_cons (pe_op op_add (pe_callB call_len_str (by rfl) X.len boot_len (pa_cons (pv 3) pa_nil)) pe_int) pa_nil))) (pg_name (i := 5) scSpots.nd rfl (Or.inl rfl)) (pss_one (ps_expr (pe_bm PySem.F.plainAttrs_list PySem.F.slot_list_append PySem.F.type_list_append mt_append (pe_dsetd (pv 1) (pe_slice sl_str (pv 3) (po_some (pv 4)) (po_some (pv 5))) (pe_lst pa_nil) ⟨rfl, rfl, rfl, rfl⟩) (pa_cons (pe_tup (pa_cons (pv 2) (pa_cons (pv 4) pa_nil))) pa_nil)))))))))
      (pss_one (ps_ret (pv 1))))), ?_⟩
    intro d hd
    have nkS : ∀ {G G2 : Hp}, L2.Same G G2 → NK H G G2 := fun h b o _ _ e => h b o e
    have s0 : L2.Same H (upd H d (.dK [])) := same_new hd
    have I0 : SpI H (upd H d (.dK [])) d [] [] := ⟨upd_same, hd, .nil, List.nodup_nil, List.nodup_nil⟩
    generalize upd H d (.dK []) = H1 at s0 I0 ⊢
    refine ⟨_, rfl, l, _, rfl, .inl (.inl (s0 l _ hl)), for_it (walk_enum (xs := ws.map V.str)) (fun i σ Hx => (∃ v2 v3 v4 v5, σ = [some (.ref l), some (.ref d), v2, v3, v4, v5]) ∧ L2.Same H Hx ∧ ∃ kvs, SpI H Hx d kvs (foldW ws i)) ⟨⟨_, _, _, _, rfl⟩, s0, _, I0⟩ (fun i σ Hx _ p => .inl (.inl (p.2.1 l _ hl))) (fun i x σ Hx Hy hi p y => ?_) (fun σ Hx p => ?_)⟩
    · obtain ⟨⟨v2, v3, v4, v5, rfl⟩, sx, kvs, I⟩ := p
      obtain ⟨tp, x', y', rfl, htp, rfl, e1, e2⟩ := y
      cases e1
      have e2 : (ws.map V.str)[i]? = some y' := e2
      rw [List.getElem?_map] at e2
      obtain ⟨z, hz, rfl⟩ := Option.map_eq_some_iff.mp e2
      have z8 := h8 z (List.mem_of_getElem? hz)
      have zl : z.length ≤ sizeLine := Nat.le_trans z8 (by decide)
      have iw : i < ws.length := (List.getElem?_eq_some_iff.mp hz).1
      have gd : ws.getD i Str.empty = z := by simp [List.getD, hz]
      have tn : L2.Same Hx (upd Hx tp (.tup [.int (i : Nat), .str z])) := same_new htp
      have st := sx.trans tn
      have It := I.keep (nkS tn)
      refine ⟨tp, _, rfl, .inl (.inl upd_same), rfl, _, _, rfl, _, _, rfl, rfl, ?_⟩
      generalize upd Hx tp (.tup [.int (i : Nat), .str z]) = Ht at st It ⊢
      refine ⟨_, rfl, z, rfl, zl, _, rfl, by omega, by omega, for_range (lo := 0) (n := ((z.length : Nat) : Int).toNat) (fun o σ Hx => (∃ v4 v5, σ = [some (.ref l), some (.ref d), some (.int (i : Nat)), some (.str z), v4, v5]) ∧ L2.Same H Hx ∧ ∃ kvs, SpI H Hx d kvs (foldO z i (foldW ws i) o))
        ⟨⟨_, _, rfl⟩, st, _, It⟩ (fun o σ Ho ho p => ?_) (fun σ Ho p => ?_)⟩
      · obtain ⟨⟨v4, v5, rfl⟩, so, kvs, I⟩ := p
        have ho' : o < z.length := by omega
        have en : (((z.length : Nat) : Int) + 1 - (0 + (o : Int) + 1)).toNat = z.length - o := by omega
        refine ⟨_, rfl, _, _, rfl, rfl, _, rfl, z, rfl, zl, _, _, rfl, rfl, _, _, rfl, ⟨by omega, by omega, by omega, by omega⟩, for_range (lo := 0 + (o : Int) + 1) (n := (((z.length : Nat) : Int) + 1 - (0 + (o : Int) + 1)).toNat) (fun k σ Hx => (∃ v5, σ = [some (.ref l), some (.ref d), some (.int (i : Nat)), some (.str z), some (.int (0 + (o : Nat))), v5]) ∧ L2.Same H Hx ∧ ∃ kvs, SpI H Hx d kvs (foldK z i o (foldO z i (foldW ws i) o) k))
          ⟨⟨_, rfl⟩, so, _, I⟩ (fun j σ Hj hj p => ?_) (fun σ Hj p => ?_)⟩
        · obtain ⟨⟨v5, rfl⟩, sj, kvs, I⟩ := p
          rw [en] at hj
          have bd : Bd 600 (foldK z i o (foldO z i (foldW ws i) o) j) := (Bd.K (Bd.O (Bd.W h8 i) z8 o) j).mono (by omega)
          have kl : kvs.length ≤ 600 := by rw [pairedLen I.pr]; exact bd.1
          have o0 : (0 : Int) + (o : Int) = (o : Int) := by omega
          have ek : cutS z (some (0 + (o : Int))) (some (0 + (o : Int) + 1 + (j : Nat))) = sub z o (o + 1 + j) := by
            unfold sub
            rw [o0, show (o : Int) + 1 + (j : Int) = ((o + 1 + j : Nat) : Int) by omega]
          refine ⟨_, rfl, d, rfl, .inl ⟨kvs, .inl I.at_⟩, _, rfl, _, rfl, _, rfl, _, rfl, _, rfl, z, rfl, zl, (by decide : 0 ≤ sizeLine), fun nl hnl => ?_⟩
          have sl : L2.Same Hj (upd Hj nl (.lst [])) := same_new hnl
          have Il := I.keep (nkS sl)
          have hn1 : upd Hj nl (.lst []) nl = some (.lst []) := upd_same
          have nl0 : H nl = none := sj.free hnl
          refine ⟨kvs, .inr (sub z o (o + 1 + j)), Il.at_, by rw [ek]; rfl, Nat.lt_of_le_of_lt kl (by decide), fun v hv => ?_, fun hv => ?_⟩
          · obtain ⟨l', vs, e, me, _, rfl, l0, hl', pr⟩ := SpI.some_of Il.pr hv
            refine ⟨.inl ⟨rfl, _, .inl (.inl hl')⟩, _, rfl, _, rfl, (by decide : 2 ≤ sizeLine), fun q hq => ?_⟩
            rw [o0]
            have sq : L2.Same (upd Hj nl (.lst [])) (upd (upd Hj nl (.lst [])) q (.tup [.int (i : Nat), .int (o : Nat)])) := same_new hq
            have Iq := Il.keep (nkS sq)
            have hlq := sq l' _ hl'
            have hqq : upd (upd Hj nl (.lst [])) q (.tup [.int (i : Nat), .int (o : Nat)]) q = some (.tup [.int (i : Nat), .int (o : Nat)]) := upd_same
            have q0 : H q = none := (sj.trans sl).free hq
            have S3 := (sj.trans sl).trans sq
            generalize upd (upd Hj nl (.lst [])) q (.tup [.int (i : Nat), .int (o : Nat)]) = H3 at sq Iq hlq hqq S3 ⊢
            have vl : vs.length ≤ 600 := by rw [pairedLen pr]; exact bd.2 e me
            refine ⟨l', vs, _, rfl, rfl, hlq, Nat.lt_of_le_of_lt vl (by decide), ⟨_, rfl⟩, fun b ob e => ?_, kvs, ?_⟩
            · have nb : b ≠ l' := fun z => by rw [z, l0] at e; cases e
              exact (upd_ne nb).trans (S3 b ob e)
            · rw [foldK_succ]
              have nq : q ≠ l' := fun z => by rw [z, hlq] at hqq; cases hqq
              exact Iq.old hv hlq q0 ((upd_ne nq).trans hqq) upd_same fun b ob nb e => (upd_ne nb).trans e
          · have nld : nl ≠ d := (ne_of_none I.at_ hnl).symm
            rw [putK_new _ hv]
            generalize upd Hj nl (.lst []) = G1 at sl Il hn1 ⊢
            have hn2 : upd G1 d (.dK (kvs ++ [(.inr (sub z o (o + 1 + j)), .ref nl)])) nl = some (.lst []) := (upd_ne nld).trans hn1
            refine ⟨.inl ⟨rfl, _, .inl (.inl hn2)⟩, _, rfl, _, rfl, (by decide : 2 ≤ sizeLine), fun q hq => ?_⟩
            rw [o0]
            have hd2 : upd G1 d (.dK (kvs ++ [(.inr (sub z o (o + 1 + j)), .ref nl)])) d = some (.dK (kvs ++ [(.inr (sub z o (o + 1 + j)), .ref nl)])) := upd_same
            have nqd : q ≠ d := (ne_of_none hd2 hq).symm
            have nqn : q ≠ nl := (ne_of_none hn2 hq).symm
            have hq1 : Hj q = none := by
              have : G1 q = none := (upd_ne nqd).symm.trans hq
              exact sl.free this
            have q0 : H q = none := sj.free hq1
            refine ⟨nl, [], _, rfl, rfl, (upd_ne nqn.symm).trans hn2, by decide, ⟨_, rfl⟩, fun b ob e => ?_, kvs ++ [(.inr (sub z o (o + 1 + j)), .ref nl)], ?_⟩
            · have n1 : b ≠ nl := fun z => by rw [z, nl0] at e; cases e
              have n2 : b ≠ q := fun z => by rw [z, q0] at e; cases e
              have n3 : b ≠ d := fun z => by rw [z, I.new] at e; cases e
              exact (upd_ne n1).trans ((upd_ne n2).trans ((upd_ne n3).trans (sl b ob (sj b ob e))))
            · rw [foldK_succ]
              refine SpI.add (q := q) I hv hnl nl0 q0 ?_ upd_same ?_ fun b ob nb e => ?_
              · exact (upd_ne nqn).trans upd_same
              · exact (upd_ne nld.symm).trans ((upd_ne nqd.symm).trans hd2)
              · have n1 : b ≠ nl := ne_of_none e hnl
                have n2 : b ≠ q := ne_of_none e hq1
                exact (upd_ne n1).trans ((upd_ne n2).trans ((upd_ne nb).trans (sl b ob e)))
        · obtain ⟨⟨v5, rfl⟩, sj, kvs, I⟩ := p
          rw [en] at I
          refine ⟨⟨_, _, rfl⟩, sj, kvs, ?_⟩
          rw [foldO_succ]
          exact I
      · obtain ⟨⟨v4, v5, rfl⟩, so, kvs, I⟩ := p
        refine ⟨⟨_, _, _, _, rfl⟩, so, kvs, ?_⟩
        rw [foldW_succ, gd]
        exact I
    · obtain ⟨⟨v2, v3, v4, v5, rfl⟩, sx, kvs, I⟩ := p
      rw [List.length_map] at I
      exact ⟨_, rfl, k d kvs Hx I sx⟩
/-! ### kinds_of -/
def spKinds : Sp := fun vs H Q _ => ∃ (l : Addr) (xs : List V) (ps : List (Nat × Nat)) (n W : Nat) (H0 : Hp), vs = [.ref l, .int (n : Nat), .int (W : Nat)] ∧ H l = some (.lst xs) ∧ Paired (Tu H0 H) xs ps ∧
  ∀ q H3, H q = none → H3 q = some (.tup (kindT n W ps)) → L2.Same H H3 → Q (.ref q) H3
theorem scKinds : FnScope ["spots", "length", "width", "firsts", "inners", "lasts", "wholes", "_", "offset"] ["spots", "length", "width"] (defScope sKinds) := ⟨rfl, rfl, rfl, by decide +kernel, rfl, by decide +kernel, by decide +kernel⟩
theorem ok_kinds {f : Addr} {fd : FuncData} (F : L2.Fun K "kinds_of" "kinds_of" sKinds f fd) : FnOk P w K mg base CX0 1 f fd ["spots", "length", "width"] spKinds := by
  refine F.ok scKinds (fun vs H Q E h => ?_) (fun cdv A outer s H vs Q E hr h => ?_)
  · obtain ⟨l, xs, ps, n, W, H0, rfl, _⟩ := h
    rfl
  · obtain ⟨l, xs, ps, n, W, H0, rfl, hl, pr, k⟩ := h
    refine ⟨_, (pss_cons (ps_asg4 pe_int (pg_name (i := 3) scKinds.nd rfl (Or.inl rfl)) (pg_name (i := 4) scKinds.nd rfl (Or.inl rfl)) (pg_name (i := 5) scKinds.nd rfl (Or.inl rfl)) (pg_name (i := 6) scKinds.nd rfl (Or.inl rfl)))
      (pss_cons (ps_for PassesOwn.never rfl (pi_list (pv 0)) (pg_tup rfl (pgs_cons (pg_name (i := 7) scKinds.nd rfl (Or.inl rfl)) (pgs_cons (pg_name (i := 8) scKinds.nd rfl (Or.inl rfl)) pgs_nil))) (pss_one (ps_if (pt_cmpR op_eq (pv 1) (pv 2) (by rfl)) (pss_one (ps_aug (i := 6) scKinds.nd rfl (.inl rfl) pe_int ip_add)) (pss_one (ps_if (pt_cmpR op_eq (pv 8) pe_int (by rfl)) (pss_one (ps_aug (i := 3) scKinds.nd rfl (.inl rfl) pe_int ip_add)) (pss_one (ps_if (pt_cmpR op_eq (pe_op op_add (pv 8) (pv 1)) (pv 2) (by rfl)) (pss_one (ps_aug (i := 5) scKinds.nd rfl (.inl rfl) pe_int ip_add)) (pss_one (ps_aug (i := 4) scKinds.nd rfl (.inl rfl) pe_int ip_add)))))))))
      (pss_one (ps_ret (pe_tup (pa_cons (pv 1) (pa_cons (pv 3) (pa_cons (pv 4) (pa_cons (pv 5) (pa_cons (pv 6) pa_nil)))))))))), ?_⟩
    have len := pairedLen pr
    refine ⟨_, rfl, l, rfl, ⟨_, .inl (.inl hl)⟩, for_list (xs := xs) (fun i σ Hx => Hx = H ∧ ∃ v7 v8, σ = [some (.ref l), some (.int (n : Nat)), some (.int (W : Nat)), some (.int (kindC n W 0 (ps.take i) : Nat)), some (.int (kindC n W 1 (ps.take i) : Nat)), some (.int (kindC n W 2 (ps.take i) : Nat)), some (.int (kindC n W 3 (ps.take i) : Nat)), v7, v8])
      ⟨rfl, _, _, rfl⟩ (fun i σ Hx _ p => by rw [p.1]; exact .inl (.inl hl)) (fun i x σ Hx hx p => ?_) (fun σ Hx p => ?_)⟩
    · obtain ⟨rfl, v7, v8, rfl⟩ := p
      obtain ⟨y, hy, q, rfl, _, hq⟩ := pairedGet pr hx
      have st : ∀ c, kindC n W c (ps.take (i + 1)) = kindC n W c (ps.take i) + (if kindOf n W y.2 = c then 1 else 0) := fun c => by
        unfold kindC
        rw [List.take_add_one, hy, List.countP_append]
        congr 1
        show [y].countP _ = _
        by_cases e : kindOf n W y.2 = c <;> simp [e]
      refine ⟨q, _, rfl, .inl (.inl hq), rfl, _, _, rfl, _, _, rfl, rfl, ?_⟩
      refine ⟨_, rfl, _, rfl, rfl, _, rfl, ?_⟩
      by_cases c3 : n = W
      · have e := st
        simp only [show kindOf n W y.2 = 3 by unfold kindOf; rw [if_pos c3]] at e
        refine iteT' (decide_eq_true (by rw [c3])) ⟨_, rfl, _, _, rfl, rfl, rfl, some (.int (y.1 : Nat)), some (.int (y.2 : Nat)), ?_⟩
        rw [e 0, e 1, e 2, e 3]
        rfl
      refine iteF' (decide_eq_false fun z => c3 (by have := V.int.inj z; omega)) ⟨_, rfl, rfl, _, rfl, ?_⟩
      by_cases c0 : y.2 = 0
      · have e := st
        simp only [show kindOf n W y.2 = 0 by unfold kindOf; rw [if_neg c3, if_pos c0]] at e
        refine iteT' (decide_eq_true (by rw [c0]; rfl)) ⟨_, rfl, _, _, rfl, rfl, rfl, some (.int (y.1 : Nat)), some (.int (y.2 : Nat)), ?_⟩
        rw [e 0, e 1, e 2, e 3]
        rfl
      refine iteF' (decide_eq_false fun z => c0 (by have := V.int.inj z; omega)) ⟨_, rfl, _, rfl, _, _, rfl, rfl, _, rfl, rfl, _, rfl, ?_⟩
      by_cases c2 : y.2 + n = W
      · have e := st
        simp only [show kindOf n W y.2 = 2 by unfold kindOf; rw [if_neg c3, if_neg c0, if_pos c2]] at e
        refine iteT' (decide_eq_true (by rw [← c2]; rfl)) ⟨_, rfl, _, _, rfl, rfl, rfl, some (.int (y.1 : Nat)), some (.int (y.2 : Nat)), ?_⟩
        rw [e 0, e 1, e 2, e 3]
        rfl
      · have e := st
        simp only [show kindOf n W y.2 = 1 by unfold kindOf; rw [if_neg c3, if_neg c0, if_neg c2]] at e
        refine iteF' (decide_eq_false fun z => c2 (by have := V.int.inj z; omega)) ⟨_, rfl, _, _, rfl, rfl, rfl, some (.int (y.1 : Nat)), some (.int (y.2 : Nat)), ?_⟩
        rw [e 0, e 1, e 2, e 3]
        rfl
    · obtain ⟨rfl, v7, v8, rfl⟩ := p
      rw [len, List.take_length]
      refine ⟨_, rfl, _, rfl, _, rfl, _, rfl, _, rfl, (by decide : 5 ≤ sizeLine), fun q hq => ?_⟩
      exact k q _ hq upd_same (same_new hq)
/-! ### Pieces -/
structure TopP (K : PySem.W.Frag) (mg : Str → Option Value) (fSp fKi : Addr) : Prop where
  gS : mg "spots_of" = some (.ref fSp)
  kS : PySem.W.keepIn K (.ref fSp) = true
  gK : mg "kinds_of" = some (.ref fKi)
  kK : PySem.W.keepIn K (.ref fKi) = true
  enu : mg "enumerate" = none
/-- what the class Pieces says of its fields -/
structure OwnP (K : PySem.W.Frag) (CP : Addr) : Prop where
  cls : Cls K CP
  n1 : NoAttr K CP "span"
  n2 : NoAttr K CP "spots"
  n3 : NoAttr K CP "kinds"
def spPInit (K : PySem.W.Frag) (CP : Addr) : Sp := fun vs H Q _ => ∃ (a l dx : Addr) (ws : List Str) (W : Nat), vs = [.ref a, .ref l] ∧ H a = some (.ins CP dx []) ∧ H l = some (.lst (ws.map V.str)) ∧ Good ws W ∧
  ∀ d dk kvs kk H3, H3 a = some (.ins CP dx [("span", .int (W : Nat)), ("spots", .ref d), ("kinds", .ref dk)]) → SpI H H3 d kvs (spotsF ws) → KiI H H3 dk kk (spotsF ws) W → (∀ b o, b ≠ a → H b = some o → H3 b = some o) → Q .non H3
abbrev NPInit : List Str := ["self", "words", "piece"]
theorem scPInit : FnScope NPInit ["self", "words"] (defScope sPInit) := ⟨rfl, rfl, rfl, by decide +kernel, rfl, by decide +kernel, by decide +kernel⟩
theorem ok_pinit {CP fSp fKi : Addr} {f : Addr} {fd fdS fdK : FuncData} (F : L2.Fun K "__init__" "Pieces.__init__" sPInit f fd) (FS : L2.Fun K "spots_of" "spots_of" sSpots fSp fdS) (FK : L2.Fun K "kinds_of" "kinds_of" sKinds fKi fdK) (X : Txt K mg C fLow fText fAre fTape fNext fInks) (XP : TopP K mg fSp fKi) (O : OwnP K CP) :
    FnOk P w K mg base CX0 2 f fd ["self", "words"] (spPInit K CP) := by
  have SS : FnOk P w K mg base CX0 1 fSp fdS ["words"] spSpots := ok_spots FS X XP.enu
  have bS : Binds K fdS ["words"] [] := FS.binds fun _ _ _ _ _ _ us hl => match us, hl with | [_], _ => rfl
  have KI : FnOk P w K mg base CX0 1 fKi fdK ["spots", "length", "width"] spKinds := ok_kinds FK
  have bK : Binds K fdK ["spots", "length", "width"] [] := FK.binds fun _ _ _ _ _ _ us hl => match us, hl with | [_, _, _], _ => rfl
  refine F.ok scPInit (fun vs H Q E h => ?_) (fun cdv A outer s H vs Q E hr h => ?_)
  · obtain ⟨a, l, dx, ws, W, rfl, _⟩ := h
    rfl
  · obtain ⟨a, l, dx, ws, W, rfl, ha, hl, g, k⟩ := h
    refine ⟨_, (pss_cons (ps_fld (pv 0) (pe_callB call_len_str (by rfl) X.len boot_len (pa_cons (pe_ix ix_seq (pv 1) pe_int fun _ _ => rfl) pa_nil)) (by rfl))
      (pss_cons (ps_fld (pv 0) (pe_call SS hr (by rfl) XP.gS XP.kS bS .nil L2.pass0 (pa_cons (pv 1) pa_nil)) (by rfl))
      (pss_one (ps_fld (pv 0) (pe_lock (pe_dc (own := [("piece", 2)]) (g := gName 2) (tt := tYes) (by rfl) scPInit.nd (pi_keys (pe_fld (pv 0) (by rfl))) (blkOk_by (own := [("piece", 2)]) (N := NPInit) (sc := defScope sPInit) (by decide +kernel)) (fun _ _ _ _ _ => pg_name (i := 2) scPInit.nd rfl (Or.inl rfl)) (fun _ _ _ _ _ => pts_nil) (fun _ _ _ _ _ => pv 2) (fun _ _ _ _ _ => pe_call KI hr (by rfl) XP.gK XP.kK bK .nil L2.pass0 (pa_cons (pe_dget (hu_of hr) (pe_fldKp (K := K) rfl (pv 0) (by rfl)) (pv 2) (fun _ _ => rfl)) (pa_cons (pe_callB call_len_str (by rfl) X.len boot_len (pa_cons (pv 2) pa_nil)) (pa_cons (pe_fldKp (K := K) rfl (pv 0) (by rfl)) pa_nil)))))) (by rfl))))), ?_⟩
    have n1 := g.n1
    have w8 := g.w8
    have wl : ws[0].length ≤ sizeLine := by rw [g.at n1]; exact Nat.le_trans w8 (by decide)
    have len8 : ∀ z ∈ ws, z.length ≤ 8 := fun z hz => by rw [(g.all z hz).1]; exact w8
    have la : l ≠ a := fun z => by rw [z, ha] at hl; cases hl
    refine ⟨_, rfl, .inl ⟨l, _, 0, .str ws[0], rfl, rfl, .inl (.inl hl), at_0 n1, ws[0], rfl, wl, _, rfl, a, CP, dx, [], rfl, ha, O.cls, O.n1, by decide, ?_⟩⟩
    rw [g.at n1]
    have hl1 : upd H a (.ins CP dx [("span", .int (W : Nat))]) l = some (.lst (ws.map V.str)) := (upd_ne la).trans hl
    refine ⟨_, rfl, l, ws, rfl, hl1, g.n6, len8, fun d kvs H2 I0 s2 => ?_⟩
    have b1 : ∀ b, upd H a (.ins CP dx [("span", .int (W : Nat))]) b = none → H b = none := fun b e => by
      by_cases c : b = a
      · rw [c, upd_same] at e; cases e
      · exact (upd_ne c).symm.trans e
    have I2 := I0.base b1
    have ha2 : H2 a = some (.ins CP dx [("span", .int (W : Nat))]) := s2 a _ upd_same
    have da : d ≠ a := fun z => by have := I2.new; rw [z, ha] at this; cases this
    have keep2 : ∀ b o, b ≠ a → H b = some o → H2 b = some o := fun b o nb e => s2 b o ((upd_ne nb).trans e)
    refine ⟨_, rfl, a, CP, dx, _, rfl, ha2, O.cls, O.n2, (show 1 < 1000 by decide), ?_⟩
    have nk3 : NK H H2 (upd H2 a (.ins CP dx [("span", .int (W : Nat)), ("spots", .ref d)])) := fun b o nb _ e => (upd_ne (fun z => by rw [z, ha] at nb; cases nb)).trans e
    have I3 := I2.keep nk3
    have ha3 : upd H2 a (.ins CP dx [("span", .int (W : Nat)), ("spots", .ref d)]) a = some (.ins CP dx [("span", .int (W : Nat)), ("spots", .ref d)]) := upd_same
    have keep3 : ∀ b o, b ≠ a → H b = some o → upd H2 a (.ins CP dx [("span", .int (W : Nat)), ("spots", .ref d)]) b = some o := fun b o nb e => (upd_ne nb).trans (keep2 b o nb e)
    have pf : putF ("spots" : Str) (V.ref d) [(("span" : Str), V.int (W : Nat))] = [(("span" : Str), V.int (W : Nat)), (("spots" : Str), V.ref d)] := rfl
    rw [pf]
    generalize upd H2 a (.ins CP dx [("span", .int (W : Nat)), ("spots", .ref d)]) = H3 at I3 ha3 keep3 ⊢
    refine ⟨d, .dK kvs, I3.at_, trivial, fun od => ?_⟩
    have haL : upd H3 d (.frz od (.dK kvs)) a = some (.ins CP dx [("span", .int (W : Nat)), ("spots", .ref d)]) := (upd_ne da.symm).trans ha3
    have hdL : upd H3 d (.frz od (.dK kvs)) d = some (.frz od (.dK kvs)) := upd_same
    refine ⟨_, rfl, a, CP, dx, _, _, rfl, haL, O.cls, O.n2, rfl, d, od, rfl, .inl ⟨kvs, hdL, fun D hD => ?_⟩⟩
    have nd := I3.nd
    have lenM := pairedLen I3.pr
    have bdM : Bd 600 (spotsF ws) := (Bd.W len8 ws.length).mono (by have := g.n6; omega)
    have ksM : Ks 8 (spotsF ws) := Ks.W len8 ws.length
    have D3 : H3 D = none := by
      by_cases c : D = d
      · rw [c, hdL] at hD; cases hD
      · exact (upd_ne c).symm.trans hD
    have D0 : H D = none := by
      cases q : H D with
      | none => rfl
      | some o =>
        have na : D ≠ a := fun z => by rw [z, ha3] at D3; cases D3
        rw [keep3 D o na q] at D3; cases D3
    have free3 : ∀ b, H3 b = none → H b = none := fun b e => by
      cases q : H b with
      | none => rfl
      | some o =>
        have na : b ≠ a := fun z => by rw [z, ha3] at e; cases e
        rw [keep3 b o na q] at e; cases e
    have freeL : ∀ b, upd H3 d (.frz od (.dK kvs)) b = none → H b = none := fun b e => by
      refine free3 b ?_
      by_cases c : b = d
      · rw [c, hdL] at e; cases e
      · exact (upd_ne c).symm.trans e
    -- what stands of the dict's lists while it is locked
    have prL : Paired (fun (kv : Key × V) (e : Str × List (Nat × Nat)) => kv.1 = .inr e.1 ∧ ∃ l' vs', kv.2 = .ref l' ∧ upd H3 d (.frz od (.dK kvs)) l' = some (.lst vs') ∧ Paired (Tu H (upd H3 d (.frz od (.dK kvs)))) vs' e.2) kvs (spotsF ws) := pairedMono (fun kv e h => by
      obtain ⟨e1, l', vs', e2, _, a', pr⟩ := h
      refine ⟨e1, l', vs', e2, (upd_ne (fun z => by rw [z, I3.at_] at a'; cases a')).trans a', pairedMono (fun v x t => ?_) pr⟩
      obtain ⟨q, t1, t2, t3⟩ := t
      exact ⟨q, t1, t2, (upd_ne (fun z => by rw [z, I3.at_] at t3; cases t3)).trans t3⟩) I3.pr
    have keepL : ∀ b o, b ≠ d → H3 b = some o → upd H3 d (.frz od (.dK kvs)) b = some o := fun b o nb e => (upd_ne nb).trans e
    generalize upd H3 d (.frz od (.dK kvs)) = HL at haL hdL hD freeL prL keepL ⊢
    have Dd : D ≠ d := fun z => by rw [z, hdL] at hD; cases hD
    have Da : D ≠ a := fun z => by rw [z, haL] at hD; cases hD
    refine dc_it (walk_keys (kvs := kvs)) (fun i Hx => ∃ kk, Hx D = some (.dK kk) ∧ Paired (KiE H Hx W) kk ((spotsF ws).take i) ∧ L2.Same HL Hx) ⟨[], upd_same, .nil, same_new hD⟩ (fun i Hx _ p => by
      obtain ⟨kk, _, _, sx⟩ := p
      exact sx d _ hdL) (fun i x Hx Hy hi p y => ?_) (fun Hx p => ?_)
    · obtain ⟨kk, hk, pk, sx⟩ := p
      obtain ⟨rfl, key, v, hkv, rfl⟩ := y
      obtain ⟨e, he, e1, l', vs', e2, hl', pr⟩ := pairedGet prL hkv
      have e1 : key = .inr e.1 := e1
      have e2 : v = .ref l' := e2
      subst e1 e2
      have me : e ∈ spotsF ws := List.mem_of_getElem? he
      have el : e.1.length ≤ sizeLine := Nat.le_trans (ksM e me) (by decide)
      have haX := sx a _ haL
      have hv : valV kvs (.inr e.1) = some (.ref l') := by
        have kn : (kvs.map (·.1)).Nodup := by
          have ek : kvs.map (·.1) = (spotsF ws).map fun e => Sum.inr e.1 := by
            have go : ∀ {ks : List (Key × V)} {Ms : Sp4}, Paired (SpE H H3) ks Ms → ks.map (·.1) = Ms.map fun e => Sum.inr e.1 := fun {ks Ms} pr => by
              induction pr with
              | nil => rfl
              | cons h _ ih => rw [List.map_cons, List.map_cons, ih, h.1]
            exact go I3.pr
          rw [ek]
          have e3 : ((spotsF ws).map fun e => (Sum.inr e.1 : Key)) = ((spotsF ws).map (·.1)).map Sum.inr := by rw [List.map_map]; rfl
          rw [e3]
          exact List.Pairwise.map _ (fun a b h z => h (Sum.inr.inj z)) nd
        exact valV_nd kn (List.mem_of_getElem? hkv)
      refine ⟨rfl, ?_⟩
      unfold tYes
      refine iteT' (b := true) rfl ?_
      refine ⟨_, rfl, _, rfl, a, CP, dx, _, _, rfl, haX, O.cls, O.n2, rfl, _, rfl, d, .ref l', rfl, .inl ⟨kvs, .inr e.1, .inr ⟨od, sx d _ hdL⟩, rfl, hv.symm⟩, _, rfl, e.1, rfl, el, _, rfl, a, CP, dx, _, _, rfl, haX, O.cls, O.n1, rfl, ?_⟩
      refine ⟨l', vs', e.2, e.1.length, W, H, rfl, sx l' _ hl', pairedMono (fun v x t => by
        obtain ⟨q, t1, t2, t3⟩ := t
        exact ⟨q, t1, t2, sx q _ t3⟩) pr, fun q H5 hq0 hq s5 => ?_⟩
      have q0 : H q = none := freeL q (sx.free hq0)
      have hk5 := s5 D _ hk
      have kl : kk.length ≤ 600 := by
        rw [pairedLen pk, List.length_take]
        have := bdM.1
        omega
      have no : valV kk (.inr e.1) = none := ki_none pk fun e' he' z => by
        obtain ⟨j, hj, ej⟩ := List.mem_iff_getElem.mp he'
        rw [List.length_take] at hj
        have ej' : (spotsF ws)[j]'(by omega) = e' := by rw [← ej, List.getElem_take]
        have ei : (spotsF ws)[i]? = some e := he
        have hi' : i < (spotsF ws).length := (List.getElem?_eq_some_iff.mp ei).1
        have ei' : (spotsF ws)[i] = e := (List.getElem?_eq_some_iff.mp ei).2
        have ne : j ≠ i := by omega
        have mj : ((spotsF ws).map (·.1))[j]? = some e.1 := by
          rw [List.getElem?_map, List.getElem?_eq_getElem (by omega : j < (spotsF ws).length), ej']
          exact congrArg some z
        have mi : ((spotsF ws).map (·.1))[i]? = some e.1 := by rw [List.getElem?_map, ei]; rfl
        exact ne ((List.getElem?_inj (by rw [List.length_map]; omega) nd).mp (mj.trans mi.symm))
      refine ⟨kk, .inr e.1, rfl, hk5, Nat.lt_of_le_of_lt kl (by decide), kk ++ [(.inr e.1, .ref q)], by rw [putK_new _ no]; exact upd_same, ?_, fun b o eb => (upd_ne (ne_of_none eb hD)).trans (s5 b o (sx b o eb))⟩
      rw [List.take_add_one, he]
      have qD : q ≠ D := fun z => by rw [z, hk] at hq0; cases hq0
      refine (pairedMono (fun kv e h => ?_) pk).snoc ⟨rfl, q, rfl, q0, (upd_ne qD).trans hq⟩
      obtain ⟨e1, q', e2, n', a'⟩ := h
      have q'D : q' ≠ D := fun z => by rw [z, hk] at a'; cases a'
      exact ⟨e1, q', e2, n', (upd_ne q'D).trans (s5 q' _ a')⟩
    · obtain ⟨kk, hk, pk, sx⟩ := p
      rw [lenM, List.take_length] at pk
      refine ⟨sx d _ hdL, _, rfl, a, CP, dx, _, rfl, (upd_ne da.symm).trans (sx a _ haL), O.cls, O.n3, (show 2 < 1000 by decide), ?_⟩
      have nk : NK H H3 (upd (upd Hx d (.dK kvs)) a (.ins CP dx [("span", .int (W : Nat)), ("spots", .ref d), ("kinds", .ref D)])) := fun b o nb _ e => by
        have na : b ≠ a := fun z => by rw [z, ha] at nb; cases nb
        by_cases c : b = d
        · subst c
          rw [I3.at_] at e
          cases e
          exact (upd_ne na).trans upd_same
        · exact (upd_ne na).trans ((upd_ne c).trans (sx b o (keepL b o c e)))
      refine k d D kvs kk _ upd_same (I3.keep nk) ⟨(upd_ne Da).trans ((upd_ne Dd).trans hk), D0, pairedMono (fun kv e h => ?_) pk⟩ fun b o nb e => ?_
      · obtain ⟨e1, q', e2, n', a'⟩ := h
        have q1 : q' ≠ d := fun z => by rw [z, sx d _ hdL] at a'; cases a'
        have q2 : q' ≠ a := fun z => by rw [z, ha] at n'; cases n'
        exact ⟨e1, q', e2, n', (upd_ne q2).trans ((upd_ne q1).trans a')⟩
      · have nd' : b ≠ d := fun z => by rw [z, I3.new] at e; cases e
        exact (upd_ne nb).trans ((upd_ne nd').trans (sx b o (keepL b o nd' (keep3 b o nb e))))
end
end Ov

set_option Elab.async false
set_option linter.all false
set_option maxRecDepth 100000
set_option maxHeartbeats 4000000
namespace Ov
open PySem PySem.Spec PyProof.Rows L2 GxR
section
variable {P : Program} {w : World} {K : PySem.W.Frag} {mg : Str → Option Value} {base : Heap} {T : List Addr} {C D fLow fText fAre fTape fNext fInks fInit cLow PLow cAre PAre fStrip fOver pWi fWi pWo fWo fCl DSp DSg DS DNum DTx fInked fRow fCalled fRight pO gO : Addr}
theorem KepX.trans {a : Addr} {H H1 H2 : Hp} (x : KepX T a H H1) (y : KepX T a H1 H2) : KepX T a H H2 := ⟨y.1, fun b o hb hn e => y.2 b o hb hn (x.2 b o hb hn e)⟩
theorem Kep.kx {a : Addr} {H H1 : Hp} (x : Kep T H H1) : KepX T a H H1 := ⟨x.1, fun b o hb _ e => x.2 b o hb e⟩
theorem Bt.kx {a : Addr} {H H1 : Hp} (x : Bt a H H1) (hT : ∀ p ∈ T, TabG H p) (na : a ∉ T) : KepX T a H H1 := ⟨fun p hp => by
  obtain ⟨ps, h1, h2⟩ := hT p hp
  exact ⟨ps, x p _ (fun z => na (z ▸ hp)) h1, h2⟩, fun b o _ hn e => x b o hn e⟩
theorem KepX.new {a : Addr} {H H1 : Hp} {p : Addr} {o : HO} (x : KepX T a H H1) (e : H1 p = none) : KepX T a H (upd H1 p o) := ⟨(Kep.new x.1 e).1, fun b u hb hn q => (Kep.new x.1 e).2 b u hb (x.2 b u hb hn q)⟩
theorem KepX.free {a : Addr} {H H1 : Hp} {p : Addr} (x : KepX T a H H1) (hT : ∀ p ∈ T, TabG H p) (hp : p ≠ a) (e : H1 p = none) : H p = none := by
  cases q : H p with
  | none => rfl
  | some o =>
    by_cases hb : p ∈ T
    · obtain ⟨ps, h1, _⟩ := x.1 p hb
      rw [h1] at e; cases e
    · rw [x.2 p o hb hp q] at e; cases e
theorem KepX.put {a : Addr} {H H1 : Hp} {p : Addr} {o : HO} (x : KepX T a H H1) (e : H p = none) (n : p ∉ T) : KepX T a H (upd H1 p o) := by
  refine ⟨fun q hq => ?_, fun b u hb hn hu => ?_⟩
  · obtain ⟨ps, h1, h2⟩ := x.1 q hq
    exact ⟨ps, (upd_ne fun z => n (by rw [← z]; exact hq)).trans h1, h2⟩
  · exact (upd_ne (ne_of_none hu e)).trans (x.2 b u hb hn hu)
theorem KepX.at {a b : Addr} {H H1 : Hp} {o : HO} (x : KepX T a H H1) (hT : ∀ p ∈ T, TabG H p) (hb : b ≠ a) (e : H b = some o) (n : ∀ ps, o ≠ .tbl ps) : H1 b = some o := x.2 b o (not_tab hT e n) hb e
theorem KepX.refl {a : Addr} {H : Hp} (h : ∀ p ∈ T, TabG H p) : KepX T a H H := ⟨h, fun _ _ _ _ e => e⟩
theorem Bt.kxt {a : Addr} {H H1 H2 : Hp} (k : KepX T a H H1) (na : a ∉ T) (x : Bt a H1 H2) : KepX T a H H2 := k.trans (x.kx k.1 na)
theorem Tp.kx {H H' : Hp} {t : Addr} {n : Nat} (h : Tp H t n) (hT : ∀ p ∈ T, TabG H p) (k : Kep T H H') : Tp H' t n := by
  have nt : t ∉ T := by
    obtain ⟨a, b, c, h1, _⟩ := h
    exact not_tab hT h1 fun _ z => by cases z
  obtain ⟨a, b, c, h1, h2⟩ := h
  exact ⟨a, b, c, k.2 t _ nt h1, h2⟩
theorem Tp.nT {H : Hp} {t : Addr} {n : Nat} (h : Tp H t n) (hT : ∀ p ∈ T, TabG H p) : t ∉ T := by
  obtain ⟨a, b, c, h1, _⟩ := h
  exact not_tab hT h1 fun _ z => by cases z
theorem Kep.btX {t : Addr} {H H1 H2 : Hp} (hT : ∀ p ∈ T, TabG H p) (k : Kep T H H1) (ht : H t = none) (b : Bt t H1 H2) : Kep T H H2 := by
  refine ⟨fun p hp => ?_, fun a o ha e => b a o (ne_of_none e ht) (k.2 a o ha e)⟩
  obtain ⟨ps, h1, h2⟩ := k.1 p hp
  obtain ⟨ps', h1', _⟩ := hT p hp
  exact ⟨ps, b p _ (ne_of_none h1' ht) h1, h2⟩
end
end Ov

set_option Elab.async false
set_option linter.all false
set_option maxRecDepth 100000
set_option maxHeartbeats 4000000
namespace Ov
open PySem PySem.Spec PyProof.Rows L2 GxR
abbrev sBInit : Stmt := inClass (top 51) 3
abbrev sNamed : Stmt := inClass (top 51) 4
abbrev sStamps : Stmt := inClass (top 51) 5
/-! ### the bands -/
def lab (z : Str) : Option Nat := if z = "line" then some 0 else if z = "window" then some 1 else if z = "ring" then some 2 else none
def labN : Nat → Str
  | 0 => "line"
  | 1 => "window"
  | 2 => "ring"
  | _ => ""
def clsN : Nat → Str
  | 0 => "Line"
  | 1 => "Window"
  | 2 => "Ring"
  | _ => "Band"
def cellsN (i : Nat) : Nat := if i = 2 then 60 else 120
/-- where the bands' classes and defs stand -/
structure BA where
  c : Nat → Addr
  ff : Nat → Addr
  fs : Nat → Addr
  fB : Addr
  pN : Addr
  gN : Addr
  pS : Addr
  gS : Addr
  fKn : Addr
  fCk : Addr
  CP : Addr
  fP : Addr
  fSp : Addr
  fKi : Addr
  fCs : Addr
structure Kls (K : PySem.W.Frag) (mg : Str → Option Value) (B : BA) (i : Nat) (C : Addr) : Prop where
  g : mg (clsN i) = some (.ref C)
  mak : Mk K C B.fB
  cls : Cls K C
  eq : NoEq2 K C
  noS : NoAttr K C "_stamps"
  noP : NoAttr K C "pieces"
  rd : ClX.CRead K C (.type "type")
  name : ∃ t, ClX.CVal K C (.type "type") "NAME" (.str (labN i)) (.str (labN i) t)
  con : ∃ t, Con K C "NAME" (.str (labN i)) (.str (labN i) t)
  cells : ∃ t, Con K C "CELLS" (.int (cellsN i : Nat)) (.int (cellsN i : Nat) t)
  nmd : ClX.CMet K C (.type "type") "named" B.pN B.gN
  prop : PropOf K C "stamps" B.pS B.gS
  ha : PySem.W.findIn K (.ref C) "__class__" = some (some (.builtin "object.__class__"))
  hm : PySem.W.mroIn K C (.type "object") = some true
  kn : Meth K C "_knows" B.fKn
  ck : Meth K C "_check_stamping" B.fCk
  cs : Meth K C "check_strip" B.fCs
/-- the four classes, and Pieces -/
structure Bds (K : PySem.W.Frag) (mg : Str → Option Value) (B : BA) : Prop where
  k : ∀ i, i < 4 → Kls K mg B i (B.c i)
  kit : ∀ i j, i < 4 → j < 4 → PySem.W.kitOne K (.ref (B.c i)) (.ref (B.c j)) = some (decide (i = j ∨ j = 3))
  sub : ∀ i j, i < 4 → j < 4 → PySem.W.subIn K (.ref (B.c i)) (.ref (B.c j)) = some (decide (i = j ∨ j = 3))
  hn : PySem.W.specialIn K (.builtin "object.__class__") "__get__" = some (some (.builtin "getset_descriptor.__get__"))
  htk : PySem.W.takesIn K (.builtin "object.__class__") = some true
  fits : ∀ i, i < 3 → Meth K (B.c i) "fits" (B.ff i)
  stm : ∀ i, i < 3 → Meth K (B.c i) "stamped" (B.fs i)
  gP : mg "Pieces" = some (.ref B.CP)
  mP : Mk K B.CP B.fP
  oP : OwnP K B.CP
  tP : TopP K mg B.fSp B.fKi
/-- pieces of words at pc, made since H0 -/
def Pcs (H0 H : Hp) (CP pc : Addr) (ws : List Str) (W : Nat) : Prop := ∃ dx d dk kvs kk, H pc = some (.ins CP dx [("span", .int (W : Nat)), ("spots", .ref d), ("kinds", .ref dk)]) ∧ H0 pc = none ∧ SpI H0 H d kvs (spotsF ws) ∧ KiI H0 H dk kk (spotsF ws) W
theorem Pcs.keep {H0 H H2 : Hp} {CP pc : Addr} {ws : List Str} {W : Nat} (k : NK H0 H H2) (h : Pcs H0 H CP pc ws W) : Pcs H0 H2 CP pc ws W := by
  obtain ⟨dx, d, dk, kvs, kk, e, n, s, i⟩ := h
  exact ⟨dx, d, dk, kvs, kk, k pc _ n (fun _ z => by cases z) e, n, s.keep k, i.keep k⟩
theorem Pcs.base {H0 H1 H : Hp} {CP pc : Addr} {ws : List Str} {W : Nat} (h : ∀ b, H1 b = none → H0 b = none) (p : Pcs H1 H CP pc ws W) : Pcs H0 H CP pc ws W := by
  obtain ⟨dx, d, dk, kvs, kk, e, n, s, i⟩ := p
  exact ⟨dx, d, dk, kvs, kk, e, h _ n, s.base h, i.base h⟩
/-- a band of the i-th class over the stamps at m stands at a -/
def BdAt (B : BA) (H0 H : Hp) (a : Addr) (i : Nat) (m : Addr) (ws : List Str) (W : Nat) : Prop := ∃ dx pc, H a = some (.ins (B.c i) dx [("_stamps", .ref m), ("pieces", .ref pc)]) ∧ H0 a = none ∧ Pcs H0 H B.CP pc ws W
theorem BdAt.keep {B : BA} {H0 H H2 : Hp} {a m : Addr} {i : Nat} {ws : List Str} {W : Nat} (k : NK H0 H H2) (h : BdAt B H0 H a i m ws W) : BdAt B H0 H2 a i m ws W := by
  obtain ⟨dx, pc, e, n, p⟩ := h
  exact ⟨dx, pc, k a _ n (fun _ z => by cases z) e, n, p.keep k⟩
section
variable {P : Program} {w : World} {K : PySem.W.Frag} {mg : Str → Option Value} {base : Heap} {T : List Addr} {C D fLow fText fAre fTape fNext fInks fInit cLow PLow cAre PAre pWo fWo : Addr} {B : BA}
def spBInit (K : PySem.W.Frag) (C : Addr) (B : BA) : Sp := fun vs H Q _ => ∃ (a CB dx m l dm : Addr) (ws : List Str) (W : Nat), vs = [.ref a, .ref m] ∧ H a = some (.ins CB dx []) ∧ Cls K CB ∧ NoAttr K CB "_stamps" ∧ NoAttr K CB "pieces" ∧ Stp H C m l dm (ws.map V.str) ∧ Good ws W ∧
  ∀ pc H3, H3 a = some (.ins CB dx [("_stamps", .ref m), ("pieces", .ref pc)]) → Pcs H H3 B.CP pc ws W → (∀ b o, b ≠ a → H b = some o → H3 b = some o) → Q .non H3
theorem scBInit : FnScope ["self", "stamps"] ["self", "stamps"] (defScope sBInit) := ⟨rfl, rfl, rfl, by decide +kernel, rfl, by decide +kernel, by decide +kernel⟩
theorem ok_binit {f : Addr} {fd fdW fdP fdS fdK : FuncData} (F : L2.Fun K "__init__" "Band.__init__" sBInit f fd) (FW : L2.Fun K "words" "Stamps.words" sWords fWo fdW) (FP : L2.Fun K "__init__" "Pieces.__init__" sPInit B.fP fdP) (FS : L2.Fun K "spots_of" "spots_of" sSpots B.fSp fdS) (FK : L2.Fun K "kinds_of" "kinds_of" sKinds B.fKi fdK)
    (X : Txt K mg C fLow fText fAre fTape fNext fInks) (O : Own K C) (hp : PropOf K C "words" pWo fWo) (BB : Bds K mg B) : FnOk P w K mg base CX0 4 f fd ["self", "stamps"] (spBInit K C B) := by
  have PI : FnOk P w K mg base CX0 2 B.fP fdP ["self", "words"] (spPInit K B.CP) := ok_pinit FP FS FK X BB.tP BB.oP
  have bP : Binds K fdP ["self", "words"] [] := FP.binds fun _ _ _ _ _ _ us hl => match us, hl with | [_, _], _ => rfl
  have WW : FnOk P w K mg base CX0 1 fWo fdW ["self"] (spWords C) := ok_words FW X O
  have bW : Binds K fdW ["self"] [] := FW.binds fun _ _ _ _ _ _ us hl => match us, hl with | [_], _ => rfl
  refine F.ok scBInit (fun vs H Q E h => ?_) (fun cdv A outer s H vs Q E hr h => ?_)
  · obtain ⟨a, CB, dx, m, l, dm, ws, W, rfl, _⟩ := h
    rfl
  · obtain ⟨a, CB, dx, m, l, dm, ws, W, rfl, ha, hc, n1, n2, st, g, k⟩ := h
    refine ⟨_, pss_cons (ps_fld (pv 0) (pv 1) (by rfl)) (pss_one (ps_fld (pv 0) (pe_make BB.mP PI hr (by rfl) BB.gP bP .nil L2.pass0 (pa_cons (pe_propX (p := pWo) (pv 1) WW (hr.mono (by decide)) bW .nil L2.pass0) pa_nil)) (by rfl))), ?_⟩
    refine ⟨_, rfl, _, rfl, a, CB, dx, [], rfl, ha, hc, n1, by decide, ?_⟩
    have ma : m ≠ a := fun z => by
      have := st.1
      rw [z, ha] at this
      cases this
    have la : l ≠ a := fun z => by
      have := st.2
      rw [z, ha] at this
      cases this
    have h1a : upd H a (.ins CB dx [("_stamps", .ref m)]) a = some (.ins CB dx [("_stamps", .ref m)]) := upd_same
    have s1 : ∀ b o, b ≠ a → H b = some o → upd H a (.ins CB dx [("_stamps", .ref m)]) b = some o := fun b o nb e => (upd_ne nb).trans e
    have f1 : ∀ b, upd H a (.ins CB dx [("_stamps", .ref m)]) b = none → H b = none := fun b e => by
      by_cases c : b = a
      · rw [c, upd_same] at e; cases e
      · exact (upd_ne c).symm.trans e
    have pf : putF ("_stamps" : Str) (V.ref m) [] = [(("_stamps" : Str), V.ref m)] := rfl
    rw [pf]
    generalize upd H a (.ins CB dx [("_stamps", .ref m)]) = H1 at h1a s1 f1 ⊢
    refine ⟨_, rfl, m, C, dm, _, rfl, O.cls, hp, s1 m _ ma st.1, m, l, dm, _, rfl, ⟨s1 m _ ma st.1, s1 l _ la st.2⟩, fun wl hwl => ?_⟩
    have s2 : L2.Same H1 (upd H1 wl (.lst (ws.map V.str))) := same_new hwl
    have hw2 : upd H1 wl (.lst (ws.map V.str)) wl = some (.lst (ws.map V.str)) := upd_same
    have f2 : ∀ b, upd H1 wl (.lst (ws.map V.str)) b = none → H1 b = none := fun b e => s2.free e
    generalize upd H1 wl (.lst (ws.map V.str)) = H2 at s2 hw2 f2 ⊢
    intro x dp hx hdp hne
    have sx : L2.Same H2 (upd (upd H2 dp (.own x)) x (.ins B.CP dp [])) := fun b o e => (upd_ne (ne_of_none e hx)).trans ((upd_ne (ne_of_none e hdp)).trans e)
    refine ⟨x, wl, dp, ws, W, rfl, upd_same, sx wl _ hw2, g, fun d dk kvs kk H3 e3 sp ki kp => ⟨rfl, ?_⟩⟩
    have b0 : ∀ b, upd (upd H2 dp (.own x)) x (.ins B.CP dp []) b = none → H b = none := fun b e => f1 b (f2 b (sx.free e))
    have xa : x ≠ a := fun z => by
      have := s2 a _ h1a
      rw [← z, hx] at this
      cases this
    have s3 : ∀ b o, H2 b = some o → H3 b = some o := fun b o e => kp b o (ne_of_none e hx) (sx b o e)
    have ha3 : H3 a = some (.ins CB dx [("_stamps", .ref m)]) := s3 a _ (s2 a _ h1a)
    refine ⟨_, rfl, a, CB, dx, _, rfl, ha3, hc, n2, (show 1 < 1000 by decide), ?_⟩
    have nk : NK H H3 (upd H3 a (.ins CB dx [("_stamps", .ref m), ("pieces", .ref x)])) := fun b o nb _ e => (upd_ne (fun z => by rw [z, ha] at nb; cases nb)).trans e
    refine k x _ upd_same (Pcs.keep nk ⟨dp, d, dk, kvs, kk, e3, f1 x (f2 x hx), sp.base b0, ki.base b0⟩) fun b o nb e => (upd_ne nb).trans (s3 b o (s2 b o (s1 b o nb e)))
def spGet (K : PySem.W.Frag) : Sp := fun vs H Q _ => ∃ (a CB dx : Addr) (fs : List (Str × V)) (v : V), vs = [.ref a] ∧ H a = some (.ins CB dx fs) ∧ fs.lookup ("_stamps" : Str) = some v ∧ Cls K CB ∧ NoAttr K CB "_stamps" ∧ Q v H
theorem scGet : FnScope ["self"] ["self"] (defScope sStamps) := ⟨rfl, rfl, rfl, by decide +kernel, rfl, by decide +kernel, by decide +kernel⟩
theorem ok_get {f : Addr} {fd : FuncData} (F : L2.Fun K "stamps" "Band.stamps" sStamps f fd) : FnOk P w K mg base CX0 1 f fd ["self"] (spGet K) := by
  refine F.ok scGet (fun vs H Q E h => ?_) (fun cdv A outer s H vs Q E hr h => ?_)
  · obtain ⟨a, C, dx, fs, v, rfl, _⟩ := h
    rfl
  · obtain ⟨a, C, dx, fs, v, rfl, ha, hl, hc, hn, q⟩ := h
    exact ⟨_, pss_one (ps_ret (pe_fld (pv 0) (by rfl))), ⟨_, rfl, a, C, dx, _, _, rfl, ha, hc, hn, hl, q⟩⟩
/-- what making a band of the i-th class gives -/
def Mades (B : BA) (H : Hp) (i : Nat) (m : Addr) (ws : List Str) (W : Nat) (Q : VK) : Prop := ∀ a H3, BdAt B H H3 a i m ws W → L2.Same H H3 → Q (.ref a) H3
theorem Mades.make {H : Hp} {i : Nat} {m l dm : Addr} {ws : List Str} {W : Nat} {Q : VK} (BB : Bds K mg B) (hi : i < 4) (st : Stp H C m l dm (ws.map V.str)) (g : Good ws W) (mm : Mades B H i m ws W Q) {x dx : Addr} (hx : H x = none) (hdx : H dx = none) (hne : dx ≠ x) :
    spBInit K C B [V.ref x, .ref m] (upd (upd H dx (.own x)) x (.ins (B.c i) dx [])) (fun v H2 => v = .non ∧ Q (.ref x) H2) E0 := by
  have sx : L2.Same H (upd (upd H dx (.own x)) x (.ins (B.c i) dx [])) := fun b o e => (upd_ne (ne_of_none e hx)).trans ((upd_ne (ne_of_none e hdx)).trans e)
  refine ⟨x, B.c i, dx, m, l, dm, ws, W, rfl, upd_same, (BB.k i hi).cls, (BB.k i hi).noS, (BB.k i hi).noP, ⟨sx m _ st.1, sx l _ st.2⟩, g, fun pc H3 e3 p kp => ⟨rfl, ?_⟩⟩
  exact mm x H3 ⟨dx, pc, e3, hx, p.base fun b e => sx.free e⟩ fun b o e => kp b o (ne_of_none e hx) (sx b o e)
def spNamed (C : Addr) (B : BA) (DN : Addr) : Sp := fun vs H Q E => ∃ (x : V) (z : Str) (m l dm : Addr) (ws : List Str) (W : Nat), vs = [x, .str z, .ref m] ∧ Stp H C m l dm (ws.map V.str) ∧ Good ws W ∧ (∀ i, lab z = some i → Mades B H i m ws W Q) ∧ (lab z = none → E (.ref DN) none H)
theorem scNamed : FnScope ["cls", "name", "stamps"] ["cls", "name", "stamps"] (defScope sNamed) := ⟨rfl, rfl, rfl, by decide +kernel, rfl, by decide +kernel, by decide +kernel⟩
theorem ok_named {f DN : Addr} {fd fdB : FuncData} (F : L2.Fun K "named" "Band.named" sNamed f fd) (FB : L2.Fun K "__init__" "Band.__init__" sBInit B.fB fdB) (FI : FnOk P w K mg base CX0 4 B.fB fdB ["self", "stamps"] (spBInit K C B)) (BB : Bds K mg B) (Er : ErrC K mg "InvalidName" DN) :
    FnOk P w K mg base (L2.CX P w) 6 f fd ["cls", "name", "stamps"] (spNamed C B DN) := by
  have bI : Binds K fdB ["self", "stamps"] [] := FB.binds fun _ _ _ _ _ _ us hl => match us, hl with | [_, _], _ => rfl
  have k0 := BB.k 0 (by decide)
  have k1 := BB.k 1 (by decide)
  have k2 := BB.k 2 (by decide)
  refine F.okX scNamed (fun vs H Q E h => ?_) (fun cdv A outer s H vs Q E hr h => ?_)
  · obtain ⟨x, z, m, l, dm, ws, W, rfl, _⟩ := h
    rfl
  · obtain ⟨x, z, m, l, dm, ws, W, rfl, st, g, h1, h2⟩ := h
    obtain ⟨t0, n0⟩ := k0.name
    obtain ⟨t1, n1⟩ := k1.name
    obtain ⟨t2, n2⟩ := k2.name
    refine ⟨_, pss_cons (ps_if (pt_cmpR op_eq (pv 1) (ClX.pe_cval (pe_glob (v := .ref (B.c 0)) (by rfl) k0.g rfl)) (by rfl)) (pss_one (ps_ret (pe_make k0.mak FI hr (by rfl) k0.g bI .nil L2.pass0 (pa_cons (pv 2) pa_nil)))) pss_nil)
      (pss_cons (ps_if (pt_cmpR op_eq (pv 1) (ClX.pe_cval (pe_glob (v := .ref (B.c 1)) (by rfl) k1.g rfl)) (by rfl)) (pss_one (ps_ret (pe_make k1.mak FI hr (by rfl) k1.g bI .nil L2.pass0 (pa_cons (pv 2) pa_nil)))) pss_nil)
      (pss_cons (ps_if (pt_cmpR op_eq (pv 1) (ClX.pe_cval (pe_glob (v := .ref (B.c 2)) (by rfl) k2.g rfl)) (by rfl)) (pss_one (ps_ret (pe_make k2.mak FI hr (by rfl) k2.g bI .nil L2.pass0 (pa_cons (pv 2) pa_nil)))) pss_nil)
      (pss_one (ps_raise rfl (takes_of rfl rfl rfl rfl) (pmk_own PySem.F.excBase_ValueError Er.e Er.g Er.k (raises_own Er.b Er.t) (by rfl)))))), ?_⟩
    have dec : ∀ y : Str, decide (V.str z = V.str y) = decide (z = y) := fun y => by rw [Bool.eq_iff_iff]; simp
    refine ⟨_, rfl, B.c 0, _, _, _, rfl, k0.rd, n0, rfl, _, rfl, ?_⟩
    rw [dec]
    by_cases z0 : z = "line"
    · refine iteT' (by rw [decide_eq_true_eq]; exact z0) ⟨_, rfl, fun x dx hx hdx hne => ?_⟩
      exact (h1 0 (by unfold lab; rw [if_pos z0])).make BB (by decide) st g hx hdx hne
    refine iteF' (by rw [decide_eq_false_iff_not]; exact z0) ⟨_, rfl, B.c 1, _, _, _, rfl, k1.rd, n1, rfl, _, rfl, ?_⟩
    rw [dec]
    by_cases z1 : z = "window"
    · refine iteT' (by rw [decide_eq_true_eq]; exact z1) ⟨_, rfl, fun x dx hx hdx hne => ?_⟩
      exact (h1 1 (by unfold lab; rw [if_neg z0, if_pos z1])).make BB (by decide) st g hx hdx hne
    refine iteF' (by rw [decide_eq_false_iff_not]; exact z1) ⟨_, rfl, B.c 2, _, _, _, rfl, k2.rd, n2, rfl, _, rfl, ?_⟩
    rw [dec]
    by_cases z2 : z = "ring"
    · refine iteT' (by rw [decide_eq_true_eq]; exact z2) ⟨_, rfl, fun x dx hx hdx hne => ?_⟩
      exact (h1 2 (by unfold lab; rw [if_neg z0, if_neg z1, if_pos z2])).make BB (by decide) st g hx hdx hne
    refine iteF' (by rw [decide_eq_false_iff_not]; exact z2) ?_
    exact h2 (by unfold lab; rw [if_neg z0, if_neg z1, if_neg z2])
end
end Ov

set_option Elab.async false
set_option linter.all false
set_option maxRecDepth 100000
set_option maxHeartbeats 4000000
/-! the end of a law with the tables of defs at the top -/
namespace Ov
open PySem PySem.Spec PyProof.Rows L2 GxR
def TabsT (q : Program) (K : PySem.W.Frag) (h : Heap) : Prop := ∀ (x : Str) (c P : Addr), ((recsOf q).find? (fun e => e.name == x)).isSome = true → PySem.W.tabIn K x = some (c, P) → PySem.W.CodeHd h c P ∧ h.get? P = some { cls := .none, data := .fields #[] }
theorem walk_T {l : PySem.W.OpenLaw} {n k : Nat} {q : Program} {loose : List Str} {XP : (Str → Option Value) → Heap → Prop} {YP : World → Heap → Prop} {d : DefRec} {K : Params → PySem.W.Frag} {x : Str}
    (hn : l.most = some n) (hn2 : n ≤ sizeLine) (hdf : d.params.defaults = []) (hr : Room k callerA) (hY : ∀ (w : World) (h : Heap), YP w h → (K w.params).In h)
    (F : ∀ (w : World) (mg : Str → Option Value) (fa : Addr) (h : Heap), YP w h → (K w.params).In h → h.Ns mainGlobals mg → mg d.name = some (.ref fa) → TabsT q (K w.params) h → LamX.LawAtS l w (K w.params) CX0 k n x mg fa h) :
    PySem.W.WalkO q loose XP YP l.row.toRowW d [] (fun f vs => PySem.call f vs) := by
  refine Att.attach_callB hn hdf fun w s₀ s₁ mg mb fa o pm cd doc a vs ns G Y ho hd hcd hmg hobj hints hlen hbits hg => ?_
  have KX := hY w _ Y
  have tabs : TabsT q (K w.params) s₁.heap := fun x c P h1 h2 => by
    obtain ⟨d', hd'⟩ := Option.isSome_iff_exists.mp h1
    exact PySem.W.tab_of G.T KX hd' h2
  obtain ⟨fd, cs, sp, hT, nT, C, hb, hsp, hF⟩ := F w mg fa _ Y KX G.T.g hmg tabs
  exact LamX.law_callTs KX G.T.g G.T.b G.T.builtins G.T.nolimit hg hT nT C G.T.bmain hobj hints (Nat.le_trans hlen hn2) hr hF hb (fun H hH hS => hsp H a ns hlen hbits hH hS) fun H e s' z => z
end Ov

set_option Elab.async false
set_option linter.all false
set_option maxRecDepth 100000
set_option maxHeartbeats 4000000
/-! defs that run where no printing is under way: what repr wants to know -/
namespace Ov
open PySem PySem.Spec PyProof.Rows L2 GxR
/-- a def's promise at the places where no repr is under way -/
structure FnG (P : Program) (w : World) (K : PySem.W.Frag) (mg : Str → Option Value) (base : Heap) (CX : CXT) (k : Nat) (f : Addr) (fd : FuncData) (ps : List Str) (sp : Sp) : Prop where
  len : ∀ vs H Q E, sp vs H Q E → vs.length = ps.length
  run : ∀ (A : Around) (fr : List Env) (s : Shared) (H : Hp) (args : Args) (us : List Value) (vs : List V) (Q : VK) (E : XK), A.guards = some [] → Room k A → Env0 P w K mg base A fr s H → BindsTo s fd args (ps.zip us) → Vals vs us → sp vs H Q E →
    codeAny (model P w) A (.call (.ref f) args) (CR CX fr P w H s Q E) s
theorem FnOk.toG {P : Program} {w : World} {K : PySem.W.Frag} {mg : Str → Option Value} {base : Heap} {CX : CXT} {k : Nat} {f : Addr} {fd : FuncData} {ps : List Str} {sp : Sp} (F : FnOk P w K mg base CX k f fd ps sp) : FnG P w K mg base CX k f fd ps sp :=
  ⟨F.len, fun A fr s H args us vs Q E _ => F.run A fr s H args us vs Q E⟩
section
variable {P : Program} {w : World} {K : PySem.W.Frag} {mg : Str → Option Value} {base : Heap}
/-- as Fun.ok; the body knows the guards -/
theorem fun_okG {x qual : Str} {st : Stmt} {f : Addr} {fd : FuncData} {N ps : List Str} {k : Nat} {sp : Sp} (F : L2.Fun K x qual st f fd) (S : FnScope N ps (defScope st)) (len : ∀ vs H Q E, sp vs H Q E → vs.length = ps.length)
    (body : ∀ (cdv : Value) (A : Around) (fr : List Env) (s : Shared) (H : Hp) (vs : List V) (Q : VK) (E : XK), (A.deeper (envOfC qual (defScope st) s.heap.objs.size f cdv)).guards = some [] → Room k (A.deeper (envOfC qual (defScope st) s.heap.objs.size f cdv)) → sp vs H Q E →
      ∃ t, PSs (cxOf CX0 P w K mg base N qual (defScope st) f cdv A fr s H E).nox (defBody st) t ∧ t { nx := fun _ H' => Q .non H', rt := Q } (start N vs) H) : FnG P w K mg base CX0 (k + 1) f fd ps sp := by
  obtain ⟨oc, od, kV, doc, pm, an, cdv, ct, osl, rfl, lk, hcd⟩ := F.ex
  refine ⟨len, fun A fr s H args us vs Q E hg hr e0 hb rv hs => ?_⟩
  refine LamX.run_ofS lk hcd S hr e0 hb rv (len _ _ _ _ hs) fun hr' => ?_
  obtain ⟨t, h, q⟩ := body cdv A fr s H vs Q E (by simpa [Around.deeper] using hg) hr' hs
  exact ⟨t, h.nox, q⟩
end
section
variable {X : Cx} {CX : CXT} {k : Nat} {f : Addr} {fd : FuncData} {ps : List Str} {sp : Sp} {E : XK} {x : Str} {p pos : Pos} {e : Expr} {es : List Expr} {t : TA}
/-- f(..) where the guards are known -/
theorem pe_callG (F : FnG X.prog X.w X.K X.mg X.base CX k f fd ps sp) (hg0 : X.A.guards = some []) (hr : Room k X.A) (hg : Gl X x) (hm : X.mg x = some (.ref f)) (hk : PySem.W.keepIn X.K (.ref f) = true) (hb : Binds X.K fd ps []) (hx : Passes CX X E) (ha : PA X (e :: es) t)
    (hdb : (x == ("__debug__" : Str)) = false := by decide) (he : starEach (e :: es) X.env = (false, eval e X.env) :: starEach es X.env := by rfl) (hpl : (backTo pos (starEach es X.env)).any (·.1) = false := by rfl) :
    PE X (.Call (.Name x p) (e :: es) [] pos) (tCall sp [] E t) := by
  refine ⟨fun pins s σ H Q I h => ?_⟩
  refine wpAny_Call_Name_kw (ld_glob I hg hm ?_ hdb)
  refine PySem.W.callWith_K (h₀ := X.base) I.ok.mod.kin hk (thn (ha.run pos pins s σ H _ I h) fun us s1 ⟨vs, H1, I1, r, q⟩ => ⟨I1.kIn, ?_⟩) he hpl
  have q : sp vs H1 Q E := by
    have z : sp (vs ++ []) H1 Q E := q
    rwa [List.append_nil] at z
  have hl : us.length = ps.length := by rw [← r.length]; exact F.len _ _ _ _ q
  have b := hb s1 us I1.kIn (by rw [List.append_nil]; exact hl)
  rw [List.append_nil] at b
  refine wpAny_call (codeAny_mono (F.run X.A X.stack s1 H1 ⟨us, []⟩ us vs Q E hg0 hr I1.env0 b r q) fun rr s' hq => ?_)
  cases rr with
  | error er => exact hx pins σ H1 s1 er s' I1 hq
  | ok fl =>
    cases fl with
    | ret u => exact I1.after hq
    | next => exact False.elim hq
    | brk => exact False.elim hq
    | cont => exact False.elim hq
end
/-! ### the end -/
/-- the script at a (as o has it) and the empty tables are tracked, nothing else -/
def trackH (cs : List (Addr × Addr)) (a : Addr) (o : Option HO) : Hp := fun b => if b = a then o else if b ∈ cs.map (·.2) then some (.tbl #[]) else none
theorem law_callG {P : Program} {w : World} {K : PySem.W.Frag} {mg mb : Str → Option Value} {fa a : Addr} {cs : List (Addr × Addr)} {s₁ : Shared} {vs : List Value} {ns : List Int}
    (KX : K.In s₁.heap) (gl : s₁.heap.Ns mainGlobals mg) (bl : s₁.heap.Ns builtinsNs mb) (bb : ∀ x : Str, x ≠ "__name__" → mb x = bootBuiltins x) (lim : s₁.heap.NoLimit) (nog : s₁.gens = #[])
    (tabs : ∀ p ∈ cs, s₁.heap.get? p.2 = some { cls := .none, data := .fields #[] }) (nT : ∀ p ∈ cs, K.lookup p.2 = none) (Cd : ∀ p ∈ cs, PySem.W.CodeHd s₁.heap p.1 p.2)
    (bmod : ∃ (bm : Addr) (ob : Obj), mg "__builtins__" = some (.ref bm) ∧ bm ≠ builtinsNs ∧ s₁.heap.get? bm = some ob ∧ ob.cls = .type "module" ∧ ob.dict = some builtinsNs ∧ ob.data = .plain)
    (ha : s₁.heap.get? a = some { cls := .type "list", data := .seq vs.toArray }) (hi : IntsAre vs ns) (hl : ns.length ≤ sizeLine)
    (F : ∀ (base : Heap) (H : Hp), K.In base → base.Ns mainGlobals mg → (∀ p ∈ cs, LamX.TabB base mg p.1 p.2) → Env0 P w K mg base callerA [] s₁ H → (∀ p ∈ cs, H p.2 = some (.tbl #[])) → SqL K H a (ns.map V.int) →
      codeAny (model P w) callerA (.call (.ref fa) ⟨[.ref a], []⟩) (CR CX0 [] P w H s₁ (fun v _ => v = .bl true) fun _ _ _ => False) s₁) :
    codeAny (model P w) callerA (.call (.ref fa) ⟨[.ref a], []⟩) (fun r s' => r = .ok (.ret (.bool true)) ∧ OldK s₁.heap s'.heap ∧ s'.os = s₁.os ∧ AllBare s'.gens) s₁ := by
  have rel := vals_ints hi
  have nl : ns.length = vs.length := hi.length.symm
  have memT : ∀ p ∈ cs, p.2 ∈ cs.map (·.2) := fun p hp => List.mem_map.mpr ⟨p, hp, rfl⟩
  have tabT : ∀ b ∈ cs.map (·.2), s₁.heap.get? b = some { cls := .none, data := .fields #[] } := fun b hb => by
    obtain ⟨p, hp, rfl⟩ := List.mem_map.mp hb
    exact tabs p hp
  have aT : a ∉ cs.map (·.2) := fun z => by
    have q := (tabT a z).symm.trans ha
    cases q
  -- the way, once the script's place is chosen
  have go : ∀ o : Option HO, SqL K (trackH cs a o) a (ns.map V.int) → (∀ u, o = some u → ObjOk P w (trackH cs a o) s₁.heap a u ∧ K.lookup a = none ∧ ∃ ob xs, u = .frz ob (.lst xs)) →
      codeAny (model P w) callerA (.call (.ref fa) ⟨[.ref a], []⟩) (fun r s' => r = .ok (.ret (.bool true)) ∧ OldK s₁.heap s'.heap ∧ s'.os = s₁.os ∧ AllBare s'.gens) s₁ := by
    intro o seq hob
    generalize hH : trackH cs a o = H at seq hob
    have Ha : H a = o := by rw [← hH]; exact if_pos rfl
    have HT : ∀ b ∈ cs.map (·.2), H b = some (.tbl #[]) := fun b hb => by
      have ne : b ≠ a := fun z => aT (z ▸ hb)
      rw [← hH]
      exact (if_neg ne).trans (if_pos hb)
    have HN : ∀ b, b ≠ a → b ∉ cs.map (·.2) → H b = none := fun b h1 h2 => by
      rw [← hH]
      exact (if_neg h1).trans (if_neg h2)
    -- what is neither the script nor a table is not tracked
    have un1 : ∀ {b : Addr} {u : Obj}, s₁.heap.get? b = some u → (∀ k n, u.data ≠ .seq k n) → u.data ≠ .fields #[] → H b = none := fun {b u} e n1 n2 => by
      refine HN b (fun z => ?_) fun z => ?_
      · subst z
        rw [ha] at e
        exact n1 _ _ (by rw [← Option.some.inj e])
      · rw [tabT b z] at e
        exact n2 (by rw [← Option.some.inj e])
    have hok : HOk P w H s₁.heap := fun b u e => by
      by_cases h1 : b = a
      · subst h1
        rw [Ha] at e
        exact (hob u e).1
      · by_cases h2 : b ∈ cs.map (·.2)
        · rw [HT b h2] at e
          cases e
          exact tabT b h2
        · rw [HN b h1 h2] at e
          cases e
    have ns1 : ∀ {b : Addr} {m : Str → Option Value}, s₁.heap.Ns b m → (hidT s₁.heap H).Ns b m := fun {b m} ⟨u, es, ep, e, d, r⟩ =>
      ⟨u, es, ep, hidT_get e (un1 e (fun k n z => by rw [d] at z; cases z) fun z => by rw [d] at z; cases z), d, r⟩
    have kb : K.In (hidT s₁.heap H) := fun b u e => by
      refine hidT_get (KX b u e) ?_
      by_cases h1 : b = a
      · subst h1
        rw [Ha]
        cases ho : o with
        | none => rfl
        | some u' =>
          have z := (hob u' ho).2.1
          rw [e] at z
          cases z
      · refine HN b h1 fun z => ?_
        obtain ⟨p, hp, rfl⟩ := List.mem_map.mp z
        rw [nT p hp] at e
        cases e
    have md : L2.Mod K mg (hidT s₁.heap H) := ⟨kb, ns1 gl, ⟨mb, ns1 bl, bb⟩, by
      obtain ⟨mc, q1, q2⟩ := lim
      exact ⟨mc, ns1 q1, q2⟩⟩
    have TB : ∀ p ∈ cs, LamX.TabB (hidT s₁.heap H) mg p.1 p.2 := fun p hp => by
      have tp := tabs p hp
      refine ⟨?_, ?_, fun z => ?_⟩
      · obtain ⟨u, us, fl, tf, fg, tg, inF, tx, tt, c1, c2, c3, c4, c5, c6, c7, c8, c9, cne⟩ := Cd p hp
        exact ⟨u, us, fl, tf, fg, tg, inF, tx, tt, hidT_get c1 (un1 c1 (fun k n z => by rw [c3] at z; cases z) fun z => by rw [c3] at z; cases z; simp at c4), c2, c3, c4, c5, c6, c7, c8, c9, cne⟩
      · obtain ⟨bm, ob, m1, m2, m3, m4, m5, m6⟩ := bmod
        refine ⟨bm, ob, m1, m2, fun q => ?_, fun q => ?_, hidT_get m3 (un1 m3 (fun k n z => by rw [m6] at z; cases z) fun z => by rw [m6] at z; cases z), m4, m5, m6⟩
        · obtain ⟨u, es, ep, e, hd, _⟩ := gl
          rw [q, e] at m3
          cases m3
          rw [hd] at m6
          cases m6
        · rw [q, tp] at m3
          cases m3
          cases m6
      · obtain ⟨u, es, ep, e, hd, _⟩ := gl
        rw [z, tp] at e
        cases e
        cases hd
    have env : Env0 P w K mg (hidT s₁.heap H) callerA [] s₁ H := ⟨rfl, md, fun b u e => of_hidT e, Nat.le_of_eq (hidT_size _ _), trivial, fun b hb => (by cases hb), hok, .of_eq nog⟩
    refine codeAny_mono (F _ H kb (ns1 gl) TB env (fun p hp => HT _ (memT p hp)) seq) fun r s' h => ?_
    cases r with
    | error e => exact False.elim h
    | ok f =>
      cases f with
      | next => exact False.elim h
      | brk => exact False.elim h
      | cont => exact False.elim h
      | ret u =>
        obtain ⟨v, H', os, bare, un, hok', rv, q⟩ := h
        have qv : v = .bl true := q
        subst qv
        obtain rfl : u = Value.bool true := rv
        have stays : ∀ b u, b ∉ cs.map (·.2) → s₁.heap.get? b = some u → s'.heap.get? b = some u := fun b u nb e => by
          by_cases h1 : b = a
          · subst h1
            cases ho : o with
            | none =>
              have hn : H b = none := Ha.trans ho
              exact un.keep b u e hn (by intro z; cases z) (by simp)
            | some u' =>
              obtain ⟨ok1, _, ob, xs, rfl⟩ := hob u' ho
              have z1 : H b = some (.frz ob (.lst xs)) := Ha.trans ho
              have z2 := un.frzs b ob _ z1
              have e1 := (hok b _ z1).1
              have e2 := (hok' b _ z2).1
              rw [e] at e1
              cases e1
              exact e2
          · exact un.keep b u e (HN b h1 nb) (by intro z; cases z) (by simp)
        have grow : ∀ p ∈ cs, ∃ more : Array Value, s'.heap.get? p.2 = some { cls := .none, data := .fields more } := fun p hp => by
          obtain ⟨more, z⟩ := un.tbls p.2 #[] (HT _ (memT p hp))
          exact ⟨_, hok' p.2 _ z⟩
        refine ⟨rfl, ⟨fun b u e => ?_, fun b u e => ?_⟩, os, bare⟩
        · by_cases hb : b ∈ cs.map (·.2)
          · obtain ⟨p, hp, rfl⟩ := List.mem_map.mp hb
            obtain ⟨more, hm⟩ := grow p hp
            have eu := (tabs p hp).symm.trans e
            cases eu
            exact .inr (.inl ⟨((Cd p hp).tab (tabs p hp)).isCodeTable, rfl, #[], more, rfl, by rw [Array.empty_append]; exact hm⟩)
          · exact .inl (stays b u hb e)
        · by_cases hb : b ∈ cs.map (·.2)
          · obtain ⟨p, hp, rfl⟩ := List.mem_map.mp hb
            obtain ⟨more, hm⟩ := grow p hp
            exact ⟨_, hm⟩
          · exact ⟨u, stays b u hb e⟩
  cases hk : K.lookup a with
  | some u =>
    have e := (KX a u hk).symm.trans ha
    cases e
    exact go none (.inr ⟨_, vs.toArray, _, hk, rfl, rfl, rfl, by rw [List.size_toArray, ← nl]; exact hl, by simpa using rel⟩) fun u z => by cases z
  | none =>
    refine go (some (.frz { cls := .type "list", data := .seq vs.toArray } (.lst (ns.map V.int)))) (.inl (.inr ⟨_, if_pos rfl⟩)) fun u z => ?_
    cases z
    exact ⟨⟨ha, by rw [List.length_map]; exact hl, vs, _, rel, ha⟩, hk, _, _, rfl⟩
end Ov

set_option Elab.async false
set_option linter.all false
set_option maxRecDepth 100000
set_option maxHeartbeats 4000000
namespace Ov
open PySem PySem.Spec PyProof.Rows L2 GxR
/-- repr of a list of data -/
def rReprL (K : PySem.W.Frag) : List V → Hp → VK → Prop := fun xs H Q => ∃ (a : Addr) (d : PyData), xs = [V.ref a] ∧ Dp K H (.ref a) d ∧ d.showable = true ∧ d.hasDict = false ∧ d.depth ≤ 60 ∧ d.shown.length ≤ sizeLine ∧ Q (.str d.shown) H
theorem call_reprL {X : Cx} (hg : X.A.guards = some []) (hu : X.A.units + 64 < cLine) : CallR X (.builtin "repr") (rReprL X.K) := by
  intro pins s σ H xs us Q I r h
  obtain ⟨a, d, rfl, hd, hs, hdict, dep, hsz, q⟩ := h
  obtain ⟨u, rfl, ru⟩ := vals1 r
  obtain rfl : u = Value.ref a := ru
  obtain ⟨as, rd⟩ := Dp.reads I d _ _ hd rfl
  refine repr_of_reads' rd hs (fun z => by rw [hdict] at z; cases z) hg (by omega) (fun b o e => e) (fun h' u tk hk => ?_) hsz
  exact ⟨.str d.shown, H, I.kept (t' := tk) hk, ⟨u, rfl⟩, q⟩
end Ov

set_option Elab.async false
set_option linter.all false
set_option maxRecDepth 100000
set_option maxHeartbeats 4000000
/-! own __len__ and __add__ of instances -/
namespace Ov
open PySem PySem.Spec PyProof.Rows L2 GxR
theorem insAt {X : Cx} {pins : List (Addr × Obj)} {σ : L2.St} {H : Hp} {s : Shared} {a C dx : Addr} {fs : List (Str × V)} (I : Inv X pins σ H s) (h : H a = some (.ins C dx fs)) : ∃ o od, PySem.W.InstAt s.heap a o C od ∧ o.data = .plain := by
  obtain ⟨m, O, _⟩ := ins_get I.hok h
  obtain ⟨od, J, _⟩ := O.look
  exact ⟨_, _, J, rfl⟩
theorem frOf {X : Cx} {pins : List (Addr × Obj)} {σ : L2.St} {H : Hp} {s : Shared} (I : Inv X pins σ H s) : ∃ m, Fr X.base X.env.locals s.heap m := by
  obtain ⟨m, hm, _⟩ := I.loc
  exact ⟨m, hm, fun b o e => (I.bs b o e).1, Nat.le_trans I.ok.bsz I.ok.above⟩
/-- len of an instance of C -/
def rLenI (C : Addr) (sp : Sp) : List V → Hp → VK → Prop := fun xs H Q => ∃ a dx fs, xs = [V.ref a] ∧ H a = some (.ins C dx fs) ∧ sp [.ref a] H (fun v H2 => ∃ n : Nat, v = .int (n : Nat) ∧ n < 2 ^ 62 ∧ Q (.int (n : Nat)) H2) E0
theorem call_lenI {X : Cx} {k : Nat} {C f : Addr} {sp : Sp} (hs : PySem.W.findIn X.K (.ref C) "__len__" = some (some (.ref f))) (hf : PySem.W.isFn X.K (.ref f) = true) (F : FnR X.prog X.w X.K X.mg X.base CX0 k f sp) (hr : Room (k + 1) X.A) : CallR X (.builtin "len") (rLenI C sp) := by
  intro pins s σ H xs us Q I r h
  obtain ⟨a, dx, fs, rfl, ha, q⟩ := h
  obtain ⟨u, rfl, ru⟩ := vals1 r
  obtain rfl : u = Value.ref a := ru
  obtain ⟨o, od, J, _⟩ := insAt I ha
  obtain ⟨m, Fm⟩ := frOf I
  refine PySem.W.len_K Fm I.ok.mod.kin J hs hf ?_
  refine wpAny_call (codeAny_mono (F X.A.in1 X.stack s H [.ref a] [V.ref a] _ E0 hr.in1 I.env0.in1 (.cons rfl .nil) q) fun rr s' hq => ?_)
  cases rr with
  | error e => exact False.elim hq
  | ok fl =>
    cases fl with
    | ret u =>
      obtain ⟨v, H2, I2, rv, n, rfl, hn, q2⟩ := I.after hq
      obtain ⟨t, rfl⟩ := rv
      exact ⟨⟨by omega, by omega⟩, .int (n : Nat), H2, I2.tok _, ⟨_, rfl⟩, q2⟩
    | next => exact False.elim hq
    | brk => exact False.elim hq
    | cont => exact False.elim hq
/-- x + y, instances of C with __add__; in a try's body too -/
def tAddI (C : Addr) (sp : Sp) (E : L2.St → XK) (ta tb : TE) : TE := fun σ H Q => ta σ H fun x H1 => tb σ H1 fun y H2 => ∃ a b dx fs dy gs, x = V.ref a ∧ y = V.ref b ∧ H2 a = some (.ins C dx fs) ∧ H2 b = some (.ins C dy gs) ∧ sp [.ref a, .ref b] H2 (fun v H3 => (∃ p, v = .ref p) ∧ Q v H3) (E σ)
theorem pe_addI {X : Cx} {CX : CXT} {k : Nat} {C f : Addr} {sp : Sp} {E : L2.St → XK} {e1 e2 : Expr} {ta tb : TE} {pos : Pos} (hs : PySem.W.findIn X.K (.ref C) "__add__" = some (some (.ref f))) (hf : PySem.W.isFn X.K (.ref f) = true) (hc : PySem.W.selfFirst X.K C = true)
    (F : FnR X.prog X.w X.K X.mg X.base CX k f sp) (hr : Room k X.A) (hx : ∀ σ, PassesAt CX X σ (E σ)) (h1 : PE X e1 ta) (h2 : PE X e2 tb) : PE X (.BinOp e1 .Add e2 pos) (tAddI C sp E ta tb) := by
  refine ⟨fun pins s σ H Q I h => ?_⟩
  refine wpAny_BinOp (thn (h1.run pins s σ H _ I h) fun v s1 ⟨x, H1, I1, r1, q1⟩ => thn (h2.run pins s1 σ H1 _ I1 q1) fun u s2 ⟨y, H2, I2, r2, q2⟩ => ?_)
  obtain ⟨a, b, dx, fs, dy, gs, rfl, rfl, ha, hb, q⟩ := q2
  obtain rfl : v = Value.ref a := r1
  obtain rfl : u = Value.ref b := r2
  obtain ⟨o, od, J, _⟩ := insAt I2 ha
  obtain ⟨o', od', J', _⟩ := insAt I2 hb
  obtain ⟨m, Fm⟩ := frOf I2
  refine PySem.W.binop_K (op := .Add) Fm I2.ok.mod.kin J J'.type hc hs hf ?_
  refine wpAny_call (codeAny_mono (F X.A X.stack s2 H2 [.ref a, .ref b] [V.ref a, V.ref b] _ (E σ) hr I2.env0 (.cons rfl (.cons rfl .nil)) q) fun rr s' hq => ?_)
  cases rr with
  | error e => exact hx σ _ H2 s2 e s' I2 hq
  | ok fl =>
    cases fl with
    | ret u =>
      obtain ⟨v, H3, I3, rv, ⟨p, rfl⟩, q3⟩ := I2.after hq
      obtain rfl : u = Value.ref p := rv
      exact ⟨.ref p, H3, I3, rfl, q3⟩
    | next => exact False.elim hq
    | brk => exact False.elim hq
    | cont => exact False.elim hq
end Ov

set_option Elab.async false
set_option linter.all false
set_option maxRecDepth 100000
set_option maxHeartbeats 4000000
namespace Ov
open PySem PySem.Spec PyProof.Rows L2 GxR
abbrev sLenI : Stmt := inClass (top 49) 5
abbrev sAdd : Stmt := inClass (top 49) 6
theorem pe_fldK {X : Cx} {K : PySem.W.Frag} (hK : X.K = K) {e : Expr} {f : Str} {ta : TE} {pos : Pos} (he : PE X e ta) (hb : attributeBase e f X.env (eval e X.env) = eval e X.env) : PE X (.Attribute e f pos) (tFld K ta f) := by subst hK; exact pe_fld he hb
structure InsU (K : PySem.W.Frag) (C : Addr) : Prop where
  ha : PySem.W.findIn K (.ref C) "__class__" = some (some (.builtin "object.__class__"))
  hn : PySem.W.specialIn K (.builtin "object.__class__") "__get__" = some (some (.builtin "getset_descriptor.__get__"))
  htk : PySem.W.takesIn K (.builtin "object.__class__") = some true
  hm : PySem.W.mroIn K C (.type "object") = some true
  kit : PySem.W.kitOne K (.ref C) (.ref C) = some true
def fresh (ws us : List Str) : List Str := us.filter fun z => !inV (.str z) (ws.map V.str)
def sumW (ws us : List Str) : List Str := ws ++ fresh ws us
section
variable {P : Program} {w : World} {K : PySem.W.Frag} {mg : Str → Option Value} {base : Heap} {T : List Addr} {C D fLow fText fAre fTape fNext fInks fInit cLow PLow cAre PAre fStrip fOver pWi fWi pWo fWo fCl DSp DSg : Addr}
def spLenI (C : Addr) : Sp := fun vs H Q _ => ∃ (a l dx : Addr) (xs : List V), vs = [.ref a] ∧ Stp H C a l dx xs ∧ Q (.int (xs.length : Nat)) H
theorem scSelf3 : FnScope ["self"] ["self"] (defScope sLenI) := ⟨rfl, rfl, rfl, by decide +kernel, rfl, by decide +kernel, by decide +kernel⟩
theorem ok_lenI {f : Addr} {fd : FuncData} (F : L2.Fun K "__len__" "Stamps.__len__" sLenI f fd) (X : Txt K mg C fLow fText fAre fTape fNext fInks) (O : Own K C) : FnOk P w K mg base CX0 1 f fd ["self"] (spLenI C) := by
  refine F.ok scSelf3 (fun vs H Q E h => ?_) (fun cdv A outer s H vs Q E hr h => ?_)
  · obtain ⟨a, l, dx, xs, rfl, _⟩ := h
    rfl
  · obtain ⟨a, l, dx, xs, rfl, st, q⟩ := h
    refine ⟨_, pss_one (ps_ret (pe_callB call_len_seq (by rfl) X.len boot_len (pa_cons (pe_fld (pv 0) (by rfl)) pa_nil))), ?_⟩
    exact ⟨_, rfl, a, C, dx, _, _, rfl, st.1, O.cls, O.noW, rfl, l, xs, rfl, .inl (.inl (.inl st.2)), q⟩
/-- one + other of stamps -/
def spAdd (K : PySem.W.Frag) (T : List Addr) (C D : Addr) : Sp := fun vs H Q E => ∃ (a l dx : Addr) (ws : List Str) (b m dy : Addr) (us : List Str), vs = [.ref a, .ref b] ∧ Stp H C a l dx (ws.map V.str) ∧ Stp H C b m dy (us.map V.str) ∧ (∀ p ∈ T, TabG H p) ∧
  ws.length ≤ 36 ∧ us.length ≤ 36 ∧ (∀ z ∈ sumW ws us, z.length ≤ 100) ∧
  (stampsV ((sumW ws us).map V.str) = true → ∀ H3 x k dz, H x = none → H k = none → x ∉ T → k ∉ T → Stp H3 C x k dz ((sumW ws us).map V.str) → Kep T H H3 → Q (.ref x) H3) ∧ (stampsV ((sumW ws us).map V.str) = false → ∀ H3, Kep T H H3 → E (.ref D) none H3)
abbrev NAdd : List Str := ["self", "other", "added", "words", "word"]
theorem scAdd : FnScope NAdd ["self", "other"] (defScope sAdd) := ⟨rfl, rfl, rfl, by decide +kernel, rfl, by decide +kernel, by decide +kernel⟩
theorem fresh_take {ws us : List Str} {j : Nat} {z : Str} (h : us[j]? = some z) : fresh ws (us.take (j + 1)) = if (!inV (.str z) (ws.map V.str)) = true then fresh ws (us.take j) ++ [z] else fresh ws (us.take j) := by
  unfold fresh
  rw [List.take_add_one, h, List.filter_append]
  by_cases c : (!inV (.str z) (ws.map V.str)) = true
  · rw [if_pos c]; simp at c; simp [c]
  · rw [if_neg c]; simp at c; simp [c]
theorem fresh_len (ws us : List Str) : (fresh ws us).length ≤ us.length := List.length_filter_le _ _
theorem flat_strs (ws : List Str) : (ws.map V.str).all flatV = true := by
  rw [List.all_map]; exact List.all_eq_true.mpr fun _ _ => rfl
theorem ok_add {f : Addr} {fd fdW : FuncData} (F : L2.Fun K "__add__" "Stamps.__add__" sAdd f fd) (FI : FnR P w K mg base (L2.CX P w) 6 fInit (spInit K T C D)) (FW : L2.Fun K "words" "Stamps.words" sWords fWo fdW) (M : Mk K C fInit)
    (X : Txt K mg C fLow fText fAre fTape fNext fInks) (O : Own K C) (hp : PropOf K C "words" pWo fWo) (IU : InsU K C) :
    FnOk P w K mg base (L2.CX P w) 8 f fd ["self", "other"] (spAdd K T C D) := by
  have WW : FnOk P w K mg base CX0 1 fWo fdW ["self"] (spWords C) := ok_words FW X O
  have bW : Binds K fdW ["self"] [] := FW.binds fun _ _ _ _ _ _ us hl => match us, hl with | [_], _ => rfl
  refine F.okX scAdd (fun vs H Q E h => ?_) (fun cdv A outer s H vs Q E hr h => ?_)
  · obtain ⟨a, l, dx, ws, b, m, dy, us, rfl, _⟩ := h
    rfl
  · obtain ⟨a, l, dx, ws, b, m, dy, us, rfl, sa, sb, hT, nw, nu, hz, k1, k2⟩ := h
    refine ⟨_, pss_cons (ps_if (pt_not (pt_val (pe_callB call_isi (by rfl) X.isi boot_isinstance (pa_cons (pv 1) (pa_cons (pe_glob (v := .ref C) (by rfl) X.gC rfl) pa_nil))))) pss_never pss_nil)
      (pss_cons (ps_setLc (i := 2) (own := [("word", 4)]) (g := gName 4) rfl scAdd.nd rfl rfl (sw_true rfl rfl rfl (by decide +kernel)) (pi_list (pe_propX (p := pWo) (pv 1) WW (hr.mono (by decide)) bW .nil L2.pass0)) (blkOk_by (own := [("word", 4)]) (N := NAdd) (sc := defScope sAdd) (by decide +kernel))
          (fun _ _ _ _ _ => pg_name (i := 4) scAdd.nd rfl (Or.inl rfl)) (fun _ _ _ _ _ => pts_one (pt_cmpR (show OpR _ _ (rIn K true) from op_notIn_seq) (pv 4) (pe_fldK (K := K) (by rfl) (pv 0) (by rfl)) (by rfl)))
          (fun _ _ _ _ _ => pv 4))
      (pss_cons (ps_set (i := 3) scAdd.nd rfl (.inl rfl) (pe_op op_cat (pe_propX (p := pWo) (pv 0) WW (hr.mono (by decide)) bW .nil L2.pass0) (pv 2)))
      (pss_one (ps_ret (pe_makeS M FI hr (passes_call (E := E) (takes_of rfl rfl rfl rfl) (fun _ _ _ _ h => h)) (pe_glob (v := .ref C) (by rfl) X.gC rfl) (pv 3)))))), ?_⟩
    have lT : l ∉ T := not_tab hT sa.2 fun _ z => by cases z
    have aT : a ∉ T := not_tab hT sa.1 fun _ z => by cases z
    refine ⟨_, rfl, _, _, _, _, _, rfl, .own _, .base (.ins sb.1 O.cls IU.ha IU.hn IU.htk IU.hm), IU.kit, true, rfl, iteF ?_⟩
    refine ⟨_, rfl, b, C, dy, _, rfl, O.cls, hp, sb.1, b, m, dy, us.map V.str, rfl, sb, fun q hq => ?_⟩
    have kq : Kep T H (upd H q (.lst (us.map V.str))) := Kep.new hT hq
    generalize hG : upd H q (.lst (us.map V.str)) = G at kq
    have Gq : G q = some (.lst (us.map V.str)) := by rw [← hG]; exact upd_same
    have qT : q ∉ T := free_tab hT hq
    refine ⟨q, rfl, ⟨_, .inl (.inl Gq)⟩, fun R hR => ?_⟩
    have RT : R ∉ T := free_tab kq.1 hR
    have RH : H R = none := kq.free hT hR
    refine lc_list (xs := us.map V.str) (fun j H5 => H5 R = some (.lst ((fresh ws (us.take j)).map V.str)) ∧ Kep T H H5 ∧ H5 q = some (.lst (us.map V.str))) ⟨upd_same, kq.trans (Kep.new kq.1 hR), (upd_ne (ne_of_none Gq hR)).trans Gq⟩ (fun j H5 _ p => .inl (.inl p.2.2)) (fun j x H5 hj p => ?_) (fun H5 p => ?_)
    · obtain ⟨hR5, k5, hq5⟩ := p
      rw [List.getElem?_map] at hj
      obtain ⟨z, hz5, rfl⟩ := Option.map_eq_some_iff.mp hj
      have ju : j < us.length := (List.getElem?_eq_some_iff.mp hz5).1
      refine ⟨rfl, ?_⟩
      refine ⟨_, rfl, ?_⟩
      refine ⟨_, rfl, a, C, dx, _, _, rfl, k5.at hT sa.1 (fun _ z => by cases z), O.cls, O.noW, rfl, l, _, rfl, .inl (.inl (.inl (k5.at hT sa.2 fun _ z => by cases z))), rfl, flat_strs ws, _, rfl, ?_⟩
      have ft := fresh_take (ws := ws) hz5
      show if (!inV (.str z) (ws.map V.str)) = true then _ else _
      by_cases c : (!inV (.str z) (ws.map V.str)) = true
      · rw [if_pos c] at ft ⊢
        refine ⟨_, rfl, _, hR5, ?_, ?_, Kep.put k5 RH RT, (upd_ne (ne_of_none Gq hR)).trans hq5⟩
        · rw [List.length_map]
          have := fresh_len ws (us.take j)
          rw [List.length_take] at this
          exact Nat.lt_of_lt_of_le (by omega : _ < 37) (by decide)
        · rw [ft, List.map_append]; exact upd_same
      · rw [if_neg c] at ft ⊢
        exact ⟨by rw [ft]; exact hR5, k5, hq5⟩
    · obtain ⟨hR5, k5, _⟩ := p
      rw [List.length_map, List.take_length] at hR5
      have sa5 : Stp H5 C a l dx (ws.map V.str) := ⟨k5.at hT sa.1 fun _ z => (by cases z), k5.at hT sa.2 fun _ z => (by cases z)⟩
      refine ⟨_, rfl, a, C, dx, _, rfl, O.cls, hp, sa5.1, a, l, dx, ws.map V.str, rfl, sa5, fun q2 hq2 => ?_⟩
      have q2R : R ≠ q2 := ne_of_none hR5 hq2
      have k6 : Kep T H (upd H5 q2 (.lst (ws.map V.str))) := k5.trans (Kep.new k5.1 hq2)
      have hR6 : upd H5 q2 (.lst (ws.map V.str)) R = some (.lst ((fresh ws us).map V.str)) := (upd_ne q2R).trans hR5
      have hq6 : upd H5 q2 (.lst (ws.map V.str)) q2 = some (.lst (ws.map V.str)) := upd_same
      generalize upd H5 q2 (.lst (ws.map V.str)) = H6 at k6 hR6 hq6
      have fl := fresh_len ws us
      refine ⟨_, rfl, q2, R, ws.map V.str, (fresh ws us).map V.str, rfl, rfl, hq6, hR6, ?_, fun q3 hq3 => ?_⟩
      · rw [List.length_map, List.length_map]
        exact Nat.le_trans (by omega : _ ≤ 72) (by decide)
      have k7 : Kep T H (upd H6 q3 (.lst (ws.map V.str ++ (fresh ws us).map V.str))) := k6.trans (Kep.new k6.1 hq3)
      have e7 : ws.map V.str ++ (fresh ws us).map V.str = (sumW ws us).map V.str := (List.map_append ..).symm
      rw [e7] at k7 ⊢
      have hq7 : upd H6 q3 (.lst ((sumW ws us).map V.str)) q3 = some (.lst ((sumW ws us).map V.str)) := upd_same
      generalize upd H6 q3 (.lst ((sumW ws us).map V.str)) = H7 at k7 hq7 ⊢
      have mk : Makes K T C D H7 ((sumW ws us).map V.str) Q E := by
        refine ⟨k7.1, ?_, fun x hx => ?_, fun hv H8 x k dz hx hk _ xT kT st k8 => k1 hv H8 x k dz (k7.free hT hx) (k7.free hT hk) xT kT st (k7.trans k8), fun hv H8 k8 => k2 hv H8 (k7.trans k8)⟩
        · rw [List.length_map]
          show (ws ++ fresh ws us).length ≤ 4000
          rw [List.length_append]; omega
        · obtain ⟨z, hz1, rfl⟩ := List.mem_map.mp hx
          exact .inl ⟨z, rfl, Nat.le_trans (hz z hz1) (by decide)⟩
      exact ⟨rfl, _, rfl, q3, _, rfl, .inr (.inl (.inl hq7)), fun x dx hx hdx hne => mk.init hx hdx hne⟩
end
end Ov

set_option Elab.async false
set_option linter.all false
set_option maxRecDepth 100000
set_option maxHeartbeats 4000000
namespace Ov
open PySem PySem.Spec PyProof.Rows L2 GxR
abbrev sKnows : Stmt := inClass (top 51) 17
abbrev sLFits : Stmt := inClass (top 52) 1
abbrev sWFits : Stmt := inClass (top 53) 1
abbrev sRFits : Stmt := inClass (top 54) 2
def knowsB (i n : Nat) (size word : Int) : Bool := decide (1 ≤ size) && (decide (size ≤ (cellsN i : Nat)) && (decide (0 ≤ word) && decide (word < (n : Nat))))
def spotB (i W : Nat) (size place : Int) : Bool := match i with
  | 0 => decide (0 ≤ place) && decide (place ≤ size - (W : Nat))
  | 1 => decide (-((W : Nat) : Int) < place) && decide (place < size)
  | _ => decide (((W : Nat) : Int) ≤ size) && (decide (0 ≤ place) && decide (place < size))
/-- whether there is such a stamping -/
def fitsB (i n W : Nat) (size word place : Int) : Bool := knowsB i n size word && spotB i W size place
structure LenO (K : PySem.W.Frag) (C fLen : Addr) : Prop where
  ls : PySem.W.findIn K (.ref C) "__len__" = some (some (.ref fLen))
  lf : PySem.W.isFn K (.ref fLen) = true
theorem and_T {a b : Bool} {R : Bool → Prop} (h : R (a && b)) (ha : a = true) : R b := by rw [ha, Bool.true_and] at h; exact h
theorem and_F {a b : Bool} {R : Bool → Prop} (h : R (a && b)) (ha : a = false) : R false := by rw [ha, Bool.false_and] at h; exact h
section
variable {P : Program} {w : World} {K : PySem.W.Frag} {mg : Str → Option Value} {base : Heap} {T : List Addr} {C D fLow fText fAre fTape fNext fInks fInit cLow PLow cAre PAre pWo fWo pWi fWi fLen : Addr} {B : BA}
def spKnows (C : Addr) (B : BA) (i : Nat) : Sp := fun vs H Q _ => ∃ (a m l dm : Addr) (H0 : Hp) (ws : List Str) (W : Nat) (size word : Int), vs = [.ref a, .int size, .int word] ∧ BdAt B H0 H a i m ws W ∧ Stp H C m l dm (ws.map V.str) ∧ ws.length ≤ 6 ∧ Q (.bl (knowsB i ws.length size word)) H
theorem scKnows : FnScope ["self", "size", "word"] ["self", "size", "word"] (defScope sKnows) := ⟨rfl, rfl, rfl, by decide +kernel, rfl, by decide +kernel, by decide +kernel⟩
theorem ok_knows {f : Addr} {fd fdLe : FuncData} {i : Nat} (hi : i < 4) (F : L2.Fun K "_knows" "Band._knows" sKnows f fd) (FLe : L2.Fun K "__len__" "Stamps.__len__" sLenI fLen fdLe) (X : Txt K mg C fLow fText fAre fTape fNext fInks) (O : Own K C) (BB : Bds K mg B) (A : LenO K C fLen) :
    FnOk P w K mg base CX0 3 f fd ["self", "size", "word"] (spKnows C B i) := by
  have L1 : FnOk P w K mg base CX0 1 fLen fdLe ["self"] (spLenI C) := ok_lenI FLe X O
  have LR : FnR P w K mg base CX0 1 fLen (spLenI C) := (L1.raw (FLe.binds fun _ _ _ _ _ _ us hl => match us, hl with | [_], _ => rfl) .nil).imp fun vs H Q E h => by rw [List.append_nil]; exact h
  have k := BB.k i hi
  obtain ⟨tc, hc⟩ := k.cells
  refine F.ok scKnows (fun vs H Q E h => ?_) (fun cdv A' outer s H vs Q E hr h => ?_)
  · obtain ⟨a, m, l, dm, H0, ws, W, size, word, rfl, _⟩ := h
    rfl
  · obtain ⟨a, m, l, dm, H0, ws, W, size, word, rfl, bd, st, n6, q⟩ := h
    obtain ⟨dx, pc, ha, _⟩ := bd
    refine ⟨_, (pss_one (ps_ret (pe_and (pe_chain op_le op_le pe_int (pv 1) (pe_con (pv 0) (by rfl))) (pe_one (pe_chain op_le op_lt pe_int (pv 2) (pe_callB (call_lenI A.ls A.lf LR (hr.mono (by decide))) (by rfl) X.len boot_len (pa_cons (pe_fld (pv 0) (by rfl)) pa_nil))))))), ?_⟩
    unfold knowsB at q
    refine ⟨_, rfl, _, _, rfl, rfl, _, rfl, ?_⟩
    by_cases c1 : 1 ≤ size
    case neg => exact iteF' (decide_eq_false c1) ⟨_, rfl, iteF (and_F (R := fun b => Q (.bl b) H) q (decide_eq_false c1))⟩
    have q := and_T (R := fun b => Q (.bl b) H) q (decide_eq_true c1)
    refine iteT' (decide_eq_true c1) ⟨_, rfl, a, _, dx, _, _, _, rfl, ha, k.cls, hc, rfl, _, _, rfl, rfl, _, rfl, ?_⟩
    by_cases c2 : size ≤ (cellsN i : Nat)
    case neg => exact iteF' (decide_eq_false c2) (and_F (R := fun b => Q (.bl b) H) q (decide_eq_false c2))
    have q := and_T (R := fun b => Q (.bl b) H) q (decide_eq_true c2)
    refine iteT' (decide_eq_true c2) ⟨_, rfl, _, _, rfl, rfl, _, rfl, ?_⟩
    by_cases c3 : 0 ≤ word
    case neg => exact iteF' (decide_eq_false c3) (and_F (R := fun b => Q (.bl b) H) q (decide_eq_false c3))
    have q := and_T (R := fun b => Q (.bl b) H) q (decide_eq_true c3)
    refine iteT' (decide_eq_true c3) ⟨_, rfl, a, _, dx, _, _, rfl, ha, k.cls, k.noS, rfl, m, dm, _, rfl, st.1, m, l, dm, _, rfl, st, ws.length, by rw [List.length_map], by omega, _, _, rfl, rfl, ?_⟩
    exact q
/-- fits of the i-th class -/
def spFits (C : Addr) (B : BA) (i : Nat) : Sp := fun vs H Q _ => ∃ (a m l dm : Addr) (H0 : Hp) (ws : List Str) (W : Nat) (size word place : Int), vs = [.ref a, .int size, .int word, .int place] ∧ BdAt B H0 H a i m ws W ∧ Stp H C m l dm (ws.map V.str) ∧ Good ws W ∧ Q (.bl (fitsB i ws.length W size word place)) H
theorem scLFits : FnScope ["self", "size", "word", "place"] ["self", "size", "word", "place"] (defScope sLFits) := ⟨rfl, rfl, rfl, by decide +kernel, rfl, by decide +kernel, by decide +kernel⟩
theorem scWFits : FnScope ["self", "size", "word", "place"] ["self", "size", "word", "place"] (defScope sWFits) := ⟨rfl, rfl, rfl, by decide +kernel, rfl, by decide +kernel, by decide +kernel⟩
theorem scRFits : FnScope ["self", "size", "word", "place"] ["self", "size", "word", "place"] (defScope sRFits) := ⟨rfl, rfl, rfl, by decide +kernel, rfl, by decide +kernel, by decide +kernel⟩
theorem ok_lfits {f : Addr} {fd fdK fdLe fdWi : FuncData} (F : L2.Fun K "fits" "Line.fits" sLFits f fd) (FK : L2.Fun K "_knows" "Band._knows" sKnows B.fKn fdK) (FLe : L2.Fun K "__len__" "Stamps.__len__" sLenI fLen fdLe) (FWi : L2.Fun K "width" "Stamps.width" sWidth fWi fdWi) (X : Txt K mg C fLow fText fAre fTape fNext fInks) (O : Own K C) (hpi : PropOf K C "width" pWi fWi) (BB : Bds K mg B) (A : LenO K C fLen) :
    FnOk P w K mg base CX0 4 f fd ["self", "size", "word", "place"] (spFits C B 0) := by
  have KN : FnOk P w K mg base CX0 3 B.fKn fdK ["self", "size", "word"] (spKnows C B 0) := ok_knows (by decide) FK FLe X O BB A
  have bK : Binds K fdK ["self", "size", "word"] [] := FK.binds fun _ _ _ _ _ _ us hl => match us, hl with | [_, _, _], _ => rfl
  have WI : FnOk P w K mg base CX0 1 fWi fdWi ["self"] (spWidth C) := ok_width FWi X O
  have bWi : Binds K fdWi ["self"] [] := FWi.binds fun _ _ _ _ _ _ us hl => match us, hl with | [_], _ => rfl
  have k := BB.k 0 (by decide)
  refine F.ok scLFits (fun vs H Q E h => ?_) (fun cdv A' outer s H vs Q E hr h => ?_)
  · obtain ⟨a, m, l, dm, H0, ws, W, size, word, place, rfl, _⟩ := h
    rfl
  · obtain ⟨a, m, l, dm, H0, ws, W, size, word, place, rfl, bd, st, g, q⟩ := h
    obtain ⟨dx, pc, ha, _⟩ := id bd
    refine ⟨_, (pss_one (ps_ret (pe_and (pe_meth (pv 0) (BB.k 0 (by decide)).cls (BB.k 0 (by decide)).kn KN hr bK .nil L2.pass0 (pa_cons (pv 1) (pa_cons (pv 2) pa_nil))) (pe_one (pe_chain op_le op_le pe_int (pv 3) (pe_op op_sub (pv 1) (pe_propX (p := pWi) (pe_fld (pv 0) (by rfl)) WI (hr.mono (by decide)) bWi .nil L2.pass0))))))), ?_⟩
    unfold fitsB at q
    refine ⟨_, rfl, a, dx, _, rfl, ha, rfl, _, rfl, _, rfl, a, m, l, dm, H0, ws, W, size, word, rfl, bd, st, g.n6, _, rfl, ?_⟩
    cases c0 : knowsB 0 ws.length size word with
    | false => exact iteF (and_F (R := fun b => Q (.bl b) H) q c0)
    | true =>
    have q := and_T (R := fun b => Q (.bl b) H) q c0
    unfold spotB at q
    refine iteT ⟨_, rfl, _, _, rfl, rfl, _, rfl, ?_⟩
    by_cases c3 : 0 ≤ place
    case neg => exact iteF' (decide_eq_false c3) (and_F (R := fun b => Q (.bl b) H) q (decide_eq_false c3))
    have q := and_T (R := fun b => Q (.bl b) H) q (decide_eq_true c3)
    refine iteT' (decide_eq_true c3) ⟨_, rfl, _, rfl, a, _, dx, _, _, rfl, ha, k.cls, k.noS, rfl, m, C, dm, _, rfl, O.cls, hpi, st.1, m, l, dm, ws, W, rfl, st, g, _, _, rfl, rfl, _, _, rfl, rfl, ?_⟩
    exact q
theorem ok_wfits {f : Addr} {fd fdK fdLe fdWi : FuncData} (F : L2.Fun K "fits" "Window.fits" sWFits f fd) (FK : L2.Fun K "_knows" "Band._knows" sKnows B.fKn fdK) (FLe : L2.Fun K "__len__" "Stamps.__len__" sLenI fLen fdLe) (FWi : L2.Fun K "width" "Stamps.width" sWidth fWi fdWi) (X : Txt K mg C fLow fText fAre fTape fNext fInks) (O : Own K C) (hpi : PropOf K C "width" pWi fWi) (BB : Bds K mg B) (A : LenO K C fLen) :
    FnOk P w K mg base CX0 4 f fd ["self", "size", "word", "place"] (spFits C B 1) := by
  have KN : FnOk P w K mg base CX0 3 B.fKn fdK ["self", "size", "word"] (spKnows C B 1) := ok_knows (by decide) FK FLe X O BB A
  have bK : Binds K fdK ["self", "size", "word"] [] := FK.binds fun _ _ _ _ _ _ us hl => match us, hl with | [_, _, _], _ => rfl
  have WI : FnOk P w K mg base CX0 1 fWi fdWi ["self"] (spWidth C) := ok_width FWi X O
  have bWi : Binds K fdWi ["self"] [] := FWi.binds fun _ _ _ _ _ _ us hl => match us, hl with | [_], _ => rfl
  have k := BB.k 1 (by decide)
  refine F.ok scWFits (fun vs H Q E h => ?_) (fun cdv A' outer s H vs Q E hr h => ?_)
  · obtain ⟨a, m, l, dm, H0, ws, W, size, word, place, rfl, _⟩ := h
    rfl
  · obtain ⟨a, m, l, dm, H0, ws, W, size, word, place, rfl, bd, st, g, q⟩ := h
    obtain ⟨dx, pc, ha, _⟩ := id bd
    refine ⟨_, (pss_one (ps_ret (pe_and (pe_meth (pv 0) (BB.k 1 (by decide)).cls (BB.k 1 (by decide)).kn KN hr bK .nil L2.pass0 (pa_cons (pv 1) (pa_cons (pv 2) pa_nil))) (pe_one (pe_chain op_lt op_lt (pe_un un_neg (pe_propX (p := pWi) (pe_fld (pv 0) (by rfl)) WI (hr.mono (by decide)) bWi .nil L2.pass0)) (pv 3) (pv 1)))))), ?_⟩
    unfold fitsB at q
    refine ⟨_, rfl, a, dx, _, rfl, ha, rfl, _, rfl, _, rfl, a, m, l, dm, H0, ws, W, size, word, rfl, bd, st, g.n6, _, rfl, ?_⟩
    cases c0 : knowsB 1 ws.length size word with
    | false => exact iteF (and_F (R := fun b => Q (.bl b) H) q c0)
    | true =>
    have q := and_T (R := fun b => Q (.bl b) H) q c0
    unfold spotB at q
    refine iteT ⟨_, rfl, a, _, dx, _, _, rfl, ha, k.cls, k.noS, rfl, m, C, dm, _, rfl, O.cls, hpi, st.1, m, l, dm, ws, W, rfl, st, g, _, rfl, _, rfl, _, _, rfl, rfl, _, rfl, ?_⟩
    by_cases c3 : -((W : Nat) : Int) < place
    case neg => exact iteF' (decide_eq_false c3) (and_F (R := fun b => Q (.bl b) H) q (decide_eq_false c3))
    have q := and_T (R := fun b => Q (.bl b) H) q (decide_eq_true c3)
    refine iteT' (decide_eq_true c3) ⟨_, rfl, _, _, rfl, rfl, ?_⟩
    exact q
theorem ok_rfits {f : Addr} {fd fdK fdLe fdWi : FuncData} (F : L2.Fun K "fits" "Ring.fits" sRFits f fd) (FK : L2.Fun K "_knows" "Band._knows" sKnows B.fKn fdK) (FLe : L2.Fun K "__len__" "Stamps.__len__" sLenI fLen fdLe) (FWi : L2.Fun K "width" "Stamps.width" sWidth fWi fdWi) (X : Txt K mg C fLow fText fAre fTape fNext fInks) (O : Own K C) (hpi : PropOf K C "width" pWi fWi) (BB : Bds K mg B) (A : LenO K C fLen) :
    FnOk P w K mg base CX0 4 f fd ["self", "size", "word", "place"] (spFits C B 2) := by
  have KN : FnOk P w K mg base CX0 3 B.fKn fdK ["self", "size", "word"] (spKnows C B 2) := ok_knows (by decide) FK FLe X O BB A
  have bK : Binds K fdK ["self", "size", "word"] [] := FK.binds fun _ _ _ _ _ _ us hl => match us, hl with | [_, _, _], _ => rfl
  have WI : FnOk P w K mg base CX0 1 fWi fdWi ["self"] (spWidth C) := ok_width FWi X O
  have bWi : Binds K fdWi ["self"] [] := FWi.binds fun _ _ _ _ _ _ us hl => match us, hl with | [_], _ => rfl
  have k := BB.k 2 (by decide)
  refine F.ok scRFits (fun vs H Q E h => ?_) (fun cdv A' outer s H vs Q E hr h => ?_)
  · obtain ⟨a, m, l, dm, H0, ws, W, size, word, place, rfl, _⟩ := h
    rfl
  · obtain ⟨a, m, l, dm, H0, ws, W, size, word, place, rfl, bd, st, g, q⟩ := h
    obtain ⟨dx, pc, ha, _⟩ := id bd
    refine ⟨_, (pss_one (ps_ret (pe_and (pe_meth (pv 0) (BB.k 2 (by decide)).cls (BB.k 2 (by decide)).kn KN hr bK .nil L2.pass0 (pa_cons (pv 1) (pa_cons (pv 2) pa_nil))) (pe_and (pe_cmpR op_le (pe_propX (p := pWi) (pe_fld (pv 0) (by rfl)) WI (hr.mono (by decide)) bWi .nil L2.pass0) (pv 1) (by rfl)) (pe_one (pe_chain op_le op_lt pe_int (pv 3) (pv 1))))))), ?_⟩
    unfold fitsB at q
    refine ⟨_, rfl, a, dx, _, rfl, ha, rfl, _, rfl, _, rfl, a, m, l, dm, H0, ws, W, size, word, rfl, bd, st, g.n6, _, rfl, ?_⟩
    cases c0 : knowsB 2 ws.length size word with
    | false => exact iteF (and_F (R := fun b => Q (.bl b) H) q c0)
    | true =>
    have q := and_T (R := fun b => Q (.bl b) H) q c0
    unfold spotB at q
    refine iteT ⟨_, rfl, a, _, dx, _, _, rfl, ha, k.cls, k.noS, rfl, m, C, dm, _, rfl, O.cls, hpi, st.1, m, l, dm, ws, W, rfl, st, g, _, rfl, _, _, rfl, rfl, _, rfl, ?_⟩
    by_cases c2 : ((W : Nat) : Int) ≤ size
    case neg => exact iteF' (decide_eq_false c2) (and_F (R := fun b => Q (.bl b) H) q (decide_eq_false c2))
    have q := and_T (R := fun b => Q (.bl b) H) q (decide_eq_true c2)
    refine iteT' (decide_eq_true c2) ⟨_, rfl, _, _, rfl, rfl, _, rfl, ?_⟩
    by_cases c3 : 0 ≤ place
    case neg => exact iteF' (decide_eq_false c3) (and_F (R := fun b => Q (.bl b) H) q (decide_eq_false c3))
    have q := and_T (R := fun b => Q (.bl b) H) q (decide_eq_true c3)
    refine iteT' (decide_eq_true c3) ⟨_, rfl, _, _, rfl, rfl, ?_⟩
    exact q
end
end Ov

set_option Elab.async false
set_option linter.all false
set_option maxRecDepth 100000
set_option maxHeartbeats 4000000
/-! the cells after a stamping: on a line (0), a window (1), a ring (2) -/
namespace Ov
open PySem PySem.Spec PyProof.Rows L2 GxR
/-- which letter of the word a cell shows -/
def offI (i n : Nat) (place : Int) (j : Nat) : Int := if i = 2 then ((j : Int) - place) % (n : Int) else (j : Int) - place
theorem offI_row {i n : Nat} {p : Int} {j : Nat} (h : i ≠ 2) : offI i n p j = (j : Int) - p := if_neg h
theorem offI_ring {n : Nat} {p : Int} {j : Nat} : offI 2 n p j = ((j : Int) - p) % (n : Int) := if_pos rfl
/-- the cells once the first m letters are printed -/
def inkM (i : Nat) (zs us : List Nat) (place : Int) (m : Nat) : List Nat := (List.range zs.length).map fun j => if 0 ≤ offI i zs.length place j ∧ offI i zs.length place j < (m : Int) then us.getD (offI i zs.length place j).toNat 0 else zs.getD j 0
def inkL (i : Nat) (zs us : List Nat) (place : Int) : List Nat := inkM i zs us place us.length
theorem inkM_len {i : Nat} {zs us : List Nat} {place : Int} {m : Nat} : (inkM i zs us place m).length = zs.length := by unfold inkM; rw [List.length_map, List.length_range]
theorem inkM_get {i : Nat} {zs us : List Nat} {place : Int} {m j : Nat} (h : j < zs.length) : (inkM i zs us place m)[j]? = some (if 0 ≤ offI i zs.length place j ∧ offI i zs.length place j < (m : Int) then us.getD (offI i zs.length place j).toNat 0 else zs.getD j 0) := by
  unfold inkM
  rw [List.getElem?_map, List.getElem?_range h]
  rfl
theorem ext_get {l1 l2 : List Nat} (hl : l1.length = l2.length) (h : ∀ j, j < l2.length → l1[j]? = l2[j]?) : l1 = l2 := by
  refine List.ext_getElem? fun j => ?_
  by_cases c : j < l2.length
  · exact h j c
  · rw [List.getElem?_eq_none (by omega), List.getElem?_eq_none (by omega)]
theorem getD_some {l : List Nat} {j : Nat} (h : j < l.length) : l[j]? = some (l.getD j 0) := by
  rw [List.getElem?_eq_getElem h]
  simp [List.getD, h]
/-- a line -/
theorem ink_line {zs us : List Nat} {p : Nat} (h : p + us.length ≤ zs.length) : zs.take p ++ us ++ zs.drop (p + us.length) = inkL 0 zs us (p : Int) := by
  have l0 : (zs.take p ++ us ++ zs.drop (p + us.length)).length = zs.length := by
    rw [List.length_append, List.length_append, List.length_take, List.length_drop]; omega
  refine ext_get (by rw [l0]; unfold inkL; rw [inkM_len]) fun j hj => ?_
  unfold inkL at hj ⊢
  rw [inkM_len] at hj
  rw [inkM_get hj]
  rw [offI_row (by decide)]
  by_cases c1 : j < p
  · rw [if_neg (by omega), List.append_assoc, List.getElem?_append_left (by rw [List.length_take]; omega), List.getElem?_take_of_lt c1, getD_some hj]
  · by_cases c2 : j < p + us.length
    · rw [if_pos (by omega), List.getElem?_append_left (by rw [List.length_append, List.length_take]; omega), List.getElem?_append_right (by rw [List.length_take]; omega), List.length_take, Nat.min_eq_left (by omega)]
      have e : ((j : Int) - (p : Int)).toNat = j - p := by omega
      rw [e, getD_some (by omega)]
    · rw [if_neg (by omega), List.getElem?_append_right (by rw [List.length_append, List.length_take]; omega), List.length_append, List.length_take, Nat.min_eq_left (by omega), List.getElem?_drop]
      rw [show p + us.length + (j - (p + us.length)) = j by omega, getD_some hj]
/-- a window: the strip between two edges -/
theorem ink_window {zs us es : List Nat} {place : Int} (he : es.length = us.length) (h1 : -(us.length : Int) < place) (h2 : place < (zs.length : Int)) :
    (((es ++ zs ++ es).take (place + us.length).toNat ++ us ++ (es ++ zs ++ es).drop ((place + us.length).toNat + us.length)).drop us.length).take zs.length = inkL 1 zs us place := by
  obtain ⟨P, hP⟩ : ∃ P : Nat, place + us.length = (P : Int) := ⟨(place + us.length).toNat, by omega⟩
  rw [hP, Int.toNat_natCast]
  have le : (es ++ zs ++ es).length = zs.length + 2 * us.length := by rw [List.length_append, List.length_append]; omega
  have hp : P + us.length ≤ (es ++ zs ++ es).length := by omega
  have l0 : ((es ++ zs ++ es).take P ++ us ++ (es ++ zs ++ es).drop (P + us.length)).length = (es ++ zs ++ es).length := by
    rw [List.length_append, List.length_append, List.length_take, List.length_drop]; omega
  refine ext_get (by unfold inkL; rw [inkM_len, List.length_take, List.length_drop, l0]; omega) fun j hj => ?_
  unfold inkL at hj ⊢
  rw [inkM_len] at hj
  rw [inkM_get hj, List.getElem?_take_of_lt hj, List.getElem?_drop, ink_line hp]
  unfold inkL
  rw [inkM_get (by omega)]
  rw [offI_row (by decide), offI_row (by decide)]
  have e : ((us.length + j : Nat) : Int) - (P : Int) = (j : Int) - place := by omega
  rw [e]
  have ez : (es ++ zs ++ es).getD (us.length + j) 0 = zs.getD j 0 := by
    have : (es ++ zs ++ es)[us.length + j]? = zs[j]? := by
      rw [List.getElem?_append_left (by rw [List.length_append]; omega), List.getElem?_append_right (by omega), he, Nat.add_sub_cancel_left]
    rw [List.getD_eq_getElem?_getD, this, ← List.getD_eq_getElem?_getD]
  rw [ez]
/-- a ring: turned, printed at its beginning, turned back -/
theorem ink_ring {zs us : List Nat} {p : Nat} (h1 : us.length ≤ zs.length) (h2 : p < zs.length) :
    ((us ++ (zs.drop p ++ zs.take p).drop us.length).drop (zs.length - p)) ++ ((us ++ (zs.drop p ++ zs.take p).drop us.length).take (zs.length - p)) = inkL 2 zs us (p : Int) := by
  have lt : (zs.drop p ++ zs.take p).length = zs.length := by rw [List.length_append, List.length_drop, List.length_take]; omega
  have l0 : (us ++ (zs.drop p ++ zs.take p).drop us.length).length = zs.length := by rw [List.length_append, List.length_drop, lt]; omega
  have got : ∀ k, k < zs.length → (us ++ (zs.drop p ++ zs.take p).drop us.length)[k]? = some (if k < us.length then us.getD k 0 else zs.getD (if k < zs.length - p then p + k else k - (zs.length - p)) 0) := fun k hk => by
    by_cases c : k < us.length
    · rw [if_pos c, List.getElem?_append_left c, getD_some c]
    · rw [if_neg c, List.getElem?_append_right (by omega), List.getElem?_drop, show us.length + (k - us.length) = k by omega]
      by_cases c2 : k < zs.length - p
      · rw [if_pos c2, List.getElem?_append_left (by rw [List.length_drop]; omega), List.getElem?_drop, getD_some (by omega)]
      · rw [if_neg c2, List.getElem?_append_right (by rw [List.length_drop]; omega), List.length_drop, List.getElem?_take_of_lt (by omega), getD_some (by omega)]
  refine ext_get (by unfold inkL; rw [inkM_len, List.length_append, List.length_drop, List.length_take, l0]; omega) fun j hj => ?_
  unfold inkL at hj ⊢
  rw [inkM_len] at hj
  rw [inkM_get hj]
  rw [offI_ring]
  by_cases c : j < p
  · have eo : ((j : Int) - (p : Int)) % (zs.length : Int) = ((zs.length - p + j : Nat) : Int) := by
      rw [← Int.add_emod_right]
      rw [Int.emod_eq_of_lt (by omega) (by omega)]
      omega
    rw [List.getElem?_append_left (by rw [List.length_drop, l0]; omega), List.getElem?_drop, got _ (by omega), eo, Int.toNat_natCast]
    by_cases c2 : zs.length - p + j < us.length
    · rw [if_pos c2, if_pos (by omega)]
    · rw [if_neg c2, if_neg (by omega), if_neg (by omega), show zs.length - p + j - (zs.length - p) = j by omega]
  · have eo : ((j : Int) - (p : Int)) % (zs.length : Int) = ((j - p : Nat) : Int) := by
      rw [Int.emod_eq_of_lt (by omega) (by omega)]
      omega
    rw [List.getElem?_append_right (by rw [List.length_drop, l0]; omega), List.length_drop, l0, show j - (zs.length - (zs.length - p)) = j - p by omega, List.getElem?_take_of_lt (by omega), got _ (by omega), eo, Int.toNat_natCast]
    by_cases c2 : j - p < us.length
    · rw [if_pos c2, if_pos (by omega)]
    · rw [if_neg c2, if_pos (by omega), if_neg (by omega), show p + (j - p) = j by omega]
/-- one letter more -/
theorem inkM_set {i : Nat} {zs us : List Nat} {place : Int} {m c j : Nat} (hc : us[m]? = some c) (hj : j < zs.length) (ho : ∀ k, k < zs.length → (offI i zs.length place k = (m : Int) ↔ k = j)) : (inkM i zs us place m).set j c = inkM i zs us place (m + 1) := by
  refine ext_get (by rw [List.length_set, inkM_len, inkM_len]) fun k hk => ?_
  rw [inkM_len] at hk
  rw [inkM_get hk, List.getElem?_set]
  have cm : us.getD m 0 = c := by rw [List.getD_eq_getElem?_getD, hc]; rfl
  by_cases e : j = k
  · rw [if_pos e, if_pos (by rw [inkM_len]; exact hj)]
    have ok := (ho k hk).mpr e.symm
    rw [ok, if_pos (by omega), Int.toNat_natCast, cm]
  · rw [if_neg e, inkM_get hk]
    have nk : ¬ offI i zs.length place k = (m : Int) := fun z => e ((ho k hk).mp z).symm
    by_cases q : 0 ≤ offI i zs.length place k ∧ offI i zs.length place k < (m : Int)
    · rw [if_pos q, if_pos (by omega)]
    · rw [if_neg q, if_neg (by omega)]
/-- a letter that is not seen -/
theorem inkM_skip {i : Nat} {zs us : List Nat} {place : Int} {m : Nat} (ho : ∀ k, k < zs.length → offI i zs.length place k ≠ (m : Int)) : inkM i zs us place m = inkM i zs us place (m + 1) := by
  refine ext_get (by rw [inkM_len, inkM_len]) fun k hk => ?_
  rw [inkM_len] at hk
  rw [inkM_get hk, inkM_get hk]
  have nk := ho k hk
  by_cases q : 0 ≤ offI i zs.length place k ∧ offI i zs.length place k < (m : Int)
  · rw [if_pos q, if_pos (by omega)]
  · rw [if_neg q, if_neg (by omega)]
theorem inkM_0 {i : Nat} {zs us : List Nat} {place : Int} : inkM i zs us place 0 = zs := by
  refine ext_get inkM_len fun k hk => ?_
  rw [inkM_get hk, if_neg (by omega), getD_some hk]
end Ov

set_option Elab.async false
set_option linter.all false
set_option maxRecDepth 100000
set_option maxHeartbeats 4000000
/-! a call of an instance that is held in an attribute of an instance: o.m(e, ..) -/
namespace Ov
open PySem PySem.Spec PyProof.Rows L2 GxR
section
variable {X : Cx} {CX : CXT} {k : Nat} {C g : Addr} {m : Str} {sp : Sp} {E : L2.St → XK} {o e : Expr} {es : List Expr} {ta : TE} {t : TA} {apos pos : Pos} {pl : Sem Bool}
def tCallF (K : PySem.W.Frag) (C : Addr) (m : Str) (sp : Sp) (E : L2.St → XK) (ta : TE) (t : TA) : TE := fun σ H Q => ta σ H fun x H1 => ∃ a Ca dx fs b, x = .ref a ∧ H1 a = some (.ins Ca dx fs) ∧ Cls K Ca ∧ NoAttr K Ca m ∧ fs.lookup m = some (.ref b) ∧
  t σ H1 fun vs H2 => (∃ dx fs, H2 b = some (.ins C dx fs)) ∧ sp (V.ref b :: vs) H2 Q (E σ)
theorem pe_callF (he : PE X o ta) (c : StX.CallO X.K C g) (F : FnR X.prog X.w X.K X.mg X.base CX k g sp) (hr : Room k X.A) (hx : ∀ σ, PassesAt CX X σ (E σ)) (ha : PA X (e :: es) t)
    (hst : starEach (e :: es) X.env = (false, eval e X.env) :: starEach es X.env := by rfl) (hpl : (backTo pos (starEach es X.env)).any (·.1) = false := by rfl)
    (ht : eval (.Call (.Attribute o m apos) (e :: es) [] pos) X.env = (do
      let ov ← eval o X.env
      standAt apos.atName
      let (f, first) ← holding [ov] (getMethod ov m pl)
      callWith pos f first (backTo pos (starEach (e :: es) X.env)) (backToKw pos (keywordEach [] X.env))) := by rfl) :
    PE X (.Call (.Attribute o m apos) (e :: es) [] pos) (tCallF X.K C m sp E ta t) := by
  refine ⟨fun pins s σ H Q I h => ?_⟩
  refine PySem.W.methodCall_KW (pl := pl) (thn (he.run pins s σ H _ I h) fun u s1 ⟨x, H1, I1, rx, a, Ca, dx, fs, b, ex, ea, cc, n, l, q⟩ => ?_) ht
  subst ex
  obtain rfl : u = Value.ref a := rx
  refine getmeth_fld I1 ea cc n l fun u s1' I1' ru => ?_
  obtain rfl : u = Value.ref b := ru
  refine StX.callO_with (thn (ha.run pos pins s1' σ H1 _ I1' q) fun us s2 ⟨vs, H2, I2, r, ⟨dx, fs, hi⟩, q2⟩ => ?_) hst hpl
  obtain ⟨o, od, J, plain⟩ := inst_at I2 hi
  refine ⟨⟨C, o, od, J, plain⟩, wpAny_call (PySem.W.kco_code I2.kIn J plain c.at_ c.fn c.fi (codeAny_mono (F X.A X.stack s2 H2 (.ref b :: us) (V.ref b :: vs) Q (E σ) hr I2.env0 (.cons rfl r) q2) fun r s' hq => ?_))⟩
  cases r with
  | error e => exact hx σ _ H2 s2 e s' I2 hq
  | ok fl =>
    cases fl with
    | ret u => exact I2.after hq
    | next => exact False.elim hq
    | brk => exact False.elim hq
    | cont => exact False.elim hq
/-- o.m(e, ..) with a method m of o's class, where what is wished of an error may speak of the slots -/
def tMethE (C : Addr) (m : Str) (sp : Sp) (E : L2.St → XK) (ta : TE) (t : TA) : TE := fun σ H Q => ta σ H fun x H1 => ∃ a dx fs, x = .ref a ∧ H1 a = some (.ins C dx fs) ∧ fs.lookup m = none ∧ t σ H1 fun vs H2 => sp (x :: vs) H2 Q (E σ)
theorem pe_methE (he : PE X o ta) (c : Cls X.K C) (hm : Meth X.K C m g) (F : FnR X.prog X.w X.K X.mg X.base CX k g sp) (hr : Room k X.A) (hx : ∀ σ, PassesAt CX X σ (E σ)) (ha : PA X (e :: es) t)
    (hst : starEach (e :: es) X.env = (false, eval e X.env) :: starEach es X.env := by rfl) (hpl : (backTo pos (starEach es X.env)).any (·.1) = false := by rfl)
    (ht : eval (.Call (.Attribute o m apos) (e :: es) [] pos) X.env = (do
      let ov ← eval o X.env
      standAt apos.atName
      let (f, first) ← holding [ov] (getMethod ov m pl)
      callWith pos f first (backTo pos (starEach (e :: es) X.env)) (backToKw pos (keywordEach [] X.env))) := by rfl) :
    PE X (.Call (.Attribute o m apos) (e :: es) [] pos) (tMethE C m sp E ta t) := by
  refine ⟨fun pins s σ H Q I h => ?_⟩
  refine PySem.W.methodCall_KW (pl := pl) (thn (he.run pins s σ H _ I h) fun u s1 ⟨x, H1, I1, rx, a, dx, fs, ex, ea, l, q⟩ => ?_) ht
  subst ex
  obtain rfl : u = Value.ref a := rx
  refine getmeth_ok I1 ea c hm l ?_
  refine PySem.W.callWith_K (first := [.ref a]) (h₀ := X.base) I.ok.mod.kin hm.kp (thn (ha.run pos pins s1 σ H1 _ I1 q) fun us s2 ⟨vs, H2, I2, r, q2⟩ => ⟨I2.kIn, ?_⟩) hst hpl
  refine wpAny_call (codeAny_mono (F X.A X.stack s2 H2 (.ref a :: us) (V.ref a :: vs) Q (E σ) hr I2.env0 (.cons rfl r) q2) fun r s' hq => ?_)
  cases r with
  | error e => exact hx σ _ H2 s2 e s' I2 hq
  | ok fl =>
    cases fl with
    | ret u => exact I2.after hq
    | next => exact False.elim hq
    | brk => exact False.elim hq
    | cont => exact False.elim hq
end
section
variable {X : Cx} {CX : CXT} {k : Nat} {C f : Addr} {fd : FuncData} {m : Str} {ps ks : List Str} {sp : Sp} {E : L2.St → XK} {o : Expr} {kws : List Keyword} {ta : TE} {tk : TA} {apos pos : Pos} {pl : Sem Bool} {g : List Value → List Value → List Value} {gV : List V → List V → List V}
/-- o.m(k = v, ..) -/
def tMethKE (C : Addr) (m : Str) (n : Nat) (sp : Sp) (gV : List V → List V → List V) (E : L2.St → XK) (ta : TE) (tk : TA) : TE := fun σ H Q => ta σ H fun x H1 => ∃ a dx fs, x = .ref a ∧ H1 a = some (.ins C dx fs) ∧ fs.lookup m = none ∧ tk σ H1 fun zs H2 => zs.length = n ∧ sp (gV [V.ref a] zs) H2 Q (E σ)
theorem pe_methKE (he : PE X o ta) (c : Cls X.K C) (hm : Meth X.K C m f) (F : FnOk X.prog X.w X.K X.mg X.base CX k f fd ps sp) (hr : Room k X.A) (hb : KBn X.K fd ps 1 ks g gV) (hx : ∀ σ, PassesAt CX X σ (E σ))
    (hkw : PK X kws tk) (hall : (backToKw pos (keywordEach kws X.env)).all (·.1.isSome) = true := by rfl) (hks : (backToKw pos (keywordEach kws X.env)).filterMap (·.1) = ks := by rfl)
    (hpl : ((backTo pos (starEach [] X.env)).any (·.1) || (backToKw pos (keywordEach kws X.env)).any (·.1.isNone)) = false := by rfl)
    (ht : eval (.Call (.Attribute o m apos) [] kws pos) X.env = (do
      let ov ← eval o X.env
      standAt apos.atName
      let (f, first) ← holding [ov] (getMethod ov m pl)
      callWith pos f first (backTo pos (starEach [] X.env)) (backToKw pos (keywordEach kws X.env))) := by rfl) :
    PE X (.Call (.Attribute o m apos) [] kws pos) (tMethKE C m ks.length sp gV E ta tk) := by
  refine ⟨fun pins s σ H Q I h => ?_⟩
  refine PySem.W.methodCall_KW (pl := pl) (thn (he.run pins s σ H _ I h) fun u s1 ⟨x, H1, I1, rx, a, dx, fs, ex, ea, l, q⟩ => ?_) ht
  subst ex
  obtain rfl : u = Value.ref a := rx
  refine getmeth_ok I1 ea c hm l ?_
  refine PySem.W.callWith_KW0 (first := [.ref a]) (h₀ := X.base) I.ok.mod.kin hm.kp hall ?_ hpl
  refine thn (hkw.run pos pins s1 σ H1 _ I1 q) fun ws s2 ⟨zs, H2, I2, rz, l2, q2⟩ => ⟨I2.kIn, ?_⟩
  rw [hks]
  refine wpAny_call (codeAny_mono (F.run X.A X.stack s2 H2 ⟨[.ref a], ks.zip ws⟩ (g [.ref a] ws) (gV [V.ref a] zs) Q (E σ) hr I2.env0 (hb.to s2 [.ref a] ws I2.kIn rfl (rz.length.symm.trans l2)) (hb.rel (.cons rfl .nil) rz) q2) fun r s' hq => ?_)
  cases r with
  | error e => exact hx σ _ H2 s2 e s' I2 hq
  | ok fl =>
    cases fl with
    | ret u => exact I2.after hq
    | next => exact False.elim hq
    | brk => exact False.elim hq
    | cont => exact False.elim hq
theorem pass0A {X : Cx} (E : L2.St → XK) (σ : L2.St) : PassesAt CX0 X σ (E σ) := fun _ _ _ _ _ _ h => h.elim
end
end Ov
namespace Ov
open PySem PySem.Spec PyProof.Rows L2 GxR
/-! ### .. of an instance of one of several classes -/
section
variable {X : Cx} {CX : CXT} {k n : Nat} {c g : Nat → Addr} {fd : Nat → FuncData} {m : Str} {ps ks : List Str} {sp : Nat → Sp} {E : L2.St → XK} {o e : Expr} {es : List Expr} {kws : List Keyword} {ta : TE} {t tk : TA} {apos pos : Pos} {pl : Sem Bool} {gg : List Value → List Value → List Value} {gV : List V → List V → List V}
def tMethF (n : Nat) (c : Nat → Addr) (m : Str) (sp : Nat → Sp) (E : L2.St → XK) (ta : TE) (t : TA) : TE := fun σ H Q => ta σ H fun x H1 => ∃ a i dx fs, i < n ∧ x = .ref a ∧ H1 a = some (.ins (c i) dx fs) ∧ fs.lookup m = none ∧ t σ H1 fun vs H2 => sp i (x :: vs) H2 Q (E σ)
theorem pe_methF (he : PE X o ta) (hc : ∀ i, i < n → Cls X.K (c i)) (hm : ∀ i, i < n → Meth X.K (c i) m (g i)) (F : ∀ i, i < n → FnR X.prog X.w X.K X.mg X.base CX k (g i) (sp i)) (hr : Room k X.A) (hx : ∀ σ, PassesAt CX X σ (E σ)) (ha : PA X (e :: es) t)
    (hst : starEach (e :: es) X.env = (false, eval e X.env) :: starEach es X.env := by rfl) (hpl : (backTo pos (starEach es X.env)).any (·.1) = false := by rfl)
    (ht : eval (.Call (.Attribute o m apos) (e :: es) [] pos) X.env = (do
      let ov ← eval o X.env
      standAt apos.atName
      let (f, first) ← holding [ov] (getMethod ov m pl)
      callWith pos f first (backTo pos (starEach (e :: es) X.env)) (backToKw pos (keywordEach [] X.env))) := by rfl) :
    PE X (.Call (.Attribute o m apos) (e :: es) [] pos) (tMethF n c m sp E ta t) := by
  refine ⟨fun pins s σ H Q I h => ?_⟩
  refine PySem.W.methodCall_KW (pl := pl) (thn (he.run pins s σ H _ I h) fun u s1 ⟨x, H1, I1, rx, a, i, dx, fs, hi, ex, ea, l, q⟩ => ?_) ht
  subst ex
  obtain rfl : u = Value.ref a := rx
  refine getmeth_ok I1 ea (hc i hi) (hm i hi) l ?_
  refine PySem.W.callWith_K (first := [.ref a]) (h₀ := X.base) I.ok.mod.kin (hm i hi).kp (thn (ha.run pos pins s1 σ H1 _ I1 q) fun us s2 ⟨vs, H2, I2, r, q2⟩ => ⟨I2.kIn, ?_⟩) hst hpl
  refine wpAny_call (codeAny_mono (F i hi X.A X.stack s2 H2 (.ref a :: us) (V.ref a :: vs) Q (E σ) hr I2.env0 (.cons rfl r) q2) fun r s' hq => ?_)
  cases r with
  | error e => exact hx σ _ H2 s2 e s' I2 hq
  | ok fl =>
    cases fl with
    | ret u => exact I2.after hq
    | next => exact False.elim hq
    | brk => exact False.elim hq
    | cont => exact False.elim hq
def tMethKF (n : Nat) (c : Nat → Addr) (m : Str) (nk : Nat) (sp : Nat → Sp) (gV : List V → List V → List V) (E : L2.St → XK) (ta : TE) (tk : TA) : TE := fun σ H Q => ta σ H fun x H1 => ∃ a i dx fs, i < n ∧ x = .ref a ∧ H1 a = some (.ins (c i) dx fs) ∧ fs.lookup m = none ∧ tk σ H1 fun zs H2 => zs.length = nk ∧ sp i (gV [V.ref a] zs) H2 Q (E σ)
theorem pe_methKF (he : PE X o ta) (hc : ∀ i, i < n → Cls X.K (c i)) (hm : ∀ i, i < n → Meth X.K (c i) m (g i)) (F : ∀ i, i < n → FnOk X.prog X.w X.K X.mg X.base CX k (g i) (fd i) ps (sp i)) (hr : Room k X.A) (hb : ∀ i, i < n → KBn X.K (fd i) ps 1 ks gg gV) (hx : ∀ σ, PassesAt CX X σ (E σ))
    (hkw : PK X kws tk) (hall : (backToKw pos (keywordEach kws X.env)).all (·.1.isSome) = true := by rfl) (hks : (backToKw pos (keywordEach kws X.env)).filterMap (·.1) = ks := by rfl)
    (hpl : ((backTo pos (starEach [] X.env)).any (·.1) || (backToKw pos (keywordEach kws X.env)).any (·.1.isNone)) = false := by rfl)
    (ht : eval (.Call (.Attribute o m apos) [] kws pos) X.env = (do
      let ov ← eval o X.env
      standAt apos.atName
      let (f, first) ← holding [ov] (getMethod ov m pl)
      callWith pos f first (backTo pos (starEach [] X.env)) (backToKw pos (keywordEach kws X.env))) := by rfl) :
    PE X (.Call (.Attribute o m apos) [] kws pos) (tMethKF n c m ks.length sp gV E ta tk) := by
  refine ⟨fun pins s σ H Q I h => ?_⟩
  refine PySem.W.methodCall_KW (pl := pl) (thn (he.run pins s σ H _ I h) fun u s1 ⟨x, H1, I1, rx, a, i, dx, fs, hi, ex, ea, l, q⟩ => ?_) ht
  subst ex
  obtain rfl : u = Value.ref a := rx
  refine getmeth_ok I1 ea (hc i hi) (hm i hi) l ?_
  refine PySem.W.callWith_KW0 (first := [.ref a]) (h₀ := X.base) I.ok.mod.kin (hm i hi).kp hall ?_ hpl
  refine thn (hkw.run pos pins s1 σ H1 _ I1 q) fun ws s2 ⟨zs, H2, I2, rz, l2, q2⟩ => ⟨I2.kIn, ?_⟩
  rw [hks]
  refine wpAny_call (codeAny_mono ((F i hi).run X.A X.stack s2 H2 ⟨[.ref a], ks.zip ws⟩ (gg [.ref a] ws) (gV [V.ref a] zs) Q (E σ) hr I2.env0 ((hb i hi).to s2 [.ref a] ws I2.kIn rfl (rz.length.symm.trans l2)) ((hb i hi).rel (.cons rfl .nil) rz) q2) fun r s' hq => ?_)
  cases r with
  | error e => exact hx σ _ H2 s2 e s' I2 hq
  | ok fl =>
    cases fl with
    | ret u => exact I2.after hq
    | next => exact False.elim hq
    | brk => exact False.elim hq
    | cont => exact False.elim hq
end
end Ov

set_option Elab.async false
set_option linter.all false
set_option maxRecDepth 100000
set_option maxHeartbeats 4000000
namespace Ov
open PySem PySem.Spec PyProof.Rows L2 GxR
abbrev sCheck : Stmt := inClass (top 51) 16
abbrev sChkS : Stmt := inClass (top 51) 13
abbrev sLStm : Stmt := inClass (top 52) 2
abbrev sWStm : Stmt := inClass (top 53) 2
abbrev sRStm : Stmt := inClass (top 54) 3
/-- the strip after a stamping -/
def inkS (i : Nat) (z u : Str) (place : Int) : Str := ⟨(inkL i z.cps.toList u.cps.toList place).toArray⟩
def stmB (i : Nat) (ws : List Str) (W : Nat) (z : Str) (word place : Int) : Called :=
  if stripB z (cellsN i : Nat) = false then .noStrip else if fitsB i ws.length W z.length word place = true then .row (inkS i z (ws.getD word.toNat Str.empty) place) else .noStamping
theorem overS_ink {z u : Str} {p : Nat} (h : p + u.length ≤ z.length) : overS z u p = inkS 0 z u (p : Int) := by
  unfold overS inkS
  have : p + u.cps.toList.length ≤ z.cps.toList.length := h
  rw [← ink_line this]
  rfl
theorem strip_size {z : Str} {m : Int} (h : stripB z m = true) : 1 ≤ z.length ∧ (z.length : Int) ≤ m := by
  unfold stripB at h
  simp only [Bool.and_eq_true, decide_eq_true_eq] at h
  exact ⟨by omega, h.1.2⟩
theorem stm_line {ws : List Str} {W : Nat} (g : Good ws W) (z : Str) (word place : Int) : calledS ws W z word place = stmB 0 ws W z word place := by
  unfold calledS stmB
  have c : ((cellsN 0 : Nat) : Int) = 120 := rfl
  rw [c]
  cases hs : stripB z 120 with
  | false => rw [if_pos rfl, if_pos rfl]
  | true =>
    rw [if_neg (show ¬(true = false) by decide), if_neg (show ¬(true = false) by decide)]
    obtain ⟨h1, h2⟩ := strip_size hs
    have e : (0 ≤ word ∧ word < (ws.length : Int) ∧ 0 ≤ place ∧ place + (W : Int) ≤ (z.length : Int)) ↔ fitsB 0 ws.length W z.length word place = true := by
      unfold fitsB knowsB spotB
      rw [c]
      simp only [Bool.and_eq_true, decide_eq_true_eq]
      omega
    by_cases q : 0 ≤ word ∧ word < (ws.length : Int) ∧ 0 ≤ place ∧ place + (W : Int) ≤ (z.length : Int)
    · rw [if_pos q, if_pos (e.mp q)]
      have gl := (g.get (i := word.toNat) (by omega)).1
      rw [overS_ink (by omega), show ((place.toNat : Nat) : Int) = place by omega]
    · rw [if_neg q, if_neg (fun z => q (e.mpr z))]
theorem fits_word {i n W : Nat} {size word place : Int} (h : fitsB i n W size word place = true) : 0 ≤ word ∧ word < (n : Int) ∧ spotB i W size place = true := by
  unfold fitsB knowsB at h
  simp only [Bool.and_eq_true, decide_eq_true_eq] at h
  exact ⟨h.1.2.2.1, h.1.2.2.2, h.2⟩
section
variable {P : Program} {w : World} {K : PySem.W.Frag} {mg : Str → Option Value} {base : Heap} {T : List Addr} {C D fLow fText fAre fTape fNext fInks fInit cLow PLow cAre PAre pWo fWo pWi fWi fLen fStrip fOver fCl DSp DSg : Addr} {B : BA}
def spStm (K : PySem.W.Frag) (T : List Addr) (C : Addr) (B : BA) (DSp DSg : Addr) (i : Nat) : Sp := fun vs H Q E => ∃ (a m l dm : Addr) (H0 : Hp) (ws : List Str) (W : Nat) (x : V) (word place : Int), vs = [.ref a, x, .int word, .int place] ∧ BdAt B H0 H a i m ws W ∧ Stp H C m l dm (ws.map V.str) ∧ Good ws W ∧ (∀ p ∈ T, TabG H p) ∧
  ((∃ z : Str, x = .str z ∧ z.length ≤ 4000 ∧ ∀ H2, Kep T H H2 → ans (stmB i ws W z word place) DSp DSg H2 Q E) ∨ (∃ t, TyX K H x t ∧ PySem.W.kitOne K t (.type "str") = some false ∧ E (.ref DSp) none H))
/-- the check: nothing, or the error -/
def chkA (c : Called) (DSp DSg : Addr) (H : Hp) (Q : VK) (E : XK) : Prop := match c with
  | .row _ => Q .non H
  | .noStrip => E (.ref DSp) none H
  | .noStamping => E (.ref DSg) none H
def spCheck (K : PySem.W.Frag) (T : List Addr) (C : Addr) (B : BA) (DSp DSg : Addr) (i : Nat) : Sp := fun vs H Q E => ∃ (a m l dm : Addr) (H0 : Hp) (ws : List Str) (W : Nat) (x : V) (word place : Int), vs = [.ref a, x, .int word, .int place] ∧ BdAt B H0 H a i m ws W ∧ Stp H C m l dm (ws.map V.str) ∧ Good ws W ∧ (∀ p ∈ T, TabG H p) ∧
  ((∃ z : Str, x = .str z ∧ z.length ≤ 4000 ∧ ∀ H2, Kep T H H2 → chkA (stmB i ws W z word place) DSp DSg H2 Q E) ∨ (∃ t, TyX K H x t ∧ PySem.W.kitOne K t (.type "str") = some false ∧ E (.ref DSp) none H))
theorem nk_kep {H0 H H2 : Hp} (hT : ∀ p ∈ T, TabG H p) (k : Kep T H H2) : NK H0 H H2 := fun b o _ n e => k.at hT e n
def spChkS (K : PySem.W.Frag) (T : List Addr) (B : BA) (DSp : Addr) (i : Nat) : Sp := fun vs H Q E => ∃ (a m : Addr) (H0 : Hp) (ws : List Str) (W : Nat) (x : V), vs = [.ref a, x] ∧ BdAt B H0 H a i m ws W ∧ (∀ p ∈ T, TabG H p) ∧
  ((∃ z : Str, x = .str z ∧ z.length ≤ 4000 ∧ ∀ H2, Tbs T H H2 → if stripB z (cellsN i : Nat) = true then Q .non H2 else E (.ref DSp) none H2) ∨ (∃ t, TyX K H x t ∧ PySem.W.kitOne K t (.type "str") = some false ∧ E (.ref DSp) none H))
theorem scChkS : FnScope ["self", "strip"] ["self", "strip"] (defScope sChkS) := ⟨rfl, rfl, rfl, by decide +kernel, rfl, by decide +kernel, by decide +kernel⟩
theorem ok_chks {f : Addr} {i : Nat} {fd fdS fdL : FuncData} (hi : i < 3) (F : L2.Fun K "check_strip" "Band.check_strip" sChkS f fd) (FS : L2.Fun K "is_strip" "is_strip" sStrip fStrip fdS) (FL : FunC K "is_lowercase" "is_lowercase" sLow fLow fdL cLow)
    (X : Txt K mg C fLow fText fAre fTape fNext fInks) (X2 : Txt2 K mg fStrip fOver) (Tb : Tab base mg T cLow PLow cAre PAre) (BB : Bds K mg B) (E1 : ErrC K mg "InvalidStrip" DSp) :
    FnOk P w K mg base (L2.CX P w) 4 f fd ["self", "strip"] (spChkS K T B DSp i) := by
  have SS : FnOk P w K mg base CX0 3 fStrip fdS ["thing", "most"] (spStrip K T) := ok_strip FS FL X Tb
  have bS : Binds K fdS ["thing", "most"] [] := FS.binds fun _ _ _ _ _ _ us hl => match us, hl with | [_, _], _ => rfl
  have k := BB.k i (by omega)
  obtain ⟨tc, hc⟩ := k.cells
  refine F.okX scChkS (fun vs H Q E h => ?_) (fun cdv A outer s H vs Q E hr h => ?_)
  · obtain ⟨a, m, H0, ws, W, x, rfl, _⟩ := h
    rfl
  · obtain ⟨a, m, H0, ws, W, x, rfl, bd, hT, h⟩ := h
    obtain ⟨dx, pc, ha, _⟩ := id bd
    refine ⟨_, (pss_one (ps_if (pt_not (pt_val (pe_call SS (hr.mono (by decide)) (by rfl) X2.gStrip X2.kStrip bS .nil L2.pass0 (pa_cons (pv 1) (pa_cons (pe_con (pv 0) (by rfl)) pa_nil))))) (pss_one (ps_raise rfl (takes_of rfl rfl rfl rfl) (pmk_own PySem.F.excBase_ValueError E1.e E1.g E1.k (raises_own E1.b E1.t) (by rfl)))) pss_nil)), ?_⟩
    rcases h with ⟨z, rfl, hz, h⟩ | ⟨t, ht, hk, h⟩
    · refine ⟨_, rfl, _, rfl, a, _, dx, _, _, _, rfl, ha, k.cls, hc, rfl, _, _, rfl, hT, .inl ⟨z, rfl, hz, fun H2 h2 => ⟨_, rfl, ?_⟩⟩⟩
      have hh := h H2 h2
      cases hs : stripB z (cellsN i : Nat) with
      | false =>
        rw [hs, if_neg (by decide)] at hh
        exact iteT hh
      | true =>
        rw [hs, if_pos rfl] at hh
        exact iteF hh
    · exact ⟨_, rfl, _, rfl, a, _, dx, _, _, _, rfl, ha, k.cls, hc, rfl, _, _, rfl, hT, .inr ⟨t, ht, hk, _, rfl, iteT h⟩⟩
theorem scCheck : FnScope ["self", "strip", "word", "place"] ["self", "strip", "word", "place"] (defScope sCheck) := ⟨rfl, rfl, rfl, by decide +kernel, rfl, by decide +kernel, by decide +kernel⟩
theorem ok_check {f : Addr} {i : Nat} {fd fdC fdF : FuncData} (hi : i < 3) (F : L2.Fun K "_check_stamping" "Band._check_stamping" sCheck f fd) (FC : L2.Fun K "check_strip" "Band.check_strip" sChkS B.fCs fdC) (CS : FnOk P w K mg base (L2.CX P w) 4 B.fCs fdC ["self", "strip"] (spChkS K T B DSp i))
    (FF : FnOk P w K mg base CX0 4 (B.ff i) fdF ["self", "size", "word", "place"] (spFits C B i)) (bF : Binds K fdF ["self", "size", "word", "place"] []) (X : Txt K mg C fLow fText fAre fTape fNext fInks) (BB : Bds K mg B) (E2 : ErrC K mg "InvalidStamping" DSg) :
    FnOk P w K mg base (L2.CX P w) 5 f fd ["self", "strip", "word", "place"] (spCheck K T C B DSp DSg i) := by
  have bCS : Binds K fdC ["self", "strip"] [] := FC.binds fun _ _ _ _ _ _ us hl => match us, hl with | [_, _], _ => rfl
  have k := BB.k i (by omega)
  refine F.okX scCheck (fun vs H Q E h => ?_) (fun cdv A outer s H vs Q E hr h => ?_)
  · obtain ⟨a, m, l, dm, H0, ws, W, x, word, place, rfl, _⟩ := h
    rfl
  · obtain ⟨a, m, l, dm, H0, ws, W, x, word, place, rfl, bd, st, g, hT, h⟩ := h
    obtain ⟨dx, pc, ha, _⟩ := id bd
    refine ⟨_, (pss_cons (ps_expr (pe_meth (pv 0) k.cls k.cs CS (hr.mono (by decide)) bCS .nil (passes_call (E := E) (takes_of rfl rfl rfl rfl) (fun _ _ _ _ h => h)) (pa_cons (pv 1) pa_nil)))
      (pss_one (ps_if (pt_not (pt_val (pe_meth (pv 0) k.cls (BB.fits i (by omega)) FF hr bF .nil L2.pass0 (pa_cons (pe_callB call_len_str (by rfl) X.len boot_len (pa_cons (pv 1) pa_nil)) (pa_cons (pv 2) (pa_cons (pv 3) pa_nil)))))) (pss_one (ps_raise rfl (takes_of rfl rfl rfl rfl) (pmk_own PySem.F.excBase_ValueError E2.e E2.g E2.k (raises_own E2.b E2.t) (by rfl)))) pss_nil))), ?_⟩
    refine ⟨_, rfl, a, dx, _, rfl, ha, rfl, _, rfl, a, m, H0, ws, W, x, rfl, bd, hT, ?_⟩
    rcases h with ⟨z, rfl, hz, h⟩ | ⟨t, ht, hk, h⟩
    case inr => exact .inr ⟨t, ht, hk, h⟩
    have zl : z.length ≤ sizeLine := Nat.le_trans hz (by decide)
    refine .inl ⟨z, rfl, hz, fun H2 h2 => ?_⟩
    have hh := h H2 h2.kep
    unfold stmB at hh
    cases hs : stripB z (cellsN i : Nat) with
    | false =>
      rw [hs, if_pos rfl] at hh
      exact hh
    | true =>
      rw [hs, if_neg (by decide)] at hh
      refine iteT ?_
      have nk : NK H0 H H2 := nk_kep hT h2.kep
      have bd2 := bd.keep nk
      obtain ⟨dx2, pc2, ha2, _⟩ := id bd2
      have st2 : Stp H2 C m l dm (ws.map V.str) := ⟨h2.kep.at hT st.1 fun _ z => (by cases z), h2.kep.at hT st.2 fun _ z => (by cases z)⟩
      refine ⟨_, rfl, a, dx2, _, rfl, ha2, rfl, _, rfl, z, rfl, zl, _, rfl, _, rfl, a, m, l, dm, H0, ws, W, _, word, place, rfl, bd2, st2, g, _, rfl, ?_⟩
      cases hf : fitsB i ws.length W z.length word place with
      | false =>
        rw [hf, if_neg (by decide)] at hh
        exact iteT hh
      | true =>
        rw [hf, if_pos rfl] at hh
        exact iteF hh
theorem scLStm : FnScope ["self", "strip", "word", "place"] ["self", "strip", "word", "place"] (defScope sLStm) := ⟨rfl, rfl, rfl, by decide +kernel, rfl, by decide +kernel, by decide +kernel⟩
theorem ok_lstm {f : Addr} {fd fdC : FuncData} (F : L2.Fun K "stamped" "Line.stamped" sLStm f fd) (FC : L2.Fun K "__call__" "Stamps.__call__" sCall fCl fdC) (F1 : FnOk P w K mg base (L2.CX P w) 4 fCl fdC ["self", "strip", "word", "place"] (spCall K T C DSp DSg)) (BB : Bds K mg B) (co : StX.CallO K C fCl) :
    FnOk P w K mg base (L2.CX P w) 7 f fd ["self", "strip", "word", "place"] (spStm K T C B DSp DSg 0) := by
  have FR : FnR P w K mg base (L2.CX P w) 4 fCl (spCall K T C DSp DSg) := (F1.raw (FC.binds fun _ _ _ _ _ _ us hl => match us, hl with | [_, _, _, _], _ => rfl) .nil).imp fun vs H Q E h => by rw [List.append_nil]; exact h
  have k := BB.k 0 (by decide)
  refine F.okX scLStm (fun vs H Q E h => ?_) (fun cdv A outer s H vs Q E hr h => ?_)
  · obtain ⟨a, m, l, dm, H0, ws, W, x, word, place, rfl, _⟩ := h
    rfl
  · obtain ⟨a, m, l, dm, H0, ws, W, x, word, place, rfl, bd, st, g, hT, h⟩ := h
    obtain ⟨dx, pc, ha, _⟩ := id bd
    refine ⟨_, (pss_one (ps_ret (pe_callF (pv 0) co FR (hr.mono (by decide)) (fun σ pins H s e s' I c => (passes_call (E := E) (takes_of rfl rfl rfl rfl) (fun _ _ _ _ h => h)) pins σ H s e s' I c) (pa_cons (pv 1) (pa_cons (pv 2) (pa_cons (pv 3) pa_nil)))))), ?_⟩
    refine ⟨_, rfl, a, _, dx, _, m, rfl, ha, k.cls, k.noS, rfl, _, rfl, _, rfl, _, rfl, ⟨dm, _, st.1⟩, m, l, dm, ws, W, x, word, place, rfl, st, g, hT, ?_⟩
    rcases h with ⟨z, rfl, hz, h⟩ | ⟨t, ht, hk, h⟩
    · refine .inl ⟨z, rfl, hz, fun H2 h2 => ?_⟩
      rw [stm_line g]
      exact h H2 h2.kep
    · exact .inr ⟨t, ht, hk, h⟩
theorem scWStm : FnScope ["self", "strip", "word", "place", "letters", "width", "edge", "longer"] ["self", "strip", "word", "place"] (defScope sWStm) := ⟨rfl, rfl, rfl, by decide +kernel, rfl, by decide +kernel, by decide +kernel⟩
theorem scRStm : FnScope ["self", "strip", "word", "place", "turned", "back"] ["self", "strip", "word", "place"] (defScope sRStm) := ⟨rfl, rfl, rfl, by decide +kernel, rfl, by decide +kernel, by decide +kernel⟩
theorem rep_len (n : Nat) : ((List.replicate n ("." : Str).cps.toList).flatten).length = n := by
  induction n with
  | zero => rfl
  | succ n ih => rw [List.replicate_succ, List.flatten_cons, List.length_append, ih]; show 1 + n = n + 1; omega
theorem overS_list (z u : Str) (p : Nat) : (overS z u p).cps.toList = z.cps.toList.take p ++ u.cps.toList ++ z.cps.toList.drop (p + u.cps.toList.length) := rfl
theorem app_list (a b : Str) : (a ++ b).cps.toList = a.cps.toList ++ b.cps.toList := Array.toList_append ..
theorem cut_both (o : Str) (a b : Nat) (h : a ≤ b) (hb : b ≤ o.length) : cutS o (some (a : Int)) (some (b : Int)) = ⟨((o.cps.toList.drop a).take (b - a)).toArray⟩ := by
  unfold cutS
  rw [HT.sIx_nat, HT.sIx_nat, Nat.min_eq_left hb, Nat.min_eq_left (by omega)]
theorem cut_hi (o : Str) (b : Nat) (hb : b ≤ o.length) : cutS o none (some (b : Int)) = ⟨(o.cps.toList.take b).toArray⟩ := by
  unfold cutS
  rw [HT.sIx_nat, HT.sIx_none, Nat.min_eq_left hb, List.drop_zero, Nat.sub_zero]
theorem cut_lo (o : Str) (a : Nat) (ha : a ≤ o.length) : cutS o (some (a : Int)) none = ⟨(o.cps.toList.drop a).toArray⟩ := by
  unfold cutS
  rw [HT.sIx_nat, HT.sIx_none, Nat.min_eq_left ha]
  rw [List.take_of_length_le (by rw [List.length_drop]; exact Nat.le_refl _)]
theorem win_str {z u e : Str} {place : Int} {pp : Nat} (eL : e.length = u.length) (hpp : place + (u.length : Int) = (pp : Int)) (p1 : -(u.length : Int) < place) (p2 : place < (z.length : Int)) :
    cutS (overS (e ++ z ++ e) u pp) (some (u.length : Int)) (some ((u.length : Int) + z.length)) = inkS 1 z u place := by
  have l1 : (e ++ z ++ e).length = e.length + z.length + e.length := (Array.size_append ..).trans (by rw [show (e ++ z).cps.size = e.length + z.length from Array.size_append ..]; rfl)
  have lo := overS_len (e ++ z ++ e) u pp (by omega)
  rw [show ((u.length : Int) + z.length) = ((u.length + z.length : Nat) : Int) by omega, cut_both _ _ _ (by omega) (by rw [lo, l1]; omega), overS_list, app_list, app_list]
  unfold inkS
  have w := ink_window (zs := z.cps.toList) (us := u.cps.toList) (es := e.cps.toList) (place := place) eL p1 p2
  rw [← w]
  have hq : (place + (u.cps.toList.length : Int)).toNat = pp := by
    have : (u.cps.toList.length : Int) = (u.length : Int) := rfl
    omega
  rw [hq]
  congr 1
  congr 1
  show List.take (u.length + z.length - u.length) _ = _
  rw [Nat.add_sub_cancel_left]
  rfl
theorem turn_len {z : Str} {q : Nat} (h : q ≤ z.length) : (cutS z (some (q : Int)) none ++ cutS z none (some (q : Int))).length = z.length := by
  rw [cut_lo _ _ h, cut_hi _ _ h]
  show (((z.cps.toList.drop q).toArray ++ (z.cps.toList.take q).toArray)).size = z.length
  rw [Array.size_append, List.size_toArray, List.size_toArray, List.length_drop, List.length_take, tl_len]
  omega
theorem ring_str {z u : Str} {q : Nat} (h1 : u.length ≤ z.length) (h2 : q < z.length) :
    cutS (overS (cutS z (some (q : Int)) none ++ cutS z none (some (q : Int))) u 0) (some ((z.length : Int) - q)) none ++ cutS (overS (cutS z (some (q : Int)) none ++ cutS z none (some (q : Int))) u 0) none (some ((z.length : Int) - q)) = inkS 2 z u (q : Int) := by
  have lt := turn_len (z := z) (q := q) (by omega)
  have lo := overS_len (cutS z (some (q : Int)) none ++ cutS z none (some (q : Int))) u 0 (by omega)
  have w := ink_ring (zs := z.cps.toList) (us := u.cps.toList) (p := q) h1 h2
  have oL : (overS (cutS z (some (q : Int)) none ++ cutS z none (some (q : Int))) u 0).cps.toList = u.cps.toList ++ (z.cps.toList.drop q ++ z.cps.toList.take q).drop u.cps.toList.length := by
    rw [overS_list, app_list, cut_lo _ _ (by omega), cut_hi _ _ (by omega), Nat.zero_add, List.take_zero, List.nil_append]
  generalize overS (cutS z (some (q : Int)) none ++ cutS z none (some (q : Int))) u 0 = o at lo oL
  rw [show ((z.length : Int) - q) = ((z.length - q : Nat) : Int) by omega, cut_lo _ _ (by rw [lo, lt]; omega), cut_hi _ _ (by rw [lo, lt]; omega), oL]
  unfold inkS
  rw [← w]
  show (⟨_ ++ _⟩ : Str) = _
  congr 1
  rw [List.append_toArray]
  rfl
theorem ok_wstm {f : Addr} {fd fdC fdO fdW : FuncData} (F : L2.Fun K "stamped" "Window.stamped" sWStm f fd) (CK : FnOk P w K mg base (L2.CX P w) 5 B.fCk fdC ["self", "strip", "word", "place"] (spCheck K T C B DSp DSg 1)) (bC : Binds K fdC ["self", "strip", "word", "place"] []) (FO : L2.Fun K "over" "over" sOver fOver fdO) (FW : L2.Fun K "words" "Stamps.words" sWords fWo fdW)
    (X : Txt K mg C fLow fText fAre fTape fNext fInks) (X2 : Txt2 K mg fStrip fOver) (O : Own K C) (hp : PropOf K C "words" pWo fWo) (BB : Bds K mg B) : FnOk P w K mg base (L2.CX P w) 7 f fd ["self", "strip", "word", "place"] (spStm K T C B DSp DSg 1) := by
  have OO : FnOk P w K mg base CX0 1 fOver fdO ["strip", "letters", "place"] spOver := ok_over FO X
  have bO : Binds K fdO ["strip", "letters", "place"] [] := FO.binds fun _ _ _ _ _ _ us hl => match us, hl with | [_, _, _], _ => rfl
  have WW : FnOk P w K mg base CX0 1 fWo fdW ["self"] (spWords C) := ok_words FW X O
  have bW : Binds K fdW ["self"] [] := FW.binds fun _ _ _ _ _ _ us hl => match us, hl with | [_], _ => rfl
  have k := BB.k 1 (by decide)
  refine F.okX scWStm (fun vs H Q E h => ?_) (fun cdv A outer s H vs Q E hr h => ?_)
  · obtain ⟨a, m, l, dm, H0, ws, W, x, word, place, rfl, _⟩ := h
    rfl
  · obtain ⟨a, m, l, dm, H0, ws, W, x, word, place, rfl, bd, st, g, hT, h⟩ := h
    obtain ⟨dx, pc, ha, _⟩ := id bd
    refine ⟨_, (pss_cons (ps_expr (pe_meth (pv 0) k.cls k.ck CK (hr.mono (by decide)) bC .nil (passes_call (E := E) (takes_of rfl rfl rfl rfl) (fun _ _ _ _ h => h)) (pa_cons (pv 1) (pa_cons (pv 2) (pa_cons (pv 3) pa_nil)))))
      (pss_cons (ps_set (i := 4) scWStm.nd rfl (.inl rfl) (pe_ix ix_seq (pe_propX (p := pWo) (pe_fld (pv 0) (by rfl)) WW (hr.mono (by decide)) bW .nil L2.pass0) (pv 2) fun _ _ => rfl))
      (pss_cons (ps_set (i := 5) scWStm.nd rfl (.inl rfl) (pe_callB call_len_str (by rfl) X.len boot_len (pa_cons (pv 4) pa_nil)))
      (pss_cons (ps_set (i := 6) scWStm.nd rfl (.inl rfl) (pe_op op_mulS pe_str (pv 5)))
      (pss_cons (ps_set (i := 7) scWStm.nd rfl (.inl rfl) (pe_call OO (hr.mono (by decide)) (by rfl) X2.gOver X2.kOver bO .nil L2.pass0 (pa_cons (pe_op op_add_str (pe_op op_add_str (pv 6) (pv 1)) (pv 6)) (pa_cons (pv 4) (pa_cons (pe_op op_add (pv 3) (pv 5)) pa_nil)))))
      (pss_one (ps_ret (pe_slice sl_str (pv 7) (po_some (pv 5)) (po_some (pe_op op_add (pv 5) (pe_callB call_len_str (by rfl) X.len boot_len (pa_cons (pv 1) pa_nil)))))))))))), ?_⟩
    refine ⟨_, rfl, a, dx, _, rfl, ha, rfl, _, rfl, _, rfl, _, rfl, a, m, l, dm, H0, ws, W, x, word, place, rfl, bd, st, g, hT, ?_⟩
    rcases h with ⟨z, rfl, hz, h⟩ | ⟨t, ht, hk, h⟩
    case inr => exact .inr ⟨t, ht, hk, h⟩
    refine .inl ⟨z, rfl, hz, fun H2 h2 => ?_⟩
    have hh := h H2 h2
    cases hs : stripB z (cellsN 1 : Nat) with
    | false =>
      unfold stmB at hh ⊢
      rw [hs, if_pos rfl] at hh ⊢
      exact hh
    | true =>
    cases hf : fitsB 1 ws.length W z.length word place with
    | false =>
      unfold stmB at hh ⊢
      rw [hs, if_neg (by decide), hf, if_neg (by decide)] at hh ⊢
      exact hh
    | true =>
    have zl : z.length ≤ sizeLine := Nat.le_trans hz (by decide)
    obtain ⟨w0, wn, sp⟩ := fits_word hf
    unfold spotB at sp
    simp only [Bool.and_eq_true, decide_eq_true_eq] at sp
    obtain ⟨p1, p2⟩ := sp
    have nk : NK H0 H H2 := nk_kep hT h2
    obtain ⟨dx2, pc2, ha2, _⟩ := bd.keep nk
    have st2 : Stp H2 C m l dm (ws.map V.str) := ⟨h2.at hT st.1 fun _ z => (by cases z), h2.at hT st.2 fun _ z => (by cases z)⟩
    obtain ⟨gl, _⟩ := g.get (i := word.toNat) (by omega)
    have w8 := g.w8
    unfold stmB at hh ⊢
    rw [hs, if_neg (by decide), hf, if_pos rfl] at hh ⊢
    have hh : Q (.str (inkS 1 z (ws.getD word.toNat Str.empty) place)) H2 := hh
    generalize hu : ws.getD word.toNat Str.empty = u at gl hh
    obtain ⟨z1, z2⟩ := strip_size hs
    refine ⟨_, rfl, a, _, dx2, _, _, rfl, ha2, k.cls, k.noS, rfl, m, C, dm, _, rfl, O.cls, hp, st2.1, m, l, dm, _, rfl, st2, fun p hp0 => ?_⟩
    generalize hG : upd H2 p _ = G
    have eG : G p = some (.lst (ws.map V.str)) := by rw [← hG]; exact upd_same
    refine ⟨_, rfl, .inl ⟨p, _, word, .str u, rfl, rfl, .inl (.inl eG), hu ▸ at_i w0 wn, ?_⟩⟩
    have uz : u.length ≤ sizeLine := by rw [gl, sizeLine_eq]; omega
    have c1 : cellsN 1 = 120 := rfl
    refine ⟨_, rfl, u, rfl, uz, _, rfl, "." , (u.length : Int), rfl, rfl, by omega, by omega, by decide, ?_⟩
    generalize he : (⟨(List.replicate ((u.length : Int)).toNat ("." : Str).cps.toList).flatten.toArray⟩ : Str) = e
    have eL : e.length = u.length := by
      rw [← he]
      show ((List.replicate ((u.length : Int)).toNat ("." : Str).cps.toList).flatten.toArray).size = _
      rw [List.size_toArray, rep_len]; omega
    have l1 : (e ++ z).length = e.length + z.length := Array.size_append ..
    have l2 : (e ++ z ++ e).length = e.length + z.length + e.length := (Array.size_append ..).trans (by rw [← l1]; rfl)
    obtain ⟨pp, hpp⟩ : ∃ pp : Nat, place + (u.length : Int) = (pp : Int) := ⟨(place + u.length).toNat, by omega⟩
    refine ⟨_, rfl, _, rfl, e, z, rfl, rfl, by rw [sizeLine_eq]; omega, _, rfl, e ++ z, e, rfl, rfl, by rw [l1, sizeLine_eq]; omega, _, rfl, _, rfl, _, rfl, _, _, rfl, rfl, e ++ z ++ e, u, pp, by rw [← hpp]; rfl, by omega, by omega, ?_⟩
    have lo := overS_len (e ++ z ++ e) u pp (by omega)
    generalize ho : overS (e ++ z ++ e) u pp = o at lo
    refine ⟨_, rfl, _, rfl, _, rfl, _, rfl, _, rfl, z, rfl, zl, _, _, rfl, rfl, _, rfl, o, rfl, by rw [lo, l2, sizeLine_eq]; omega, ?_⟩
    have kG : Kep T H G := by rw [← hG]; exact h2.trans (Kep.new h2.1 hp0)
    have hh := h G kG
    unfold stmB at hh
    rw [hs, if_neg (by decide), hf, if_pos rfl, hu, ← win_str eL hpp (by omega) p2, ho] at hh
    exact hh
theorem ok_rstm {f : Addr} {fd fdC fdO fdW : FuncData} (F : L2.Fun K "stamped" "Ring.stamped" sRStm f fd) (CK : FnOk P w K mg base (L2.CX P w) 5 B.fCk fdC ["self", "strip", "word", "place"] (spCheck K T C B DSp DSg 2)) (bC : Binds K fdC ["self", "strip", "word", "place"] []) (FO : L2.Fun K "over" "over" sOver fOver fdO) (FW : L2.Fun K "words" "Stamps.words" sWords fWo fdW)
    (X : Txt K mg C fLow fText fAre fTape fNext fInks) (X2 : Txt2 K mg fStrip fOver) (O : Own K C) (hp : PropOf K C "words" pWo fWo) (BB : Bds K mg B) : FnOk P w K mg base (L2.CX P w) 7 f fd ["self", "strip", "word", "place"] (spStm K T C B DSp DSg 2) := by
  have OO : FnOk P w K mg base CX0 1 fOver fdO ["strip", "letters", "place"] spOver := ok_over FO X
  have bO : Binds K fdO ["strip", "letters", "place"] [] := FO.binds fun _ _ _ _ _ _ us hl => match us, hl with | [_, _, _], _ => rfl
  have WW : FnOk P w K mg base CX0 1 fWo fdW ["self"] (spWords C) := ok_words FW X O
  have bW : Binds K fdW ["self"] [] := FW.binds fun _ _ _ _ _ _ us hl => match us, hl with | [_], _ => rfl
  have k := BB.k 2 (by decide)
  refine F.okX scRStm (fun vs H Q E h => ?_) (fun cdv A outer s H vs Q E hr h => ?_)
  · obtain ⟨a, m, l, dm, H0, ws, W, x, word, place, rfl, _⟩ := h
    rfl
  · obtain ⟨a, m, l, dm, H0, ws, W, x, word, place, rfl, bd, st, g, hT, h⟩ := h
    obtain ⟨dx, pc, ha, _⟩ := id bd
    refine ⟨_, (pss_cons (ps_expr (pe_meth (pv 0) k.cls k.ck CK (hr.mono (by decide)) bC .nil (passes_call (E := E) (takes_of rfl rfl rfl rfl) (fun _ _ _ _ h => h)) (pa_cons (pv 1) (pa_cons (pv 2) (pa_cons (pv 3) pa_nil)))))
      (pss_cons (ps_set (i := 4) scRStm.nd rfl (.inl rfl) (pe_call OO (hr.mono (by decide)) (by rfl) X2.gOver X2.kOver bO .nil L2.pass0 (pa_cons (pe_op op_add_str (pe_slice sl_str (pv 1) (po_some (pv 3)) po_none) (pe_slice sl_str (pv 1) po_none (po_some (pv 3)))) (pa_cons (pe_ix ix_seq (pe_propX (p := pWo) (pe_fld (pv 0) (by rfl)) WW (hr.mono (by decide)) bW .nil L2.pass0) (pv 2) fun _ _ => rfl) (pa_cons pe_int pa_nil)))))
      (pss_cons (ps_set (i := 5) scRStm.nd rfl (.inl rfl) (pe_op op_sub (pe_callB call_len_str (by rfl) X.len boot_len (pa_cons (pv 1) pa_nil)) (pv 3)))
      (pss_one (ps_ret (pe_op op_add_str (pe_slice sl_str (pv 4) (po_some (pv 5)) po_none) (pe_slice sl_str (pv 4) po_none (po_some (pv 5))))))))), ?_⟩
    refine ⟨_, rfl, a, dx, _, rfl, ha, rfl, _, rfl, _, rfl, _, rfl, a, m, l, dm, H0, ws, W, x, word, place, rfl, bd, st, g, hT, ?_⟩
    rcases h with ⟨z, rfl, hz, h⟩ | ⟨t, ht, hk, h⟩
    case inr => exact .inr ⟨t, ht, hk, h⟩
    refine .inl ⟨z, rfl, hz, fun H2 h2 => ?_⟩
    have hh := h H2 h2
    cases hs : stripB z (cellsN 2 : Nat) with
    | false =>
      unfold stmB at hh ⊢
      rw [hs, if_pos rfl] at hh ⊢
      exact hh
    | true =>
    cases hf : fitsB 2 ws.length W z.length word place with
    | false =>
      unfold stmB at hh ⊢
      rw [hs, if_neg (by decide), hf, if_neg (by decide)] at hh ⊢
      exact hh
    | true =>
    have zl : z.length ≤ sizeLine := Nat.le_trans hz (by decide)
    obtain ⟨w0, wn, sp⟩ := fits_word hf
    unfold spotB at sp
    simp only [Bool.and_eq_true, decide_eq_true_eq] at sp
    obtain ⟨p1, p2, p3⟩ := sp
    have nk : NK H0 H H2 := nk_kep hT h2
    obtain ⟨dx2, pc2, ha2, _⟩ := bd.keep nk
    have st2 : Stp H2 C m l dm (ws.map V.str) := ⟨h2.at hT st.1 fun _ z => (by cases z), h2.at hT st.2 fun _ z => (by cases z)⟩
    obtain ⟨gl, _⟩ := g.get (i := word.toNat) (by omega)
    have w8 := g.w8
    unfold stmB at hh ⊢
    rw [hs, if_neg (by decide), hf, if_pos rfl] at hh ⊢
    generalize hu : ws.getD word.toNat Str.empty = u at gl hh
    obtain ⟨z1, z2⟩ := strip_size hs
    have uz : u.length ≤ sizeLine := by rw [gl, sizeLine_eq]; omega
    have c2 : cellsN 2 = 60 := rfl
    obtain ⟨q, hq⟩ : ∃ q : Nat, place = (q : Int) := ⟨place.toNat, by omega⟩
    subst hq
    have l1 : (cutS z (some (q : Int)) none ++ cutS z none (some (q : Int))).length = z.length := turn_len (by omega)
    have l2 := cutS_length z (some (q : Int)) none
    have l3 := cutS_length z none (some (q : Int))
    refine ⟨_, rfl, _, rfl, _, rfl, z, rfl, zl, _, rfl, _, rfl, _, rfl, z, rfl, zl, _, _, rfl, rfl, by rw [sizeLine_eq]; omega, _, rfl, a, _, dx2, _, _, rfl, ha2, k.cls, k.noS, rfl, m, C, dm, _, rfl, O.cls, hp, st2.1, m, l, dm, _, rfl, st2, fun p hp0 => ?_⟩
    generalize hG : upd H2 p _ = G
    have eG : G p = some (.lst (ws.map V.str)) := by rw [← hG]; exact upd_same
    refine ⟨_, rfl, .inl ⟨p, _, word, .str u, rfl, rfl, .inl (.inl eG), hu ▸ at_i w0 wn, ?_⟩⟩
    refine ⟨_, u, 0, rfl, by omega, by omega, ?_⟩
    have lo := overS_len (cutS z (some (q : Int)) none ++ cutS z none (some (q : Int))) u 0 (by omega)
    generalize ho : overS (cutS z (some (q : Int)) none ++ cutS z none (some (q : Int))) u 0 = o at lo
    have l4 := cutS_length o (some ((z.length : Int) - q)) none
    have l5 := cutS_length o none (some ((z.length : Int) - q))
    refine ⟨_, rfl, z, rfl, zl, _, rfl, _, _, rfl, rfl, ?_⟩
    refine ⟨_, rfl, _, rfl, _, rfl, o, rfl, by rw [lo, l1]; exact zl, _, rfl, _, rfl, _, rfl, o, rfl, by rw [lo, l1]; exact zl, _, _, rfl, rfl, by rw [sizeLine_eq]; omega, ?_⟩
    have kG : Kep T H G := by rw [← hG]; exact h2.trans (Kep.new h2.1 hp0)
    have hh := h G kG
    unfold stmB at hh
    rw [hs, if_neg (by decide), hf, if_pos rfl, hu, ← ring_str (by omega) (by omega), ho] at hh
    exact hh
end
end Ov

set_option Elab.async false
set_option linter.all false
set_option maxRecDepth 100000
set_option maxHeartbeats 4000000
namespace Ov
open PySem PySem.Spec PyProof.Rows L2 GxR
def chV (c : Nat) : V := .str ⟨#[c]⟩
theorem join_ch (cs : List Nat) : Txt.join "" (cs.map fun c => (⟨#[c]⟩ : Str)) = ⟨cs.toArray⟩ := by
  have h := join_cps "" rfl (cs.map fun c => (⟨#[c]⟩ : Str))
  have e : ((cs.map fun c => (⟨#[c]⟩ : Str)).map fun z => z.cps.toList).flatten = cs := by
    rw [List.map_map]
    induction cs with
    | nil => rfl
    | cons c r ih =>
      rw [List.map_cons, List.flatten_cons, ih (by exact join_cps "" rfl _)]
      rfl
  rw [e] at h
  generalize Txt.join "" (cs.map fun c => (⟨#[c]⟩ : Str)) = z at h
  cases z
  simp at h
  simp [← h]
theorem sum_ch : ∀ cs : List Nat, ((cs.map fun c => (⟨#[c]⟩ : Str)).map (·.length)).sum = cs.length
  | [] => rfl
  | c :: r => by
    rw [List.map_cons, List.map_cons, List.sum_cons, sum_ch r, List.length_cons]
    show 1 + r.length = _
    omega
theorem emod_near {x n : Int} (h0 : -n ≤ x) (h1 : x < 2 * n) : x % n = if x < 0 then x + n else if x < n then x else x - n := by
  by_cases a : x < 0
  · rw [if_pos a]
    have : (x + n) % n = x + n := Int.emod_eq_of_lt (by omega) (by omega)
    rw [← this, Int.add_emod_right]
  · rw [if_neg a]
    by_cases b : x < n
    · rw [if_pos b]; exact Int.emod_eq_of_lt (by omega) b
    · rw [if_neg b]
      have : (x - n) % n = x - n := Int.emod_eq_of_lt (by omega) (by omega)
      rw [← this, Int.sub_emod_right]
/-- where the m-th letter falls -/
def spotAt (i n : Nat) (p : Int) (m : Nat) : Int := if i = 2 then (p + m) % (n : Int) else p + m
theorem spot_set {i n : Nat} {p : Int} {m : Nat} {W : Nat} (hs : spotB i W n p = true) (hm : m < W) (hW : i = 2 → W ≤ n) (h0 : 0 ≤ spotAt i n p m) (h1 : spotAt i n p m < (n : Int)) :
    ∀ k, k < n → (offI i n p k = (m : Int) ↔ k = (spotAt i n p m).toNat) := by
  intro k hk
  by_cases i2 : i = 2
  · subst i2
    unfold spotB at hs
    simp at hs
    unfold spotAt at h0 h1 ⊢
    rw [if_pos rfl] at h0 h1 ⊢
    rw [offI_ring]
    have := hW rfl
    rw [emod_near (x := p + m) (by omega) (by omega)] at h0 h1 ⊢
    rw [emod_near (x := (k : Int) - p) (by omega) (by omega)]
    (repeat' split) <;> omega
  · unfold spotAt at h0 h1 ⊢
    rw [if_neg i2] at h0 h1 ⊢
    rw [offI_row i2]
    omega
theorem spot_skip {i n : Nat} {p : Int} {m : Nat} (hn : 1 ≤ n) (h : ¬ (0 ≤ spotAt i n p m ∧ spotAt i n p m < (n : Int))) : ∀ k, k < n → offI i n p k ≠ (m : Int) := by
  intro k hk
  by_cases i2 : i = 2
  · subst i2
    exfalso
    unfold spotAt at h
    rw [if_pos rfl] at h
    exact h ⟨Int.emod_nonneg _ (by omega), Int.emod_lt_of_pos _ (by omega)⟩
  · unfold spotAt at h
    rw [if_neg i2] at h
    rw [offI_row i2]
    omega
theorem inkS_len {i : Nat} {z u : Str} {p : Int} : (inkS i z u p).length = z.length := by
  show (inkL i z.cps.toList u.cps.toList p).toArray.size = z.length
  rw [List.size_toArray]
  unfold inkL
  rw [inkM_len]
  exact tl_len z
theorem BdAt.rebase {B : BA} {H0 H1 H : Hp} {a m : Addr} {i : Nat} {ws : List Str} {W : Nat} (h : ∀ b, H1 b = none → H0 b = none) (p : BdAt B H1 H a i m ws W) : BdAt B H0 H a i m ws W := by
  obtain ⟨dx, pc, e, n, p⟩ := p
  exact ⟨dx, pc, e, h _ n, p.base h⟩
/-- a band of the i-th kind over ws at a, all that it holds made since H0 -/
def BdO (C : Addr) (B : BA) (H0 H : Hp) (a : Addr) (i : Nat) (ws : List Str) (W : Nat) : Prop := ∃ m l dm, BdAt B H0 H a i m ws W ∧ Stp H C m l dm (ws.map V.str) ∧ H0 m = none ∧ H0 l = none
theorem BdO.keep {C : Addr} {B : BA} {H0 H H2 : Hp} {a : Addr} {i : Nat} {ws : List Str} {W : Nat} (k : NK H0 H H2) (h : BdO C B H0 H a i ws W) : BdO C B H0 H2 a i ws W := by
  obtain ⟨m, l, dm, b, st, n1, n2⟩ := h
  exact ⟨m, l, dm, b.keep k, ⟨k m _ n1 (fun _ z => by cases z) st.1, k l _ n2 (fun _ z => by cases z) st.2⟩, n1, n2⟩
theorem BdO.rebase {C : Addr} {B : BA} {H0 H1 H : Hp} {a : Addr} {i : Nat} {ws : List Str} {W : Nat} (h : ∀ b, H1 b = none → H0 b = none) (p : BdO C B H1 H a i ws W) : BdO C B H0 H a i ws W := by
  obtain ⟨m, l, dm, b, st, n1, n2⟩ := p
  exact ⟨m, l, dm, b.rebase h, st, h _ n1, h _ n2⟩
theorem Kep.sameT {T : List Addr} {H H1 H2 : Hp} (k : Kep T H H1) (s : L2.Same H1 H2) : Kep T H H2 := ⟨fun p hp => by
  obtain ⟨ps, h1, h2⟩ := k.1 p hp
  exact ⟨ps, s _ _ h1, h2⟩, fun a o ha e => s _ _ (k.2 a o ha e)⟩
/-! ### strips that stampings leave -/
abbrev St2 := Int × Int
def pressF (i : Nat) (ws : List Str) (z : Str) (s : St2) : Str := inkS i z (ws.getD s.1.toNat Str.empty) s.2
def dotsN (n : Nat) : Str := ⟨(List.replicate n 46).toArray⟩
def stripF (i : Nat) (ws : List Str) (n : Nat) (held : List St2) : Str := held.foldl (pressF i ws) (dotsN n)
theorem stripF_snoc {i n : Nat} {ws : List Str} {held : List St2} {s : St2} : stripF i ws n (held ++ [s]) = pressF i ws (stripF i ws n held) s := by
  unfold stripF
  rw [List.foldl_append]
  rfl
theorem dotsN_len {n : Nat} : (dotsN n).length = n := by
  show (List.replicate n 46).toArray.size = n
  rw [List.size_toArray, List.length_replicate]
theorem foldF_len {i : Nat} {ws : List Str} : ∀ (held : List St2) (z : Str), (held.foldl (pressF i ws) z).length = z.length
  | [], _ => rfl
  | s :: r, z => by
    rw [List.foldl_cons, foldF_len r]
    exact inkS_len
theorem stripF_len {i n : Nat} {ws : List Str} {held : List St2} : (stripF i ws n held).length = n := by
  unfold stripF
  rw [foldF_len, dotsN_len]
theorem mem_inkM {i : Nat} {zs us : List Nat} {p : Int} {m c : Nat} (hm : m ≤ us.length) (h : c ∈ inkM i zs us p m) : c ∈ us ∨ c ∈ zs := by
  unfold inkM at h
  obtain ⟨j, hj, rfl⟩ := List.mem_map.mp h
  have hj := List.mem_range.mp hj
  split
  · next q =>
    have lt : (offI i zs.length p j).toNat < us.length := by omega
    left
    rw [List.getD_eq_getElem?_getD, List.getElem?_eq_getElem lt]
    exact List.getElem_mem lt
  · right
    rw [List.getD_eq_getElem?_getD, List.getElem?_eq_getElem hj]
    exact List.getElem_mem hj
theorem dots_all {z : Str} : dotsB z = true ↔ ∀ c ∈ z.cps.toList, (c == 46 || (decide (97 ≤ c) && decide (c ≤ 122))) = true := by
  unfold dotsB
  rw [List.all_eq_true]
theorem low_all {z : Str} (h : lowB z = true) : ∀ c ∈ z.cps.toList, (c == 46 || (decide (97 ≤ c) && decide (c ≤ 122))) = true := fun c hc => by
  have := List.all_eq_true.mp h c hc
  rw [this, Bool.or_true]
theorem dots_ink {i : Nat} {z u : Str} {p : Int} (hz : dotsB z = true) (hu : lowB u = true) : dotsB (inkS i z u p) = true := by
  rw [dots_all] at hz ⊢
  intro c hc
  rcases mem_inkM (Nat.le_refl _) (show c ∈ inkM i z.cps.toList u.cps.toList p u.cps.toList.length from hc) with q | q
  · exact low_all hu c q
  · exact hz c q
theorem getD_low {ws : List Str} {W : Nat} (g : Good ws W) (k : Nat) : lowB (ws.getD k Str.empty) = true := by
  by_cases h : k < ws.length
  · exact (g.get h).2
  · rw [List.getD_eq_getElem?_getD, List.getElem?_eq_none (by omega)]
    rfl
theorem foldF_dots {i : Nat} {ws : List Str} {W : Nat} (g : Good ws W) : ∀ (held : List St2) (z : Str), dotsB z = true → dotsB (held.foldl (pressF i ws) z) = true
  | [], _, h => h
  | s :: r, z, h => by
    rw [List.foldl_cons]
    exact foldF_dots g r _ (dots_ink h (getD_low g _))
theorem stripF_good {i n : Nat} {ws : List Str} {W : Nat} (g : Good ws W) (h1 : 1 ≤ n) (h2 : n ≤ cellsN i) (held : List St2) : stripB (stripF i ws n held) (cellsN i : Nat) = true := by
  unfold stripB
  rw [stripF_len]
  have : dotsB (stripF i ws n held) = true := foldF_dots g held _ (dots_all.mpr fun c hc => by
    have : c ∈ List.replicate n 46 := hc
    rw [List.eq_of_mem_replicate this]
    rfl)
  rw [this]
  simp
  omega
/-- the strips before, between and after -/
def stripsF (i : Nat) (ws : List Str) (n : Nat) (held : List St2) : List Str := (List.range (held.length + 1)).map fun k => stripF i ws n (held.take k)
theorem stripsF_len {i n : Nat} {ws : List Str} {held : List St2} : (stripsF i ws n held).length = held.length + 1 := by unfold stripsF; rw [List.length_map, List.length_range]
theorem stripsF_get {i n : Nat} {ws : List Str} {held : List St2} {k : Nat} (h : k ≤ held.length) : (stripsF i ws n held)[k]? = some (stripF i ws n (held.take k)) := by
  unfold stripsF
  rw [List.getElem?_map, List.getElem?_range (by omega)]
  rfl
theorem stripsF_nil {i n : Nat} {ws : List Str} : stripsF i ws n [] = [dotsN n] := rfl
theorem stripsF_snoc {i n : Nat} {ws : List Str} {held : List St2} {s : St2} : stripsF i ws n held ++ [stripF i ws n (held ++ [s])] = stripsF i ws n (held ++ [s]) := by
  refine List.ext_getElem? fun k => ?_
  by_cases h : k ≤ held.length
  · rw [List.getElem?_append_left (by rw [stripsF_len]; omega), stripsF_get h, stripsF_get (by rw [List.length_append]; omega), List.take_append_of_le_length h]
  · by_cases e : k = held.length + 1
    · subst e
      rw [List.getElem?_append_right (by rw [stripsF_len]; omega), stripsF_len, Nat.sub_self, stripsF_get (by rw [List.length_append]; exact Nat.le_refl _), List.take_of_length_le (by rw [List.length_append]; exact Nat.le_refl _)]
      rfl
    · rw [List.getElem?_eq_none (by rw [List.length_append, stripsF_len, List.length_singleton]; omega), List.getElem?_eq_none (by rw [stripsF_len, List.length_append, List.length_singleton]; omega)]
theorem stripsF_take {i n : Nat} {ws : List Str} {held : List St2} {k : Nat} (h : k ≤ held.length) : (stripsF i ws n held).take (k + 1) = stripsF i ws n (held.take k) := by
  refine List.ext_getElem? fun j => ?_
  have lk : (held.take k).length = k := by rw [List.length_take]; omega
  by_cases hj : j ≤ k
  · rw [List.getElem?_take_of_lt (by omega), stripsF_get (by omega), stripsF_get (by omega), List.take_take, Nat.min_eq_left hj]
  · rw [List.getElem?_eq_none (by rw [List.length_take]; omega), List.getElem?_eq_none (by rw [stripsF_len]; omega)]
/-- valid stampings -/
def FitsA (i : Nat) (ws : List Str) (W n : Nat) (held : List St2) : Prop := ∀ s ∈ held, fitsB i ws.length W (n : Nat) s.1 s.2 = true
theorem FitsA.take {i W n : Nat} {ws : List Str} {held : List St2} (h : FitsA i ws W n held) (k : Nat) : FitsA i ws W n (held.take k) := fun s hs => h s (List.mem_of_mem_take hs)
theorem FitsA.snoc {i W n : Nat} {ws : List Str} {held : List St2} {s : St2} (h : FitsA i ws W n held) (hs : fitsB i ws.length W (n : Nat) s.1 s.2 = true) : FitsA i ws W n (held ++ [s]) := fun x hx => by
  rcases List.mem_append.mp hx with q | q
  · exact h x q
  · rw [List.mem_singleton.mp q]; exact hs
/-! ### what stands: all but the tables and some objects -/
def Fr (T S : List Addr) (H H' : Hp) : Prop := (∀ P ∈ T, TabG H' P) ∧ ∀ b o, b ∉ T → b ∉ S → H b = some o → H' b = some o
theorem Fr.refl {T S : List Addr} {H : Hp} (h : ∀ p ∈ T, TabG H p) : Fr T S H H := ⟨h, fun _ _ _ _ e => e⟩
theorem Fr.trans {T S S1 S2 : List Addr} {H H1 H2 : Hp} (a : Fr T S1 H H1) (b : Fr T S2 H1 H2) (h1 : ∀ c ∈ S1, c ∈ S ∨ H c = none) (h2 : ∀ c ∈ S2, c ∈ S ∨ H c = none) : Fr T S H H2 := ⟨b.1, fun c o hc hn e => by
  have n : ∀ {S' : List Addr}, (∀ c ∈ S', c ∈ S ∨ H c = none) → c ∉ S' := fun h z => by
    rcases h c z with q | q
    · exact hn q
    · rw [e] at q; cases q
  exact b.2 c o hc (n h2) (a.2 c o hc (n h1) e)⟩
theorem Fr.tr {T S : List Addr} {H H1 H2 : Hp} (a : Fr T S H H1) (b : Fr T S H1 H2) : Fr T S H H2 := a.trans b (fun _ h => .inl h) (fun _ h => .inl h)
theorem Fr.mono {T S S2 : List Addr} {H H1 : Hp} (a : Fr T S H H1) (h : ∀ c ∈ S, c ∈ S2 ∨ H c = none) : Fr T S2 H H1 := ⟨a.1, fun c o hc hn e => a.2 c o hc (fun z => by
  rcases h c z with q | q
  · exact hn q
  · rw [e] at q; cases q) e⟩
theorem Kep.fr {T : List Addr} {S : List Addr} {H H1 : Hp} (k : Kep T H H1) : Fr T S H H1 := ⟨k.1, fun b o hb _ e => k.2 b o hb e⟩
theorem Fr.at {T S : List Addr} {H H1 : Hp} {b : Addr} {o : HO} (x : Fr T S H H1) (hT : ∀ p ∈ T, TabG H p) (hb : b ∉ S) (e : H b = some o) (n : ∀ ps, o ≠ .tbl ps) : H1 b = some o := x.2 b o (not_tab hT e n) hb e
theorem Same.fr {T S : List Addr} {H H1 : Hp} (s : L2.Same H H1) (hT : ∀ p ∈ T, TabG H p) : Fr T S H H1 := ⟨fun p hp => by
  obtain ⟨ps, h1, h2⟩ := hT p hp
  exact ⟨ps, s _ _ h1, h2⟩, fun b o _ _ e => s b o e⟩
theorem Fr.free {T S : List Addr} {H H1 : Hp} {p : Addr} (x : Fr T S H H1) (hT : ∀ p ∈ T, TabG H p) (hS : ∀ c ∈ S, H1 c ≠ none) (e : H1 p = none) : H p = none := by
  cases q : H p with
  | none => rfl
  | some o =>
    by_cases hb : p ∈ T
    · obtain ⟨ps, h1, _⟩ := x.1 p hb
      rw [h1] at e; cases e
    · rw [x.2 p o hb (fun z => hS p z e) q] at e; cases e
theorem Fr.put {T S : List Addr} {H H1 : Hp} {p : Addr} {o : HO} (x : Fr T S H H1) (hp : p ∈ S ∨ H p = none) (n : p ∉ T) : Fr T S H (upd H1 p o) := by
  refine ⟨fun q hq => ?_, fun b u hb hn hu => ?_⟩
  · obtain ⟨ps, h1, h2⟩ := x.1 q hq
    exact ⟨ps, (upd_ne fun z => n (by rw [← z]; exact hq)).trans h1, h2⟩
  · refine (upd_ne fun z => ?_).trans (x.2 b u hb hn hu)
    rcases hp with q | q
    · exact hn (z ▸ q)
    · rw [← z, hu] at q; cases q
theorem Fr.nk {T S : List Addr} {H0 H H1 : Hp} (x : Fr T S H H1) (hT : ∀ p ∈ T, TabG H p) (h : ∀ c ∈ S, H0 c ≠ none) : NK H0 H H1 := fun b o nb nt e => x.at hT (fun z => h b z nb) e nt
end Ov

set_option Elab.async false
set_option linter.all false
set_option maxRecDepth 100000
set_option maxHeartbeats 4000000
namespace Ov
open PySem PySem.Spec PyProof.Rows L2 GxR
abbrev sIsInt : Stmt := top 17
abbrev sPpI : Stmt := inClass (top 39) 0
abbrev sPpSh : Stmt := inClass (top 39) 1
abbrev sPpSt : Stmt := inClass (top 39) 2
abbrev sPpLn : Stmt := inClass (top 39) 3
abbrev sPpPr : Stmt := inClass (top 39) 4
theorem rep_dots (n : Nat) : (⟨(List.replicate ((n : Nat) : Int).toNat ("." : Str).cps.toList).flatten.toArray⟩ : Str) = dotsN n := by
  have e : (List.replicate n ("." : Str).cps.toList).flatten = List.replicate n 46 := by
    induction n with
    | zero => rfl
    | succ n ih => rw [List.replicate_succ, List.flatten_cons, ih]; rfl
  rw [Int.toNat_natCast, e]
  rfl
/-! ### papers -/
structure PA where
  pp : Addr
  dx : Addr
  bd : Addr
  lp : Addr
  ls : Addr
  lm : Addr
def PA.foot (x : PA) : List Addr := [x.pp, x.lp, x.ls, x.lm]
/-- where the class and its defs stand -/
structure PpA where
  c : Addr
  fI : Addr
  pSh : Addr
  gSh : Addr
  pSt : Addr
  gSt : Addr
  fLn : Addr
  fPr : Addr
  fInt : Addr
structure PpK (K : PySem.W.Frag) (mg : Str → Option Value) (A : PpA) : Prop where
  g : mg "Paper" = some (.ref A.c)
  mak : Mk K A.c A.fI
  cls : Cls K A.c
  nB : NoAttr K A.c "_band"
  nZ : NoAttr K A.c "_size"
  nP : NoAttr K A.c "_pressed"
  nS : NoAttr K A.c "_strips"
  nM : NoAttr K A.c "_marks"
  sh : PropOf K A.c "shown" A.pSh A.gSh
  st : PropOf K A.c "stampings" A.pSt A.gSt
  ln : LenO K A.c A.fLn
  pr : Meth K A.c "press" A.fPr
  gI : mg "is_integer" = some (.ref A.fInt)
  kI : PySem.W.keepIn K (.ref A.fInt) = true
  int : mg "int" = none
  bool : mg "bool" = none
def tupO (s : St2) : Option HO := some (.tup [.int s.1, .int s.2])
def TupsA (H : Hp) (tps : List Addr) (held : List St2) : Prop := tps.map H = held.map tupO
theorem TupsA.len {H : Hp} {tps : List Addr} {held : List St2} (h : TupsA H tps held) : tps.length = held.length := by
  have := congrArg List.length h
  rwa [List.length_map, List.length_map] at this
theorem TupsA.get {H : Hp} {tps : List Addr} {held : List St2} (h : TupsA H tps held) {k : Nat} {a : Addr} (e : tps[k]? = some a) : ∃ s, held[k]? = some s ∧ H a = tupO s := by
  have : (tps.map H)[k]? = (held.map tupO)[k]? := by rw [h]
  rw [List.getElem?_map, List.getElem?_map, e] at this
  obtain ⟨s, hs, e2⟩ := Option.map_eq_some_iff.mp this.symm
  exact ⟨s, hs, e2.symm⟩
theorem TupsA.mem {H : Hp} {tps : List Addr} {held : List St2} (h : TupsA H tps held) {a : Addr} (ha : a ∈ tps) : ∃ s, s ∈ held ∧ H a = tupO s := by
  have : H a ∈ held.map tupO := by
    rw [← h]
    exact List.mem_map.mpr ⟨a, ha, rfl⟩
  obtain ⟨s, hs, e⟩ := List.mem_map.mp this
  exact ⟨s, hs, e.symm⟩
theorem TupsA.keep {H H2 : Hp} {tps : List Addr} {held : List St2} (h : TupsA H tps held) (k : ∀ a xs, H a = some (.tup xs) → H2 a = some (.tup xs)) : TupsA H2 tps held := by
  unfold TupsA at h ⊢
  rw [← h]
  refine List.map_congr_left fun a ha => ?_
  obtain ⟨s, _, e⟩ := TupsA.mem h ha
  rw [e]
  exact k a _ e
theorem TupsA.take {H : Hp} {tps : List Addr} {held : List St2} (h : TupsA H tps held) (k : Nat) : TupsA H (tps.take k) (held.take k) := by
  unfold TupsA at h ⊢
  rw [List.map_take, List.map_take, h]
theorem TupsA.snoc {H : Hp} {tps : List Addr} {held : List St2} {a : Addr} {s : St2} (h : TupsA H tps held) (e : H a = tupO s) : TupsA H (tps ++ [a]) (held ++ [s]) := by
  unfold TupsA at h ⊢
  rw [List.map_append, List.map_append, h]
  show _ ++ [H a] = _ ++ [tupO s]
  rw [e]
theorem TupsA.nil {H : Hp} : TupsA H [] [] := rfl
abbrev fl1 (bd : Addr) : List (Str × V) := [("_band", .ref bd)]
abbrev fl2 (bd : Addr) (n : Nat) : List (Str × V) := [("_band", .ref bd), ("_size", .int (n : Nat))]
abbrev fl3 (bd : Addr) (n : Nat) (lp : Addr) : List (Str × V) := [("_band", .ref bd), ("_size", .int (n : Nat)), ("_pressed", .ref lp)]
abbrev fl4 (bd : Addr) (n : Nat) (lp ls : Addr) : List (Str × V) := [("_band", .ref bd), ("_size", .int (n : Nat)), ("_pressed", .ref lp), ("_strips", .ref ls)]
abbrev fl5 (bd : Addr) (n : Nat) (lp ls lm : Addr) : List (Str × V) := [("_band", .ref bd), ("_size", .int (n : Nat)), ("_pressed", .ref lp), ("_strips", .ref ls), ("_marks", .ref lm)]
/-- a paper stands at x -/
structure Pap (A : PpA) (C : Addr) (B : BA) (H0 H : Hp) (x : PA) (i n : Nat) (ws : List Str) (W : Nat) (held : List St2) (marks : List Int) : Prop where
  ins : H x.pp = some (.ins A.c x.dx (fl5 x.bd n x.lp x.ls x.lm))
  prs : ∃ tps : List Addr, H x.lp = some (.lst (tps.map V.ref)) ∧ TupsA H tps held
  str : H x.ls = some (.lst ((stripsF i ws n held).map V.str))
  mks : H x.lm = some (.lst (marks.map V.int))
  bnd : BdO C B H0 H x.bd i ws W
  fit : FitsA i ws W n held
  h0 : ∀ b ∈ x.foot, H0 b ≠ none
  n1 : 1 ≤ n
  n2 : n ≤ cellsN i
  i3 : i < 3
  dps : x.lp ≠ x.ls
  dpm : x.lp ≠ x.lm
  dsm : x.ls ≠ x.lm
section
variable {A : PpA} {C : Addr} {B : BA} {T S : List Addr} {H0 H H2 : Hp} {x : PA} {i n : Nat} {ws : List Str} {W : Nat} {held : List St2} {marks : List Int}
theorem Pap.has (p : Pap A C B H0 H x i n ws W held marks) : ∀ b ∈ x.foot, ∃ o, H b = some o ∧ (∀ ps, o ≠ .tbl ps) ∧ ∀ xs, o ≠ .tup xs := by
  obtain ⟨tps, e, _⟩ := p.prs
  intro b hb
  unfold PA.foot at hb
  simp only [List.mem_cons, List.not_mem_nil, or_false] at hb
  rcases hb with rfl | rfl | rfl | rfl
  · exact ⟨_, p.ins, (fun _ z => by cases z), (fun _ z => by cases z)⟩
  · exact ⟨_, e, (fun _ z => by cases z), (fun _ z => by cases z)⟩
  · exact ⟨_, p.str, (fun _ z => by cases z), (fun _ z => by cases z)⟩
  · exact ⟨_, p.mks, (fun _ z => by cases z), (fun _ z => by cases z)⟩
theorem Pap.nT (p : Pap A C B H0 H x i n ws W held marks) (hT : ∀ p ∈ T, TabG H p) : ∀ b ∈ x.foot, b ∉ T := fun b hb => by
  obtain ⟨o, e, n, _⟩ := p.has b hb
  exact not_tab hT e n
/-- what does not touch a paper leaves it as it is -/
theorem Pap.keep (p : Pap A C B H0 H x i n ws W held marks) (hT : ∀ p ∈ T, TabG H p) (f : Fr T S H H2) (hf : ∀ b ∈ x.foot, b ∉ S) (h0 : ∀ c ∈ S, H0 c ≠ none) (ht : ∀ c ∈ S, ∀ xs, H c ≠ some (.tup xs)) : Pap A C B H0 H2 x i n ws W held marks := by
  have k : ∀ b ∈ x.foot, ∀ o, H b = some o → H2 b = some o := fun b hb o e => f.2 b o (p.nT hT b hb) (hf b hb) e
  have m1 : x.pp ∈ x.foot := by unfold PA.foot; simp
  have m2 : x.lp ∈ x.foot := by unfold PA.foot; simp
  have m3 : x.ls ∈ x.foot := by unfold PA.foot; simp
  have m4 : x.lm ∈ x.foot := by unfold PA.foot; simp
  obtain ⟨tps, e, t⟩ := p.prs
  exact ⟨k _ m1 _ p.ins, ⟨tps, k _ m2 _ e, t.keep fun a xs ea => f.at hT (fun z => ht a z xs ea) ea fun _ z => by cases z⟩, k _ m3 _ p.str, k _ m4 _ p.mks, p.bnd.keep (f.nk hT h0), p.fit, p.h0, p.n1, p.n2, p.i3, p.dps, p.dpm, p.dsm⟩
theorem Pap.same (p : Pap A C B H0 H x i n ws W held marks) (s : L2.Same H H2) : Pap A C B H0 H2 x i n ws W held marks := by
  obtain ⟨tps, e, t⟩ := p.prs
  exact ⟨s _ _ p.ins, ⟨tps, s _ _ e, t.keep fun a xs ea => s _ _ ea⟩, s _ _ p.str, s _ _ p.mks, p.bnd.keep fun b o _ _ e => s _ _ e, p.fit, p.h0, p.n1, p.n2, p.i3, p.dps, p.dpm, p.dsm⟩
theorem Pap.kep (p : Pap A C B H0 H x i n ws W held marks) (hT : ∀ p ∈ T, TabG H p) (f : Kep T H H2) : Pap A C B H0 H2 x i n ws W held marks :=
  p.keep hT (S := []) f.fr (fun _ _ z => by simp at z) (fun _ z => by simp at z) (fun _ z => by simp at z)
end
section
variable {P : Program} {w : World} {K : PySem.W.Frag} {mg : Str → Option Value} {base : Heap} {T : List Addr} {C D fLow fText fAre fTape fNext fInks fInit cLow PLow cAre PAre DSp DSg DNum : Addr} {B : BA} {A : PpA}
/-! ### is_integer -/
def spIsInt : Sp := fun vs H Q _ => ∃ k : Int, vs = [.int k] ∧ Q (.bl true) H
theorem scIsInt : FnScope ["thing"] ["thing"] (defScope sIsInt) := ⟨rfl, rfl, rfl, by decide +kernel, rfl, by decide +kernel, by decide +kernel⟩
theorem ok_isint {f : Addr} {fd : FuncData} (F : L2.Fun K "is_integer" "is_integer" sIsInt f fd) (X : Txt K mg C fLow fText fAre fTape fNext fInks) (Y : PpK K mg A) : FnOk P w K mg base CX0 1 f fd ["thing"] spIsInt := by
  refine F.ok scIsInt (fun vs H Q E h => ?_) (fun cdv A' outer s H vs Q E hr h => ?_)
  · obtain ⟨k, rfl, _⟩ := h
    rfl
  · obtain ⟨k, rfl, q⟩ := h
    refine ⟨_, (pss_one (ps_ret (pe_and (pe_callB call_isi (by rfl) X.isi boot_isinstance (pa_cons (pv 0) (pa_cons (pe_bltn (v := .ty "int") (by rfl) Y.int PySem.Pv.boot_int rfl) pa_nil))) (pe_one (pe_not (pe_callB call_isi (by rfl) X.isi boot_isinstance (pa_cons (pv 0) (pa_cons (pe_bltn (v := .ty "bool") (by rfl) Y.bool (by decide +kernel) rfl) pa_nil)))))))), ?_⟩
    refine ⟨_, rfl, _, _, _, _, _, rfl, .ty _, .base (.int _), kit_ty (r := true) (by decide +kernel), true, rfl, iteT ?_⟩
    exact ⟨_, rfl, _, _, _, _, _, rfl, .ty _, .base (.int _), kit_ty (r := false) (by decide +kernel), false, rfl, q⟩
/-! ### Paper.__init__ -/
def spPpI (A : PpA) (C : Addr) (B : BA) (DNum : Addr) : Sp := fun vs H Q E => ∃ (a dx bd : Addr) (H0 : Hp) (i n : Nat) (ws : List Str) (W : Nat), vs = [.ref a, .ref bd, .int (n : Nat)] ∧ H a = some (.ins A.c dx []) ∧ BdO C B H0 H bd i ws W ∧ i < 3 ∧ 1 ≤ n ∧ n ≤ cellsN i ∧ H0 a ≠ none ∧ (∀ b, H b = none → H0 b ≠ none) ∧
  ∀ lp ls lm H3, Pap A C B H0 H3 ⟨a, dx, bd, lp, ls, lm⟩ i n ws W [] [] → H lp = none → H ls = none → H lm = none → (∀ b o, b ≠ a → H b = some o → H3 b = some o) → Q .non H3
theorem scPpI : FnScope ["self", "band", "size"] ["self", "band", "size"] (defScope sPpI) := ⟨rfl, rfl, rfl, by decide +kernel, rfl, by decide +kernel, by decide +kernel⟩
theorem ok_ppi {f : Addr} {fd fdI : FuncData} (F : L2.Fun K "__init__" "Paper.__init__" sPpI f fd) (FI : L2.Fun K "is_integer" "is_integer" sIsInt A.fInt fdI) (X : Txt K mg C fLow fText fAre fTape fNext fInks) (Y : PpK K mg A) (BB : Bds K mg B) (E1 : ErrC K mg "InvalidNumber" DNum) :
    FnOk P w K mg base (L2.CX P w) 2 f fd ["self", "band", "size"] (spPpI A C B DNum) := by
  have II : FnOk P w K mg base CX0 1 A.fInt fdI ["thing"] spIsInt := ok_isint FI X Y
  have bI : Binds K fdI ["thing"] [] := FI.binds fun _ _ _ _ _ _ us hl => match us, hl with | [_], _ => rfl
  refine F.okX scPpI (fun vs H Q E h => ?_) (fun cdv A' outer s H vs Q E hr h => ?_)
  · obtain ⟨a, dx, bd, H0, i, n, ws, W, rfl, _⟩ := h
    rfl
  · obtain ⟨a, dx, bd, H0, i, n, ws, W, rfl, ha, bo, hi, n1, n2, ha0, hH0, q⟩ := h
    have k := BB.k i (by omega)
    obtain ⟨tc, hc⟩ := k.cells
    obtain ⟨m, l, dm, bd', st, m0, l0⟩ := id bo
    obtain ⟨db, pc, hb, b0, _⟩ := id bd'
    refine ⟨_, (pss_cons (ps_if ((pw_or (pt_not (pt_val (pe_call II (hr.mono (by decide)) (by rfl) Y.gI Y.kI bI .nil L2.pass0 (pa_cons (pv 2) pa_nil)))) (pw_or1 (pt_not (pt_chain op_le op_le pe_int (pv 2) (pe_con (pv 1) (by rfl)))))).pt) (pss_one (ps_raise rfl (takes_of rfl rfl rfl rfl) (pmk_own PySem.F.excBase_ValueError E1.e E1.g E1.k (raises_own E1.b E1.t) (by rfl)))) pss_nil)
      (pss_cons (ps_fld (pv 0) (pv 1) (by rfl))
      (pss_cons (ps_fld (pv 0) (pv 2) (by rfl))
      (pss_cons (ps_fld (pv 0) (pe_lst pa_nil) (by rfl))
      (pss_cons (ps_fld (pv 0) (pe_lst (pa_cons (pe_op op_mulS pe_str (pv 2)) pa_nil)) (by rfl))
      (pss_one (ps_fld (pv 0) (pe_lst pa_nil) (by rfl)))))))), ?_⟩
    refine ⟨_, rfl, n, rfl, _, rfl, iteF ?_⟩
    have c60 : cellsN i ≤ 120 := by unfold cellsN; split <;> omega
    refine ⟨_, rfl, _, _, rfl, rfl, _, rfl, iteT' (decide_eq_true (by omega)) ⟨_, rfl, bd, _, db, _, _, _, rfl, hb, k.cls, hc, rfl, _, _, rfl, rfl, _, rfl, iteF' (by simp; omega) ?_⟩⟩
    have ne : ∀ {p : Addr} {G : Hp} {o : HO}, G p = none → (∀ b u, b ≠ a → H b = some u → G b = some u) → ∀ b u, b ≠ a → H b = some u → upd G p o b = some u := fun hp g b u nb e => (upd_ne (ne_of_none (g b u nb e) hp)).trans (g b u nb e)
    have pt : ∀ {G : Hp} {o : HO}, (∀ b u, b ≠ a → H b = some u → G b = some u) → ∀ b u, b ≠ a → H b = some u → upd G a o b = some u := fun g b u nb e => (upd_ne nb).trans (g b u nb e)
    -- the first two fields
    have g0 : ∀ b u, b ≠ a → H b = some u → H b = some u := fun _ _ _ e => e
    refine ⟨_, rfl, _, rfl, a, A.c, dx, [], rfl, ha, Y.cls, Y.nB, by decide, ?_⟩
    have g1 := pt (o := .ins A.c dx (fl1 bd)) g0
    have a1 : upd H a (.ins A.c dx (fl1 bd)) a = some (.ins A.c dx (fl1 bd)) := upd_same
    rw [show putF ("_band" : Str) (V.ref bd) [] = fl1 bd from rfl]
    generalize upd H a (.ins A.c dx (fl1 bd)) = H1 at g1 a1 ⊢
    refine ⟨_, rfl, _, rfl, a, A.c, dx, _, rfl, a1, Y.cls, Y.nZ, (show 1 < 1000 by decide), ?_⟩
    have g2 := pt (o := .ins A.c dx (fl2 bd n)) g1
    have a2 : upd H1 a (.ins A.c dx (fl2 bd n)) a = some (.ins A.c dx (fl2 bd n)) := upd_same
    rw [show putF ("_size" : Str) (V.int (n : Nat)) (fl1 bd) = fl2 bd n from rfl]
    generalize upd H1 a (.ins A.c dx (fl2 bd n)) = H2 at g2 a2 ⊢
    -- the list of the stampings
    refine ⟨(by decide : 0 ≤ sizeLine), fun lp hlp => ⟨_, rfl, a, A.c, dx, _, rfl, (upd_ne (ne_of_none a2 hlp)).trans a2, Y.cls, Y.nP, (show 2 < 1000 by decide), ?_⟩⟩
    have lpa : lp ≠ a := (ne_of_none a2 hlp).symm
    have lpn : H lp = none := by
      cases e : H lp with
      | none => rfl
      | some u => rw [g2 lp u lpa e] at hlp; cases hlp
    have g3 := pt (o := .ins A.c dx (fl3 bd n lp)) (ne (o := .lst []) hlp g2)
    have p3 : upd (upd H2 lp (.lst [])) a (.ins A.c dx (fl3 bd n lp)) lp = some (.lst []) := (upd_ne lpa).trans upd_same
    have a3 : upd (upd H2 lp (.lst [])) a (.ins A.c dx (fl3 bd n lp)) a = some (.ins A.c dx (fl3 bd n lp)) := upd_same
    rw [show putF ("_pressed" : Str) (V.ref lp) (fl2 bd n) = fl3 bd n lp from rfl]
    generalize upd (upd H2 lp (.lst [])) a (.ins A.c dx (fl3 bd n lp)) = H3 at g3 a3 p3 ⊢
    -- the list of the strips
    refine ⟨_, rfl, _, _, rfl, rfl, by omega, by omega, by decide, (by decide : 1 ≤ sizeLine), fun ls hls => ⟨_, rfl, a, A.c, dx, _, rfl, (upd_ne (ne_of_none a3 hls)).trans a3, Y.cls, Y.nS, (show 3 < 1000 by decide), ?_⟩⟩
    have lsa : ls ≠ a := (ne_of_none a3 hls).symm
    have lsl : lp ≠ ls := ne_of_none p3 hls
    have lsn : H ls = none := by
      cases e : H ls with
      | none => rfl
      | some u => rw [g3 ls u lsa e] at hls; cases hls
    have ed : (⟨(List.replicate ((n : Nat) : Int).toNat ("." : Str).cps.toList).flatten.toArray⟩ : Str) = dotsN n := rep_dots n
    rw [ed]
    have g4 := pt (o := .ins A.c dx (fl4 bd n lp ls)) (ne (o := .lst [.str (dotsN n)]) hls g3)
    have p4 : upd (upd H3 ls (.lst [.str (dotsN n)])) a (.ins A.c dx (fl4 bd n lp ls)) lp = some (.lst []) := (upd_ne lpa).trans ((upd_ne lsl).trans p3)
    have q4 : upd (upd H3 ls (.lst [.str (dotsN n)])) a (.ins A.c dx (fl4 bd n lp ls)) ls = some (.lst [.str (dotsN n)]) := (upd_ne lsa).trans upd_same
    have a4 : upd (upd H3 ls (.lst [.str (dotsN n)])) a (.ins A.c dx (fl4 bd n lp ls)) a = some (.ins A.c dx (fl4 bd n lp ls)) := upd_same
    rw [show putF ("_strips" : Str) (V.ref ls) (fl3 bd n lp) = fl4 bd n lp ls from rfl]
    generalize upd (upd H3 ls (.lst [.str (dotsN n)])) a (.ins A.c dx (fl4 bd n lp ls)) = H4 at g4 a4 p4 q4 ⊢
    -- the list of the marks
    refine ⟨(by decide : 0 ≤ sizeLine), fun lm hlm => ⟨_, rfl, a, A.c, dx, _, rfl, (upd_ne (ne_of_none a4 hlm)).trans a4, Y.cls, Y.nM, (show 4 < 1000 by decide), ?_⟩⟩
    have lma : lm ≠ a := (ne_of_none a4 hlm).symm
    have lml : lp ≠ lm := ne_of_none p4 hlm
    have lms : ls ≠ lm := ne_of_none q4 hlm
    have lmn : H lm = none := by
      cases e : H lm with
      | none => rfl
      | some u => rw [g4 lm u lma e] at hlm; cases hlm
    have g5 := pt (o := .ins A.c dx (fl5 bd n lp ls lm)) (ne (o := .lst []) hlm g4)
    rw [show putF ("_marks" : Str) (V.ref lm) (fl4 bd n lp ls) = fl5 bd n lp ls lm from rfl]
    have nk : NK H0 H (upd (upd H4 lm (.lst [])) a (.ins A.c dx (fl5 bd n lp ls lm))) := fun b o nb _ e => g5 b o (fun z => ha0 (z ▸ nb)) e
    refine q lp ls lm _ ⟨upd_same, ⟨[], (upd_ne lpa).trans ((upd_ne lml).trans p4), .nil⟩, (upd_ne lsa).trans ((upd_ne lms).trans q4), (upd_ne lma).trans upd_same, bo.keep nk, fun s hs => by simp at hs, fun b hb => ?_, n1, n2, hi, lsl, lml, lms⟩ lpn lsn lmn g5
    unfold PA.foot at hb
    simp only [List.mem_cons, List.not_mem_nil, or_false] at hb
    rcases hb with rfl | rfl | rfl | rfl
    · exact ha0
    · exact hH0 _ lpn
    · exact hH0 _ lsn
    · exact hH0 _ lmn
/-! ### shown, stampings, len -/
abbrev PapE (A : PpA) (C : Addr) (B : BA) (H : Hp) (x : PA) (held : List St2) (i n : Nat) (ws : List Str) : Prop := ∃ (H0 : Hp) (W : Nat) (marks : List Int), Pap A C B H0 H x i n ws W held marks
def spShown (A : PpA) (C : Addr) (B : BA) : Sp := fun vs H Q _ => ∃ (x : PA) (i n : Nat) (ws : List Str) (held : List St2), vs = [.ref x.pp] ∧ PapE A C B H x held i n ws ∧ Q (.str (stripF i ws n held)) H
theorem scPpSh : FnScope ["self"] ["self"] (defScope sPpSh) := ⟨rfl, rfl, rfl, by decide +kernel, rfl, by decide +kernel, by decide +kernel⟩
theorem strips_last {i n : Nat} {ws : List Str} {held : List St2} : atI ((stripsF i ws n held).map V.str) (-1) = some (.str (stripF i ws n held)) := by
  have h := stripsF_get (i := i) (ws := ws) (n := n) (k := held.length) (held := held) (Nat.le_refl _)
  rw [List.take_of_length_le (Nat.le_refl _)] at h
  have l : ((stripsF i ws n held).map V.str).length = held.length + 1 := by rw [List.length_map, stripsF_len]
  unfold atI ixN
  rw [l, if_neg (by decide), if_pos (by omega)]
  show ((stripsF i ws n held).map V.str)[(-1 + ((held.length + 1 : Nat) : Int)).toNat]? = _
  rw [show (-1 + ((held.length + 1 : Nat) : Int)).toNat = held.length by omega, List.getElem?_map, h]
  rfl
theorem ok_shown {f : Addr} {fd : FuncData} (F : L2.Fun K "shown" "Paper.shown" sPpSh f fd) (Y : PpK K mg A) : FnOk P w K mg base CX0 1 f fd ["self"] (spShown A C B) := by
  refine F.ok scPpSh (fun vs H Q E h => ?_) (fun cdv A' outer s H vs Q E hr h => ?_)
  · obtain ⟨x, i, n, ws, held, rfl, _⟩ := h
    rfl
  · obtain ⟨x, i, n, ws, held, rfl, ⟨H0, W, marks, p⟩, q⟩ := h
    refine ⟨_, (pss_one (ps_ret (pe_ix ix_seq (pe_fld (pv 0) (by rfl)) (pe_un un_neg pe_int) fun _ _ => rfl))), ?_⟩
    exact ⟨_, rfl, _, _, _, _, _, rfl, p.ins, Y.cls, Y.nS, rfl, 1, rfl, .inl ⟨x.ls, _, -1, _, rfl, rfl, .inl (.inl p.str), strips_last, q⟩⟩
def spStps (A : PpA) (C : Addr) (B : BA) : Sp := fun vs H Q _ => ∃ (x : PA) (i n : Nat) (ws : List Str) (held : List St2), vs = [.ref x.pp] ∧ PapE A C B H x held i n ws ∧ ∀ p tps, H p = none → TupsA H tps held → Q (.ref p) (upd H p (.lst (tps.map V.ref)))
theorem ok_stps {f : Addr} {fd : FuncData} (F : L2.Fun K "stampings" "Paper.stampings" sPpSt f fd) (X : Txt K mg C fLow fText fAre fTape fNext fInks) (Y : PpK K mg A) : FnOk P w K mg base CX0 1 f fd ["self"] (spStps A C B) := by
  refine F.ok (show FnScope ["self"] ["self"] (defScope sPpSt) from ⟨rfl, rfl, rfl, by decide +kernel, rfl, by decide +kernel, by decide +kernel⟩) (fun vs H Q E h => ?_) (fun cdv A' outer s H vs Q E hr h => ?_)
  · obtain ⟨x, i, n, ws, held, rfl, _⟩ := h
    rfl
  · obtain ⟨x, i, n, ws, held, rfl, ⟨H0, W, marks, p⟩, q⟩ := h
    obtain ⟨tps, e, t⟩ := p.prs
    refine ⟨_, (pss_one (ps_ret (pe_callTy call_list_of (by rfl) X.lst (by decide +kernel) (pa_cons (pe_fld (pv 0) (by rfl)) pa_nil)))), ?_⟩
    exact ⟨_, rfl, _, _, _, _, _, rfl, p.ins, Y.cls, Y.nP, rfl, x.lp, _, rfl, .inl (.inl (.inl e)), fun l hl => q l tps hl t⟩
def spPLn (A : PpA) (C : Addr) (B : BA) : Sp := fun vs H Q _ => ∃ (x : PA) (i n : Nat) (ws : List Str) (held : List St2), vs = [.ref x.pp] ∧ PapE A C B H x held i n ws ∧ Q (.int (held.length : Nat)) H
theorem ok_pln {f : Addr} {fd : FuncData} (F : L2.Fun K "__len__" "Paper.__len__" sPpLn f fd) (X : Txt K mg C fLow fText fAre fTape fNext fInks) (Y : PpK K mg A) : FnOk P w K mg base CX0 1 f fd ["self"] (spPLn A C B) := by
  refine F.ok (show FnScope ["self"] ["self"] (defScope sPpLn) from ⟨rfl, rfl, rfl, by decide +kernel, rfl, by decide +kernel, by decide +kernel⟩) (fun vs H Q E h => ?_) (fun cdv A' outer s H vs Q E hr h => ?_)
  · obtain ⟨x, i, n, ws, held, rfl, _⟩ := h
    rfl
  · obtain ⟨x, i, n, ws, held, rfl, ⟨H0, W, marks, p⟩, q⟩ := h
    obtain ⟨tps, e, t⟩ := p.prs
    refine ⟨_, (pss_one (ps_ret (pe_callB call_len_seq (by rfl) X.len boot_len (pa_cons (pe_fld (pv 0) (by rfl)) pa_nil)))), ?_⟩
    refine ⟨_, rfl, _, _, _, _, _, rfl, p.ins, Y.cls, Y.nP, rfl, x.lp, _, rfl, .inl (.inl (.inl e)), ?_⟩
    rw [List.length_map, t.len]
    exact q
/-! ### press -/
def spPress (A : PpA) (C : Addr) (B : BA) (T : List Addr) : Sp := fun vs H Q E => ∃ (x : PA) (H0 : Hp) (i n : Nat) (ws : List Str) (W : Nat) (held : List St2) (marks : List Int) (wd pl : Int), vs = [.ref x.pp, .int wd, .int pl] ∧ Pap A C B H0 H x i n ws W held marks ∧ Good ws W ∧ (∀ p ∈ T, TabG H p) ∧ fitsB i ws.length W (n : Nat) wd pl = true ∧ held.length < 100000 ∧ (∀ b, H b = none → H0 b ≠ none) ∧
  ∀ H', Pap A C B H0 H' x i n ws W (held ++ [(wd, pl)]) marks → Fr T [x.lp, x.ls] H H' → Q .non H'
theorem scPress : FnScope ["self", "word", "place"] ["self", "word", "place"] (defScope sPpPr) := ⟨rfl, rfl, rfl, by decide +kernel, rfl, by decide +kernel, by decide +kernel⟩
theorem ok_press {f : Addr} {fd fdSh : FuncData} {fdF fdS : Nat → FuncData} (F : L2.Fun K "press" "Paper.press" sPpPr f fd) (FSh : L2.Fun K "shown" "Paper.shown" sPpSh A.gSh fdSh)
    (hF : ∀ i, i < 3 → Binds K (fdF i) ["self", "size", "word", "place"] [] ∧ FnOk P w K mg base CX0 4 (B.ff i) (fdF i) ["self", "size", "word", "place"] (spFits C B i))
    (hS : ∀ i, i < 3 → Binds K (fdS i) ["self", "strip", "word", "place"] [] ∧ FnOk P w K mg base (L2.CX P w) 7 (B.fs i) (fdS i) ["self", "strip", "word", "place"] (spStm K T C B DSp DSg i))
    (X : Txt K mg C fLow fText fAre fTape fNext fInks) (Y : PpK K mg A) (BB : Bds K mg B) (E2 : ErrC K mg "InvalidStamping" DSg) : FnOk P w K mg base (L2.CX P w) 8 f fd ["self", "word", "place"] (spPress A C B T) := by
  have SH : FnOk P w K mg base CX0 1 A.gSh fdSh ["self"] (spShown A C B) := ok_shown FSh Y
  have bSh : Binds K fdSh ["self"] [] := FSh.binds fun _ _ _ _ _ _ us hl => match us, hl with | [_], _ => rfl
  refine F.okX scPress (fun vs H Q E h => ?_) (fun cdv A' outer s H vs Q E hr h => ?_)
  · obtain ⟨x, H0, i, n, ws, W, held, marks, wd, pl, rfl, _⟩ := h
    rfl
  · obtain ⟨x, H0, i, n, ws, W, held, marks, wd, pl, rfl, p, g, hT, ft, hn, hH0, q⟩ := h
    have hi := p.i3
    have k := BB.k i (by omega)
    obtain ⟨bF, FF⟩ := hF i hi
    obtain ⟨bS, FS⟩ := hS i hi
    obtain ⟨m, l, dm, bd, st, m0, l0⟩ := id p.bnd
    obtain ⟨db, pc, hb, b0, _⟩ := id bd
    obtain ⟨tps, et, tt⟩ := p.prs
    refine ⟨_, (pss_cons (ps_if (pt_not (pt_val (pe_meth (pe_fld (pv 0) (by rfl)) k.cls (BB.fits i hi) FF (hr.mono (by decide)) bF .nil L2.pass0 (pa_cons (pe_fld (pv 0) (by rfl)) (pa_cons (pv 1) (pa_cons (pv 2) pa_nil)))))) (pss_one (ps_raise rfl (takes_of rfl rfl rfl rfl) (pmk_own PySem.F.excBase_ValueError E2.e E2.g E2.k (raises_own E2.b E2.t) (by rfl)))) pss_nil)
      (pss_cons (ps_expr (pe_bm PySem.F.plainAttrs_list PySem.F.slot_list_append PySem.F.type_list_append mt_append (pe_fld (pv 0) (by rfl)) (pa_cons (pe_meth (pe_fld (pv 0) (by rfl)) k.cls (BB.stm i hi) FS hr bS .nil (passes_call (E := E) (takes_of rfl rfl rfl rfl) (fun _ _ _ _ h => h)) (pa_cons (pe_propX (p := A.pSh) (pv 0) SH (hr.mono (by decide)) bSh .nil L2.pass0) (pa_cons (pv 1) (pa_cons (pv 2) pa_nil)))) pa_nil)))
      (pss_one (ps_expr (pe_bm PySem.F.plainAttrs_list PySem.F.slot_list_append PySem.F.type_list_append mt_append (pe_fld (pv 0) (by rfl)) (pa_cons (pe_tup (pa_cons (pv 1) (pa_cons (pv 2) pa_nil))) pa_nil)))))), ?_⟩
    refine ⟨_, rfl, x.pp, _, _, _, _, rfl, p.ins, Y.cls, Y.nB, rfl, x.bd, db, _, rfl, hb, rfl, _, rfl, x.pp, _, _, _, _, rfl, p.ins, Y.cls, Y.nZ, rfl, _, rfl, _, rfl, x.bd, m, l, dm, H0, ws, W, n, wd, pl, rfl, bd, st, g, ?_⟩
    rw [ft]
    refine ⟨_, rfl, iteF ?_⟩
    have n2 := p.n2
    have c60 : cellsN i ≤ 120 := by unfold cellsN; split <;> omega
    obtain ⟨z, hz⟩ : ∃ z, z = stripF i ws n held := ⟨_, rfl⟩
    have zl : z.length = n := by rw [hz]; exact stripF_len
    have zg : stripB z (cellsN i : Nat) = true := by rw [hz]; exact stripF_good g p.n1 p.n2 held
    refine ⟨_, rfl, x.pp, _, _, _, _, rfl, p.ins, Y.cls, Y.nS, rfl, .inl ⟨rfl, _, .inl (.inl p.str)⟩, _, rfl, x.pp, _, _, _, _, rfl, p.ins, Y.cls, Y.nB, rfl, x.bd, db, _, rfl, hb, rfl, _, rfl, x.pp, A.c, x.dx, _, rfl, Y.cls, Y.sh, p.ins, x, i, n, ws, held, rfl, ⟨H0, W, marks, p⟩, ?_⟩
    rw [← hz]
    refine ⟨_, rfl, _, rfl, x.bd, m, l, dm, H0, ws, W, _, wd, pl, rfl, bd, st, g, hT, .inl ⟨z, rfl, by omega, fun H2 h2 => ?_⟩⟩
    have e1 : stmB i ws W z wd pl = .row (pressF i ws z (wd, pl)) := by
      unfold stmB
      rw [zg, if_neg (by decide), zl, ft, if_pos rfl]
      rfl
    rw [e1]
    have p2 := p.kep hT h2
    have sn : (stripsF i ws n held).map V.str ++ [V.str (pressF i ws z (wd, pl))] = (stripsF i ws n (held ++ [(wd, pl)])).map V.str := by
      rw [← stripsF_snoc, List.map_append, stripF_snoc, hz]
      rfl
    have sl1 : sizeLine = sizeLine := rfl
    refine ⟨x.ls, _, _, rfl, rfl, p2.str, by rw [List.length_map, stripsF_len]; rw [sizeLine_eq]; omega, ?_⟩
    rw [sn]
    have f2 : Fr T [x.lp, x.ls] H H2 := h2.fr
    have f3 := f2.put (p := x.ls) (o := .lst ((stripsF i ws n (held ++ [(wd, pl)])).map V.str)) (.inl (by simp)) (p.nT hT _ (by unfold PA.foot; simp))
    obtain ⟨tps, et, tt⟩ := p2.prs
    have nps : x.pp ≠ x.ls := ne_of p2.ins p2.str (by intro z; cases z)
    have npl : x.pp ≠ x.lp := ne_of p2.ins et (by intro z; cases z)
    have i3 : upd H2 x.ls (.lst ((stripsF i ws n (held ++ [(wd, pl)])).map V.str)) x.pp = _ := (upd_ne nps).trans p2.ins
    have l3 : upd H2 x.ls (.lst ((stripsF i ws n (held ++ [(wd, pl)])).map V.str)) x.lp = _ := (upd_ne p.dps).trans et
    have s3 : upd H2 x.ls (.lst ((stripsF i ws n (held ++ [(wd, pl)])).map V.str)) x.ls = some (.lst ((stripsF i ws n (held ++ [(wd, pl)])).map V.str)) := upd_same
    have m3 : upd H2 x.ls (.lst ((stripsF i ws n (held ++ [(wd, pl)])).map V.str)) x.lm = _ := (upd_ne p.dsm.symm).trans p2.mks
    have t3 : ∀ a xs, H2 a = some (.tup xs) → upd H2 x.ls (.lst ((stripsF i ws n (held ++ [(wd, pl)])).map V.str)) a = some (.tup xs) := fun a xs e => (upd_ne (ne_of e p2.str (by intro z; cases z))).trans e
    have tt3 := tt.keep t3
    generalize upd H2 x.ls (.lst ((stripsF i ws n (held ++ [(wd, pl)])).map V.str)) = G at f3 i3 l3 s3 m3 tt3 ⊢
    refine ⟨_, rfl, x.pp, _, _, _, _, rfl, i3, Y.cls, Y.nP, rfl, .inl ⟨rfl, _, .inl (.inl l3)⟩, _, rfl, _, rfl, (by decide : 2 ≤ sizeLine), fun tp htp => ⟨x.lp, _, _, rfl, rfl, (upd_ne (ne_of_none l3 htp)).trans l3, by rw [List.length_map, tt.len]; rw [sizeLine_eq]; omega, ?_⟩⟩
    have h34 : ∀ c ∈ [x.lp, x.ls], G c ≠ none := fun c hc => by
      simp only [List.mem_cons, List.not_mem_nil, or_false] at hc
      rcases hc with rfl | rfl
      · rw [l3]; intro z; cases z
      · rw [s3]; intro z; cases z
    have h03 : ∀ c ∈ [x.lp, x.ls], H0 c ≠ none := fun c hc => p.h0 c (by
      unfold PA.foot
      simp only [List.mem_cons, List.not_mem_nil, or_false] at hc ⊢
      rcases hc with rfl | rfl <;> simp)
    have tn : H tp = none := f3.free hT h34 htp
    have f4 := f3.put (p := tp) (o := .tup [.int wd, .int pl]) (.inr tn) (free_tab f3.1 htp)
    have ntl : x.lp ≠ tp := ne_of_none l3 htp
    have f5 := f4.put (p := x.lp) (o := .lst (tps.map V.ref ++ [.ref tp])) (.inl (by simp)) (p.nT hT _ (by unfold PA.foot; simp))
    have kk : ∀ {b : Addr} {o : HO}, b ≠ x.lp → G b = some o → upd (upd G tp (.tup [.int wd, .int pl])) x.lp (.lst (tps.map V.ref ++ [.ref tp])) b = some o := fun nb e => (upd_ne nb).trans ((upd_ne (ne_of_none e htp)).trans e)
    refine q _ ⟨kk npl i3, ⟨tps ++ [tp], upd_same.trans (by rw [List.map_append]; rfl), ?_⟩, kk p.dps.symm s3, kk p.dpm.symm m3, p.bnd.keep (f5.nk hT h03), p.fit.snoc ft, p.h0, p.n1, p.n2, p.i3, p.dps, p.dpm, p.dsm⟩ f5
    refine TupsA.snoc (tt3.keep fun a xs e => kk (ne_of e l3 (by intro z; cases z)) e) ?_
    exact (upd_ne ntl.symm).trans upd_same
end
end Ov

set_option Elab.async false
set_option linter.all false
set_option maxRecDepth 100000
set_option maxHeartbeats 4000000
namespace Ov
open PySem PySem.Spec PyProof.Rows L2 GxR
abbrev sDrawn : Stmt := top 59
abbrev sScene : Stmt := top 60
abbrev sStripL : Stmt := top 61
theorem fits_wordS {i N W n : Nat} {s : St2} (h : fitsB i N W (n : Nat) s.1 s.2 = true) : 0 ≤ s.1 ∧ s.1 < (N : Int) ∧ spotB i W (n : Nat) s.2 = true := fits_word h
/-! ### drawn stampings, scenes, strips -/
structure TopS (K : PySem.W.Frag) (mg : Str → Option Value) (fDr fSc fSl : Addr) : Prop where
  gDr : mg "_law_drawn" = some (.ref fDr)
  kDr : PySem.W.keepIn K (.ref fDr) = true
  gSc : mg "_law_scene" = some (.ref fSc)
  kSc : PySem.W.keepIn K (.ref fSc) = true
  gSl : mg "_law_strip" = some (.ref fSl)
  kSl : PySem.W.keepIn K (.ref fSl) = true
  int : mg "int" = none
  enu : mg "enumerate" = none
  rep : mg "repr" = none
def many0 (i n W : Nat) : Int := if i = 1 then (n : Int) + W - 1 else if (n : Int) - W + 1 > 0 then (n : Int) - W + 1 else 0
def manyF (i n W : Nat) : Int := if i = 2 then (n : Int) * (if W ≤ n then 1 else 0) else many0 i n W
def offF (i W : Nat) : Int := if i = 1 then (W : Int) - 1 else 0
theorem many_at {i n W : Nat} (hi : i < 3) : atI [V.int (if (n : Int) - W + 1 > 0 then (n : Int) - W + 1 else 0), V.int ((n : Int) + W - 1)] (((i : Nat) : Int) % 2) = some (.int (many0 i n W)) := by
  have : i = 0 ∨ i = 1 ∨ i = 2 := by omega
  rcases this with rfl | rfl | rfl <;> simp [atI, ixN, many0]
theorem off_at {i W : Nat} (hi : i < 3) : atI [V.int 0, V.int ((W : Int) - 1), V.int 0] ((i : Nat) : Int) = some (.int (offF i W)) := by
  have : i = 0 ∨ i = 1 ∨ i = 2 := by omega
  rcases this with rfl | rfl | rfl <;> simp [atI, ixN, offF]
theorem draw_ok {i n W N : Nat} (hi : i < 3) (h1 : 1 ≤ n) (h2 : n ≤ cellsN i) (hW : 1 ≤ W) {r d : Int} (r0 : 0 ≤ r) (r1 : r < manyF i n W) (d0 : 0 ≤ d) (d1 : d < (N : Int)) : fitsB i N W (n : Nat) d (r - offF i W) = true := by
  unfold fitsB knowsB spotB manyF many0 offF at *
  have : i = 0 ∨ i = 1 ∨ i = 2 := by omega
  rcases this with rfl | rfl | rfl
  · simp only [Nat.zero_ne_one, if_false, show ¬ (0 = 2) by decide] at r1
    simp only [Bool.and_eq_true, decide_eq_true_eq]
    simp
    split at r1 <;> omega
  · simp only [show ¬ (1 = 2) by decide, if_false, if_true] at r1
    simp only [Bool.and_eq_true, decide_eq_true_eq]
    simp
    omega
  · simp only [if_true] at r1
    simp only [Bool.and_eq_true, decide_eq_true_eq]
    simp
    split at r1 <;> omega
section
variable {P : Program} {w : World} {K : PySem.W.Frag} {mg : Str → Option Value} {base : Heap} {T : List Addr} {C D fLow fText fAre fTape fNext fInks fInit cLow PLow cAre PAre DSp DSg DNum DNo fKp fUn pWi fWi fDr fSc fSl : Addr} {B : BA} {A : PpA}
def spDrawn : Sp := fun vs H Q _ => ∃ (t wl : Addr) (i n W N : Nat) (ws : List Str), vs = [.ref t, .int (i : Nat), .int (n : Nat), .ref wl] ∧ H wl = some (.lst (ws.map V.str)) ∧ Good ws W ∧ i < 3 ∧ 1 ≤ n ∧ n ≤ cellsN i ∧ wl ≠ t ∧ Tp H t N ∧ N + 10 < 2 ^ 40 ∧
  (∀ H', Tp H' t (N + 4) → Bt t H H' → Q .non H') ∧ (∀ tp s H', H tp = none → H' tp = tupO s → fitsB i ws.length W (n : Nat) s.1 s.2 = true → Tp H' t (N + 4) → Bt t H H' → Q (.ref tp) H')
abbrev NDrawn : List Str := ["stock", "kind", "cells_here", "words", "wide", "many", "spot"]
theorem scDrawn : FnScope NDrawn ["stock", "kind", "cells_here", "words"] (defScope sDrawn) := ⟨rfl, rfl, rfl, by decide +kernel, rfl, by decide +kernel, by decide +kernel⟩
abbrev SD (t wl : Addr) (i n : Nat) (v4 v5 v6 : Option V) : L2.St := [some (.ref t), some (.int (i : Nat)), some (.int (n : Nat)), some (.ref wl), v4, v5, v6]
theorem ok_drawn {f : Addr} {fd fdN : FuncData} (F : L2.Fun K "_law_drawn" "_law_drawn" sDrawn f fd) (FN : L2.Fun K "_law_roll" "_law_roll" sNext fNext fdN) (X : Txt K mg C fLow fText fAre fTape fNext fInks) (XS : TopS K mg fDr fSc fSl) : FnOk P w K mg base CX0 2 f fd ["stock", "kind", "cells_here", "words"] spDrawn := by
  have N1 : FnOk P w K mg base CX0 1 fNext fdN ["stock", "many"] spNext := ok_next FN X
  have bN : Binds K fdN ["stock", "many"] [] := FN.binds fun _ _ _ _ _ _ us hl => match us, hl with | [_, _], _ => rfl
  refine F.ok scDrawn (fun vs H Q E h => ?_) (fun cdv A' outer s H vs Q E hr h => ?_)
  · obtain ⟨t, wl, i, n, W, N, ws, rfl, _⟩ := h
    rfl
  · obtain ⟨t, wl, i, n, W, N, ws, rfl, hw, g, hi, n1, n2, wt, ht, hN, qN, q⟩ := h
    have c60 : cellsN i ≤ 120 := by unfold cellsN; split <;> omega
    have w8 := g.w8
    have w1 := g.w1
    have wn1 := g.n1
    have wn6 := g.n6
    have wz : ws[0].length ≤ sizeLine := by rw [g.at g.n1, sizeLine_eq]; omega
    refine ⟨_, (pss_cons (ps_set (i := 4) scDrawn.nd rfl (.inl rfl) (pe_callB call_len_str (by rfl) X.len boot_len (pa_cons (pe_ix ix_seq (pv 3) pe_int fun _ _ => rfl) pa_nil)))
      (pss_cons (ps_set (i := 5) scDrawn.nd rfl (.inl rfl) (pe_ix ix_seq (pe_lst (pa_cons (pe_callB (call_max2 rfl) (by rfl) X.max boot_max (pa_cons pe_int (pa_cons (pe_op op_add (pe_op op_sub (pv 2) (pv 4)) pe_int) pa_nil))) (pa_cons (pe_op op_sub (pe_op op_add (pv 2) (pv 4)) pe_int) pa_nil))) (pe_op op_mod (pv 1) pe_int) fun _ _ => rfl))
      (C8.pss_cut (ps_if (pt_cmpR op_eq (pv 1) pe_int (by rfl)) (pss_one (ps_set (i := 5) scDrawn.nd rfl (.inl rfl) (pe_op op_mul (pv 2) (pe_callTy call_int1 (by rfl) XS.int (by decide +kernel) (pa_cons (pe_cmpR op_le (pv 4) (pv 2) (by rfl)) pa_nil))))) pss_nil)
      (pss_cons (ps_if (pt_cmpR op_eq (pv 5) pe_int (by rfl)) (pss_one (ps_ret pe_non)) pss_nil)
      (pss_cons (ps_set (i := 6) scDrawn.nd rfl (.inl rfl) (pe_op op_sub (pe_call N1 hr (by rfl) X.gNext X.kNext bN .nil L2.pass0 (pa_cons (pv 0) (pa_cons (pv 5) pa_nil))) (pe_ix ix_seq (pe_lst (pa_cons pe_int (pa_cons (pe_op op_sub (pv 4) pe_int) (pa_cons pe_int pa_nil)))) (pv 1) fun _ _ => rfl)))
      (C8.pss_cut (ps_if (pt_cmpR op_eq (pe_call N1 hr (by rfl) X.gNext X.kNext bN .nil L2.pass0 (pa_cons (pv 0) (pa_cons pe_int pa_nil))) pe_int (by rfl)) (pss_one (ps_set (i := 6) scDrawn.nd rfl (.inl rfl) (pe_op op_sub (pe_ix ix_seq (pe_lst (pa_cons pe_int (pa_cons (pe_op op_sub (pv 5) pe_int) pa_nil))) (pe_call N1 hr (by rfl) X.gNext X.kNext bN .nil L2.pass0 (pa_cons (pv 0) (pa_cons pe_int pa_nil))) fun _ _ => rfl) (pe_ix ix_seq (pe_lst (pa_cons pe_int (pa_cons (pe_op op_sub (pv 4) pe_int) (pa_cons pe_int pa_nil)))) (pv 1) fun _ _ => rfl)))) pss_nil)
      (pss_one (ps_ret (pe_tup (pa_cons (pe_call N1 hr (by rfl) X.gNext X.kNext bN .nil L2.pass0 (pa_cons (pv 0) (pa_cons (pe_callB call_len_seq (by rfl) X.len boot_len (pa_cons (pv 3) pa_nil)) pa_nil))) (pa_cons (pv 6) pa_nil))))))))))), ?_⟩
    refine ⟨_, rfl, .inl ⟨wl, _, 0, .str ws[0], rfl, rfl, .inl (.inl hw), at_0 g.n1, ws[0], rfl, wz, ?_⟩⟩
    rw [g.at g.n1]
    refine ⟨_, rfl, _, rfl, _, _, rfl, rfl, _, _, rfl, rfl, _, _, rfl, _, rfl, _, rfl, _, _, rfl, rfl, _, _, rfl, rfl, (by decide : 2 ≤ sizeLine), fun l1 hl1 => ?_⟩
    refine ⟨_, rfl, _, _, rfl, rfl, (by decide : (0 : Int) < 2), .inl ⟨l1, _, _, _, rfl, rfl, .inl (.inl upd_same), many_at hi, ?_⟩⟩
    have t1 := ht.new (o := .lst [V.int (if (n : Int) - W + 1 > 0 then (n : Int) - W + 1 else 0), V.int ((n : Int) + W - 1)]) hl1
    have b1 : Bt t H _ := Bt.new (o := .lst [V.int (if (n : Int) - W + 1 > 0 then (n : Int) - W + 1 else 0), V.int ((n : Int) + W - 1)]) hl1
    generalize upd H l1 (.lst [V.int (if (n : Int) - W + 1 > 0 then (n : Int) - W + 1 else 0), V.int ((n : Int) + W - 1)]) = H1 at t1 b1 ⊢
    refine ⟨fun σ' H' => H' = H1 ∧ σ' = SD t wl i n (some (.int (W : Nat))) (some (.int (manyF i n W))) none, ?_, ?_⟩
    · refine ⟨_, rfl, rfl, _, rfl, ?_⟩
      by_cases i2 : i = 2
      · refine iteT' (by rw [decide_eq_true_eq, i2]; rfl) ⟨_, rfl, _, rfl, _, rfl, _, _, rfl, rfl, .inr ⟨_, rfl, ?_⟩⟩
        refine ⟨_, _, rfl, rfl, .inl ⟨by omega, by omega⟩, rfl, ?_⟩
        unfold manyF
        rw [if_pos i2]
        by_cases c : W ≤ n
        · have : ((W : Nat) : Int) ≤ ((n : Nat) : Int) := by omega
          simp [c, this]
          rfl
        · have : ¬ ((W : Nat) : Int) ≤ ((n : Nat) : Int) := by omega
          simp [c, this]
          rfl
      · refine iteF' (by rw [decide_eq_false_iff_not]; intro z; injection z with z; omega) ⟨rfl, ?_⟩
        unfold manyF
        rw [if_neg i2]
        rfl
    · rintro σ' H' ⟨rfl, rfl⟩
      have mb : 0 ≤ manyF i n W ∧ manyF i n W < 1000 := by
        unfold manyF many0
        split
        · split <;> omega
        · split
          · omega
          · split <;> omega
      generalize hM : manyF i n W = M at mb
      refine ⟨_, rfl, rfl, _, rfl, ?_⟩
      by_cases m0 : M = 0
      · exact iteT' (by rw [m0]; rfl) (qN _ (t1.mono (by omega)) b1)
      refine iteF' (by rw [decide_eq_false_iff_not]; intro z; injection z; contradiction) ?_
      refine ⟨_, rfl, _, rfl, t, M, N, rfl, t1, by omega, by omega, by omega, fun r H2 r0 r1 t2 b2 => ?_⟩
      have bt2 : Bt t H H2 := b1.trans b2.bt
      refine ⟨_, rfl, _, _, rfl, rfl, (by decide : 3 ≤ sizeLine), fun l2 hl2 => ⟨_, rfl, .inl ⟨l2, _, _, _, rfl, rfl, .inl (.inl upd_same), off_at hi, _, _, rfl, rfl, ?_⟩⟩⟩
      have t3 := t2.new (o := .lst [V.int 0, V.int ((W : Int) - 1), V.int 0]) hl2
      have bt3 : Bt t H (upd H2 l2 (.lst [V.int 0, V.int ((W : Int) - 1), V.int 0])) := bt2.trans (Bt.new hl2)
      generalize upd H2 l2 (.lst [V.int 0, V.int ((W : Int) - 1), V.int 0]) = H3 at t3 bt3 ⊢
      refine ⟨fun σ' H' => ∃ r : Int, 0 ≤ r ∧ r < M ∧ Tp H' t (N + 3) ∧ Bt t H H' ∧ σ' = SD t wl i n (some (.int (W : Nat))) (some (.int M)) (some (.int (r - offF i W))), ?_, ?_⟩
      · refine ⟨_, rfl, t, 4, N + 1, rfl, t3, by omega, by decide, by decide, fun d H4 d0 d4 t4 b4 => ?_⟩
        have bt4 : Bt t H H4 := bt3.trans b4.bt
        refine ⟨rfl, _, rfl, ?_⟩
        by_cases c : d = 0
        case neg => exact iteF' (by rw [decide_eq_false_iff_not]; intro z; injection z; contradiction) ⟨r, r0, r1, t4.mono (by omega), bt4, rfl⟩
        refine iteT' (by rw [c]; rfl) ⟨_, rfl, _, _, rfl, rfl, (by decide : 2 ≤ sizeLine), fun l3 hl3 => ?_⟩
        have t5 := t4.new (o := .lst [V.int 0, V.int (M - 1)]) hl3
        have e5 : upd H4 l3 (.lst [V.int 0, V.int (M - 1)]) l3 = some (.lst [V.int 0, V.int (M - 1)]) := upd_same
        have bt5 : Bt t H (upd H4 l3 (.lst [V.int 0, V.int (M - 1)])) := bt4.trans (Bt.new hl3)
        have l3t : l3 ≠ t := (t4.ne hl3).symm
        generalize upd H4 l3 (.lst [V.int 0, V.int (M - 1)]) = H5 at t5 e5 bt5 ⊢
        refine ⟨_, rfl, t, 2, _, rfl, t5, by omega, by decide, by decide, fun e H6 e0 e2 t6 b6 => ?_⟩
        obtain ⟨r', hat, r'0, r'1⟩ : ∃ r' : Int, atI [V.int 0, V.int (M - 1)] e = some (.int r') ∧ 0 ≤ r' ∧ r' < M := by
          have : e = 0 ∨ e = 1 := by omega
          rcases this with rfl | rfl
          · exact ⟨0, by simp [atI, ixN], by omega, by omega⟩
          · exact ⟨M - 1, by simp [atI, ixN], by omega, by omega⟩
        refine .inl ⟨l3, _, e, _, rfl, rfl, .inl (.inl ((b6 l3 l3t).trans e5)), hat, ?_⟩
        refine ⟨_, rfl, _, _, rfl, rfl, (by decide : 3 ≤ sizeLine), fun l4 hl4 => ⟨_, rfl, .inl ⟨l4, _, _, _, rfl, rfl, .inl (.inl upd_same), off_at hi, _, _, rfl, rfl, ?_⟩⟩⟩
        exact ⟨r', r'0, r'1, (t6.new hl4).mono (by omega), bt5.trans (b6.bt.trans (Bt.new hl4)), rfl⟩
      · rintro σ' H' ⟨r', r'0, r'1, t7, bt7, rfl⟩
        have hw7 : H' wl = some (.lst (ws.map V.str)) := bt7 wl _ wt hw
        refine ⟨_, rfl, _, rfl, wl, _, rfl, .inl (.inl (.inl hw7)), t, _, _, rfl, t7, by omega, by rw [List.length_map]; omega, by rw [List.length_map]; omega, fun d H8 d0 d1 t8 b8 => ?_⟩
        refine ⟨_, rfl, (by decide : 2 ≤ sizeLine), fun tp htp => ?_⟩
        rw [List.length_map] at d1
        have bt8 : Bt t H H8 := bt7.trans b8.bt
        have tpt : tp ≠ t := (t8.ne htp).symm
        exact q tp (d, r' - offF i W) _ (bt8.free tpt htp) upd_same (draw_ok hi n1 n2 w1 r'0 (by rw [hM]; exact r'1) d0 d1) (t8.new htp) (bt8.trans (Bt.new htp))
/-! ### scenes -/
def spScene : Sp := fun vs H Q _ => ∃ (t : Addr) (most N : Nat), vs = [.ref t, .int (most : Nat)] ∧ 1 ≤ most ∧ most ≤ 1000 ∧ Tp H t N ∧ N + 200 < 2 ^ 40 ∧
  ∀ (sc wl : Addr) (i n : Nat) (ws : List Str) (W : Nat) (H' : Hp), H sc = none → H wl = none → H' sc = some (.tup [.int (i : Nat), .int (n : Nat), .ref wl]) → H' wl = some (.lst (ws.map V.str)) → stampsV (ws.map V.str) = true → Good ws W → i < 3 → 1 ≤ n → n ≤ cellsN i → n ≤ most → Tp H' t (N + 90) → Bt t H H' → Q (.ref sc) H'
abbrev NScene : List Str := ["stock", "most", "kind", "words", "some"]
theorem scScene : FnScope NScene ["stock", "most"] (defScope sScene) := ⟨rfl, rfl, rfl, by decide +kernel, rfl, by decide +kernel, by decide +kernel⟩
theorem cells_at {i : Nat} (hi : i < 3) : atI [V.int 120, V.int 120, V.int 60] ((i : Nat) : Int) = some (.int (cellsN i : Nat)) := by
  have : i = 0 ∨ i = 1 ∨ i = 2 := by omega
  rcases this with rfl | rfl | rfl <;> simp [atI, ixN, cellsN]
theorem ok_scene {f : Addr} {fd fdN fdI : FuncData} (F : L2.Fun K "_law_scene" "_law_scene" sScene f fd) (FN : L2.Fun K "_law_roll" "_law_roll" sNext fNext fdN) (FI : L2.Fun K "_law_words" "_law_words" sInks fInks fdI) (X : Txt K mg C fLow fText fAre fTape fNext fInks) (XS : TopS K mg fDr fSc fSl) : FnOk P w K mg base CX0 3 f fd ["stock", "most"] spScene := by
  have N1 : FnOk P w K mg base CX0 1 fNext fdN ["stock", "many"] spNext := ok_next FN X
  have bN : Binds K fdN ["stock", "many"] [] := FN.binds fun _ _ _ _ _ _ us hl => match us, hl with | [_, _], _ => rfl
  have I1 : FnOk P w K mg base CX0 2 fInks fdI ["stock"] (spInks K) := ok_inks FI FN X
  have bI : Binds K fdI ["stock"] [] := FI.binds fun _ _ _ _ _ _ us hl => match us, hl with | [_], _ => rfl
  refine F.ok scScene (fun vs H Q E h => ?_) (fun cdv A' outer s H vs Q E hr h => ?_)
  · obtain ⟨t, most, N, rfl, _⟩ := h
    rfl
  · obtain ⟨t, most, N, rfl, m1, m2, ht, hN, q⟩ := h
    refine ⟨_, (pss_cons (ps_par (i := 2) (j := 3) rfl scScene.nd rfl rfl (by decide) rfl rfl (pa_cons (pe_call N1 (hr.mono (by decide)) (by rfl) X.gNext X.kNext bN .nil L2.pass0 (pa_cons (pv 0) (pa_cons pe_int pa_nil))) (pa_cons (pe_call I1 (hr.mono (by decide)) (by rfl) X.gInks X.kInks bI .nil L2.pass0 (pa_cons (pv 0) pa_nil)) pa_nil)) (by rfl))
      (pss_cons (ps_set (i := 1) scScene.nd rfl (.inl rfl) (pe_callB (call_min2 rfl) (by rfl) X.min boot_min (pa_cons (pv 1) (pa_cons (pe_ix ix_seq (pe_lst (pa_cons pe_int (pa_cons pe_int (pa_cons pe_int pa_nil)))) (pv 2) fun _ _ => rfl) pa_nil))))
      (pss_cons (ps_set (i := 4) scScene.nd rfl (.inl rfl) (pe_lst (pa_cons (pe_op op_add pe_int (pe_call N1 (hr.mono (by decide)) (by rfl) X.gNext X.kNext bN .nil L2.pass0 (pa_cons (pv 0) (pa_cons (pv 1) pa_nil)))) (pa_cons (pv 1) (pa_cons (pe_op op_add (pe_callB call_len_str (by rfl) X.len boot_len (pa_cons (pe_ix ix_seq (pv 3) pe_int fun _ _ => rfl) pa_nil)) (pe_call N1 (hr.mono (by decide)) (by rfl) X.gNext X.kNext bN .nil L2.pass0 (pa_cons (pv 0) (pa_cons pe_int pa_nil)))) (pa_cons pe_int pa_nil))))))
      (pss_one (ps_ret (pe_tup (pa_cons (pv 2) (pa_cons (pe_callB (call_min2 rfl) (by rfl) X.min boot_min (pa_cons (pe_ix ix_seq (pv 4) (pe_ix ix_seq (pe_lst (pa_cons pe_int (pa_cons pe_int (pa_cons pe_int (pa_cons pe_int (pa_cons pe_int (pa_cons pe_int pa_nil))))))) (pe_call N1 (hr.mono (by decide)) (by rfl) X.gNext X.kNext bN .nil L2.pass0 (pa_cons (pv 0) (pa_cons pe_int pa_nil))) fun _ _ => rfl) fun _ _ => rfl) (pa_cons (pv 1) pa_nil))) (pa_cons (pv 3) pa_nil))))))))), ?_⟩
    refine ⟨_, rfl, t, 3, N, rfl, ht, by omega, by decide, by decide, fun d H1 d0 d3 t1 b1 => ?_⟩
    obtain ⟨i, rfl⟩ : ∃ i : Nat, d = (i : Int) := ⟨d.toNat, by omega⟩
    have hi : i < 3 := by omega
    refine ⟨_, rfl, t, N + 1, rfl, t1, by omega, fun wl ws H2 hwl hw2 sv t2 b2 => ?_⟩
    obtain ⟨W, g⟩ := good_of sv
    have w8 := g.w8
    have w1 := g.w1
    have wz : (ws[0]'g.n1).length ≤ sizeLine := by rw [g.at g.n1, sizeLine_eq]; omega
    have wlt : wl ≠ t := (t1.ne hwl).symm
    have wln : H wl = none := b1.bt.free wlt hwl
    have bt2 : Bt t H H2 := b1.bt.trans b2
    have c60 : 60 ≤ cellsN i ∧ cellsN i ≤ 120 := by unfold cellsN; split <;> omega
    refine ⟨_, _, rfl, ?_⟩
    refine ⟨_, rfl, (by decide : 3 ≤ sizeLine), fun l1 hl1 => ⟨_, rfl, .inl ⟨l1, _, _, _, rfl, rfl, .inl (.inl upd_same), cells_at hi, _, _, rfl, ?_⟩⟩⟩
    have t3 := t2.new (o := .lst [.int 120, .int 120, .int 60]) hl1
    have bt3 : Bt t H (upd H2 l1 (.lst [.int 120, .int 120, .int 60])) := bt2.trans (Bt.new hl1)
    have hw3 : upd H2 l1 (.lst [.int 120, .int 120, .int 60]) wl = some (.lst (ws.map V.str)) := (upd_ne (ne_of_none hw2 hl1)).trans hw2
    generalize upd H2 l1 (.lst [.int 120, .int 120, .int 60]) = H3 at t3 bt3 hw3 ⊢
    generalize hM : (if ((cellsN i : Nat) : Int) < ((most : Nat) : Int) then ((cellsN i : Nat) : Int) else ((most : Nat) : Int)) = M
    have Mb : 1 ≤ M ∧ M ≤ (cellsN i : Nat) ∧ M ≤ (most : Nat) := by rw [← hM]; split <;> omega
    refine ⟨_, rfl, _, rfl, t, M, _, rfl, t3, by omega, by omega, by omega, fun r H4 r0 r1 t4 b4 => ⟨_, _, rfl, rfl, ?_⟩⟩
    have bt4 : Bt t H H4 := bt3.trans b4.bt
    have hw4 : H4 wl = some (.lst (ws.map V.str)) := (b4 wl wlt).trans hw3
    refine ⟨_, rfl, _, rfl, .inl ⟨wl, _, 0, .str (ws[0]'g.n1), rfl, rfl, .inl (.inl hw4), at_0 g.n1, _, rfl, wz, ?_⟩⟩
    rw [g.at g.n1]
    refine ⟨_, rfl, t, 4, _, rfl, t4, by omega, by decide, by decide, fun e H5 e0 e4 t5 b5 => ⟨_, _, rfl, rfl, (by decide : 4 ≤ sizeLine), fun l2 hl2 => ?_⟩⟩
    have bt5 : Bt t H H5 := bt4.trans b5.bt
    have l2t : l2 ≠ t := (t5.ne hl2).symm
    have hw5 : H5 wl = some (.lst (ws.map V.str)) := (b5 wl wlt).trans hw4
    have hw6 := (upd_ne (o := .lst [.int (1 + r), .int M, .int ((W : Int) + e), .int 1]) (ne_of_none hw5 hl2)).trans hw5
    have t6 := t5.new (o := .lst [.int (1 + r), .int M, .int ((W : Int) + e), .int 1]) hl2
    have bt6 : Bt t H (upd H5 l2 (.lst [.int (1 + r), .int M, .int ((W : Int) + e), .int 1])) := bt5.trans (Bt.new hl2)
    have e6 : upd H5 l2 (.lst [.int (1 + r), .int M, .int ((W : Int) + e), .int 1]) l2 = some (.lst [.int (1 + r), .int M, .int ((W : Int) + e), .int 1]) := upd_same
    generalize upd H5 l2 (.lst [.int (1 + r), .int M, .int ((W : Int) + e), .int 1]) = H6 at t6 bt6 e6 hw6 ⊢
    refine ⟨_, rfl, _, rfl, (by decide : 6 ≤ sizeLine), fun l3 hl3 => ?_⟩
    have l3t : l3 ≠ t := (t6.ne hl3).symm
    have hw7 := (upd_ne (o := .lst [.int 0, .int 0, .int 1, .int 2, .int 2, .int 3]) (ne_of_none hw6 hl3)).trans hw6
    have t7 := t6.new (o := .lst [.int 0, .int 0, .int 1, .int 2, .int 2, .int 3]) hl3
    have bt7 : Bt t H (upd H6 l3 (.lst [.int 0, .int 0, .int 1, .int 2, .int 2, .int 3])) := bt6.trans (Bt.new hl3)
    have e7 : upd H6 l3 (.lst [.int 0, .int 0, .int 1, .int 2, .int 2, .int 3]) l3 = some (.lst [.int 0, .int 0, .int 1, .int 2, .int 2, .int 3]) := upd_same
    have f7 : upd H6 l3 (.lst [.int 0, .int 0, .int 1, .int 2, .int 2, .int 3]) l2 = some (.lst [.int (1 + r), .int M, .int ((W : Int) + e), .int 1]) := (upd_ne (ne_of_none e6 hl3)).trans e6
    generalize upd H6 l3 (.lst [.int 0, .int 0, .int 1, .int 2, .int 2, .int 3]) = H7 at t7 bt7 e7 f7 hw7 ⊢
    refine ⟨_, rfl, t, 6, _, rfl, t7, by omega, by decide, by decide, fun u H8 u0 u6 t8 b8 => ?_⟩
    have bt8 : Bt t H H8 := bt7.trans b8.bt
    obtain ⟨j, hj, j0, j3⟩ : ∃ j : Int, atI [V.int 0, V.int 0, V.int 1, V.int 2, V.int 2, V.int 3] u = some (.int j) ∧ 0 ≤ j ∧ j ≤ 3 := by
      have : u = 0 ∨ u = 1 ∨ u = 2 ∨ u = 3 ∨ u = 4 ∨ u = 5 := by omega
      rcases this with rfl | rfl | rfl | rfl | rfl | rfl
      · exact ⟨0, rfl, by decide, by decide⟩
      · exact ⟨0, rfl, by decide, by decide⟩
      · exact ⟨1, rfl, by decide, by decide⟩
      · exact ⟨2, rfl, by decide, by decide⟩
      · exact ⟨2, rfl, by decide, by decide⟩
      · exact ⟨3, rfl, by decide, by decide⟩
    obtain ⟨v, hv, v1⟩ : ∃ v : Int, atI [V.int (1 + r), V.int M, V.int ((W : Int) + e), V.int 1] j = some (.int v) ∧ 1 ≤ v := by
      have : j = 0 ∨ j = 1 ∨ j = 2 ∨ j = 3 := by omega
      rcases this with rfl | rfl | rfl | rfl
      · exact ⟨1 + r, rfl, by omega⟩
      · exact ⟨M, rfl, by omega⟩
      · exact ⟨(W : Int) + e, rfl, by omega⟩
      · exact ⟨1, rfl, by decide⟩
    refine .inl ⟨l3, _, u, _, rfl, rfl, .inl (.inl ((b8 l3 l3t).trans e7)), hj, .inl ⟨l2, _, j, _, rfl, rfl, .inl (.inl ((b8 l2 l2t).trans f7)), hv, ?_⟩⟩
    refine ⟨_, rfl, _, _, rfl, ?_⟩
    obtain ⟨n, hn⟩ : ∃ n : Nat, (if M < v then M else v) = (n : Int) := ⟨(if M < v then M else v).toNat, by split <;> omega⟩
    have nb : 1 ≤ n ∧ (n : Int) ≤ M := by rw [← hn]; split at hn <;> (constructor <;> (try split) <;> omega)
    rw [hn]
    refine ⟨_, rfl, (by decide : 3 ≤ sizeLine), fun sc hsc => ?_⟩
    have sct : sc ≠ t := (t8.ne hsc).symm
    have hw8 : H8 wl = some (.lst (ws.map V.str)) := (b8 wl wlt).trans hw7
    exact q sc wl i n ws W _ (bt8.free sct hsc) wln upd_same ((upd_ne (ne_of_none hw8 hsc)).trans hw8) sv g hi nb.1 (by omega) (by omega) ((t8.new hsc).mono (by omega)) (bt8.trans (Bt.new hsc))
/-! ### the strip, by the law -/
theorem rep_dot_ch (n : Nat) : (List.replicate ((n : Nat) : Int).toNat [V.str "."]).flatten = (dotsN n).cps.toList.map chV := by
  rw [Int.toNat_natCast]
  have : (dotsN n).cps.toList = List.replicate n 46 := rfl
  rw [this]
  clear this
  induction n with
  | zero => rfl
  | succ n ih => rw [List.replicate_succ, List.flatten_cons, ih]; rfl
def spStripL : Sp := fun vs H Q _ => ∃ (wl hl : Addr) (i n W : Nat) (ws : List Str) (held : List St2) (tps : List Addr), vs = [.int (i : Nat), .int (n : Nat), .ref wl, .ref hl] ∧ H wl = some (.lst (ws.map V.str)) ∧ H hl = some (.lst (tps.map V.ref)) ∧ TupsA H tps held ∧ FitsA i ws W n held ∧ Good ws W ∧ i < 3 ∧ 1 ≤ n ∧ n ≤ cellsN i ∧
  ∀ H3, L2.Same H H3 → Q (.str (stripF i ws n held)) H3
abbrev NStripL : List Str := ["kind", "cells_here", "words", "held", "found", "which", "spot", "step", "letter", "cell"]
theorem scStripL : FnScope NStripL ["kind", "cells_here", "words", "held"] (defScope sStripL) := ⟨rfl, rfl, rfl, by decide +kernel, rfl, by decide +kernel, by decide +kernel⟩
abbrev SL9 (i n : Nat) (wl hl fl : Addr) (v5 v6 v7 v8 v9 : Option V) : L2.St := [some (.int (i : Nat)), some (.int (n : Nat)), some (.ref wl), some (.ref hl), some (.ref fl), v5, v6, v7, v8, v9]
theorem low_asc {z : Str} (h : lowB z = true) : z.cps.all (· < 128) = true := by
  rw [Array.all_eq_true_iff_forall_mem]
  intro c hc
  have := List.all_eq_true.mp h c (Array.mem_toList_iff.mpr hc)
  simp at this ⊢
  omega
theorem ok_stripl {f : Addr} {fd : FuncData} (F : L2.Fun K "_law_strip" "_law_strip" sStripL f fd) (X : Txt K mg C fLow fText fAre fTape fNext fInks) (XS : TopS K mg fDr fSc fSl) : FnOk P w K mg base CX0 1 f fd ["kind", "cells_here", "words", "held"] spStripL := by
  refine F.ok scStripL (fun vs H Q E h => ?_) (fun cdv A' outer s H vs Q E hr h => ?_)
  · obtain ⟨wl, hl, i, n, W, ws, held, tps, rfl, _⟩ := h
    rfl
  · obtain ⟨wl, hl, i, n, W, ws, held, tps, rfl, hw, hh, tt, ft, g, hi, n1, n2, q⟩ := h
    have c60 : cellsN i ≤ 120 := by unfold cellsN; split <;> omega
    have w8 := g.w8
    have tlen := tt.len
    refine ⟨_, (pss_cons (ps_set (i := 4) scStripL.nd rfl (.inl rfl) (pe_op op_rep (pe_lst (pa_cons pe_str pa_nil)) (pv 1)))
      (pss_cons (ps_for PassesOwn.never rfl (pi_list (pv 3)) (pg_tup rfl (pgs_cons (pg_name (i := 5) scStripL.nd rfl (Or.inl rfl)) (pgs_cons (pg_name (i := 6) scStripL.nd rfl (Or.inl rfl)) pgs_nil))) (pss_one (ps_for PassesOwn.never rfl (pi_enumS (by rfl) XS.enu (pa_cons (pe_ix ix_seq (pv 2) (pv 5) fun _ _ => rfl) pa_nil)) (pg_tup rfl (pgs_cons (pg_name (i := 7) scStripL.nd rfl (Or.inl rfl)) (pgs_cons (pg_name (i := 8) scStripL.nd rfl (Or.inl rfl)) pgs_nil))) (pss_cons (ps_set (i := 9) scStripL.nd rfl (.inl rfl) (pe_ifExp (pt_cmpR op_eq (pv 0) pe_int (by rfl)) (pe_op op_mod (pe_op op_add (pv 6) (pv 7)) (pv 1)) (pe_op op_add (pv 6) (pv 7))))
      (pss_one (ps_if (pt_chain op_le op_lt pe_int (pv 9) (pv 1)) (pss_one (ps_asg (pv 8) (pg_sub (pv 4) (pv 9) set_list))) pss_nil))))))
      (pss_one (ps_ret (pe_join pe_str (pv 4)))))), ?_⟩
    refine ⟨(by decide : 1 ≤ sizeLine), fun l1 hl1 => ?_⟩
    have s1 := same_new (o := .lst [V.str "."]) hl1
    have e1 : upd H l1 (.lst [V.str "."]) l1 = some (.lst [V.str "."]) := upd_same
    generalize upd H l1 (.lst [V.str "."]) = H1 at s1 e1
    refine ⟨_, rfl, l1, _, _, rfl, rfl, e1, by omega, by omega, by rw [sizeLine_eq]; simp; omega, fun fl hfl => ?_⟩
    rw [rep_dot_ch n]
    have s2 := s1.trans (same_new (o := .lst ((dotsN n).cps.toList.map chV)) hfl)
    have e2 : upd H1 fl (.lst ((dotsN n).cps.toList.map chV)) fl = some (.lst ((dotsN n).cps.toList.map chV)) := upd_same
    have fln : H fl = none := s1.free hfl
    generalize upd H1 fl (.lst ((dotsN n).cps.toList.map chV)) = H2 at s2 e2
    refine ⟨_, rfl, hl, rfl, ⟨_, .inl (.inl (s2 _ _ hh))⟩, for_list (xs := tps.map V.ref) (fun j σ Hx => (∃ v5 v6 v7 v8 v9, σ = SL9 i n wl hl fl v5 v6 v7 v8 v9) ∧ L2.Same H Hx ∧ Hx fl = some (.lst ((stripF i ws n (held.take j)).cps.toList.map chV)))
      ⟨⟨_, _, _, _, _, rfl⟩, s2, e2⟩ (fun j σ Hx _ pp => .inl (.inl (pp.2.1 _ _ hh))) (fun j y σ Hx hj pp => ?_) (fun σ Hx pp => ?_)⟩
    · obtain ⟨⟨v5, v6, v7, v8, v9, rfl⟩, sx, ex⟩ := pp
      rw [List.getElem?_map] at hj
      obtain ⟨ta, hta, rfl⟩ := Option.map_eq_some_iff.mp hj
      obtain ⟨s, hs, es⟩ := tt.get hta
      have fs := ft s (List.mem_of_getElem? hs)
      have sp := fits_wordS fs
      obtain ⟨p, hp⟩ : ∃ p, p = s.2 := ⟨_, rfl⟩
      have tk : held.take (j + 1) = held.take j ++ [s] := by rw [List.take_succ, hs]; rfl
      obtain ⟨gl, glow⟩ := g.get (i := s.1.toNat) (by omega)
      have u0 : atI (ws.map V.str) s.1 = some (.str (ws.getD s.1.toNat Str.empty)) := at_i sp.1 sp.2.1
      have zt : stripF i ws n (held.take (j + 1)) = inkS i (stripF i ws n (held.take j)) (ws.getD s.1.toNat Str.empty) p := by rw [tk, stripF_snoc, hp]; rfl
      rw [← hp] at sp
      refine ⟨ta, _, rfl, .inl (.inl (sx _ _ es)), rfl, _, _, rfl, _, _, rfl, rfl, ?_⟩
      have u0' := u0
      generalize hz : stripF i ws n (held.take j) = z at ex zt
      have zl : z.length = n := by rw [← hz]; exact stripF_len
      generalize hu : ws.getD s.1.toNat Str.empty = u at gl glow u0' zt
      rw [zt]
      have lz := tl_len z
      have lu := tl_len u
      obtain ⟨sp0, sp1, sp2⟩ := sp
      have hW : i = 2 → u.length ≤ z.length := fun e => by
        subst e
        unfold spotB at sp2
        simp at sp2
        omega
      have hs' : spotB i u.length z.length p = true := by rw [gl, zl]; exact sp2
      refine ⟨_, rfl, _, rfl, .inl ⟨wl, _, s.1, .str u, rfl, rfl, .inl (.inl (sx _ _ hw)), u0', ?_⟩⟩
      rw [← hp]
      refine ⟨u, rfl, low_asc glow, for_enumS (fun m σ Hm => (∃ v7 v8 v9, σ = SL9 i n wl hl fl (some (.int s.1)) (some (.int p)) v7 v8 v9) ∧ Hm fl = some (.lst ((inkM i z.cps.toList u.cps.toList p m).map chV)) ∧ L2.Same H Hm)
        ⟨⟨_, _, _, rfl⟩, by rw [inkM_0]; exact ex, sx⟩ (fun m c σ Hm Tm hc pm hT => ?_) (fun σ Hm pm => ?_)⟩
      · obtain ⟨⟨v7, v8, v9, rfl⟩, hlm, sm⟩ := pm
        have hm : m < u.length := (Array.getElem?_eq_some_iff.mp hc).1
        have hc' : u.cps.toList[m]? = some c := by rw [Array.getElem?_toList]; exact hc
        refine ⟨Tm, _, rfl, .inl (.inl upd_same), rfl, _, _, rfl, _, _, rfl, rfl, ?_⟩
        have sT := sm.trans (same_new (o := .tup [.int (m : Nat), .str ⟨#[c]⟩]) hT)
        have hlT : upd Hm Tm (.tup [.int (m : Nat), .str ⟨#[c]⟩]) fl = some (.lst ((inkM i z.cps.toList u.cps.toList p m).map chV)) := same_new hT _ _ hlm
        generalize hGG : upd Hm Tm (.tup [.int (m : Nat), .str ⟨#[c]⟩]) = G at sT hlT ⊢
        refine ⟨_, rfl, rfl, _, rfl, ?_⟩
        have spE : spotAt i z.length p m = if i = 2 then (p + m) % (z.length : Int) else p + m := rfl
        rw [zl] at spE
        by_cases i2 : i = 2
        case' pos =>
          refine iteT' (by rw [decide_eq_true_eq, i2]; rfl) ⟨_, rfl, _, rfl, _, _, rfl, rfl, _, rfl, _, _, rfl, rfl, by show (0 : Int) < _; omega, ?_⟩
          rw [if_pos i2] at spE
          show gName 9 (V.int ((p + (m : Int)) % (n : Int))) _ _ _
        case' neg =>
          refine iteF' (by rw [decide_eq_false_iff_not]; intro z; injection z with z; omega) ⟨_, rfl, _, rfl, _, _, rfl, rfl, ?_⟩
          rw [if_neg i2] at spE
          show gName 9 (V.int (p + (m : Int))) _ _ _
        all_goals
          rw [← spE]
          refine ⟨_, rfl, _, _, rfl, rfl, _, rfl, ?_⟩
          by_cases c1 : 0 ≤ spotAt i n p m
          case neg =>
            refine iteF' (decide_eq_false c1) ⟨_, rfl, iteF ?_⟩
            refine ⟨⟨_, _, _, rfl⟩, ?_, sT⟩
            rw [← inkM_skip (spot_skip (i := i) (n := z.cps.toList.length) (by omega) (by rw [lz, zl]; exact fun h => c1 h.1))]
            exact hlT
          refine iteT' (decide_eq_true c1) ⟨_, rfl, _, _, rfl, rfl, _, rfl, ?_⟩
          by_cases c2 : spotAt i n p m < (n : Int)
          case neg =>
            refine iteF' (decide_eq_false c2) ?_
            refine ⟨⟨_, _, _, rfl⟩, ?_, sT⟩
            rw [← inkM_skip (spot_skip (i := i) (n := z.cps.toList.length) (by omega) (by rw [lz, zl]; exact fun h => c2 h.2))]
            exact hlT
          refine iteT' (decide_eq_true c2) ?_
          have lo : (inkM i z.cps.toList u.cps.toList p m).length = n := by rw [inkM_len, lz, zl]
          refine ⟨_, rfl, _, rfl, _, rfl, fl, _, spotAt i n p m, (spotAt i n p m).toNat, rfl, rfl, hlT, ?_, ⟨_, _, _, rfl⟩, ?_, ?_⟩
          · unfold ixN
            rw [List.length_map, lo, if_pos (by omega), if_pos (by omega)]
          · have := inkM_set (i := i) (zs := z.cps.toList) (us := u.cps.toList) (place := p) (m := m) (c := c) (j := (spotAt i n p m).toNat) hc' (by rw [lz]; omega) (by rw [lz, zl]; rw [zl] at hs' hW; exact spot_set hs' hm hW c1 c2)
            rw [← this, List.map_set]
            exact upd_same
          · exact fun b o e => (upd_ne (ne_of_none e fln)).trans (sT b o e)
      · obtain ⟨⟨v7, v8, v9, rfl⟩, hlm, sm⟩ := pm
        exact ⟨⟨_, _, _, _, _, rfl⟩, sm, hlm⟩
    · obtain ⟨⟨v5, v6, v7, v8, v9, rfl⟩, sx, ex⟩ := pp
      rw [List.length_map, tlen, List.take_of_length_le (Nat.le_refl _)] at ex
      refine ⟨⟨_, rfl⟩, _, rfl, "", fl, (stripF i ws n held).cps.toList.map fun c => (⟨#[c]⟩ : Str), rfl, rfl, .inl (.inl (.inl ?_)), ?_, ?_⟩
      · rw [List.map_map, ex]; rfl
      · rw [sum_ch]
        show (stripF i ws n held).cps.toList.length + _ * 0 ≤ 16777216
        rw [tl_len, stripF_len]
        omega
      · rw [join_ch]
        exact q _ sx
end
end Ov

set_option Elab.async false
set_option linter.all false
set_option maxRecDepth 100000
set_option maxHeartbeats 4000000
/-! isinstance of a caught error: one class, a tuple of classes; its class is told where the reading is -/
namespace Ov
open PySem PySem.Spec PyProof.Rows L2 GxR
def rIsEX (K : PySem.W.Frag) (cls : Value) (d : Option Addr) (a : Addr) : List V → Hp → VK → Prop := fun xs H Q => ∃ D, cls = .ref D ∧ d = none ∧ ExcC K D ∧
  ((∃ (c : V) (cv : Value) (b : Bool), xs = [.ref a, c] ∧ ClsV c cv ∧ PySem.W.kitOne K (.ref D) cv = some b ∧ Q (.bl b) H) ∨
   (∃ (tp : Addr) (cs : List V) (us : List Value) (b : Bool), xs = [.ref a, .ref tp] ∧ H tp = some (.tup cs) ∧ Paired ClsV cs us ∧ PySem.W.kitAny K (.ref D) us = some b ∧ Q (.bl b) H))
theorem call_isEX {X : Cx} {a : Addr} {cls : Value} {d : Option Addr} {oe : Obj} {pn : List (Addr × Obj)} (hz : Zc cls d oe) (hf : ∃ vs, oe.data = .fields vs) : CallR (X.suite a ((a, oe) :: pn)) (.builtin "isinstance") (rIsEX X.K cls d a) := by
  intro pins s σ H xs us Q I r h
  obtain ⟨D, rfl, rfl, C, h⟩ := h
  obtain ⟨hget, _⟩ := I.pin (a, oe) (List.mem_append.mpr (.inl List.mem_cons_self))
  obtain ⟨vs, hv⟩ := hf
  have J : PySem.W.InstAt s.heap a oe D none := by
    obtain ⟨oc, od, oda, osl⟩ := oe
    obtain ⟨h1, h2⟩ := hz
    dsimp only at h1 h2 hv
    subst h1 h2 hv
    exact ⟨hget, rfl, rfl, trivial⟩
  have Z : PySem.W.KitX X.K (.ref a) (.ref D) (fun h => PySem.W.InstAt h a oe D none) := PySem.W.handS_kitx_exc C.hg C.hk C.hs C.hd C.ha C.hn C.ht C.hm
  rcases h with ⟨c, cv, b, rfl, hcv, e, q⟩ | ⟨tp, cs, ts, b, rfl, hT, k, e, q⟩
  · obtain ⟨u1, u2, rfl, r1, r2⟩ := vals2 r
    obtain rfl : u1 = Value.ref a := r1
    have ec := hcv.eq r2
    subst ec
    exact PySem.W.kia_one Z I.kIn J e (fun z => nomatch z) fun tk => ⟨.bl b, H, I.kept (t' := tk) fun _ _ z => z, rfl, q⟩
  · obtain ⟨u1, u2, rfl, r1, r2⟩ := vals2 r
    obtain rfl : u1 = Value.ref a := r1
    cases (show u2 = Value.ref tp from r2)
    obtain ⟨_, its, rv, o, h1, h2, n, h3⟩ := (show ObjOk X.prog X.w H s.heap tp (.tup cs) from I.hok tp _ hT)
    have e3 := ClsV.all k rv
    subst e3
    obtain ⟨oc, od, dt, sl⟩ := o
    simp only at h2 h3
    subst h2 h3
    exact PySem.W.kia_tup Z I.kIn J h1 e (fun z => nomatch z) fun tk => ⟨.bl b, H, I.kept (t' := tk) fun _ _ z => z, rfl, q⟩
end Ov

set_option Elab.async false
set_option linter.all false
set_option maxRecDepth 100000
set_option maxHeartbeats 4000000
/-! objects of any kind: what they are as data; repr of them; their types -/
namespace Ov
open PySem PySem.Spec PyProof.Rows L2 GxR
/-- nothing below it -/
inductive Lf : V → PyData → Prop
  | non : Lf .non .none
  | bl (b : Bool) : Lf (.bl b) (.bool b)
  | int (i : Int) : Lf (.int i) (.int i)
  | str (z : Str) : Lf (.str z) (.str z)
inductive LfAll : List V → List PyData → Prop
  | nil : LfAll [] []
  | cons {v : V} {vs : List V} {d : PyData} {ds : List PyData} : Lf v d → LfAll vs ds → LfAll (v :: vs) (d :: ds)
def keyD : Key → PyData
  | .inl i => .int i
  | .inr z => .str z
def pairD : List (Key × V) → List PyData → List (PyData × PyData)
  | (k, _) :: r, d :: ds => (keyD k, d) :: pairD r ds
  | _, _ => []
/-- a leaf, or leaves in a list, a tuple, a dict -/
inductive El (H : Hp) : V → PyData → Prop
  | lf {v : V} {d : PyData} : Lf v d → El H v d
  | lst {a : Addr} {xs : List V} {ds : List PyData} : H a = some (.lst xs) → LfAll xs ds → El H (.ref a) (.list ds)
  | tup {a : Addr} {xs : List V} {ds : List PyData} : H a = some (.tup xs) → LfAll xs ds → El H (.ref a) (.tuple ds)
  | dic {a : Addr} {kvs : List (Key × V)} {ds : List PyData} : H a = some (.dK kvs) → LfAll (kvs.map (·.2)) ds → El H (.ref a) (.dict (pairD kvs ds))
inductive ElAll (H : Hp) : List V → List PyData → Prop
  | nil : ElAll H [] []
  | cons {v : V} {vs : List V} {d : PyData} {ds : List PyData} : El H v d → ElAll H vs ds → ElAll H (v :: vs) (d :: ds)
/-- no list among the data -/
def noLst : List PyData → Bool
  | [] => true
  | .list _ :: _ => false
  | _ :: r => noLst r
/-- .. or such in a list, a tuple (not lists beside dicts) -/
inductive Ob (H : Hp) : V → PyData → Prop
  | el {v : V} {d : PyData} : El H v d → Ob H v d
  | lst {a : Addr} {xs : List V} {ds : List PyData} : H a = some (.lst xs) → ElAll H xs ds → (PyData.hasDictAll ds = false ∨ noLst ds = true) → Ob H (.ref a) (.list ds)
  | tup {a : Addr} {xs : List V} {ds : List PyData} : H a = some (.tup xs) → ElAll H xs ds → (PyData.hasDictAll ds = false ∨ noLst ds = true) → Ob H (.ref a) (.tuple ds)
/-! ### they stay -/
theorem El.at {H H2 : Hp} (k : ∀ a o, (∀ ps, o ≠ HO.tbl ps) → H a = some o → H2 a = some o) {v : V} {d : PyData} (h : El H v d) : El H2 v d := by
  cases h with
  | lf l => exact .lf l
  | lst e l => exact .lst (k _ _ (fun _ z => by cases z) e) l
  | tup e l => exact .tup (k _ _ (fun _ z => by cases z) e) l
  | dic e l => exact .dic (k _ _ (fun _ z => by cases z) e) l
theorem ElAll.at {H H2 : Hp} (k : ∀ a o, (∀ ps, o ≠ HO.tbl ps) → H a = some o → H2 a = some o) : ∀ {vs : List V} {ds : List PyData}, ElAll H vs ds → ElAll H2 vs ds
  | _, _, .nil => .nil
  | _, _, .cons h t => .cons (h.at k) (t.at k)
theorem Ob.at {H H2 : Hp} (k : ∀ a o, (∀ ps, o ≠ HO.tbl ps) → H a = some o → H2 a = some o) {v : V} {d : PyData} (h : Ob H v d) : Ob H2 v d := by
  cases h with
  | el l => exact .el (l.at k)
  | lst e l n => exact .lst (k _ _ (fun _ z => by cases z) e) (l.at k) n
  | tup e l n => exact .tup (k _ _ (fun _ z => by cases z) e) (l.at k) n
theorem Kep.all {T : List Addr} {H H2 : Hp} (hT : ∀ p ∈ T, TabG H p) (k : Kep T H H2) : ∀ a o, (∀ ps, o ≠ HO.tbl ps) → H a = some o → H2 a = some o := fun a o n e => k.at hT e n
theorem Ob.kep {T : List Addr} {H H2 : Hp} {v : V} {d : PyData} (hT : ∀ p ∈ T, TabG H p) (k : Kep T H H2) (h : Ob H v d) : Ob H2 v d := h.at (k.all hT)
/-! ### their types -/
theorem Lf.ty {K : PySem.W.Frag} {H : Hp} {v : V} {d : PyData} (h : Lf v d) : ∃ n : String, TyX K H v (.type n) ∧ n ∈ ["NoneType", "bool", "int", "str"] := by
  cases h with
  | non => exact ⟨_, .base .non, by simp⟩
  | bl b => exact ⟨_, .base (.bl b), by simp⟩
  | int i => exact ⟨_, .base (.int i), by simp⟩
  | str z => exact ⟨_, .base (.str z), by simp⟩
def nameD : PyData → String
  | .none => "NoneType" | .bool _ => "bool" | .int _ => "int" | .str _ => "str" | .list _ => "list" | .tuple _ => "tuple" | .dict _ => "dict"
theorem El.ty {K : PySem.W.Frag} {H : Hp} {v : V} {d : PyData} (h : El H v d) : TyX K H v (.type (nameD d)) := by
  cases h with
  | lf l =>
    cases l with
    | non => exact .base .non
    | bl b => exact .base (.bl b)
    | int i => exact .base (.int i)
    | str z => exact .base (.str z)
  | lst e l => exact .base (.lst e)
  | tup e l => exact .base (.tup e)
  | dic e l => exact .base (.dK e)
theorem Ob.ty {K : PySem.W.Frag} {H : Hp} {v : V} {d : PyData} (h : Ob H v d) : TyX K H v (.type (nameD d)) := by
  cases h with
  | el l => exact l.ty
  | lst e l n => exact .base (.lst e)
  | tup e l n => exact .base (.tup e)
def isStrD : PyData → Bool
  | .str _ => true
  | _ => false
def isLstD : PyData → Bool
  | .list _ => true
  | _ => false
theorem kit_str (K : PySem.W.Frag) (d : PyData) : PySem.W.kitOne K (.type (nameD d)) (.type "str") = some (isStrD d) := by
  cases d with
  | none => exact kit_ty (show kitB "NoneType" "str" = some false by decide +kernel)
  | bool b => exact kit_ty (show kitB "bool" "str" = some false by decide +kernel)
  | int i => exact kit_ty (show kitB "int" "str" = some false by decide +kernel)
  | str z => exact kit_ty (show kitB "str" "str" = some true by decide +kernel)
  | list xs => exact kit_ty (show kitB "list" "str" = some false by decide +kernel)
  | tuple xs => exact kit_ty (show kitB "tuple" "str" = some false by decide +kernel)
  | dict kvs => exact kit_ty (show kitB "dict" "str" = some false by decide +kernel)
theorem kit_lst (K : PySem.W.Frag) (d : PyData) : PySem.W.kitOne K (.type (nameD d)) (.type "list") = some (isLstD d) := by
  cases d with
  | none => exact kit_ty (show kitB "NoneType" "list" = some false by decide +kernel)
  | bool b => exact kit_ty (show kitB "bool" "list" = some false by decide +kernel)
  | int i => exact kit_ty (show kitB "int" "list" = some false by decide +kernel)
  | str z => exact kit_ty (show kitB "str" "list" = some false by decide +kernel)
  | list xs => exact kit_ty (show kitB "list" "list" = some true by decide +kernel)
  | tuple xs => exact kit_ty (show kitB "tuple" "list" = some false by decide +kernel)
  | dict kvs => exact kit_ty (show kitB "dict" "list" = some false by decide +kernel)
theorem El.str {H : Hp} {v : V} {d : PyData} (h : El H v d) (e : isStrD d = true) : ∃ z, v = .str z ∧ d = .str z := by
  cases h with
  | lf l =>
    cases l with
    | str z => exact ⟨z, rfl, rfl⟩
    | _ => cases e
  | _ => cases e
theorem Ob.lsts {H : Hp} {v : V} {d : PyData} (h : Ob H v d) (e : isLstD d = true) : ∃ a xs ds, v = .ref a ∧ d = .list ds ∧ H a = some (.lst xs) ∧ ElAll H xs ds := by
  cases h with
  | el l =>
    cases l with
    | lf l => cases l <;> cases e
    | @lst a xs ds h l =>
      refine ⟨a, xs, ds, rfl, rfl, h, ?_⟩
      clear h e
      induction l with
      | nil => exact .nil
      | cons a _ ih => exact .cons (.lf a) ih
    | tup => cases e
    | dic => cases e
  | @lst a xs ds h l n => exact ⟨a, xs, ds, rfl, rfl, h, l⟩
  | tup => cases e
/-! ### reading them -/
section
variable {X : Cx} {pins : List (Addr × Obj)} {σ : L2.St} {H : Hp} {s : Shared}
theorem Lf.reads {h : Heap} {v : V} {d : PyData} {u : Value} (l : Lf v d) (r : RelV v u) : Reads h u d [] := by
  cases l with
  | non => cases r; exact .none
  | bl b => cases r; exact .bool b
  | int i => obtain ⟨t, rfl⟩ := r; exact .int i t
  | str z => obtain ⟨t, rfl⟩ := r; exact .str z t
theorem LfAll.reads {h : Heap} : ∀ {vs : List V} {ds : List PyData} {us : List Value}, LfAll vs ds → Vals vs us → ReadsAll h us ds []
  | _, _, _, .nil, .nil => .nil
  | _, _, _, .cons l t, .cons r q => .cons (l.reads r) (t.reads q)
theorem key_reads {h : Heap} {k : Key} {u : Value} (e : keyIs k u = true) : Reads h u (keyD k) [] := by
  rcases keyIs_shape e with ⟨i, t, rfl, rfl⟩ | ⟨z, t, rfl, rfl⟩
  · exact .int i t
  · exact .str z t
theorem pair_reads {P : Program} {w : World} {h : Heap} : ∀ {kvs : List (Key × V)} {ds : List PyData} {vs : List (Key × Value)} {es : List DictEntry}, LfAll (kvs.map (·.2)) ds → KV kvs vs → Pairs (mixKind P w) es vs →
    ReadsAll h (es.map (·.key)) ((pairD kvs ds).map (·.1)) [] ∧ ReadsAll h (es.map (·.val)) ((pairD kvs ds).map (·.2)) []
  | [], _, _, _, .nil, .nil, .nil => ⟨.nil, .nil⟩
  | _ :: _, _, _, _, .cons l t, .cons r q, .cons a b c => by
    obtain ⟨i1, i2⟩ := pair_reads t q c
    obtain ⟨r1, r2⟩ := r
    rw [← b] at r2
    refine ⟨.cons (key_reads (by rw [r1]; exact a)) i1, .cons (l.reads r2) i2⟩
theorem El.reads (I : Inv X pins σ H s) {v : V} {d : PyData} {u : Value} (h : El H v d) (r : RelV v u) : ∃ as, Reads s.heap u d as ∧ (isLstD d = false → sysModules ∉ as) := by
  cases h with
  | lf l => exact ⟨[], l.reads r, fun _ => by simp⟩
  | @lst a xs ds e l =>
    cases (show u = Value.ref a from r)
    obtain ⟨_, its, n, rv, ho⟩ := (show ObjOk X.prog X.w H s.heap a (.lst xs) from I.hok a _ e)
    exact ⟨_, .list ho rfl rfl (l.reads rv), fun z => by cases z⟩
  | @tup a xs ds e l =>
    cases (show u = Value.ref a from r)
    obtain ⟨_, its, rv, o, h1, h2, n, h3⟩ := (show ObjOk X.prog X.w H s.heap a (.tup xs) from I.hok a _ e)
    exact ⟨_, .tuple h1 h2 h3 (l.reads rv), fun _ => by simp⟩
  | @dic a kvs ds e l =>
    cases (show u = Value.ref a from r)
    obtain ⟨_, hs, vs, kv, o, es, ep, h1, h2, h3, _, h5, _⟩ := (show ObjOk X.prog X.w H s.heap a (.dK kvs) from I.hok a _ e)
    obtain ⟨p1, p2⟩ := pair_reads (h := s.heap) l kv h5
    refine ⟨_, .dict h1 h2.1 h3 p1 p2, fun _ => ?_⟩
    have hs : a ≠ sysModules := by simpa using hs
    simpa using fun z => hs z.symm
theorem ElAll.reads (I : Inv X pins σ H s) : ∀ {vs : List V} {ds : List PyData} {us : List Value}, ElAll H vs ds → Vals vs us → ∃ as, ReadsAll s.heap us ds as ∧ (noLst ds = true → sysModules ∉ as)
  | _, _, _, .nil, .nil => ⟨_, .nil, fun _ => by simp⟩
  | _, _, _, .cons (d := d) (ds := ds) l t, .cons r q => by
    obtain ⟨as, h1, h2⟩ := l.reads I r
    obtain ⟨bs, h3, h4⟩ := t.reads I q
    refine ⟨_, .cons h1 h3, fun z => ?_⟩
    have e1 : isLstD d = false ∧ noLst ds = true := by
      cases d <;> first | exact ⟨rfl, z⟩ | cases z
    simpa using ⟨h2 e1.1, h4 e1.2⟩
end
end Ov

set_option Elab.async false
set_option linter.all false
set_option maxRecDepth 100000
set_option maxHeartbeats 4000000
/-! repr of objects of any kind -/
namespace Ov
open PySem PySem.Spec PyProof.Rows L2 GxR
section
variable {P : Program} {w : World} {h : Heap} {a : Addr} {o : Obj} {vs : Array Value} {n : Nat} {ds : List PyData} {bs : List Addr}
theorem shows_lst (h1 : h.get? a = some o) (h2 : o.cls = .type "list") (h3 : o.data = .seq vs n) (h4 : ReadsAll h vs.toList ds bs) (hs : PyData.showableAll ds = true) (hin : PyData.hasDictAll ds = true → sysModules ∉ bs)
    (hz : (PyData.shown (.list ds)).length ≤ sizeLine) : ShowsBy P w h a (.list ds) "list" "list.__repr__" := by
  have zl : (listText (PyData.shownAll ds)).length ≤ sizeLine := by simpa only [PyData.shown] using hz
  obtain ⟨cs, hb, hk⟩ := ReprAllK.of_readsAll (prog := P) (w := w) h4 hs hin (fun t ht => Nat.le_trans (listText_mem_le ht) zl)
  have ni : a ∉ cs := not_mem_of_deeper (.list h1 h2 h3 h4) (by simp only [PyData.depth]; omega) hb
  refine ⟨F.slot_list_repr.toG, F.slot_list_str, F.slot_list_format, fun s k0 => ⟨o, k0 _ _ h1, h2⟩, fun A E s Q g u k0 q => ?_⟩
  simp only [PyData.depth] at u
  simp only [PyData.shown] at q
  obtain ⟨l⟩ := vs
  cases l with
  | nil =>
    have z : ReadsAll h [] ds _ := h4
    cases z
    simp only [PyData.shownAll, listText_nil] at q
    refine call_list_repr_empty ⟨o, k0 _ _ h1, h2⟩ (k0 _ _ h1) h3 ?_
    exact q s.heap _ _ (fun _ _ e => e)
  | cons x l =>
    refine call_list_reprK h1 h2 h3 ni (by simpa using hk.length_eq) (fun i y e => ?_) g (fun b _ => .nil b) u k0 q zl
    exact hk.item i y (by simpa using e)
end
/-- small data -/
structure Sm (d : PyData) : Prop where
  s : d.showable = true
  l : d.leavesShort 8 = true
  w : d.weight ≤ 8000
  d : d.depth ≤ 40
theorem Sm.len {d : PyData} (h : Sm d) : d.shown.length ≤ 80020 := by
  have h1 := PyData.shown_le 8 (Nat.le_refl 8) d h.l
  have h2 := h.w
  omega
theorem Sm.line {d : PyData} (h : Sm d) : d.shown.length ≤ sizeLine := Nat.le_trans h.len (by decide)
/-- repr of an object of any kind -/
def rReprO : List V → Hp → VK → Prop := fun xs H Q => ∃ (v : V) (d : PyData), xs = [v] ∧ Ob H v d ∧ Sm d ∧ Q (.str d.shown) H
section
variable {X : Cx} {pins : List (Addr × Obj)} {σ : L2.St} {H : Hp} {s : Shared}
theorem repr_leaf {v : V} {d : PyData} {u : Value} {Q : VK} (I : Inv X pins σ H s) (l : Lf v d) (r : RelV v u) (sm : Sm d) (q : Q (.str d.shown) H) : wpAny (model X.prog X.w) X.A (call (.builtin "repr") [u]) (EP X pins σ Q) X.xe s := by
  cases l with
  | non => obtain rfl : u = Value.none := r; exact P.repr_of_none ⟨.str "None", H, I.tok _, ⟨_, rfl⟩, q⟩
  | bl b => obtain rfl : u = Value.bool b := r; exact P.repr_of_bool ⟨.str (if b then "True" else "False"), H, I.tok _, ⟨_, rfl⟩, q⟩
  | int i =>
    obtain ⟨t, rfl⟩ := r
    exact P.repr_of_int (by simpa [PyData.showable] using sm.s) ⟨.str (toString i), H, I.tok _, ⟨_, rfl⟩, q⟩
  | str z =>
    obtain ⟨t, rfl⟩ := r
    exact P.repr_of_str ⟨.str (reprText z), H, I.tok _, ⟨_, rfl⟩, q⟩ (by simpa [PyData.shown] using sm.line)
theorem call_reprO (hg : X.A.guards = some []) (hu : X.A.units + 64 < cLine) : CallR X (.builtin "repr") rReprO := by
  intro pins s σ H xs us Q I r h
  obtain ⟨v, d, rfl, ob, sm, q⟩ := h
  obtain ⟨u, rfl, ru⟩ := vals1 r
  have hd := sm.d
  have byReads : ∀ {a : Addr} {as : List Addr}, u = .ref a → Reads s.heap u d as → (d.hasDict = true → sysModules ∉ as) → wpAny (model X.prog X.w) X.A (call (.builtin "repr") [u]) (EP X pins σ Q) X.xe s := fun {a as} e rd hsm => by
    subst e
    refine repr_of_reads' rd sm.s hsm hg (by omega) (fun b o e => e) (fun h' u tk hk => ?_) sm.line
    exact ⟨.str d.shown, H, I.kept (t' := tk) hk, ⟨u, rfl⟩, q⟩
  cases ob with
  | el l =>
    cases l with
    | lf l => exact repr_leaf I l ru sm q
    | @lst a xs ds e l =>
      obtain ⟨as, rd, -⟩ := (El.lst e l).reads I ru
      have nd : PyData.hasDictAll ds = false := by
        clear rd e sm q byReads hd
        induction l with
        | nil => rfl
        | cons a _ ih =>
          show (PyData.hasDict _ || PyData.hasDictAll _) = false
          rw [ih]
          cases a <;> rfl
      exact byReads (show u = Value.ref a from ru) rd (fun z => by rw [show PyData.hasDict (.list ds) = PyData.hasDictAll ds from rfl, nd] at z; cases z)
    | @tup a xs ds e l =>
      obtain ⟨as, rd, n⟩ := (El.tup e l).reads I ru
      exact byReads (show u = Value.ref a from ru) rd fun _ => n rfl
    | @dic a kvs ds e l =>
      obtain ⟨as, rd, n⟩ := (El.dic e l).reads I ru
      exact byReads (show u = Value.ref a from ru) rd fun _ => n rfl
  | @lst a xs ds e l n =>
    obtain rfl : u = Value.ref a := ru
    obtain ⟨_, its, m, rv, ho⟩ := (show ObjOk X.prog X.w H s.heap a (.lst xs) from I.hok a _ e)
    obtain ⟨as, ra, hn⟩ := l.reads I rv
    have S := shows_lst (P := X.prog) (w := X.w) ho rfl rfl (by simpa using ra) (by simpa [PyData.showable] using sm.s) (fun z => hn (n.resolve_left (by rw [z]; simp))) sm.line
    refine call_repr_slot (by omega) (S.typeIs s fun _ _ e => e) S.slotRepr (S.call X.A.in1 _ s _ hg (by show X.A.units + 1 + _ < cLine; omega) (fun _ _ e => e) fun h' u tk hk => ⟨_, _, rfl, ?_⟩)
    exact ⟨.str _, H, I.kept (t' := tk) hk, ⟨u, rfl⟩, q⟩
  | @tup a xs ds e l n =>
    obtain rfl : u = Value.ref a := ru
    obtain ⟨_, its, rv, o, h1, h2, m, h3⟩ := (show ObjOk X.prog X.w H s.heap a (.tup xs) from I.hok a _ e)
    obtain ⟨as, ra, hn⟩ := l.reads I rv
    exact byReads rfl (.tuple h1 h2 h3 (by simpa using ra)) fun z => hn (n.resolve_left (by rw [show PyData.hasDict (.tuple ds) = PyData.hasDictAll ds from rfl] at z; rw [z]; simp))
end
end Ov

set_option Elab.async false
set_option linter.all false
set_option maxRecDepth 100000
set_option maxHeartbeats 4000000
namespace Ov
open PySem PySem.Spec PyProof.Rows L2 GxR
abbrev sSame : Stmt := top 62
abbrev sPressed : Stmt := top 64
/-! ### what a law holds of a paper -/
/-- objects that change: none of the tables, no tuples, none of the band's -/
def MOk (H0 H : Hp) (M : List Addr) : Prop := ∀ c ∈ M, H0 c ≠ none ∧ ∃ o, H c = some o ∧ (∀ ps, o ≠ .tbl ps) ∧ ∀ xs, o ≠ .tup xs
def Held (H : Hp) (M : List Addr) (hl : Addr) (held : List St2) : Prop := ∃ tps : List Addr, H hl = some (.lst (tps.map V.ref)) ∧ TupsA H tps held ∧ hl ∉ M
def Scn (H : Hp) (M : List Addr) (sc : Addr) (i n : Nat) (ws : List Str) : Prop := ∃ wl : Addr, H sc = some (.tup [.int (i : Nat), .int (n : Nat), .ref wl]) ∧ H wl = some (.lst (ws.map V.str)) ∧ wl ∉ M
theorem grow {H : Hp} {M M' : List Addr} {a : Addr} {o : HO} (e : H a = some o) (n : a ∉ M) (hM : ∀ c ∈ M', c ∈ M ∨ H c = none) : a ∉ M' := fun z => by
  rcases hM a z with q | q
  · exact n q
  · rw [e] at q; cases q
section
variable {T S M M' : List Addr} {H0 H H' : Hp} {hl sc : Addr} {held : List St2} {i n : Nat} {ws : List Str}
theorem MOk.ntup (m : MOk H0 H M) (hS : ∀ c ∈ S, c ∈ M) : ∀ c ∈ S, ∀ xs, H c ≠ some (.tup xs) := fun c hc xs e => by
  obtain ⟨_, o, e1, _, e3⟩ := m c (hS c hc)
  rw [e] at e1
  cases e1
  exact e3 _ rfl
theorem Held.step (h : Held H M hl held) (hT : ∀ p ∈ T, TabG H p) (f : Fr T S H H') (m : MOk H0 H M) (hS : ∀ c ∈ S, c ∈ M) (hM : ∀ c ∈ M', c ∈ M ∨ H c = none) : Held H' M' hl held := by
  obtain ⟨tps, e, t, n⟩ := h
  exact ⟨tps, f.at hT (fun z => n (hS _ z)) e fun _ z => (by cases z), t.keep fun a xs ea => f.at hT (fun z => m.ntup hS a z xs ea) ea fun _ z => (by cases z), grow e n hM⟩
theorem Scn.step (h : Scn H M sc i n ws) (hT : ∀ p ∈ T, TabG H p) (f : Fr T S H H') (m : MOk H0 H M) (hS : ∀ c ∈ S, c ∈ M) (hM : ∀ c ∈ M', c ∈ M ∨ H c = none) : Scn H' M' sc i n ws := by
  obtain ⟨wl, e1, e2, n⟩ := h
  exact ⟨wl, f.at hT (fun z => m.ntup hS sc z _ e1) e1 fun _ z => (by cases z), f.at hT (fun z => n (hS _ z)) e2 fun _ z => (by cases z), grow e2 n hM⟩
end
/-- a law's state of a paper -/
structure LX (A : PpA) (C : Addr) (B : BA) (T : List Addr) (H0 : Hp) (M : List Addr) (H : Hp) (t : Addr) (N : Nat) (sc sl : Addr) (x : PA) (i n : Nat) (ws : List Str) (W : Nat) (held : List St2) (marks : List Int) (rs : List V) : Prop where
  hT : ∀ p ∈ T, TabG H p
  tp : Tp H t N
  mok : MOk H0 H M
  hH0 : ∀ b, H b = none → H0 b ≠ none
  pap : Pap A C B H0 H x i n ws W held marks
  scn : Scn H M sc i n ws
  st : ∃ hl, H sl = some (.lst (.ref hl :: rs)) ∧ Held H M hl held
  good : Good ws W
  tM : t ∈ M
  sM : sl ∈ M
  xM : ∀ b ∈ x.foot, b ∈ M
  tx : t ∉ x.foot
  sx : sl ∉ x.foot
  ts : t ≠ sl
def PA.all (x : PA) (t sl : Addr) : List Addr := t :: sl :: x.foot
section
variable {A : PpA} {C : Addr} {B : BA} {T S M M' : List Addr} {H0 H H' : Hp} {t sc sl : Addr} {N N' : Nat} {x y : PA} {i n : Nat} {ws : List Str} {W : Nat} {held : List St2} {marks : List Int} {rs : List V}
theorem LX.allM (h : LX A C B T H0 M H t N sc sl x i n ws W held marks rs) : ∀ c ∈ x.all t sl, c ∈ M := fun c hc => by
  unfold PA.all at hc
  rcases List.mem_cons.mp hc with rfl | hc
  · exact h.tM
  · rcases List.mem_cons.mp hc with rfl | hc
    · exact h.sM
    · exact h.xM c hc
/-- what leaves all that a law holds of a paper but the tape -/
theorem LX.step (h : LX A C B T H0 M H t N sc sl x i n ws W held marks rs) (f : Fr T S H H') (hS : ∀ c ∈ S, c ∈ M) (hM : ∀ c ∈ M', c ∈ M ∨ H c = none) (hM2 : ∀ c ∈ M, c ∈ M') (mok : MOk H0 H' M') (tp : Tp H' t N') (hH0 : ∀ b, H' b = none → H b = none) (hs : sl ∉ S) (hx : ∀ b ∈ x.foot, b ∉ S) : LX A C B T H0 M' H' t N' sc sl x i n ws W held marks rs := by
  obtain ⟨hl, e, hd⟩ := h.st
  exact ⟨f.1, tp, mok, fun b e => h.hH0 b (hH0 b e), h.pap.keep h.hT f hx (fun c hc => (h.mok c (hS c hc)).1) (h.mok.ntup hS), h.scn.step h.hT f h.mok hS hM, ⟨hl, f.at h.hT hs e fun _ z => (by cases z), hd.step h.hT f h.mok hS hM⟩, h.good, hM2 _ h.tM, hM2 _ h.sM, fun b hb => hM2 _ (h.xM b hb), h.tx, h.sx, h.ts⟩
theorem MOk.kep (m : MOk H0 H M) (hT : ∀ p ∈ T, TabG H p) (k : Kep T H H') : MOk H0 H' M := fun c hc => by
  obtain ⟨h0, o, e, n1, n2⟩ := m c hc
  exact ⟨h0, o, k.at hT e n1, n1, n2⟩
theorem MOk.same (m : MOk H0 H M) (k : L2.Same H H') : MOk H0 H' M := fun c hc => by
  obtain ⟨h0, o, e, n1, n2⟩ := m c hc
  exact ⟨h0, o, k _ _ e, n1, n2⟩
/-- new things alone -/
theorem LX.kep (h : LX A C B T H0 M H t N sc sl x i n ws W held marks rs) (k : Kep T H H') : LX A C B T H0 M H' t N sc sl x i n ws W held marks rs :=
  h.step (S := []) (M' := M) k.fr (fun _ z => by simp at z) (fun c hc => .inl hc) (fun c hc => hc) (h.mok.kep h.hT k) (h.tp.kx h.hT k) (fun b e => k.free h.hT e) (by simp) (fun _ _ => by simp)
theorem LX.same (h : LX A C B T H0 M H t N sc sl x i n ws W held marks rs) (k : L2.Same H H') : LX A C B T H0 M H' t N sc sl x i n ws W held marks rs := h.kep ⟨fun p hp => by
  obtain ⟨ps, h1, h2⟩ := h.hT p hp
  exact ⟨ps, k _ _ h1, h2⟩, fun b o _ e => k b o e⟩
end
section
variable {A : PpA} {C : Addr} {B : BA} {T M : List Addr} {H0 H H' : Hp} {t sc sl : Addr} {N N' : Nat} {x : PA} {i n : Nat} {ws : List Str} {W : Nat} {held : List St2} {marks : List Int} {rs : List V}
/-- the tape moves on -/
theorem LX.tape (h : LX A C B T H0 M H t N sc sl x i n ws W held marks rs) (b : Bt t H H') (tp : Tp H' t N') : LX A C B T H0 M H' t N' sc sl x i n ws W held marks rs := by
  have nt : t ∉ T := h.tp.nT h.hT
  have f : Fr T [t] H H' := ⟨fun p hp => by
    obtain ⟨ps, h1, h2⟩ := h.hT p hp
    exact ⟨ps, b p _ (fun z => nt (z ▸ hp)) h1, h2⟩, fun a o _ hn e => b a o (fun z => hn (by rw [z]; simp)) e⟩
  have ts : H' t ≠ none := by
    obtain ⟨_, _, _, e, _⟩ := tp
    rw [e]; intro z; cases z
  refine h.step (S := [t]) (M' := M) f (fun c hc => by rw [List.mem_singleton.mp hc]; exact h.tM) (fun c hc => .inl hc) (fun c hc => hc) (fun c hc => ?_) tp (fun a e => b.free (fun z => ts (z ▸ e)) e) (fun z => h.ts (List.mem_singleton.mp z).symm) (fun c hc z => h.tx (by rw [← List.mem_singleton.mp z]; exact hc))
  obtain ⟨h0, o, e, n1, n2⟩ := h.mok c hc
  by_cases z : c = t
  · subst z
    obtain ⟨_, _, _, e, _⟩ := tp
    exact ⟨h0, _, e, fun _ z => (by cases z), fun _ z => (by cases z)⟩
  · exact ⟨h0, o, b c o z e, n1, n2⟩
end
/-! ### data -/
theorem small_int : ∀ n < 300, ((PyData.shown (.int (n : Nat))).length ≤ 8) ∧ ((n : Int).natAbs.log2 < 1920) ∧ PyData.weight (.int (n : Nat)) ≤ 10 := by decide +kernel
theorem small_neg : ∀ n < 20, ((PyData.shown (.int (-(n : Nat)))).length ≤ 8) ∧ ((-(n : Int)).natAbs.log2 < 1920) ∧ PyData.weight (.int (-(n : Nat))) ≤ 10 := by decide +kernel
theorem small (k : Int) (h0 : -20 < k) (h1 : k < 300) : ((PyData.shown (.int k)).length ≤ 8) ∧ (k.natAbs.log2 < 1920) ∧ PyData.weight (.int k) ≤ 10 := by
  by_cases c : 0 ≤ k
  · have := small_int k.toNat (by omega)
    rw [show ((k.toNat : Nat) : Int) = k by omega] at this
    exact this
  · have := small_neg (-k).toNat (by omega)
    rw [show -(((-k).toNat : Nat) : Int) = k by omega] at this
    exact this
def dTup (s : St2) : PyData := .tuple [.int s.1, .int s.2]
def dHeld (held : List St2) : PyData := .list (held.map dTup)
def SmS (s : St2) : Prop := -20 < s.1 ∧ s.1 < 300 ∧ -20 < s.2 ∧ s.2 < 300
theorem fits_small {i N W n : Nat} {s : St2} (hN : N ≤ 6) (hW : W ≤ 8) (hn : n ≤ cellsN i) (hi : i < 3) (h : fitsB i N W (n : Nat) s.1 s.2 = true) : SmS s := by
  obtain ⟨h1, h2, h3⟩ := fits_wordS h
  have c60 : cellsN i ≤ 120 := by unfold cellsN; split <;> omega
  unfold SmS
  unfold spotB at h3
  have : i = 0 ∨ i = 1 ∨ i = 2 := by omega
  rcases this with rfl | rfl | rfl <;> simp at h3 <;> omega
theorem sm_all : ∀ (held : List St2), (∀ s ∈ held, SmS s) → PyData.showableAll (held.map dTup) = true ∧ PyData.leavesShortAll 8 (held.map dTup) = true ∧ PyData.weightAll (held.map dTup) ≤ 30 * held.length ∧ PyData.depthAll (held.map dTup) ≤ 1
  | [], _ => ⟨rfl, rfl, Nat.le_refl _, Nat.zero_le _⟩
  | s :: r, h => by
    obtain ⟨i1, i2, i3, i4⟩ := sm_all r fun a ha => h a (List.mem_cons_of_mem _ ha)
    obtain ⟨h1, h2, h3, h4⟩ := h s List.mem_cons_self
    obtain ⟨a1, a2, a3⟩ := small s.1 h1 h2
    obtain ⟨b1, b2, b3⟩ := small s.2 h3 h4
    refine ⟨?_, ?_, ?_, ?_⟩
    · show ((decide _ && (decide _ && true)) && PyData.showableAll (r.map dTup)) = true
      rw [i1, decide_eq_true a2, decide_eq_true b2]; rfl
    · show ((decide _ && (decide _ && true)) && PyData.leavesShortAll 8 (r.map dTup)) = true
      rw [i2, decide_eq_true a1, decide_eq_true b1]; rfl
    · have e : PyData.weightAll ((s :: r).map dTup) = (PyData.weight (.int s.1) + 1 + (PyData.weight (.int s.2) + 1 + 0)) + 1 + PyData.weightAll (r.map dTup) := rfl
      rw [e, List.length_cons]
      omega
    · have z : ∀ i, PyData.depth (.int i) = 0 := fun i => by simp [PyData.depth]
      have e : PyData.depthAll ((s :: r).map dTup) = max (max (PyData.depth (.int s.1)) (max (PyData.depth (.int s.2)) 0) + 1) (PyData.depthAll (r.map dTup)) := rfl
      rw [e, z, z]
      omega
theorem sm_held {held : List St2} (h : ∀ s ∈ held, SmS s) (hl : held.length ≤ 250) : Sm (dHeld held) := by
  obtain ⟨i1, i2, i3, i4⟩ := sm_all held h
  exact ⟨i1, i2, by show PyData.weightAll (held.map dTup) ≤ 8000; omega, by show PyData.depthAll (held.map dTup) + 1 ≤ 40; omega⟩
theorem sm_int {k : Int} (h0 : -20 < k) (h1 : k < 300) : Sm (.int k) := by
  obtain ⟨a1, a2, a3⟩ := small k h0 h1
  refine ⟨decide_eq_true a2, decide_eq_true a1, by omega, ?_⟩
  have : PyData.depth (.int k) = 0 := by simp [PyData.depth]
  omega
theorem el_tups {H : Hp} : ∀ (tps : List Addr) (held : List St2), TupsA H tps held → ElAll H (tps.map V.ref) (held.map dTup)
  | [], [], _ => .nil
  | [], _ :: _, h => by simp [TupsA] at h
  | _ :: _, [], h => by simp [TupsA] at h
  | a :: tps, s :: held, h => by
    unfold TupsA at h
    rw [List.map_cons, List.map_cons] at h
    injection h with h1 h2
    exact .cons (.tup h1 (.cons (.int _) (.cons (.int _) .nil))) (el_tups tps held h2)
theorem dict_held : ∀ (held : List St2), PyData.hasDictAll (held.map dTup) = false
  | [] => rfl
  | s :: r => by
    show (PyData.hasDict (dTup s) || PyData.hasDictAll (r.map dTup)) = false
    rw [dict_held r]
    rfl
theorem ob_held {H : Hp} {l : Addr} {tps : List Addr} {held : List St2} (e : H l = some (.lst (tps.map V.ref))) (t : TupsA H tps held) : Ob H (.ref l) (dHeld held) := .lst e (el_tups tps held t) (.inl (dict_held held))
structure TopS2 (K : PySem.W.Frag) (mg : Str → Option Value) (fSa fPs : Addr) : Prop where
  gSa : mg "_law_same" = some (.ref fSa)
  kSa : PySem.W.keepIn K (.ref fSa) = true
  gPs : mg "_law_pressed" = some (.ref fPs)
  kPs : PySem.W.keepIn K (.ref fPs) = true
section
variable {P : Program} {w : World} {K : PySem.W.Frag} {mg : Str → Option Value} {base : Heap} {T : List Addr} {C D fLow fText fAre fTape fNext fInks fInit cLow PLow cAre PAre DSp DSg DNum DNo fKp fUn pWi fWi fDr fSc fSl fSa fPs : Addr} {B : BA} {A : PpA}
/-! ### the paper is as the law has it -/
def spSame (A : PpA) (C : Addr) (B : BA) (T : List Addr) : Sp := fun vs H Q _ => ∃ (H0 : Hp) (M : List Addr) (t : Addr) (N : Nat) (sc sl : Addr) (x : PA) (i n : Nat) (ws : List Str) (W : Nat) (held : List St2) (marks : List Int) (rs : List V), vs = [.ref x.pp, .ref sc, .ref sl] ∧ LX A C B T H0 M H t N sc sl x i n ws W held marks rs ∧ held.length ≤ 250 ∧
  ∀ H', L2.Same H H' → Q (.bl true) H'
abbrev NSame : List Str := ["paper", "scene", "state", "kind", "cells_here", "words"]
theorem scSame : FnScope NSame ["paper", "scene", "state"] (defScope sSame) := ⟨rfl, rfl, rfl, by decide +kernel, rfl, by decide +kernel, by decide +kernel⟩
theorem ok_same {f : Addr} {fd fdSh fdSt fdLn fdSl : FuncData} (F : L2.Fun K "_law_same" "_law_same" sSame f fd) (FSh : L2.Fun K "shown" "Paper.shown" sPpSh A.gSh fdSh) (FSt : L2.Fun K "stampings" "Paper.stampings" sPpSt A.gSt fdSt) (FLn : L2.Fun K "__len__" "Paper.__len__" sPpLn A.fLn fdLn) (FSl : L2.Fun K "_law_strip" "_law_strip" sStripL fSl fdSl)
    (X : Txt K mg C fLow fText fAre fTape fNext fInks) (XS : TopS K mg fDr fSc fSl) (Y : PpK K mg A) : FnG P w K mg base CX0 4 f fd ["paper", "scene", "state"] (spSame A C B T) := by
  have SH : FnOk P w K mg base CX0 1 A.gSh fdSh ["self"] (spShown A C B) := ok_shown FSh Y
  have bSh : Binds K fdSh ["self"] [] := FSh.binds fun _ _ _ _ _ _ us hl => match us, hl with | [_], _ => rfl
  have ST : FnOk P w K mg base CX0 1 A.gSt fdSt ["self"] (spStps A C B) := ok_stps FSt X Y
  have bSt : Binds K fdSt ["self"] [] := FSt.binds fun _ _ _ _ _ _ us hl => match us, hl with | [_], _ => rfl
  have LN : FnOk P w K mg base CX0 1 A.fLn fdLn ["self"] (spPLn A C B) := ok_pln FLn X Y
  have LR : FnR P w K mg base CX0 1 A.fLn (spPLn A C B) := (LN.raw (FLn.binds fun _ _ _ _ _ _ us hl => match us, hl with | [_], _ => rfl) .nil).imp fun vs H Q E h => by rw [List.append_nil]; exact h
  have SL : FnOk P w K mg base CX0 1 fSl fdSl ["kind", "cells_here", "words", "held"] spStripL := ok_stripl FSl X XS
  have bSl : Binds K fdSl ["kind", "cells_here", "words", "held"] [] := FSl.binds fun _ _ _ _ _ _ us hl => match us, hl with | [_, _, _, _], _ => rfl
  refine fun_okG F scSame (fun vs H Q E h => ?_) (fun cdv A' outer s H vs Q E hg hr h => ?_)
  · obtain ⟨H0, M, t, N, sc, sl, x, i, n, ws, W, held, marks, rs, rfl, _⟩ := h
    rfl
  · obtain ⟨H0, M, t, N, sc, sl, x, i, n, ws, W, held, marks, rs, rfl, lx, hn, q⟩ := h
    have hu : (A'.deeper (envOfC "_law_same" (defScope sSame) s.heap.objs.size f cdv)).units + 64 < cLine := hr.units
    obtain ⟨wl, es, ew, nw⟩ := lx.scn
    obtain ⟨hl, est, tps, eh, th, nh⟩ := lx.st
    have p := lx.pap
    have g := lx.good
    have n2 := p.n2
    have c60 : cellsN i ≤ 120 := by unfold cellsN; split <;> omega
    have smh : Sm (dHeld held) := sm_held (fun s hs => fits_small g.n6 g.w8 p.n2 p.i3 (p.fit s hs)) hn
    have sml : Sm (.int (held.length : Nat)) := sm_int (by omega) (by omega)
    refine ⟨_, (pss_cons (ps_asg (pv 1) (pg_tup rfl (pgs_cons (pg_name (i := 3) scSame.nd rfl (Or.inl rfl)) (pgs_cons (pg_name (i := 4) scSame.nd rfl (Or.inl rfl)) (pgs_cons (pg_name (i := 5) scSame.nd rfl (Or.inl rfl)) pgs_nil)))))
      (pss_cons (ps_if ((pw_or (pt_cmpR op_ne (pe_callB (call_reprO hg hu) (by rfl) XS.rep boot_repr (pa_cons (pe_propX (p := A.pSt) (pv 0) ST (hr.mono (by decide)) bSt .nil L2.pass0) pa_nil)) (pe_callB (call_reprO hg hu) (by rfl) XS.rep boot_repr (pa_cons (pe_ix ix_seq (pv 2) pe_int fun _ _ => rfl) pa_nil)) (by rfl)) (pw_or1 (pt_cmpR op_ne (pe_callB (call_reprO hg hu) (by rfl) XS.rep boot_repr (pa_cons (pe_callB (call_lenI Y.ln.ls Y.ln.lf LR (hr.mono (by decide))) (by rfl) X.len boot_len (pa_cons (pv 0) pa_nil)) pa_nil)) (pe_callB (call_reprO hg hu) (by rfl) XS.rep boot_repr (pa_cons (pe_callB call_len_seq (by rfl) X.len boot_len (pa_cons (pe_ix ix_seq (pv 2) pe_int fun _ _ => rfl) pa_nil)) pa_nil)) (by rfl)))).pt) (pss_one (ps_ret pe_bl)) pss_nil)
      (pss_one (ps_ret (pe_cmpR op_eq (pe_propX (p := A.pSh) (pv 0) SH (hr.mono (by decide)) bSh .nil L2.pass0) (pe_call SL (hr.mono (by decide)) (by rfl) XS.gSl XS.kSl bSl .nil L2.pass0 (pa_cons (pv 3) (pa_cons (pv 4) (pa_cons (pv 5) (pa_cons (pe_ix ix_seq (pv 2) pe_int fun _ _ => rfl) pa_nil))))) (by rfl)))))), ?_⟩
    refine ⟨_, rfl, sc, _, rfl, .inl (.inl es), rfl, _, _, rfl, _, _, rfl, _, _, rfl, rfl, ?_⟩
    refine ⟨_, rfl, x.pp, A.c, x.dx, _, rfl, Y.cls, Y.st, p.ins, x, i, n, ws, held, rfl, ⟨H0, W, marks, p⟩, fun l1 tps1 hl1 t1 => ?_⟩
    have s1 := same_new (o := .lst (tps1.map V.ref)) hl1
    have e1 : upd H l1 (.lst (tps1.map V.ref)) l1 = some (.lst (tps1.map V.ref)) := upd_same
    have t1' := t1.keep fun a xs e => s1 _ _ e
    generalize upd H l1 (.lst (tps1.map V.ref)) = H1 at s1 e1 t1' ⊢
    have p1 := p.same s1
    refine ⟨_, _, rfl, ob_held e1 t1', smh, ?_⟩
    refine ⟨_, rfl, .inl ⟨sl, _, 0, .ref hl, rfl, rfl, .inl (.inl (s1 _ _ est)), by simp [atI, ixN], _, _, rfl, ob_held (s1 _ _ eh) (th.keep fun a xs e => s1 _ _ e), smh, rfl, _, rfl, ?_⟩⟩
    refine iteF' (by simp) ?_
    refine ⟨_, rfl, x.pp, x.dx, _, rfl, p1.ins, x, i, n, ws, held, rfl, ⟨H0, W, marks, p1⟩, ?_⟩
    refine ⟨held.length, rfl, by omega, _, _, rfl, .el (.lf (.int _)), sml, ?_⟩
    refine ⟨_, rfl, .inl ⟨sl, _, 0, .ref hl, rfl, rfl, .inl (.inl (s1 _ _ est)), by simp [atI, ixN], hl, _, rfl, .inl (.inl (.inl (s1 _ _ eh))), ?_⟩⟩
    rw [List.length_map, th.len]
    refine ⟨_, _, rfl, .el (.lf (.int _)), sml, rfl, _, rfl, iteF' (by simp) ?_⟩
    refine ⟨_, rfl, x.pp, A.c, x.dx, _, rfl, Y.cls, Y.sh, p1.ins, x, i, n, ws, held, rfl, ⟨H0, W, marks, p1⟩, ?_⟩
    refine ⟨_, rfl, _, rfl, _, rfl, _, rfl, .inl ⟨sl, _, 0, .ref hl, rfl, rfl, .inl (.inl (s1 _ _ est)), by simp [atI, ixN], ?_⟩⟩
    refine ⟨wl, hl, i, n, W, ws, held, tps, rfl, s1 _ _ ew, s1 _ _ eh, th.keep fun a xs e => s1 _ _ e, p.fit, g, p.i3, p.n1, p.n2, fun H3 s3 => ⟨rfl, ?_⟩⟩
    have e : decide (V.str (stripF i ws n held) = V.str (stripF i ws n held)) = true := by simp
    rw [e]
    exact q _ (s1.trans s3)
/-! ### a drawn stamping is pressed -/
abbrev gP (us ws : List Value) : List Value := [us.getD 0 .none, ws.getD 1 .none, ws.getD 0 .none]
abbrev gPV (us ws : List V) : List V := [us.getD 0 .non, ws.getD 1 .non, ws.getD 0 .non]
theorem press_kw {f : Addr} {fd : FuncData} (F : L2.Fun K "press" "Paper.press" sPpPr f fd) : KBn K fd ["self", "word", "place"] 1 ["place", "word"] gP gPV := by
  obtain ⟨oc, od, kV, doc, pm, an, cdv, ct, osl, rfl, lk, hcd⟩ := F.ex
  refine ⟨fun s us ws _ h1 h2 => ?_, fun r1 r2 => .cons (valsGet r1 0) (.cons (valsGet r2 1) (.cons (valsGet r2 0) .nil))⟩
  match us, ws, h1, h2 with
  | [a], [b, c], _, _ => exact BindsTo.of_eq rfl
def spPressed (A : PpA) (C : Addr) (B : BA) (T : List Addr) : Sp := fun vs H Q _ => ∃ (H0 : Hp) (M : List Addr) (t : Addr) (N : Nat) (sc sl : Addr) (x : PA) (i n : Nat) (ws : List Str) (W : Nat) (held : List St2) (marks : List Int) (rs : List V), vs = [.ref t, .ref x.pp, .ref sc, .ref sl] ∧ LX A C B T H0 M H t N sc sl x i n ws W held marks rs ∧ held.length < 10000 ∧ rs.length < 1000 ∧ N + 10 < 2 ^ 40 ∧
  ∀ held' H', (held' = held ∨ ∃ s, held' = held ++ [s]) → LX A C B T H0 M H' t (N + 4) sc sl x i n ws W held' marks rs → Fr T (x.all t sl) H H' → Q (.bl true) H'
abbrev NPressed : List Str := ["stock", "paper", "scene", "state", "one"]
theorem scPressed : FnScope NPressed ["stock", "paper", "scene", "state"] (defScope sPressed) := ⟨rfl, rfl, rfl, by decide +kernel, rfl, by decide +kernel, by decide +kernel⟩
theorem bt_fr {t : Addr} {H H' : Hp} (b : Bt t H H') (hT : ∀ p ∈ T, TabG H p) (nt : t ∉ T) : Fr T [t] H H' := ⟨fun p hp => by
  obtain ⟨ps, h1, h2⟩ := hT p hp
  exact ⟨ps, b p _ (fun z => nt (z ▸ hp)) h1, h2⟩, fun a o _ hn e => b a o (fun z => hn (by rw [z]; simp)) e⟩
theorem ok_pressed {f : Addr} {fd fdD fdP fdN : FuncData} (F : L2.Fun K "_law_pressed" "_law_pressed" sPressed f fd) (FD : L2.Fun K "_law_drawn" "_law_drawn" sDrawn fDr fdD) (FN : L2.Fun K "_law_roll" "_law_roll" sNext fNext fdN) (FP : L2.Fun K "press" "Paper.press" sPpPr A.fPr fdP)
    (PR : FnOk P w K mg base (L2.CX P w) 8 A.fPr fdP ["self", "word", "place"] (spPress A C B T)) (X : Txt K mg C fLow fText fAre fTape fNext fInks) (XS : TopS K mg fDr fSc fSl) (Y : PpK K mg A) : FnOk P w K mg base CX0 9 f fd ["stock", "paper", "scene", "state"] (spPressed A C B T) := by
  have DR : FnOk P w K mg base CX0 2 fDr fdD ["stock", "kind", "cells_here", "words"] spDrawn := ok_drawn FD FN X XS
  have bD : Binds K fdD ["stock", "kind", "cells_here", "words"] [] := FD.binds fun _ _ _ _ _ _ us hl => match us, hl with | [_, _, _, _], _ => rfl
  have bP : Binds K fdP ["self", "word", "place"] [] := FP.binds fun _ _ _ _ _ _ us hl => match us, hl with | [_, _, _], _ => rfl
  refine F.ok scPressed (fun vs H Q E h => ?_) (fun cdv A' outer s H vs Q E hr h => ?_)
  · obtain ⟨H0, M, t, N, sc, sl, x, i, n, ws, W, held, marks, rs, rfl, _⟩ := h
    rfl
  · obtain ⟨H0, M, t, N, sc, sl, x, i, n, ws, W, held, marks, rs, rfl, lx, hn, hrs, hN, q⟩ := h
    obtain ⟨wl, es, ew, nw⟩ := lx.scn
    have p := lx.pap
    have g := lx.good
    have hi := p.i3
    have n2 := p.n2
    have c60 : cellsN i ≤ 120 := by unfold cellsN; split <;> omega
    have wt : wl ≠ t := fun z => nw (z ▸ lx.tM)
    have nt : t ∉ T := lx.tp.nT lx.hT
    have tall : t ∈ x.all t sl := List.mem_cons_self
    refine ⟨_, (pss_cons (ps_set (i := 4) scPressed.nd rfl (.inl rfl) (pe_call DR (hr.mono (by decide)) (by rfl) XS.gDr XS.kDr bD .nil L2.pass0 (pa_cons (pv 0) (pa_cons (pe_ix ix_seq (pv 2) pe_int fun _ _ => rfl) (pa_cons (pe_ix ix_seq (pv 2) pe_int fun _ _ => rfl) (pa_cons (pe_ix ix_seq (pv 2) pe_int fun _ _ => rfl) pa_nil))))))
      (pss_cons (ps_if (pt_cmpR op_isN (pv 4) pe_non (by rfl)) (pss_one (ps_ret pe_bl)) pss_nil)
      (pss_cons (ps_asg (pe_op op_cat (pe_ix ix_seq (pv 3) pe_int fun _ _ => rfl) (pe_lst (pa_cons (pv 4) pa_nil))) (pg_sub (pv 3) pe_int set_list))
      (pss_cons (ps_if (pt_cmpR op_eq (pe_op op_mod (pe_callB call_len_seq (by rfl) X.len boot_len (pa_cons (pe_ix ix_seq (pv 3) pe_int fun _ _ => rfl) pa_nil)) pe_int) pe_int (by rfl)) (pss_one (ps_ret (pe_cmpR op_isN (pe_meth (pv 1) Y.cls Y.pr PR hr bP .nil passL (pa_cons (pe_ix ix_seq (pv 4) pe_int fun _ _ => rfl) (pa_cons (pe_ix ix_seq (pv 4) pe_int fun _ _ => rfl) pa_nil))) pe_non (by rfl)))) pss_nil)
      (pss_one (ps_ret (pe_cmpR op_isN (pe_methKE (pv 1) Y.cls Y.pr PR hr (press_kw FP) (fun σ pins H s e s' I c => passL pins σ H s e s' I c) (pk_cons (pe_ix ix_seq (pv 4) pe_int fun _ _ => rfl) (pk_cons (pe_ix ix_seq (pv 4) pe_int fun _ _ => rfl) pk_nil))) pe_non (by rfl)))))))), ?_⟩
    have st : SqT K H sc [.int (i : Nat), .int (n : Nat), .ref wl] := .inl (.inl es)
    refine ⟨_, rfl, _, rfl, .inr (.inl ⟨sc, _, 0, .int (i : Nat), rfl, rfl, st, by simp [atI, ixN], ?_⟩)⟩
    refine ⟨_, rfl, .inr (.inl ⟨sc, _, 1, .int (n : Nat), rfl, rfl, st, by simp [atI, ixN], ?_⟩)⟩
    refine ⟨_, rfl, .inr (.inl ⟨sc, _, 2, .ref wl, rfl, rfl, st, by simp [atI, ixN], ?_⟩)⟩
    refine ⟨t, wl, i, n, W, N, ws, rfl, ew, g, hi, p.n1, p.n2, wt, lx.tp, by omega, fun H1 tp1 b1 => ?_, fun tp s1 H1 htp etp fts tp1 b1 => ?_⟩
    · -- nothing is drawn
      have lx1 := lx.tape b1 tp1
      refine ⟨_, rfl, rfl, _, rfl, iteT' (by simp) ?_⟩
      exact q held H1 (.inl rfl) lx1 ((bt_fr b1 lx.hT nt).mono fun c hc => .inl (by rw [List.mem_singleton.mp hc]; exact tall))
    · have lx1 := lx.tape b1 tp1
      refine ⟨_, rfl, rfl, _, rfl, iteF' (by simp) ?_⟩
      obtain ⟨hl, est, tps, eh, th, nh⟩ := lx1.st
      have p1 := lx1.pap
      have slT : sl ∉ T := not_tab lx1.hT est fun _ z => by cases z
      have lsn : sl ≠ t := lx.ts.symm
      refine ⟨_, rfl, .inl ⟨sl, _, 0, .ref hl, rfl, rfl, .inl (.inl est), by simp [atI, ixN], _, rfl, (by decide : 1 ≤ sizeLine), fun l2 hl2 => ?_⟩⟩
      have k2 := Kep.new (o := .lst [.ref tp]) lx1.hT hl2
      have e2 : upd H1 l2 (.lst [.ref tp]) l2 = some (.lst [.ref tp]) := upd_same
      have etp2 : upd H1 l2 (.lst [.ref tp]) tp = tupO s1 := (upd_ne (ne_of_none etp hl2)).trans etp
      have lx2 := lx1.kep k2
      have eh2 : upd H1 l2 (.lst [.ref tp]) hl = some (.lst (tps.map V.ref)) := (upd_ne (ne_of_none eh hl2)).trans eh
      have th2 : TupsA (upd H1 l2 (.lst [.ref tp])) tps held := th.keep fun a xs e => (upd_ne (ne_of_none e hl2)).trans e
      have est2 : upd H1 l2 (.lst [.ref tp]) sl = some (.lst (.ref hl :: rs)) := (upd_ne (ne_of_none est hl2)).trans est
      generalize upd H1 l2 (.lst [.ref tp]) = H2 at k2 e2 etp2 lx2 eh2 th2 est2
      refine ⟨hl, l2, _, _, rfl, rfl, eh2, e2, by rw [List.length_map, th.len, sizeLine_eq]; simp; omega, fun l3 hl3 => ?_⟩
      have em : tps.map V.ref ++ [V.ref tp] = (tps ++ [tp]).map V.ref := by rw [List.map_append]; rfl
      rw [em]
      have k3 := Kep.new (o := .lst ((tps ++ [tp]).map V.ref)) lx2.hT hl3
      have e3 : upd H2 l3 (.lst ((tps ++ [tp]).map V.ref)) l3 = some (.lst ((tps ++ [tp]).map V.ref)) := upd_same
      have etp3 : upd H2 l3 (.lst ((tps ++ [tp]).map V.ref)) tp = tupO s1 := (upd_ne (ne_of_none etp2 hl3)).trans etp2
      have th3 : TupsA (upd H2 l3 (.lst ((tps ++ [tp]).map V.ref))) tps held := th2.keep fun a xs e => (upd_ne (ne_of_none e hl3)).trans e
      have est3 : upd H2 l3 (.lst ((tps ++ [tp]).map V.ref)) sl = some (.lst (.ref hl :: rs)) := (upd_ne (ne_of_none est2 hl3)).trans est2
      have lx3 := lx2.kep k3
      have l3M : l3 ∉ M := fun z => by
        obtain ⟨_, o, e, _⟩ := lx2.mok l3 z
        rw [e] at hl3; cases hl3
      generalize upd H2 l3 (.lst ((tps ++ [tp]).map V.ref)) = H3 at k3 e3 etp3 th3 est3 lx3
      refine ⟨_, rfl, sl, _, 0, 0, rfl, rfl, est3, by simp [ixN], ?_⟩
      rw [show (V.ref hl :: rs).set 0 (V.ref l3) = V.ref l3 :: rs from rfl]
      have f4 : Fr T [sl] H3 (upd H3 sl (.lst (.ref l3 :: rs))) := (Fr.refl lx3.hT).put (.inl (by simp)) slT
      have hs4 : ∀ c ∈ [sl], c ∈ M := fun c hc => by rw [List.mem_singleton.mp hc]; exact lx.sM
      have hM4 : ∀ c ∈ M, c ∈ M ∨ H3 c = none := fun c hc => .inl hc
      have mk4 : MOk H0 (upd H3 sl (.lst (.ref l3 :: rs))) M := fun c hc => by
        obtain ⟨h0, o, e, n1, n2⟩ := lx3.mok c hc
        by_cases z : c = sl
        · subst z
          exact ⟨h0, _, upd_same, fun _ z => (by cases z), fun _ z => (by cases z)⟩
        · exact ⟨h0, o, (upd_ne z).trans e, n1, n2⟩
      have ne4 : ∀ {b : Addr} {o : HO}, b ≠ sl → H3 b = some o → upd H3 sl (.lst (.ref l3 :: rs)) b = some o := fun nb e => (upd_ne nb).trans e
      have st4 : Held (upd H3 sl (.lst (.ref l3 :: rs))) M l3 (held ++ [s1]) := ⟨tps ++ [tp], ne4 (fun z => l3M (z ▸ lx.sM)) e3, (th3.keep fun a xs e => ne4 (ne_of e est3 (by intro z; cases z)) e).snoc (ne4 (ne_of etp3 est3 (by intro z; cases z)) etp3), l3M⟩
      have p4 := lx3.pap.keep lx3.hT f4 (fun b hb z => lx.sx (by rw [← List.mem_singleton.mp z]; exact hb)) (fun c hc => (lx3.mok c (hs4 c hc)).1) (lx3.mok.ntup hs4)
      have sc4 := lx3.scn.step (M' := M) lx3.hT f4 lx3.mok hs4 hM4
      have tp4 : Tp (upd H3 sl (.lst (.ref l3 :: rs))) t (N + 4) := lx3.tp.at (upd_ne lx.ts)
      have est4 : upd H3 sl (.lst (.ref l3 :: rs)) sl = some (.lst (.ref l3 :: rs)) := upd_same
      have etp4 : upd H3 sl (.lst (.ref l3 :: rs)) tp = tupO s1 := ne4 (ne_of etp3 est3 (by intro z; cases z)) etp3
      have n04 : ∀ b, upd H3 sl (.lst (.ref l3 :: rs)) b = none → H0 b ≠ none := fun b e => lx3.hH0 b (by
        by_cases z : b = sl
        · rw [z, upd_same] at e; cases e
        · exact (upd_ne z).symm.trans e)
      have fA : Fr T (x.all t sl) H (upd H3 sl (.lst (.ref l3 :: rs))) := by
        have a1 : Fr T (x.all t sl) H H1 := (bt_fr b1 lx.hT nt).mono fun c hc => .inl (by rw [List.mem_singleton.mp hc]; exact tall)
        have a3 : Fr T (x.all t sl) H H3 := a1.tr ((k2.trans k3).fr)
        exact a3.put (.inl (List.mem_cons_of_mem _ List.mem_cons_self)) slT
      generalize upd H3 sl (.lst (.ref l3 :: rs)) = H4 at f4 mk4 st4 p4 sc4 tp4 est4 etp4 n04 fA
      have fin : ∀ H5, Pap A C B H0 H5 x i n ws W (held ++ [(s1.1, s1.2)]) marks → Fr T [x.lp, x.ls] H4 H5 → Q (.bl true) H5 := fun H5 p5 f5 => by
        have hs5 : ∀ c ∈ [x.lp, x.ls], c ∈ x.foot := fun c hc => by
          unfold PA.foot
          simp only [List.mem_cons, List.not_mem_nil, or_false] at hc ⊢
          rcases hc with rfl | rfl <;> simp
        have hs5M : ∀ c ∈ [x.lp, x.ls], c ∈ M := fun c hc => lx.xM c (hs5 c hc)
        have hM5 : ∀ c ∈ M, c ∈ M ∨ H4 c = none := fun c hc => .inl hc
        have nt5 : t ∉ [x.lp, x.ls] := fun z => lx.tx (hs5 _ z)
        have ns5 : sl ∉ [x.lp, x.ls] := fun z => lx.sx (hs5 _ z)
        have tp5 : Tp H5 t (N + 4) := by
          obtain ⟨a, b, c, e, r⟩ := tp4
          exact ⟨a, b, c, f5.at f4.1 nt5 e (fun _ z => by cases z), r⟩
        have mk5 : MOk H0 H5 M := fun c hc => by
          obtain ⟨h0, o, e, n1, n2⟩ := mk4 c hc
          by_cases z : c ∈ [x.lp, x.ls]
          · obtain ⟨o', e', n1', n2'⟩ := p5.has c (hs5 c z)
            exact ⟨h0, o', e', n1', n2'⟩
          · exact ⟨h0, o, f5.at f4.1 z e n1, n1, n2⟩
        refine q (held ++ [(s1.1, s1.2)]) H5 (.inr ⟨_, rfl⟩) ⟨f5.1, tp5, mk5, fun b e => n04 b ?_, p5, sc4.step (M' := M) f4.1 f5 mk4 hs5M hM5, ⟨l3, f5.at f4.1 ns5 est4 (fun _ z => by cases z), st4.step (M' := M) f4.1 f5 mk4 hs5M hM5⟩, g, lx.tM, lx.sM, lx.xM, lx.tx, lx.sx, lx.ts⟩ (fA.tr (f5.mono fun c hc => .inl (List.mem_cons_of_mem _ (List.mem_cons_of_mem _ (hs5 c hc)))))
        refine f5.free f4.1 (fun c hc => ?_) e
        obtain ⟨o', e', _⟩ := p5.has c (hs5 c hc)
        rw [e']
        intro z; cases z
      refine ⟨_, rfl, .inl ⟨sl, _, 0, .ref l3, rfl, rfl, .inl (.inl est4), by simp [atI, ixN], ?_⟩⟩
      obtain ⟨tps4, e4, t4, n4⟩ := st4
      refine ⟨l3, _, rfl, .inl (.inl (.inl e4)), _, _, rfl, rfl, (by decide : (0 : Int) < 2), rfl, _, rfl, ?_⟩
      have sq : SqT K H4 tp [.int s1.1, .int s1.2] := .inl (.inl etp4)
      refine ite2 (fun _ => ?_) (fun _ => ?_)
      · refine ⟨_, rfl, x.pp, x.dx, _, rfl, p4.ins, rfl, _, rfl, .inr (.inl ⟨tp, _, 0, .int s1.1, rfl, rfl, sq, by simp [atI, ixN], _, rfl, .inr (.inl ⟨tp, _, 1, .int s1.2, rfl, rfl, sq, by simp [atI, ixN], ?_⟩)⟩)⟩
        exact ⟨x, H0, i, n, ws, W, held, marks, s1.1, s1.2, rfl, p4, g, f4.1, fts, by omega, n04, fun H5 p5 f5 => ⟨rfl, by rw [show decide (V.non = V.non) = true by simp]; exact fin H5 p5 f5⟩⟩
      · refine ⟨_, rfl, x.pp, x.dx, _, rfl, p4.ins, rfl, _, rfl, .inr (.inl ⟨tp, _, 1, .int s1.2, rfl, rfl, sq, by simp [atI, ixN], _, rfl, .inr (.inl ⟨tp, _, 0, .int s1.1, rfl, rfl, sq, by simp [atI, ixN], ?_⟩)⟩)⟩
        exact ⟨rfl, x, H0, i, n, ws, W, held, marks, s1.1, s1.2, rfl, p4, g, f4.1, fts, by omega, n04, fun H5 p5 f5 => ⟨rfl, by rw [show decide (V.non = V.non) = true by simp]; exact fin H5 p5 f5⟩⟩
end
end Ov

set_option Elab.async false
set_option linter.all false
set_option maxRecDepth 100000
set_option maxHeartbeats 4000000
namespace Ov
open PySem PySem.Spec PyProof.Rows L2 GxR
abbrev sPpK : Stmt := inClass (top 39) 13
abbrev sPpU : Stmt := inClass (top 39) 9
/-! ### undo -/
theorem cut_take (xs : List V) (m : Nat) : cutV xs none (some (m : Int)) = xs.take m := by
  unfold cutV
  rw [HT.sIx_none, List.drop_zero, Nat.sub_zero, HT.sIx_nat]
  by_cases h : m ≤ xs.length
  · rw [Nat.min_eq_left h]
  · rw [Nat.min_eq_right (by omega), List.take_of_length_le (Nat.le_refl _), List.take_of_length_le (by omega)]
def PA.with3 (x : PA) (lp ls lm : Addr) : PA := ⟨x.pp, x.dx, x.bd, lp, ls, lm⟩
/-- marks, each of them not greater than the ones behind it -/
def MkOk (m : Nat) (marks : List Int) : Prop := marks.Pairwise (· ≤ ·) ∧ ∀ k ∈ marks, 0 ≤ k ∧ k ≤ (m : Nat)
theorem MkOk.nil {m : Nat} : MkOk m [] := ⟨.nil, fun _ h => by simp at h⟩
theorem MkOk.snoc {m : Nat} {marks : List Int} (h : MkOk m marks) : MkOk m (marks ++ [(m : Int)]) := by
  refine ⟨List.pairwise_append.mpr ⟨h.1, List.pairwise_singleton .., fun a ha b hb => ?_⟩, fun k hk => ?_⟩
  · rw [List.mem_singleton.mp hb]
    exact (h.2 a ha).2
  · rcases List.mem_append.mp hk with q | q
    · exact h.2 k q
    · rw [List.mem_singleton.mp q]; omega
theorem MkOk.mono {m m' : Nat} {marks : List Int} (h : MkOk m marks) (hm : m ≤ m') : MkOk m' marks := ⟨h.1, fun k hk => ⟨(h.2 k hk).1, by have := (h.2 k hk).2; omega⟩⟩
theorem MkOk.undo {m m' : Nat} {marks : List Int} (h : MkOk m marks) : MkOk m' (marks.filter fun k => decide (k ≤ (m' : Nat))) := ⟨h.1.filter _, fun k hk => by
  obtain ⟨a, b⟩ := List.mem_filter.mp hk
  exact ⟨(h.2 k a).1, of_decide_eq_true b⟩⟩
theorem MkOk.back {m : Nat} {marks : List Int} (h : MkOk m marks) {k m' : Nat} (hk : marks[k]? = some ((m' : Nat) : Int)) : MkOk m' (marks.take (k + 1)) := by
  refine ⟨h.1.sublist (List.take_sublist _ _), fun a ha => ?_⟩
  have am := List.mem_of_mem_take ha
  refine ⟨(h.2 a am).1, ?_⟩
  obtain ⟨j, hj, e⟩ := List.mem_iff_getElem.mp ha
  rw [List.length_take] at hj
  rw [List.getElem_take] at e
  obtain ⟨hl, ek⟩ := List.getElem?_eq_some_iff.mp hk
  by_cases c : j = k
  · subst c
    rw [ek] at e
    omega
  · have := List.pairwise_iff_getElem.mp h.1 j k (by omega) hl (by omega)
    rw [e, ek] at this
    exact this
structure PpKU (K : PySem.W.Frag) (A : PpA) (fK fU : Addr) : Prop where
  kp : Meth K A.c "_keep" fK
  un : Meth K A.c "undo" fU
section
variable {P : Program} {w : World} {K : PySem.W.Frag} {mg : Str → Option Value} {base : Heap} {T : List Addr} {C D fLow fText fAre fTape fNext fInks fInit cLow PLow cAre PAre DSp DSg DNum DNo fKp fUn : Addr} {B : BA} {A : PpA}
/-- what a paper is cut to -/
def spPpK (A : PpA) (C : Addr) (B : BA) (T : List Addr) : Sp := fun vs H Q _ => ∃ (x : PA) (H0 : Hp) (i n : Nat) (ws : List Str) (W : Nat) (held : List St2) (marks : List Int) (m : Nat), vs = [.ref x.pp, .int (m : Nat)] ∧ Pap A C B H0 H x i n ws W held marks ∧ (∀ p ∈ T, TabG H p) ∧ m ≤ held.length ∧ (∀ b, H b = none → H0 b ≠ none) ∧
  ∀ lp ls H', H lp = none → H ls = none → Pap A C B H0 H' (x.with3 lp ls x.lm) i n ws W (held.take m) marks → Fr T [x.pp] H H' → Q .non H'
theorem scPpK : FnScope ["self", "many"] ["self", "many"] (defScope sPpK) := ⟨rfl, rfl, rfl, by decide +kernel, rfl, by decide +kernel, by decide +kernel⟩
theorem ok_ppk {f : Addr} {fd : FuncData} (F : L2.Fun K "_keep" "Paper._keep" sPpK f fd) (Y : PpK K mg A) : FnOk P w K mg base CX0 1 f fd ["self", "many"] (spPpK A C B T) := by
  refine F.ok scPpK (fun vs H Q E h => ?_) (fun cdv A' outer s H vs Q E hr h => ?_)
  · obtain ⟨x, H0, i, n, ws, W, held, marks, m, rfl, _⟩ := h
    rfl
  · obtain ⟨x, H0, i, n, ws, W, held, marks, m, rfl, p, hT, hm, hH0, q⟩ := h
    obtain ⟨tps, et, tt⟩ := p.prs
    refine ⟨_, (pss_cons (ps_fld (pv 0) (pe_slice sl_list (pe_fld (pv 0) (by rfl)) po_none (po_some (pv 1))) (by rfl))
      (pss_one (ps_fld (pv 0) (pe_slice sl_list (pe_fld (pv 0) (by rfl)) po_none (po_some (pe_op op_add (pv 1) pe_int))) (by rfl)))), ?_⟩
    refine ⟨_, rfl, _, _, _, _, _, rfl, p.ins, Y.cls, Y.nP, rfl, _, rfl, _, rfl, x.lp, _, rfl, .inl (.inl et), fun lp hlp => ⟨_, rfl, x.pp, A.c, x.dx, _, rfl, (upd_ne (ne_of_none p.ins hlp)).trans p.ins, Y.cls, Y.nP, (show 5 < 1000 by decide), ?_⟩⟩
    rw [cut_take, ← List.map_take, show putF ("_pressed" : Str) (V.ref lp) (fl5 x.bd n x.lp x.ls x.lm) = fl5 x.bd n lp x.ls x.lm from rfl]
    have mpp : x.pp ∈ x.foot := by unfold PA.foot; simp
    have f1 : Fr T [x.pp] H (upd (upd H lp (.lst ((tps.take m).map V.ref))) x.pp (.ins A.c x.dx (fl5 x.bd n lp x.ls x.lm))) := ((Fr.refl hT).put (.inr hlp) (free_tab hT hlp)).put (.inl (by simp)) (p.nT hT _ mpp)
    have lpp : lp ≠ x.pp := (ne_of_none p.ins hlp).symm
    have a1 : upd (upd H lp (.lst ((tps.take m).map V.ref))) x.pp (.ins A.c x.dx (fl5 x.bd n lp x.ls x.lm)) x.pp = some (.ins A.c x.dx (fl5 x.bd n lp x.ls x.lm)) := upd_same
    have l1 : upd (upd H lp (.lst ((tps.take m).map V.ref))) x.pp (.ins A.c x.dx (fl5 x.bd n lp x.ls x.lm)) lp = some (.lst ((tps.take m).map V.ref)) := (upd_ne lpp).trans upd_same
    generalize upd (upd H lp (.lst ((tps.take m).map V.ref))) x.pp (.ins A.c x.dx (fl5 x.bd n lp x.ls x.lm)) = G at f1 a1 l1
    have sne : x.ls ≠ x.pp := ne_of p.str p.ins (by intro z; cases z)
    have mne : x.lm ≠ x.pp := ne_of p.mks p.ins (by intro z; cases z)
    have s1 : G x.ls = _ := f1.at hT (by simpa using sne) p.str fun _ z => by cases z
    refine ⟨_, rfl, _, _, _, _, _, rfl, a1, Y.cls, Y.nS, rfl, _, rfl, _, _, rfl, rfl, _, rfl, x.ls, _, rfl, .inl (.inl s1), fun ls hls => ⟨_, rfl, x.pp, A.c, x.dx, _, rfl, (upd_ne (ne_of_none a1 hls)).trans a1, Y.cls, Y.nS, (show 5 < 1000 by decide), ?_⟩⟩
    rw [show (m : Int) + 1 = ((m + 1 : Nat) : Int) by omega, cut_take, ← List.map_take, stripsF_take hm, show putF ("_strips" : Str) (V.ref ls) (fl5 x.bd n lp x.ls x.lm) = fl5 x.bd n lp ls x.lm from rfl]
    have pG : ∀ c ∈ [x.pp], G c ≠ none := fun c hc => by rw [List.mem_singleton.mp hc, a1]; intro z; cases z
    have lsn : H ls = none := f1.free hT pG hls
    have lsp : ls ≠ x.pp := (ne_of_none a1 hls).symm
    have lls : lp ≠ ls := ne_of_none l1 hls
    have f2 := (f1.put (p := ls) (o := .lst ((stripsF i ws n (held.take m)).map V.str)) (.inr lsn) (free_tab f1.1 hls)).put (p := x.pp) (o := .ins A.c x.dx (fl5 x.bd n lp ls x.lm)) (.inl (by simp)) (p.nT hT _ mpp)
    have h0p : ∀ c ∈ [x.pp], H0 c ≠ none := fun c hc => by rw [List.mem_singleton.mp hc]; exact p.h0 _ mpp
    have k2 : ∀ {b : Addr} {o : HO}, b ≠ x.pp → (∀ ps, o ≠ .tbl ps) → H b = some o → _ := fun {b o} nb nt e => f2.at hT (by simpa using nb) e nt
    have lml : lp ≠ x.lm := fun z => by rw [z, p.mks] at hlp; cases hlp
    have lmls : ls ≠ x.lm := fun z => by rw [z, p.mks] at lsn; cases lsn
    refine q lp ls _ hlp lsn ⟨upd_same, ⟨tps.take m, (upd_ne lpp).trans ((upd_ne lls).trans l1), (tt.keep fun a xs e => k2 (ne_of e p.ins (by intro z; cases z)) (fun _ z => by cases z) e).take m⟩, (upd_ne lsp).trans upd_same, k2 mne (fun _ z => by cases z) p.mks, p.bnd.keep (f2.nk hT h0p), p.fit.take m, fun b hb => ?_, p.n1, p.n2, p.i3, lls, lml, lmls⟩ f2
    unfold PA.foot PA.with3 at hb
    simp only [List.mem_cons, List.not_mem_nil, or_false] at hb
    rcases hb with rfl | rfl | rfl | rfl
    · exact p.h0 _ mpp
    · exact hH0 _ hlp
    · exact hH0 _ lsn
    · exact p.h0 _ (by unfold PA.foot; simp)
def spPpU (A : PpA) (C : Addr) (B : BA) (T : List Addr) (DNo : Addr) : Sp := fun vs H Q E => ∃ (x : PA) (H0 : Hp) (i n : Nat) (ws : List Str) (W : Nat) (held : List St2) (marks : List Int), vs = [.ref x.pp] ∧ Pap A C B H0 H x i n ws W held marks ∧ (∀ p ∈ T, TabG H p) ∧ (∀ b, H b = none → H0 b ≠ none) ∧ marks.length < 100000 ∧
  (held = [] → E (.ref DNo) none H) ∧ (held ≠ [] → ∀ lp ls lm H', H lp = none → H ls = none → H lm = none → Pap A C B H0 H' (x.with3 lp ls lm) i n ws W (held.take (held.length - 1)) (marks.filter fun k => decide (k ≤ ((held.length - 1 : Nat) : Int))) → Fr T [x.pp] H H' → Q .non H')
abbrev NPpU : List Str := ["self", "left", "many"]
theorem scPpU : FnScope NPpU ["self"] (defScope sPpU) := ⟨rfl, rfl, rfl, by decide +kernel, rfl, by decide +kernel, by decide +kernel⟩
theorem ok_ppu {f : Addr} {fd fdK : FuncData} (F : L2.Fun K "undo" "Paper.undo" sPpU f fd) (FK : L2.Fun K "_keep" "Paper._keep" sPpK fKp fdK) (X : Txt K mg C fLow fText fAre fTape fNext fInks) (Y : PpK K mg A) (U : PpKU K A fKp fUn) (E1 : ErrC K mg "NothingToUndo" DNo) : FnOk P w K mg base (L2.CX P w) 2 f fd ["self"] (spPpU A C B T DNo) := by
  have KP : FnOk P w K mg base CX0 1 fKp fdK ["self", "many"] (spPpK A C B T) := ok_ppk FK Y
  have bK : Binds K fdK ["self", "many"] [] := FK.binds fun _ _ _ _ _ _ us hl => match us, hl with | [_, _], _ => rfl
  refine F.okX scPpU (fun vs H Q E h => ?_) (fun cdv A' outer s H vs Q E hr h => ?_)
  · obtain ⟨x, H0, i, n, ws, W, held, marks, rfl, _⟩ := h
    rfl
  · obtain ⟨x, H0, i, n, ws, W, held, marks, rfl, p, hT, hH0, hmk, qE, q⟩ := h
    obtain ⟨tps, et, tt⟩ := p.prs
    have tl : (tps.map V.ref).length = held.length := by rw [List.length_map, tt.len]
    refine ⟨_, (pss_cons (ps_if (pt_cmpR op_eq (pe_callB call_len_seq (by rfl) X.len boot_len (pa_cons (pe_fld (pv 0) (by rfl)) pa_nil)) pe_int (by rfl)) (pss_one (ps_raise rfl (takes_of rfl rfl rfl rfl) (pmk_own PySem.F.excBase_ValueError E1.e E1.g E1.k (raises_own E1.b E1.t) (by rfl)))) pss_nil)
      (pss_cons (ps_set (i := 1) scPpU.nd rfl (.inr rfl) (pe_op op_sub (pe_callB call_len_seq (by rfl) X.len boot_len (pa_cons (pe_fld (pv 0) (by rfl)) pa_nil)) pe_int))
      (pss_cons (ps_expr (pe_meth (pv 0) Y.cls U.kp KP (hr.mono (by decide)) bK .nil L2.pass0 (pa_cons (pv 1) pa_nil)))
      (pss_one (ps_fld (pv 0) (pe_lc (own := [("many", 2)]) (g := gName 2) (by rfl) scPpU.nd (pi_list (pe_fld (pv 0) (by rfl))) (blkOk_by (own := [("many", 2)]) (N := NPpU) (sc := defScope sPpU) (by decide +kernel)) (fun _ _ _ _ _ => pg_name (i := 2) scPpU.nd rfl (Or.inl rfl)) (fun _ _ _ _ _ => pts_one (pt_cmpR op_le (pv 2) (pv 1) (by rfl))) (fun _ _ _ _ _ => pv 2)) (by rfl)))))), ?_⟩
    refine ⟨_, rfl, _, _, _, _, _, rfl, p.ins, Y.cls, Y.nP, rfl, x.lp, _, rfl, .inl (.inl (.inl et)), rfl, _, rfl, ?_⟩
    rw [tl]
    by_cases h0 : held = []
    · exact iteT' (by rw [h0]; rfl) (qE h0)
    have hl : 1 ≤ held.length := by
      cases held with
      | nil => exact absurd rfl h0
      | cons a r => simp
    refine iteF' (by rw [decide_eq_false_iff_not]; intro z; injection z with z; omega) ?_
    refine ⟨_, rfl, _, _, _, _, _, rfl, p.ins, Y.cls, Y.nP, rfl, x.lp, _, rfl, .inl (.inl (.inl et)), _, _, rfl, rfl, ?_⟩
    rw [tl]
    have e1 : (held.length : Int) - 1 = ((held.length - 1 : Nat) : Int) := by omega
    refine ⟨_, rfl, x.pp, _, _, rfl, p.ins, rfl, _, rfl, x, H0, i, n, ws, W, held, marks, held.length - 1, (by show [V.ref x.pp, V.int ((held.length : Int) - 1)] = _; rw [e1]), p, hT, by omega, hH0, fun lp ls H2 hlp hls p2 f2 => ?_⟩
    have mpp : x.pp ∈ x.foot := by unfold PA.foot; simp
    have i2 : H2 x.pp = some (.ins A.c x.dx (fl5 x.bd n lp ls x.lm)) := p2.ins
    have m2 : H2 x.lm = _ := p2.mks
    refine ⟨_, rfl, _, _, _, _, _, rfl, i2, Y.cls, Y.nM, rfl, x.lm, rfl, ⟨_, .inl (.inl m2)⟩, fun D hD => ?_⟩
    have s0 := same_new (o := .lst []) hD
    refine lc_list (K := K) (a := x.lm) (xs := marks.map V.int) (fun j Hx => ∃ G, L2.Same H2 G ∧ G D = none ∧ Hx = upd G D (.lst (((marks.take j).filter fun k => decide (k ≤ ((held.length - 1 : Nat) : Int))).map V.int))) ⟨H2, .refl _, hD, rfl⟩ (fun j Hx _ pp => ?_) (fun j y Hx hj pp => ?_) (fun Hx pp => ?_)
    · obtain ⟨G, sG, gD, rfl⟩ := pp
      exact .inl (.inl ((upd_ne (ne_of_none (sG _ _ m2) gD)).trans (sG _ _ m2)))
    · obtain ⟨G, sG, gD, rfl⟩ := pp
      rw [List.getElem?_map] at hj
      obtain ⟨k, hk, rfl⟩ := Option.map_eq_some_iff.mp hj
      have tk : marks.take (j + 1) = marks.take j ++ [k] := by rw [List.take_succ, hk]; rfl
      refine ⟨rfl, ?_⟩
      refine ⟨_, rfl, _, rfl, _, _, rfl, rfl, _, rfl, ?_⟩
      have ek : decide (k ≤ (held.length : Int) - 1) = decide (k ≤ ((held.length - 1 : Nat) : Int)) := by rw [e1]
      show (if decide (k ≤ (held.length : Int) - 1) = true then _ else _)
      rw [ek]
      by_cases c : k ≤ ((held.length - 1 : Nat) : Int)
      · refine iteT' (decide_eq_true c) ⟨_, rfl, _, upd_same, ?_, ?_⟩
        · rw [List.length_map]
          refine Nat.lt_of_le_of_lt (List.length_filter_le _ _) ?_
          rw [List.length_take, sizeLine_eq]
          omega
        · refine ⟨G, sG, gD, ?_⟩
          rw [upd_upd, tk, List.filter_append, List.filter_cons_of_pos (by simpa using c), List.filter_nil, List.map_append]
          rfl
      · refine iteF' (decide_eq_false c) ⟨G, sG, gD, ?_⟩
        rw [tk, List.filter_append, List.filter_cons_of_neg (by simpa using c), List.filter_nil, List.append_nil]
    · obtain ⟨G, sG, gD, rfl⟩ := pp
      rw [List.length_map, List.take_of_length_le (Nat.le_refl _)]
      generalize hmk2 : (marks.filter fun k => decide (k ≤ ((held.length - 1 : Nat) : Int))) = mk2
      have i3 : upd G D (.lst (mk2.map V.int)) x.pp = _ := (upd_ne (ne_of_none (sG _ _ i2) gD)).trans (sG _ _ i2)
      refine ⟨_, rfl, x.pp, A.c, x.dx, _, rfl, i3, Y.cls, Y.nM, (show 5 < 1000 by decide), ?_⟩
      rw [show putF ("_marks" : Str) (V.ref D) (fl5 x.bd n lp ls x.lm) = fl5 x.bd n lp ls D from rfl]
      have sD : L2.Same H2 (upd G D (.lst (mk2.map V.int))) := fun b o e => (upd_ne (ne_of_none (sG _ _ e) gD)).trans (sG _ _ e)
      have fD : Fr T [x.pp] H (upd G D (.lst (mk2.map V.int))) := f2.tr (Same.fr sD f2.1)
      have D2 : H2 D = none := sG.free gD
      have pG : ∀ c ∈ [x.pp], H2 c ≠ none := fun c hc => by rw [List.mem_singleton.mp hc, i2]; intro z; cases z
      have Dn : H D = none := f2.free hT pG D2
      have p3 := p2.same sD
      have d3 : upd G D (.lst (mk2.map V.int)) D = some (.lst (mk2.map V.int)) := upd_same
      generalize upd G D (.lst (mk2.map V.int)) = G3 at i3 fD p3 d3
      have f4 := fD.put (p := x.pp) (o := .ins A.c x.dx (fl5 x.bd n lp ls D)) (.inl (by simp)) (p.nT hT _ mpp)
      have Dpp : D ≠ x.pp := fun z => by rw [z, p.ins] at Dn; cases Dn
      have lpp : lp ≠ x.pp := fun z => by rw [z, p.ins] at hlp; cases hlp
      have lsp : ls ≠ x.pp := fun z => by rw [z, p.ins] at hls; cases hls
      obtain ⟨tps3, e3, t3⟩ := p3.prs
      have l2 : H2 lp ≠ none := by
        obtain ⟨_, e, _⟩ := p2.prs
        intro z
        rw [show H2 lp = _ from e] at z; cases z
      have s2 : H2 ls ≠ none := by
        intro z
        rw [show H2 ls = _ from p2.str] at z; cases z
      have h0p : ∀ c ∈ [x.pp], H0 c ≠ none := fun c hc => by rw [List.mem_singleton.mp hc]; exact p.h0 _ mpp
      have nk3 : NK H0 G3 (upd G3 x.pp (.ins A.c x.dx (fl5 x.bd n lp ls D))) := fun b o nb _ e => (upd_ne (show b ≠ x.pp from fun z => p.h0 _ mpp (by rw [← z]; exact nb))).trans e
      refine q h0 lp ls D _ hlp hls Dn ⟨upd_same, ⟨tps3, (upd_ne lpp).trans e3, t3.keep fun a xs e => (upd_ne (ne_of e i3 (by intro z; cases z))).trans e⟩, (upd_ne lsp).trans p3.str, (upd_ne Dpp).trans (d3.trans (by rw [hmk2])), p3.bnd.keep nk3, p3.fit, fun b hb => ?_, p.n1, p.n2, p.i3, p2.dps, fun z => l2 (by rw [show lp = D from z]; exact D2), fun z => s2 (by rw [show ls = D from z]; exact D2)⟩ f4
      unfold PA.foot PA.with3 at hb
      simp only [List.mem_cons, List.not_mem_nil, or_false] at hb
      rcases hb with rfl | rfl | rfl | rfl
      · exact p.h0 _ mpp
      · exact hH0 _ hlp
      · exact hH0 _ hls
      · exact hH0 _ Dn
end
end Ov

set_option Elab.async false
set_option linter.all false
set_option maxRecDepth 100000
set_option maxHeartbeats 4000000
namespace Ov
open PySem PySem.Spec PyProof.Rows L2 GxR
abbrev sPpMk : Stmt := inClass (top 39) 10
abbrev sPpBk : Stmt := inClass (top 39) 11
abbrev sPpTw : Stmt := inClass (top 39) 12
theorem ref_inj : ∀ {a b : List Addr}, a.map V.ref = b.map V.ref → a = b
  | [], [], _ => rfl
  | [], _ :: _, h => by simp at h
  | _ :: _, [], h => by simp at h
  | x :: a, y :: b, h => by
    simp only [List.map_cons, List.cons.injEq, V.ref.injEq] at h
    rw [h.1, ref_inj h.2]
/-! ### marks, twins -/
structure PpKM (K : PySem.W.Frag) (A : PpA) (fM fB fT : Addr) : Prop where
  ma : Meth K A.c "mark" fM
  bk : Meth K A.c "undo_to" fB
  tw : Meth K A.c "twin" fT
section
variable {P : Program} {w : World} {K : PySem.W.Frag} {mg : Str → Option Value} {base : Heap} {T : List Addr} {C D fLow fText fAre fTape fNext fInks fInit cLow PLow cAre PAre DSp DSg DNum DNo fKp fUn : Addr} {B : BA} {A : PpA}
def spPpMk (A : PpA) (C : Addr) (B : BA) (T : List Addr) : Sp := fun vs H Q _ => ∃ (x : PA) (H0 : Hp) (i n : Nat) (ws : List Str) (W : Nat) (held : List St2) (marks : List Int), vs = [.ref x.pp] ∧ Pap A C B H0 H x i n ws W held marks ∧ (∀ p ∈ T, TabG H p) ∧ marks.length < 100000 ∧
  ∀ H', Pap A C B H0 H' x i n ws W held (marks ++ [(held.length : Int)]) → Fr T [x.lm] H H' → Q (.int (marks.length : Nat)) H'
def spPpBk (A : PpA) (C : Addr) (B : BA) (T : List Addr) (DNum : Addr) : Sp := fun vs H Q E => ∃ (x : PA) (H0 : Hp) (i n : Nat) (ws : List Str) (W : Nat) (held : List St2) (marks : List Int) (k : Int), vs = [.ref x.pp, .int k] ∧ Pap A C B H0 H x i n ws W held marks ∧ (∀ p ∈ T, TabG H p) ∧ (∀ b, H b = none → H0 b ≠ none) ∧ marks.length < 100000 ∧
  (¬ (0 ≤ k ∧ k < (marks.length : Nat)) → E (.ref DNum) none H) ∧ (0 ≤ k ∧ k < (marks.length : Nat) → ∃ m : Nat, marks[k.toNat]? = some (m : Int) ∧ m ≤ held.length ∧ ∀ lp ls lm H', H lp = none → H ls = none → H lm = none → Pap A C B H0 H' (x.with3 lp ls lm) i n ws W (held.take m) (marks.take (k.toNat + 1)) → Fr T [x.pp] H H' → Q .non H')
theorem scPpBk : FnScope ["self", "index"] ["self", "index"] (defScope sPpBk) := ⟨rfl, rfl, rfl, by decide +kernel, rfl, by decide +kernel, by decide +kernel⟩
theorem cut_takeI (ms : List Int) (m : Nat) : cutV (ms.map V.int) none (some (m : Int)) = (ms.take m).map V.int := by rw [cut_take, List.map_take]
/-! ### twin -/
def spPpTw (A : PpA) (C : Addr) (B : BA) (T : List Addr) : Sp := fun vs H Q E => ∃ (x : PA) (H0 : Hp) (i n : Nat) (ws : List Str) (W : Nat) (held : List St2) (marks : List Int), vs = [.ref x.pp] ∧ Pap A C B H0 H x i n ws W held marks ∧ (∀ b, H b = none → H0 b ≠ none) ∧
  ∀ y H', Pap A C B H0 H' y i n ws W held marks → (∀ b ∈ y.foot, H b = none) → L2.Same H H' → Q (.ref y.pp) H'
theorem scPpTw : FnScope ["self", "other"] ["self"] (defScope sPpTw) := ⟨rfl, rfl, rfl, by decide +kernel, rfl, by decide +kernel, by decide +kernel⟩
theorem ok_pptw {f : Addr} {fd fdI fdN : FuncData} (F : L2.Fun K "twin" "Paper.twin" sPpTw f fd) (FI : L2.Fun K "__init__" "Paper.__init__" sPpI A.fI fdI) (FN : L2.Fun K "is_integer" "is_integer" sIsInt A.fInt fdN) (X : Txt K mg C fLow fText fAre fTape fNext fInks) (Y : PpK K mg A) (BB : Bds K mg B) (E1 : ErrC K mg "InvalidNumber" DNum) : FnOk P w K mg base (L2.CX P w) 4 f fd ["self"] (spPpTw A C B T) := by
  have IX : FnOk P w K mg base (L2.CX P w) 2 A.fI fdI ["self", "band", "size"] (spPpI A C B DNum) := ok_ppi FI FN X Y BB E1
  have IR : FnR P w K mg base (L2.CX P w) 2 A.fI (spPpI A C B DNum) := (IX.raw (FI.binds fun _ _ _ _ _ _ us hl => match us, hl with | [_, _, _], _ => rfl) .nil).imp fun vs H Q E h => by rw [List.append_nil]; exact h
  refine F.okX scPpTw (fun vs H Q E h => ?_) (fun cdv A' outer s H vs Q E hr h => ?_)
  · obtain ⟨x, H0, i, n, ws, W, held, marks, rfl, _⟩ := h
    rfl
  · obtain ⟨x, H0, i, n, ws, W, held, marks, rfl, p, hH0, q⟩ := h
    obtain ⟨tps, et, tt⟩ := p.prs
    refine ⟨_, (pss_cons (ps_set (i := 1) scPpTw.nd rfl (.inl rfl) (StX.pe_makeR Y.mak IR (hr.mono (by decide)) (by rfl) Y.g (passes_call (E := E) (takes_of rfl rfl rfl rfl) (fun _ _ _ _ h => h)) (pa_cons (pe_fld (pv 0) (by rfl)) (pa_cons (pe_fld (pv 0) (by rfl)) pa_nil))))
      (pss_cons (ps_fld (pv 1) (pe_callTy call_list_of (by rfl) X.lst (by decide +kernel) (pa_cons (pe_fld (pv 0) (by rfl)) pa_nil)) (by rfl))
      (pss_cons (ps_fld (pv 1) (pe_callTy call_list_of (by rfl) X.lst (by decide +kernel) (pa_cons (pe_fld (pv 0) (by rfl)) pa_nil)) (by rfl))
      (pss_cons (ps_fld (pv 1) (pe_callTy call_list_of (by rfl) X.lst (by decide +kernel) (pa_cons (pe_fld (pv 0) (by rfl)) pa_nil)) (by rfl))
      (pss_one (ps_ret (pv 1))))))), ?_⟩
    refine ⟨_, rfl, _, _, _, _, _, rfl, p.ins, Y.cls, Y.nB, rfl, _, rfl, _, _, _, _, _, rfl, p.ins, Y.cls, Y.nZ, rfl, fun a da ha hda hne => ?_⟩
    have sx : L2.Same H (upd (upd H da (.own a)) a (.ins A.c da [])) := fun b o e => (upd_ne (ne_of_none e ha)).trans ((upd_ne (ne_of_none e hda)).trans e)
    have px := p.same sx
    have ia : upd (upd H da (.own a)) a (.ins A.c da []) a = some (.ins A.c da []) := upd_same
    generalize hG : upd (upd H da (.own a)) a (.ins A.c da []) = G at sx px ia
    refine ⟨a, da, x.bd, H0, i, n, ws, W, rfl, ia, px.bnd, p.i3, p.n1, p.n2, hH0 a ha, fun b e => hH0 b (sx.free e), fun lp ls lm H3 py hlp hls hlm k3 => ⟨rfl, ?_⟩⟩
    have s3 : L2.Same H H3 := fun b o e => k3 b o (ne_of_none e ha) (sx b o e)
    have iy : H3 a = some (.ins A.c da (fl5 x.bd n lp ls lm)) := py.ins
    have p3 := p.same s3
    obtain ⟨tps3, et3, tt3⟩ := p3.prs
    clear py
    -- the stampings
    refine ⟨_, rfl, _, _, _, _, _, rfl, p3.ins, Y.cls, Y.nP, rfl, x.lp, _, rfl, .inl (.inl (.inl et3)), fun l1 hl1 => ⟨_, rfl, a, A.c, da, _, rfl, (upd_ne (ne_of_none iy hl1)).trans iy, Y.cls, Y.nP, (show 5 < 1000 by decide), ?_⟩⟩
    rw [show putF ("_pressed" : Str) (V.ref l1) (fl5 x.bd n lp ls lm) = fl5 x.bd n l1 ls lm from rfl]
    have n1a : l1 ≠ a := (ne_of_none iy hl1).symm
    have l1n : H l1 = none := s3.free hl1
    have s4 : L2.Same H (upd (upd H3 l1 (.lst (tps3.map V.ref))) a (.ins A.c da (fl5 x.bd n l1 ls lm))) := fun b o e => (upd_ne (ne_of_none e ha)).trans ((upd_ne (ne_of_none e l1n)).trans (s3 b o e))
    have iy4 : upd (upd H3 l1 (.lst (tps3.map V.ref))) a (.ins A.c da (fl5 x.bd n l1 ls lm)) a = some (.ins A.c da (fl5 x.bd n l1 ls lm)) := upd_same
    have y1 : upd (upd H3 l1 (.lst (tps3.map V.ref))) a (.ins A.c da (fl5 x.bd n l1 ls lm)) l1 = some (.lst (tps3.map V.ref)) := (upd_ne n1a).trans upd_same
    generalize upd (upd H3 l1 (.lst (tps3.map V.ref))) a (.ins A.c da (fl5 x.bd n l1 ls lm)) = H4 at s4 iy4 y1 ⊢
    have p4 := p.same s4
    -- the strips
    refine ⟨_, rfl, _, _, _, _, _, rfl, p4.ins, Y.cls, Y.nS, rfl, x.ls, _, rfl, .inl (.inl (.inl p4.str)), fun l2 hl2 => ⟨_, rfl, a, A.c, da, _, rfl, (upd_ne (ne_of_none iy4 hl2)).trans iy4, Y.cls, Y.nS, (show 5 < 1000 by decide), ?_⟩⟩
    rw [show putF ("_strips" : Str) (V.ref l2) (fl5 x.bd n l1 ls lm) = fl5 x.bd n l1 l2 lm from rfl]
    have n2a : l2 ≠ a := (ne_of_none iy4 hl2).symm
    have n12 : l1 ≠ l2 := ne_of_none y1 hl2
    have l2n : H l2 = none := s4.free hl2
    have s5 : L2.Same H (upd (upd H4 l2 (.lst ((stripsF i ws n held).map V.str))) a (.ins A.c da (fl5 x.bd n l1 l2 lm))) := fun b o e => (upd_ne (ne_of_none e ha)).trans ((upd_ne (ne_of_none e l2n)).trans (s4 b o e))
    have iy5 : upd (upd H4 l2 (.lst ((stripsF i ws n held).map V.str))) a (.ins A.c da (fl5 x.bd n l1 l2 lm)) a = some (.ins A.c da (fl5 x.bd n l1 l2 lm)) := upd_same
    have z1 : upd (upd H4 l2 (.lst ((stripsF i ws n held).map V.str))) a (.ins A.c da (fl5 x.bd n l1 l2 lm)) l1 = some (.lst (tps3.map V.ref)) := (upd_ne n1a).trans ((upd_ne n12).trans y1)
    have z2 : upd (upd H4 l2 (.lst ((stripsF i ws n held).map V.str))) a (.ins A.c da (fl5 x.bd n l1 l2 lm)) l2 = some (.lst ((stripsF i ws n held).map V.str)) := (upd_ne n2a).trans upd_same
    generalize upd (upd H4 l2 (.lst ((stripsF i ws n held).map V.str))) a (.ins A.c da (fl5 x.bd n l1 l2 lm)) = H5 at s5 iy5 z1 z2 ⊢
    have p5 := p.same s5
    -- the marks
    refine ⟨_, rfl, _, _, _, _, _, rfl, p5.ins, Y.cls, Y.nM, rfl, x.lm, _, rfl, .inl (.inl (.inl p5.mks)), fun l3 hl3 => ⟨_, rfl, a, A.c, da, _, rfl, (upd_ne (ne_of_none iy5 hl3)).trans iy5, Y.cls, Y.nM, (show 5 < 1000 by decide), ?_⟩⟩
    rw [show putF ("_marks" : Str) (V.ref l3) (fl5 x.bd n l1 l2 lm) = fl5 x.bd n l1 l2 l3 from rfl]
    have n3a : l3 ≠ a := (ne_of_none iy5 hl3).symm
    have n13 : l1 ≠ l3 := ne_of_none z1 hl3
    have n23 : l2 ≠ l3 := ne_of_none z2 hl3
    have l3n : H l3 = none := s5.free hl3
    have s6 : L2.Same H (upd (upd H5 l3 (.lst (marks.map V.int))) a (.ins A.c da (fl5 x.bd n l1 l2 l3))) := fun b o e => (upd_ne (ne_of_none e ha)).trans ((upd_ne (ne_of_none e l3n)).trans (s5 b o e))
    have p6 := p.same s6
    refine ⟨_, rfl, ?_⟩
    have tw : TupsA (upd (upd H5 l3 (.lst (marks.map V.int))) a (.ins A.c da (fl5 x.bd n l1 l2 l3))) tps3 held := by
      have e0 : tps3 = tps := by
        have := et3.symm.trans (s3 _ _ et)
        injection this with this
        injection this with this
        exact ref_inj this
      rw [e0]
      exact tt.keep fun b xs e => s6 _ _ e
    refine q ⟨a, da, x.bd, l1, l2, l3⟩ _ ⟨upd_same, ⟨tps3, (upd_ne n1a).trans ((upd_ne n13).trans z1), tw⟩, (upd_ne n2a).trans ((upd_ne n23).trans z2), (upd_ne n3a).trans upd_same, p6.bnd, p.fit, fun b hb => ?_, p.n1, p.n2, p.i3, n12, n13, n23⟩ (fun b hb => ?_) s6
    all_goals
      unfold PA.foot at hb
      simp only [List.mem_cons, List.not_mem_nil, or_false] at hb
      rcases hb with rfl | rfl | rfl | rfl
    · exact hH0 _ ha
    · exact hH0 _ l1n
    · exact hH0 _ l2n
    · exact hH0 _ l3n
    · exact ha
    · exact l1n
    · exact l2n
    · exact l3n
end
end Ov

set_option Elab.async false
set_option linter.all false
set_option maxRecDepth 100000
set_option maxHeartbeats 4000000
namespace Ov
open PySem PySem.Spec PyProof.Rows L2 GxR
/-! ### a law's state of a paper, with its marks -/
structure LY (A : PpA) (C : Addr) (B : BA) (T : List Addr) (H0 : Hp) (M : List Addr) (H : Hp) (t : Addr) (N : Nat) (sc sl : Addr) (x : PA) (i n : Nat) (ws : List Str) (W : Nat) (held : List St2) (marks : List Int) (rs : List V) : Prop where
  lx : LX A C B T H0 M H t N sc sl x i n ws W held marks rs
  mo : MkOk held.length marks
  mks : ∃ ml us, rs = .ref ml :: us ∧ H ml = some (.lst (marks.map V.int)) ∧ ml ∉ M
section
variable {A : PpA} {C : Addr} {B : BA} {T S M M' : List Addr} {H0 H H' : Hp} {t sc sl : Addr} {N N' : Nat} {x x' y : PA} {i n : Nat} {ws : List Str} {W : Nat} {held held' : List St2} {marks marks' : List Int} {rs : List V}
theorem LY.step (h : LY A C B T H0 M H t N sc sl x i n ws W held marks rs) (f : Fr T S H H') (hS : ∀ c ∈ S, c ∈ M) (hM : ∀ c ∈ M', c ∈ M ∨ H c = none) (hM2 : ∀ c ∈ M, c ∈ M') (mok : MOk H0 H' M') (tp : Tp H' t N') (hH0 : ∀ b, H' b = none → H b = none) (hs : sl ∉ S) (hx : ∀ b ∈ x.foot, b ∉ S) : LY A C B T H0 M' H' t N' sc sl x i n ws W held marks rs := by
  obtain ⟨ml, us, e, em, nm⟩ := h.mks
  exact ⟨h.lx.step f hS hM hM2 mok tp hH0 hs hx, h.mo, ml, us, e, f.at h.lx.hT (fun z => nm (hS _ z)) em fun _ z => (by cases z), grow em nm hM⟩
theorem LY.kep (h : LY A C B T H0 M H t N sc sl x i n ws W held marks rs) (k : Kep T H H') : LY A C B T H0 M H' t N sc sl x i n ws W held marks rs := by
  obtain ⟨ml, us, e, em, nm⟩ := h.mks
  exact ⟨h.lx.kep k, h.mo, ml, us, e, k.at h.lx.hT em fun _ z => (by cases z), nm⟩
theorem LY.same (h : LY A C B T H0 M H t N sc sl x i n ws W held marks rs) (k : L2.Same H H') : LY A C B T H0 M H' t N sc sl x i n ws W held marks rs := by
  obtain ⟨ml, us, e, em, nm⟩ := h.mks
  exact ⟨h.lx.same k, h.mo, ml, us, e, k _ _ em, nm⟩
theorem LY.tape (h : LY A C B T H0 M H t N sc sl x i n ws W held marks rs) (b : Bt t H H') (tp : Tp H' t N') : LY A C B T H0 M H' t N' sc sl x i n ws W held marks rs := by
  obtain ⟨ml, us, e, em, nm⟩ := h.mks
  exact ⟨h.lx.tape b tp, h.mo, ml, us, e, b ml _ (fun z => nm (by rw [z]; exact h.lx.tM)) em, nm⟩
/-- what a call changes of one paper: things grow, the rest stands -/
structure Ste (T M M' : List Addr) (H0 H H' : Hp) (t sl : Addr) (N' : Nat) (x x' : PA) : Prop where
  fr : Fr T (x.all t sl) H H'
  pp : x'.pp = x.pp
  ft : ∀ b ∈ x'.foot, b ∈ x.foot ∨ H b = none
  g1 : ∀ c ∈ M', c ∈ M ∨ H c = none
  g2 : ∀ c ∈ M, c ∈ M'
  mok : MOk H0 H' M'
  tp : Tp H' t N'
  h0 : ∀ b, H' b = none → H b = none
theorem foot_all {b : Addr} (h : b ∈ x.foot) : b ∈ x.all t sl := List.mem_cons_of_mem _ (List.mem_cons_of_mem _ h)
theorem Ste.trans {M1 M2 : List Addr} {H1 H2 : Hp} {N1 N2 : Nat} {x1 x2 : PA} (a : Ste T M M1 H0 H H1 t sl N1 x x1) (b : Ste T M1 M2 H0 H1 H2 t sl N2 x1 x2) : Ste T M M2 H0 H H2 t sl N2 x x2 := by
  refine ⟨a.fr.trans b.fr (fun c hc => .inl hc) fun c hc => ?_, b.pp.trans a.pp, fun c hc => ?_, fun c hc => ?_, fun c hc => b.g2 c (a.g2 c hc), b.mok, b.tp, fun c e => a.h0 c (b.h0 c e)⟩
  · unfold PA.all at hc ⊢
    rcases List.mem_cons.mp hc with rfl | hc
    · exact .inl List.mem_cons_self
    · rcases List.mem_cons.mp hc with rfl | hc
      · exact .inl (List.mem_cons_of_mem _ List.mem_cons_self)
      · rcases a.ft c hc with q | q
        · exact .inl (List.mem_cons_of_mem _ (List.mem_cons_of_mem _ q))
        · exact .inr q
  · rcases b.ft c hc with q | q
    · exact a.ft c q
    · exact .inr (a.h0 c q)
  · rcases b.g1 c hc with q | q
    · exact a.g1 c q
    · exact .inr (a.h0 c q)
theorem Ste.refl (h : LX A C B T H0 M H t N sc sl x i n ws W held marks rs) : Ste T M M H0 H H t sl N x x := ⟨.refl h.hT, rfl, fun b hb => .inl hb, fun c hc => .inl hc, fun c hc => hc, h.mok, h.tp, fun _ e => e⟩
theorem Ste.same {sl2 : Addr} (h : LX A C B T H0 M H t N sc sl2 x i n ws W held marks rs) (k : L2.Same H H') : Ste T M M H0 H H' t sl N x x := ⟨Same.fr k h.hT, rfl, fun b hb => .inl hb, fun c hc => .inl hc, fun c hc => hc, h.mok.same k, (h.same k).tp, fun _ e => k.free e⟩
theorem Ste.mono {N2 : Nat} (a : Ste T M M' H0 H H' t sl N' x x') (h : N' ≤ N2) : Ste T M M' H0 H H' t sl N2 x x' := ⟨a.fr, a.pp, a.ft, a.g1, a.g2, a.mok, a.tp.mono h, a.h0⟩
/-- two papers that share nothing that changes -/
def Dis (sl sl2 : Addr) (x y : PA) : Prop := sl2 ≠ sl ∧ sl2 ∉ x.foot ∧ (∀ b ∈ y.foot, b ≠ sl ∧ b ∉ x.foot)
theorem LY.other {sl2 : Addr} {held2 : List St2} {marks2 : List Int} {rs2 : List V} (h : LY A C B T H0 M H t N sc sl2 y i n ws W held2 marks2 rs2) (a : Ste T M M' H0 H H' t sl N' x x') (hx : ∀ c ∈ x.all t sl, c ∈ M) (d : Dis sl sl2 x y) : LY A C B T H0 M' H' t N' sc sl2 y i n ws W held2 marks2 rs2 := by
  refine h.step a.fr hx a.g1 a.g2 a.mok a.tp a.h0 (fun z => ?_) fun b hb z => ?_
  · unfold PA.all at z
    rcases List.mem_cons.mp z with q | z
    · exact h.lx.ts q.symm
    · rcases List.mem_cons.mp z with q | z
      · exact d.1 q
      · exact d.2.1 z
  · unfold PA.all at z
    rcases List.mem_cons.mp z with q | z
    · exact h.lx.tx (q ▸ hb)
    · rcases List.mem_cons.mp z with q | z
      · exact (d.2.2 b hb).1 q
      · exact (d.2.2 b hb).2 z
theorem Dis.step {sl2 : Addr} {held2 : List St2} {marks2 : List Int} {rs2 : List V} (d : Dis sl sl2 x y) (a : Ste T M M' H0 H H' t sl N' x x') (h : LY A C B T H0 M H t N sc sl2 y i n ws W held2 marks2 rs2) : Dis sl sl2 x' y := by
  have nn : ∀ c, c ∈ M → H c ≠ none := fun c hc => by
    obtain ⟨_, o, e, _⟩ := h.lx.mok c hc
    rw [e]; intro z; cases z
  refine ⟨d.1, fun z => ?_, fun b hb => ⟨(d.2.2 b hb).1, fun z => ?_⟩⟩
  · rcases a.ft _ z with q | q
    · exact d.2.1 q
    · exact nn _ h.lx.sM q
  · rcases a.ft _ z with q | q
    · exact (d.2.2 b hb).2 q
    · exact nn _ (h.lx.xM b hb) q
/-- the same, seen from the other one -/
theorem Dis.step2 {sl2 : Addr} {held2 : List St2} {marks2 : List Int} {rs2 : List V} (d : Dis sl2 sl y x) (a : Ste T M M' H0 H H' t sl N' x x') (h : LY A C B T H0 M H t N sc sl2 y i n ws W held2 marks2 rs2) : Dis sl2 sl y x' := by
  have nn : ∀ c, c ∈ M → H c ≠ none := fun c hc => by
    obtain ⟨_, o, e, _⟩ := h.lx.mok c hc
    rw [e]; intro z; cases z
  refine ⟨d.1, d.2.1, fun b hb => ⟨fun z => ?_, fun z => ?_⟩⟩
  · rcases a.ft b hb with q | q
    · exact (d.2.2 b q).1 z
    · exact nn _ (z ▸ h.lx.sM) q
  · rcases a.ft b hb with q | q
    · exact (d.2.2 b q).2 z
    · exact nn _ (h.lx.xM b z) q
/-- a press, a mark: only things of the paper change -/
theorem ste_in (h : LX A C B T H0 M H t N sc sl x i n ws W held marks rs) (f : Fr T (x.all t sl) H H') (h2 : LX A C B T H0 M H' t N' sc sl x i n ws W held' marks' rs) : Ste T M M H0 H H' t sl N' x x := by
  refine ⟨f, rfl, fun b hb => .inl hb, fun c hc => .inl hc, fun c hc => hc, h2.mok, h2.tp, fun b e => f.free h.hT (fun c hc z => ?_) e⟩
  obtain ⟨_, o, e, _⟩ := h2.mok c (h.allM c hc)
  rw [e] at z; cases z
/-- the law's list of a paper is set anew -/
structure Put (A : PpA) (C : Addr) (B : BA) (T : List Addr) (H0 : Hp) (M : List Addr) (H H4 : Hp) (t : Addr) (N : Nat) (sc sl hl : Addr) (x : PA) (i n : Nat) (ws : List Str) (W : Nat) (held held' : List St2) (marks : List Int) (rs' : List V) : Prop where
  hT : ∀ p ∈ T, TabG H4 p
  pap : Pap A C B H0 H4 x i n ws W held marks
  st : H4 sl = some (.lst (.ref hl :: rs'))
  hd : Held H4 M hl held'
  scn : Scn H4 M sc i n ws
  tp : Tp H4 t N
  mok : MOk H0 H4 M
  fr : Fr T [sl] H H4
  h0 : ∀ b, H4 b = none → H b = none
  oth : ∀ b o, b ≠ sl → H b = some o → H4 b = some o
theorem LX.put (lx : LX A C B T H0 M H t N sc sl x i n ws W held marks rs) {hl : Addr} {rs' : List V} (hd : Held H M hl held') : Put A C B T H0 M H (upd H sl (.lst (.ref hl :: rs'))) t N sc sl hl x i n ws W held held' marks rs' := by
  obtain ⟨ol, est, _⟩ := lx.st
  obtain ⟨tps, eh, th, nh⟩ := hd
  have slT : sl ∉ T := not_tab lx.hT est fun _ z => by cases z
  have f4 : Fr T [sl] H (upd H sl (.lst (.ref hl :: rs'))) := (Fr.refl lx.hT).put (.inl (by simp)) slT
  have hs4 : ∀ c ∈ [sl], c ∈ M := fun c hc => by rw [List.mem_singleton.mp hc]; exact lx.sM
  have hM4 : ∀ c ∈ M, c ∈ M ∨ H c = none := fun c hc => .inl hc
  have ne4 : ∀ {b : Addr} {o : HO}, b ≠ sl → H b = some o → upd H sl (.lst (.ref hl :: rs')) b = some o := fun nb e => (upd_ne nb).trans e
  refine ⟨f4.1, lx.pap.keep lx.hT f4 (fun b hb z => lx.sx (by rw [← List.mem_singleton.mp z]; exact hb)) (fun c hc => (lx.mok c (hs4 c hc)).1) (lx.mok.ntup hs4), upd_same, ⟨tps, ne4 (fun z => nh (z ▸ lx.sM)) eh, th.keep fun a xs e => ne4 (ne_of e est (by intro z; cases z)) e, nh⟩, lx.scn.step (M' := M) lx.hT f4 lx.mok hs4 hM4, lx.tp.at (upd_ne lx.ts), fun c hc => ?_, f4, fun b e => ?_, fun b o nb e => ne4 nb e⟩
  · obtain ⟨h0, o, e, n1, n2⟩ := lx.mok c hc
    by_cases z : c = sl
    · subst z
      exact ⟨h0, _, upd_same, fun _ z => (by cases z), fun _ z => (by cases z)⟩
    · exact ⟨h0, o, (upd_ne z).trans e, n1, n2⟩
  · by_cases z : b = sl
    · rw [z, upd_same] at e; cases e
    · exact (upd_ne z).symm.trans e
/-- what is where -/
structure Bas (M : List Addr) (t sl : Addr) (x : PA) : Prop where
  tM : t ∈ M
  sM : sl ∈ M
  xM : ∀ b ∈ x.foot, b ∈ M
  tx : t ∉ x.foot
  sx : sl ∉ x.foot
  ts : t ≠ sl
theorem LX.bas (h : LX A C B T H0 M H t N sc sl x i n ws W held marks rs) : Bas M t sl x := ⟨h.tM, h.sM, h.xM, h.tx, h.sx, h.ts⟩
/-- then the paper itself -/
theorem Put.asm2 {H4 H5 : Hp} {hl : Addr} {rs' : List V} (lx : Bas M t sl x) (g : Good ws W) (hH0 : ∀ b, H b = none → H0 b ≠ none) (u : Put A C B T H0 M H H4 t N sc sl hl x i n ws W held held' marks rs') (p5 : Pap A C B H0 H5 x' i n ws W held' marks') (f5 : Fr T S H4 H5) (hS : ∀ c ∈ S, c ∈ x.foot ∧ c ∈ x'.foot) (hpp : x'.pp = x.pp) (hft : ∀ b ∈ x'.foot, b ∈ x.foot ∨ H4 b = none) :
    LX A C B T H0 (M ++ x'.foot) H5 t N sc sl x' i n ws W held' marks' rs' ∧ Ste T M (M ++ x'.foot) H0 H H5 t sl N x x' := by
  have hSM : ∀ c ∈ S, c ∈ M := fun c hc => lx.xM c (hS c hc).1
  have h4n : ∀ c ∈ M, H4 c ≠ none := fun c hc => by
    obtain ⟨_, o, e, _⟩ := u.mok c hc
    rw [e]; intro z; cases z
  have nt5 : t ∉ S := fun z => lx.tx (hS _ z).1
  have ns5 : sl ∉ S := fun z => lx.sx (hS _ z).1
  have tp5 : Tp H5 t N := by
    obtain ⟨a, b, c, e, r⟩ := u.tp
    exact ⟨a, b, c, f5.at u.hT nt5 e (fun _ z => by cases z), r⟩
  have hM5 : ∀ c ∈ M ++ x'.foot, c ∈ M ∨ H4 c = none := fun c hc => by
    rcases List.mem_append.mp hc with q | q
    · exact .inl q
    · rcases hft c q with q | q
      · exact .inl (lx.xM c q)
      · exact .inr q
  have mk5 : MOk H0 H5 (M ++ x'.foot) := fun c hc => by
    by_cases z : c ∈ x'.foot
    · obtain ⟨o', e', n1', n2'⟩ := p5.has c z
      exact ⟨p5.h0 c z, o', e', n1', n2'⟩
    · have hc : c ∈ M := by
        rcases List.mem_append.mp hc with q | q
        · exact q
        · exact absurd q z
      obtain ⟨h0, o, e, n1, n2⟩ := u.mok c hc
      exact ⟨h0, o, f5.at u.hT (fun q => z (hS c q).2) e n1, n1, n2⟩
  have free5 : ∀ b, H5 b = none → H4 b = none := fun b e => f5.free u.hT (fun c hc z => by
    obtain ⟨o', e', _⟩ := p5.has c (hS c hc).2
    rw [e'] at z; cases z) e
  have hx : ∀ b ∈ x'.foot, b ∈ M ++ x'.foot := fun b hb => List.mem_append.mpr (.inr hb)
  have notf : ∀ c, c ∈ M → c ∉ x.foot → c ∉ x'.foot := fun c hc hn z => by
    rcases hft c z with q | q
    · exact hn q
    · exact h4n c hc q
  refine ⟨⟨f5.1, tp5, mk5, fun b e => hH0 b (u.h0 b (free5 b e)), p5, u.scn.step (M' := M ++ x'.foot) u.hT f5 u.mok hSM hM5, ⟨hl, f5.at u.hT ns5 u.st (fun _ z => by cases z), u.hd.step u.hT f5 u.mok hSM hM5⟩, g, List.mem_append.mpr (.inl lx.tM), List.mem_append.mpr (.inl lx.sM), hx, notf _ lx.tM lx.tx, notf _ lx.sM lx.sx, lx.ts⟩,
    ⟨?_, hpp, fun b hb => (hft b hb).imp id (u.h0 b), fun c hc => (hM5 c hc).imp id (u.h0 c), fun c hc => List.mem_append.mpr (.inl hc), mk5, tp5, fun b e => u.h0 b (free5 b e)⟩⟩
  exact (u.fr.mono fun c hc => .inl (by rw [List.mem_singleton.mp hc]; exact List.mem_cons_of_mem _ List.mem_cons_self)).tr (f5.mono fun c hc => .inl (foot_all (hS c hc).1))
theorem Put.asm {H4 H5 : Hp} {hl : Addr} {rs' : List V} (lx : LX A C B T H0 M H t N sc sl x i n ws W held marks rs) (u : Put A C B T H0 M H H4 t N sc sl hl x i n ws W held held' marks rs') (p5 : Pap A C B H0 H5 x' i n ws W held' marks') (f5 : Fr T S H4 H5) (hS : ∀ c ∈ S, c ∈ x.foot ∧ c ∈ x'.foot) (hpp : x'.pp = x.pp) (hft : ∀ b ∈ x'.foot, b ∈ x.foot ∨ H4 b = none) :
    LX A C B T H0 (M ++ x'.foot) H5 t N sc sl x' i n ws W held' marks' rs' ∧ Ste T M (M ++ x'.foot) H0 H H5 t sl N x x' := u.asm2 lx.bas lx.good lx.hH0 p5 f5 hS hpp hft
/-- a new list of the law's -/
theorem LX.putNew (lx : LX A C B T H0 M H t N sc sl x i n ws W held marks rs) {hr hl : Addr} {rs' : List V} (hn : H hr = none) (hd : Held H M hl held') : Put A C B T H0 (hr :: M) H (upd H hr (.lst (.ref hl :: rs'))) t N sc hr hl x i n ws W held held' marks rs' ∧ Bas (hr :: M) t hr x := by
  have sm : L2.Same H (upd H hr (.lst (.ref hl :: rs'))) := same_new hn
  have l1 := lx.same sm
  have hM : ∀ c ∈ hr :: M, c ∈ M ∨ H c = none := fun c hc => by
    rcases List.mem_cons.mp hc with rfl | hc
    · exact .inr hn
    · exact .inl hc
  have nM : hr ∉ M := fun z => by
    obtain ⟨_, o, e, _⟩ := lx.mok hr z
    rw [e] at hn; cases hn
  have f0 : Fr T [] H (upd H hr (.lst (.ref hl :: rs'))) := Same.fr sm lx.hT
  refine ⟨⟨l1.hT, l1.pap, upd_same, hd.step lx.hT f0 lx.mok (fun _ z => by simp at z) hM, lx.scn.step lx.hT f0 lx.mok (fun _ z => by simp at z) hM, l1.tp, fun c hc => ?_, Same.fr sm lx.hT, fun b e => sm.free e, fun b o _ e => sm _ _ e⟩, ⟨List.mem_cons_of_mem _ lx.tM, List.mem_cons_self, fun b hb => List.mem_cons_of_mem _ (lx.xM b hb), lx.tx, fun z => nM (lx.xM _ z), fun z => nM (z ▸ lx.tM)⟩⟩
  rcases List.mem_cons.mp hc with rfl | hc
  · exact ⟨lx.hH0 _ hn, _, upd_same, fun _ z => (by cases z), fun _ z => (by cases z)⟩
  · exact l1.mok c hc
/-- the paper stays as it is -/
theorem Put.stay {H4 : Hp} {hl : Addr} {rs' : List V} (b : Bas M t sl x) (g : Good ws W) (hH0 : ∀ b, H b = none → H0 b ≠ none) (u : Put A C B T H0 M H H4 t N sc sl hl x i n ws W held held marks rs') : LX A C B T H0 M H4 t N sc sl x i n ws W held marks rs' :=
  ⟨u.hT, u.tp, u.mok, fun c e => hH0 c (u.h0 c e), u.pap, u.scn, ⟨hl, u.st, u.hd⟩, g, b.tM, b.sM, b.xM, b.tx, b.sx, b.ts⟩
/-- a list of one's own that was new -/
theorem Ste.resl {hr : Addr} (a : Ste T (hr :: M) M' H0 H H' t hr N' x x') (hn : H hr = none) : Ste T M M' H0 H H' t sl N' x x' := by
  refine ⟨a.fr.mono fun c hc => ?_, a.pp, a.ft, fun c hc => ?_, fun c hc => a.g2 c (List.mem_cons_of_mem _ hc), a.mok, a.tp, a.h0⟩
  · unfold PA.all at hc ⊢
    rcases List.mem_cons.mp hc with rfl | hc
    · exact .inl List.mem_cons_self
    · rcases List.mem_cons.mp hc with rfl | hc
      · exact .inr hn
      · exact .inl (List.mem_cons_of_mem _ (List.mem_cons_of_mem _ hc))
  · rcases a.g1 c hc with q | q
    · rcases List.mem_cons.mp q with rfl | q
      · exact .inr hn
      · exact .inl q
    · exact .inr q
/-- what a call changes of the paper alone -/
theorem Ste.paper {H5 : Hp} {x2 : PA} (a : Ste T M M' H0 H H' t sl N' x x') (hx : ∀ b ∈ x'.foot, b ∈ M') (tx : t ∉ x'.foot) (p5 : Pap A C B H0 H5 x2 i n ws W held' marks') (f5 : Fr T S H' H5) (hS : ∀ c ∈ S, c ∈ x'.foot ∧ c ∈ x2.foot) (hpp : x2.pp = x'.pp) (hft : ∀ b ∈ x2.foot, b ∈ x'.foot ∨ H' b = none) :
    Ste T M (M' ++ x2.foot) H0 H H5 t sl N' x x2 := by
  have hM5 : ∀ c ∈ M' ++ x2.foot, c ∈ M' ∨ H' c = none := fun c hc => by
    rcases List.mem_append.mp hc with q | q
    · exact .inl q
    · rcases hft c q with q | q
      · exact .inl (hx c q)
      · exact .inr q
  refine a.trans (x2 := x2) ⟨f5.mono fun c hc => .inl (foot_all (hS c hc).1), hpp, hft, hM5, fun c hc => List.mem_append.mpr (.inl hc), fun c hc => ?_, ?_, fun b e => f5.free a.fr.1 (fun c hc z => by
    obtain ⟨o', e', _⟩ := p5.has c (hS c hc).2
    rw [e'] at z; cases z) e⟩
  · by_cases z : c ∈ x2.foot
    · obtain ⟨o', e', n1', n2'⟩ := p5.has c z
      exact ⟨p5.h0 c z, o', e', n1', n2'⟩
    · have hc : c ∈ M' := by
        rcases List.mem_append.mp hc with q | q
        · exact q
        · exact absurd q z
      obtain ⟨h0, o, e, n1, n2⟩ := a.mok c hc
      exact ⟨h0, o, f5.at a.fr.1 (fun q => z (hS c q).2) e n1, n1, n2⟩
  · obtain ⟨a1, b1, c1, e, r⟩ := a.tp
    exact ⟨a1, b1, c1, f5.at a.fr.1 (fun z => tx (hS _ z).1) e (fun _ z => by cases z), r⟩
end
structure TopY (K : PySem.W.Frag) (mg : Str → Option Value) (fMa fEm fRi : Addr) : Prop where
  gMa : mg "_law_marked" = some (.ref fMa)
  kMa : PySem.W.keepIn K (.ref fMa) = true
  gEm : mg "_law_emptied" = some (.ref fEm)
  kEm : PySem.W.keepIn K (.ref fEm) = true
  gRi : mg "_law_right" = some (.ref fRi)
  kRi : PySem.W.keepIn K (.ref fRi) = true
end Ov

set_option Elab.async false
set_option linter.all false
set_option maxRecDepth 100000
set_option maxHeartbeats 4000000
namespace Ov
open PySem PySem.Spec PyProof.Rows L2 GxR
abbrev sMadeP : Stmt := top 63
/-! ### a paper is made -/
/-- none just where H knows nothing and H2 knows something -/
def markH (H H2 : Hp) : Hp := fun b => match H b, H2 b with
  | none, some _ => none
  | _, _ => some (.lst [])
theorem markH_none {H H2 : Hp} {b : Addr} (e : H2 b = none) : markH H H2 b ≠ none := by
  unfold markH
  rw [e]
  cases H b <;> (intro z; cases z)
theorem markH_old {H H2 : Hp} {b : Addr} (e : H b ≠ none) : markH H H2 b ≠ none := by
  unfold markH
  cases h : H b with
  | none => exact absurd h e
  | some o => intro z; cases z
theorem markH_new {H H2 : Hp} {b : Addr} {o : HO} (e : H b = none) (e2 : H2 b = some o) : markH H H2 b = none := by
  unfold markH
  rw [e, e2]
theorem SpI.shrink {H0 H1 H : Hp} {d : Addr} {kvs : List (Key × V)} {M : Sp4} (h : ∀ b o, H1 b = none → H b = some o → H0 b = none) (I : SpI H1 H d kvs M) : SpI H0 H d kvs M :=
  ⟨I.at_, h _ _ I.new I.at_, pairedMono (fun _ _ e => by
    obtain ⟨e1, l, vs, e2, n, a, p⟩ := e
    exact ⟨e1, l, vs, e2, h _ _ n a, a, pairedMono (fun _ _ t => by
      obtain ⟨q, t1, t2, t3⟩ := t
      exact ⟨q, t1, h _ _ t2 t3, t3⟩) p⟩) I.pr, I.vd, I.nd⟩
theorem KiI.shrink {H0 H1 H : Hp} {d : Addr} {kk : List (Key × V)} {M : Sp4} {W : Nat} (h : ∀ b o, H1 b = none → H b = some o → H0 b = none) (I : KiI H1 H d kk M W) : KiI H0 H d kk M W :=
  ⟨I.at_, h _ _ I.new I.at_, pairedMono (fun _ _ e => by
    obtain ⟨e1, q, e2, n, a⟩ := e
    exact ⟨e1, q, e2, h _ _ n a, a⟩) I.pr⟩
theorem BdO.shrink {C : Addr} {B : BA} {H0 H1 H : Hp} {a : Addr} {i : Nat} {ws : List Str} {W : Nat} (h : ∀ b o, H1 b = none → H b = some o → H0 b = none) (p : BdO C B H1 H a i ws W) : BdO C B H0 H a i ws W := by
  obtain ⟨m, l, dm, ⟨dx, pc, e, n, dy, d, dk, kvs, kk, e2, n2, s, k⟩, st, n3, n4⟩ := p
  exact ⟨m, l, dm, ⟨dx, pc, e, h _ _ n e, dy, d, dk, kvs, kk, e2, h _ _ n2 e2, s.shrink h, k.shrink h⟩, st, h _ _ n3 st.1, h _ _ n4 st.2⟩
theorem BdO.mark {C : Addr} {B : BA} {H1 H : Hp} {a : Addr} {i : Nat} {ws : List Str} {W : Nat} (p : BdO C B H1 H a i ws W) : BdO C B (markH H1 H) H a i ws W := p.shrink fun _ _ e1 e2 => markH_new e1 e2
structure TopS5 (K : PySem.W.Frag) (mg : Str → Option Value) (fMd : Addr) : Prop where
  gMd : mg "_law_made" = some (.ref fMd)
  kMd : PySem.W.keepIn K (.ref fMd) = true
section
variable {P : Program} {w : World} {K : PySem.W.Frag} {mg : Str → Option Value} {base : Heap} {T : List Addr} {C D fLow fText fAre fTape fNext fInks fInit cLow PLow cAre PAre DSp DSg DNum DNo DN fKp fUn pWi fWi fDr fSc fSl fSa fPs pO gO fMd : Addr} {B : BA} {A : PpA}
/-- a new paper -/
def NewP (A : PpA) (C : Addr) (B : BA) (T : List Addr) (H H' : Hp) (x : PA) (i n : Nat) (ws : List Str) (W : Nat) : Prop := ∃ H0, Pap A C B H0 H' x i n ws W [] [] ∧ (∀ b ∈ x.foot, H b = none) ∧ (∀ b, H' b = none → H0 b ≠ none) ∧ (∀ b, H b ≠ none → H0 b ≠ none) ∧ Kep T H H'
def spMadeP (A : PpA) (C : Addr) (B : BA) (T : List Addr) : Sp := fun vs H Q _ => ∃ (sc wl : Addr) (i n : Nat) (ws : List Str) (W : Nat), vs = [.ref sc] ∧ H sc = some (.tup [.int (i : Nat), .int (n : Nat), .ref wl]) ∧ H wl = some (.lst (ws.map V.str)) ∧ stampsV (ws.map V.str) = true ∧ Good ws W ∧ i < 3 ∧ 1 ≤ n ∧ n ≤ cellsN i ∧ (∀ p ∈ T, TabG H p) ∧
  ∀ x H', NewP A C B T H H' x i n ws W → Q (.ref x.pp) H'
abbrev NMadeP : List Str := ["scene", "kind", "cells_here", "words"]
theorem scMadeP : FnScope NMadeP ["scene"] (defScope sMadeP) := ⟨rfl, rfl, rfl, by decide +kernel, rfl, by decide +kernel, by decide +kernel⟩
theorem lab_at {i : Nat} (hi : i < 3) : atI ([.str "line", .str "window", .str "ring"] : List V) (i : Nat) = some (.str (labN i)) ∧ lab (labN i) = some i := by
  have : i = 0 ∨ i = 1 ∨ i = 2 := by omega
  rcases this with rfl | rfl | rfl
  · exact ⟨by simp [atI, ixN, labN], by decide +kernel⟩
  · exact ⟨by simp [atI, ixN, labN], by decide +kernel⟩
  · exact ⟨by simp [atI, ixN, labN], by decide +kernel⟩
/-- behind __init__ of a paper of a new band -/
theorem new_paper {H Hb G H3 : Hp} {a da b lp ls lm : Addr} {i n : Nat} {ws : List Str} {W : Nat} (kb : Kep T H Hb) (hT : ∀ p ∈ T, TabG H p) (ha : Hb a = none) (hda : Hb da = none) (hne : da ≠ a) (hG : G = upd (upd Hb da (.own a)) a (.ins A.c da [])) {H0 : Hp} (h0 : ∀ b, Hb b = none → H0 b ≠ none) (h1 : ∀ b, H b ≠ none → H0 b ≠ none)
    (py : Pap A C B H0 H3 ⟨a, da, b, lp, ls, lm⟩ i n ws W [] []) (hlp : G lp = none) (hls : G ls = none) (hlm : G lm = none) (k3 : ∀ b o, b ≠ a → G b = some o → H3 b = some o) : NewP A C B T H H3 ⟨a, da, b, lp, ls, lm⟩ i n ws W := by
  have sx : L2.Same Hb G := fun b o e => by rw [hG]; exact (upd_ne (ne_of_none e ha)).trans ((upd_ne (ne_of_none e hda)).trans e)
  have s3 : L2.Same Hb H3 := fun b o e => k3 b o (ne_of_none e ha) (sx b o e)
  have k : Kep T H H3 := kb.sameT s3
  have fr : ∀ {c : Addr}, Hb c = none → H c = none := fun e => kb.free hT e
  refine ⟨H0, py, fun c hc => ?_, fun c e => h0 c (s3.free e), h1, k⟩
  unfold PA.foot at hc
  simp only [List.mem_cons, List.not_mem_nil, or_false] at hc
  rcases hc with rfl | rfl | rfl | rfl
  · exact fr ha
  · exact fr (sx.free hlp)
  · exact fr (sx.free hls)
  · exact fr (sx.free hlm)
theorem ok_madep {f : Addr} {fd fdO fdN fdI fdIn : FuncData} (F : L2.Fun K "_law_made" "_law_made" sMadeP f fd) (FO : L2.Fun K "of" "Stamps.of" sOf gO fdO) (FN : L2.Fun K "named" "Band.named" sNamed B.gN fdN) (FI : L2.Fun K "__init__" "Paper.__init__" sPpI A.fI fdI) (FInt : L2.Fun K "is_integer" "is_integer" sIsInt A.fInt fdIn)
    (OO : FnOk P w K mg base (L2.CX P w) 8 gO fdO ["cls", "words"] (spOf K T C D)) (NN : FnOk P w K mg base (L2.CX P w) 6 B.gN fdN ["cls", "name", "stamps"] (spNamed C B DN)) (BB : Bds K mg B) (X : Txt K mg C fLow fText fAre fTape fNext fInks) (Y : PpK K mg A) (E1 : ErrC K mg "InvalidNumber" DNum) (co : ClX.CMet K C (.type "type") "of" pO gO) :
    FnOk P w K mg base CX0 9 f fd ["scene"] (spMadeP A C B T) := by
  have OR : FnR P w K mg base (L2.CX P w) 8 gO (spOf K T C D) := (OO.raw (FO.binds fun _ _ _ _ _ _ us hl => match us, hl with | [_, _], _ => rfl) .nil).imp fun vs H Q E h => by rw [List.append_nil]; exact h
  have NR : FnR P w K mg base (L2.CX P w) 6 B.gN (spNamed C B DN) := (NN.raw (FN.binds fun _ _ _ _ _ _ us hl => match us, hl with | [_, _, _], _ => rfl) .nil).imp fun vs H Q E h => by rw [List.append_nil]; exact h
  have IX : FnOk P w K mg base (L2.CX P w) 2 A.fI fdI ["self", "band", "size"] (spPpI A C B DNum) := ok_ppi FI FInt X Y BB E1
  have IR : FnR P w K mg base (L2.CX P w) 2 A.fI (spPpI A C B DNum) := (IX.raw (FI.binds fun _ _ _ _ _ _ us hl => match us, hl with | [_, _, _], _ => rfl) .nil).imp fun vs H Q E h => by rw [List.append_nil]; exact h
  have k3 := BB.k 3 (by decide)
  refine F.ok scMadeP (fun vs H Q E h => ?_) (fun cdv A' outer s H vs Q E hr h => ?_)
  · obtain ⟨sc, wl, i, n, ws, W, rfl, _⟩ := h
    rfl
  · obtain ⟨sc, wl, i, n, ws, W, rfl, es, ew, sv, g, hi, n1, n2, hT, q⟩ := h
    refine ⟨_, (pss_cons (ps_asg (pv 0) (pg_tup rfl (pgs_cons (pg_name (i := 1) scMadeP.nd rfl (Or.inl rfl)) (pgs_cons (pg_name (i := 2) scMadeP.nd rfl (Or.inl rfl)) (pgs_cons (pg_name (i := 3) scMadeP.nd rfl (Or.inl rfl)) pgs_nil)))))
      (pss_one (ps_ret (StX.pe_makeR Y.mak IR (hr.mono (by decide)) (by rfl) Y.g passL (pa_cons (ClX.pe_cmeth (pe_glob (v := .ref (B.c 3)) (by rfl) k3.g rfl) k3.rd k3.nmd NR (hr.mono (by decide)) passL (pa_cons (pe_ix ix_seq (pe_lst (pa_cons pe_str (pa_cons pe_str (pa_cons pe_str pa_nil)))) (pv 1) fun _ _ => rfl) (pa_cons (ClX.pe_cmeth (pe_glob (v := .ref C) (by rfl) X.gC rfl) X.rd co OR hr passL (pa_cons (pv 3) pa_nil)) pa_nil))) (pa_cons (pv 2) pa_nil)))))), ?_⟩
    refine ⟨_, rfl, sc, _, rfl, .inl (.inl es), rfl, _, _, rfl, _, _, rfl, _, _, rfl, rfl, ?_⟩
    refine ⟨rfl, (by decide : 3 ≤ sizeLine), fun l1 hl1 => ?_⟩
    have s1 := same_new (o := .lst [.str "line", .str "window", .str "ring"]) hl1
    have k1 := Kep.new (o := .lst [.str "line", .str "window", .str "ring"]) hT hl1
    obtain ⟨hat, hlab⟩ := lab_at hi
    have hl2 := s1 _ _ ew
    refine ⟨_, rfl, .inl ⟨l1, _, (i : Nat), .str (labN i), rfl, rfl, .inl (.inl upd_same), hat, ?_⟩⟩
    generalize upd H l1 (.lst [.str "line", .str "window", .str "ring"]) = H1 at s1 k1 hl2 ⊢
    have wd : ∀ x ∈ ws.map V.str, Wd K T H1 x := fun x hx => by
      obtain ⟨z, hz, rfl⟩ := List.mem_map.mp hx
      exact .inl ⟨z, rfl, by rw [(g.all z hz).1]; exact Nat.le_trans g.w8 (by decide)⟩
    refine ⟨rfl, _, rfl, .ref wl, rfl, .inl ⟨wl, ws.map V.str, rfl, hl2, k1.1, by rw [List.length_map]; have := g.n6; omega, wd, fun _ H3 m l' dx hm hl' hdx hmT hlT st k3 => ?_, fun hf => by rw [sv] at hf; cases hf⟩⟩
    refine ⟨_, labN i, m, l', dx, ws, W, rfl, st, g, fun j hj b Hb BD sb => ?_, fun hn => by rw [hlab] at hn; cases hn⟩
    obtain rfl : i = j := by rw [hlab] at hj; exact Option.some.inj hj
    have kb : Kep T H Hb := (k1.trans k3).sameT sb
    have bo : BdO C B H Hb b i ws W := ⟨m, l', dx, BD.rebase fun b e => (k1.trans k3).free hT e, ⟨sb _ _ st.1, sb _ _ st.2⟩, s1.free hm, s1.free hl'⟩
    refine ⟨_, rfl, fun a da ha hda hne => ?_⟩
    have ia : upd (upd Hb da (.own a)) a (.ins A.c da []) a = some (.ins A.c da []) := upd_same
    have sx : L2.Same Hb (upd (upd Hb da (.own a)) a (.ins A.c da [])) := fun b o e => (upd_ne (ne_of_none e ha)).trans ((upd_ne (ne_of_none e hda)).trans e)
    have bo' : BdO C B (markH H Hb) (upd (upd Hb da (.own a)) a (.ins A.c da [])) b i ws W := bo.mark.keep fun b o _ _ e => sx b o e
    generalize hG : upd (upd Hb da (.own a)) a (.ins A.c da []) = G at ia sx bo'
    refine ⟨a, da, b, markH H Hb, i, n, ws, W, rfl, ia, bo', hi, n1, n2, markH_none ha, fun c e => markH_none (sx.free e), fun lp ls lm H4 py hlp hls hlm k4 => ⟨rfl, ?_⟩⟩
    exact q ⟨a, da, b, lp, ls, lm⟩ H4 (new_paper kb hT ha hda hne hG.symm (fun c e => markH_none e) (fun c e => markH_old e) py hlp hls hlm k4)
end
end Ov

set_option Elab.async false
set_option linter.all false
set_option maxRecDepth 100000
set_option maxHeartbeats 4000000
namespace Ov
open PySem PySem.Spec PyProof.Rows L2 GxR
section
variable {T M : List Addr} {C : Addr} {B : BA} {A : PpA} {H0 H H1 H' : Hp} {x y : PA} {t sc wl sl hl ml : Addr} {N i n W : Nat} {ws : List Str} {us rs : List V} {held : List St2} {marks : List Int}
/-- a new paper and the law's new lists of it -/
theorem ly_new (hT : ∀ p ∈ T, TabG H p) (tp : Tp H t N) (es : H sc = some (.tup [.int (i : Nat), .int (n : Nat), .ref wl])) (ew : H wl = some (.lst (ws.map V.str))) (wt : wl ≠ t) (g : Good ws W)
    (P : NewP A C B T H H1 x i n ws W) (hhl : H1 hl = none) (hml : upd H1 hl (.lst []) ml = none) (hsl : upd (upd H1 hl (.lst [])) ml (.lst []) sl = none) :
    ∃ H0, LY A C B T H0 (t :: sl :: x.foot) (upd (upd (upd H1 hl (.lst [])) ml (.lst [])) sl (.lst (.ref hl :: .ref ml :: us))) t N sc sl x i n ws W [] [] (.ref ml :: us) ∧ (∀ c ∈ t :: sl :: x.foot, c = t ∨ H c = none) ∧ Kep T H (upd (upd (upd H1 hl (.lst [])) ml (.lst [])) sl (.lst (.ref hl :: .ref ml :: us))) := by
  obtain ⟨H0, p, fx, h0n, h0o, k⟩ := P
  have sA : L2.Same H1 (upd H1 hl (.lst [])) := same_new hhl
  have sB : L2.Same (upd H1 hl (.lst [])) (upd (upd H1 hl (.lst [])) ml (.lst [])) := same_new hml
  have sC : L2.Same (upd (upd H1 hl (.lst [])) ml (.lst [])) (upd (upd (upd H1 hl (.lst [])) ml (.lst [])) sl (.lst (.ref hl :: .ref ml :: us))) := same_new hsl
  have ehl := sC _ _ (sB _ _ (upd_same : upd H1 hl (.lst []) hl = some (.lst [])))
  have eml := sC _ _ (upd_same : upd (upd H1 hl (.lst [])) ml (.lst []) ml = some (.lst []))
  have esl : upd (upd (upd H1 hl (.lst [])) ml (.lst [])) sl (.lst (.ref hl :: .ref ml :: us)) sl = some (.lst (.ref hl :: .ref ml :: us)) := upd_same
  have nhs : hl ≠ sl := ne_of_none (sB _ _ (upd_same : upd H1 hl (.lst []) hl = some (.lst []))) hsl
  have nms : ml ≠ sl := ne_of_none (upd_same : upd (upd H1 hl (.lst [])) ml (.lst []) ml = some (.lst [])) hsl
  have hml1 : H1 ml = none := sA.free hml
  have hsl1 : H1 sl = none := (sA.trans sB).free hsl
  have s := sA.trans (sB.trans sC)
  generalize upd (upd (upd H1 hl (.lst [])) ml (.lst [])) sl (.lst (.ref hl :: .ref ml :: us)) = G at s ehl eml esl ⊢
  have kG : Kep T H G := k.sameT s
  obtain ⟨ta, tb, tc, et, tr⟩ := id tp
  have tH : H t ≠ none := by rw [et]; intro z; cases z
  have etG := kG.at hT et fun _ z => by cases z
  have pG := p.same s
  have H1n : ∀ {b : Addr}, H1 b = none → b ∉ x.foot := fun hb z => by
    obtain ⟨o, e, _⟩ := p.has _ z
    rw [e] at hb; cases hb
  have up : ∀ {b : Addr}, H1 b = none → H b = none := fun e => k.free hT e
  have tf : t ∉ x.foot := fun z => tH (fx t z)
  have tsl : t ≠ sl := fun z => tH (up (z ▸ hsl1))
  have nM : ∀ {b : Addr}, H1 b = none → b ≠ sl → b ∉ t :: sl :: x.foot := fun {b} hb h1 z => by
    rcases List.mem_cons.mp z with z | z
    · exact tH (up (z ▸ hb))
    · rcases List.mem_cons.mp z with z | z
      · exact h1 z
      · exact H1n hb z
  have mok : MOk H0 G (t :: sl :: x.foot) := fun c hc => by
    rcases List.mem_cons.mp hc with rfl | hc
    · exact ⟨h0o _ tH, _, etG, fun _ z => (by cases z), fun _ z => (by cases z)⟩
    · rcases List.mem_cons.mp hc with rfl | hc
      · exact ⟨h0n _ hsl1, _, esl, fun _ z => (by cases z), fun _ z => (by cases z)⟩
      · obtain ⟨o, e, n1, n2⟩ := pG.has c hc
        exact ⟨pG.h0 c hc, o, e, n1, n2⟩
  have wlH : H wl ≠ none := by rw [ew]; intro z; cases z
  have nwl : wl ∉ t :: sl :: x.foot := fun z => by
    rcases List.mem_cons.mp z with z | z
    · exact wt z
    · rcases List.mem_cons.mp z with z | z
      · exact wlH (up (z ▸ hsl1))
      · exact wlH (fx wl z)
  refine ⟨H0, ⟨⟨kG.1, ⟨ta, tb, tc, etG, tr⟩, mok, fun b e => h0n b (s.free e), pG, ⟨wl, kG.at hT es fun _ z => (by cases z), kG.at hT ew fun _ z => (by cases z), nwl⟩, ⟨hl, esl, ⟨[], ehl, .nil, nM hhl nhs⟩⟩, g, List.mem_cons_self, List.mem_cons_of_mem _ List.mem_cons_self, fun b hb => List.mem_cons_of_mem _ (List.mem_cons_of_mem _ hb), tf, H1n hsl1, tsl⟩, .nil, ml, us, rfl, eml, nM hml1 nms⟩, fun c hc => ?_, kG⟩
  rcases List.mem_cons.mp hc with z | hc
  · exact .inl z
  · rcases List.mem_cons.mp hc with z | hc
    · exact .inr (up (z ▸ hsl1))
    · exact .inr (fx c hc)
/-- a twin, looked at with the law's lists of the first paper -/
theorem LX.twin (h : LX A C B T H0 M H t N sc sl x i n ws W held marks rs) (py : Pap A C B H0 H' y i n ws W held marks) (fy : ∀ b ∈ y.foot, H b = none) (s : L2.Same H H') : LX A C B T H0 (M ++ y.foot) H' t N sc sl y i n ws W held marks rs := by
  have l := h.same s
  obtain ⟨wl, e1, e2, e3⟩ := h.scn
  obtain ⟨hl, e4, tps, e5, e6, e7⟩ := h.st
  have nf : ∀ {b : Addr} {o : HO}, H b = some o → b ∉ y.foot := fun e z => by rw [fy _ z] at e; cases e
  obtain ⟨ta, tb, tc, et, tr⟩ := id h.tp
  have nin : ∀ {b : Addr} {o : HO}, b ∉ M → H b = some o → b ∉ M ++ y.foot := fun h1 h2 z => by
    rcases List.mem_append.mp z with z | z
    · exact h1 z
    · exact nf h2 z
  refine ⟨l.hT, l.tp, fun c hc => ?_, l.hH0, py, ⟨wl, s _ _ e1, s _ _ e2, nin e3 e2⟩, ⟨hl, s _ _ e4, tps, s _ _ e5, e6.keep fun a xs e => s _ _ e, nin e7 e5⟩, h.good, List.mem_append.mpr (.inl h.tM), List.mem_append.mpr (.inl h.sM), fun b hb => List.mem_append.mpr (.inr hb), nf et, nf e4, h.ts⟩
  rcases List.mem_append.mp hc with hc | hc
  · exact l.mok c hc
  · obtain ⟨o, e, n1, n2⟩ := py.has c hc
    exact ⟨py.h0 c hc, o, e, n1, n2⟩
end
end Ov

set_option Elab.async false
set_option linter.all false
set_option maxRecDepth 100000
set_option maxHeartbeats 4000000
/-! a method with a star that is called with nothing; None among pairs -/
namespace Ov
open PySem PySem.Spec PyProof.Rows L2 GxR
section
variable {X : Cx} {CX : CXT} {k : Nat} {C g : Addr} {m : Str} {sp : Sp} {E : L2.St → XK} {o : Expr} {ta : TE} {apos pos : Pos} {pl : Sem Bool}
theorem pe_methE0 (he : PE X o ta) (c : Cls X.K C) (hm : Meth X.K C m g) (F : FnR X.prog X.w X.K X.mg X.base CX k g sp) (hr : Room k X.A) (hx : ∀ σ, PassesAt CX X σ (E σ))
    (ht : eval (.Call (.Attribute o m apos) [] [] pos) X.env = (do
      let ov ← eval o X.env
      standAt apos.atName
      let (f, first) ← holding [ov] (getMethod ov m pl)
      callWith pos f first (backTo pos (starEach [] X.env)) (backToKw pos (keywordEach [] X.env))) := by rfl) :
    PE X (.Call (.Attribute o m apos) [] [] pos) (tMethE C m sp E ta tNil) := by
  refine ⟨fun pins s σ H Q I h => ?_⟩
  refine PySem.W.methodCall_KW (pl := pl) (thn (he.run pins s σ H _ I h) fun u s1 ⟨x, H1, I1, rx, a, dx, fs, ex, ea, l, q⟩ => ?_) ht
  subst ex
  obtain rfl : u = Value.ref a := rx
  refine getmeth_ok I1 ea c hm l ?_
  refine PySem.W.callWith_K0 (first := [.ref a]) I1.kIn hm.kp ?_
  refine wpAny_call (codeAny_mono (F X.A X.stack s1 H1 [.ref a] [V.ref a] Q (E σ) hr I1.env0 (.cons rfl .nil) q) fun r s' hq => ?_)
  cases r with
  | error e => exact hx σ _ H1 s1 e s' I1 hq
  | ok fl =>
    cases fl with
    | ret u => exact I1.after hq
    | next => exact False.elim hq
    | brk => exact False.elim hq
    | cont => exact False.elim hq
end
/-! ### None, or a pair -/
def opD : Option (Int × Int) → PyData
  | none => .none
  | some s => .tuple [.int s.1, .int s.2]
theorem opD_lay : ∀ o, (opD o).canLay0 = true
  | none => by simp [opD, PyData.canLay0]
  | some _ => by simp [opD, PyData.canLay0, PyData.canLayAll0]
theorem opD_depth : ∀ o, (opD o).depth ≤ 1
  | none => by simp [opD, PyData.depth]
  | some _ => by simp [opD, PyData.depth, PyData.depthAll]
theorem opDs_lay : ∀ os : List (Option (Int × Int)), PyData.canLayAll0 (os.map opD) = true
  | [] => by simp [PyData.canLayAll0]
  | o :: os => by simp [PyData.canLayAll0, opD_lay o, opDs_lay os]
theorem opDs_depth : ∀ os : List (Option (Int × Int)), PyData.depthAll (os.map opD) ≤ 1
  | [] => by simp [PyData.depthAll]
  | o :: os => by
    have h1 := opDs_depth os
    have h2 := opD_depth o
    simp only [List.map_cons, PyData.depthAll]
    omega
theorem opDs_shaped (os : List (Option (Int × Int))) : SeqAt.shaped (.list (os.map opD)) = true := by
  have h1 := opDs_depth os
  have h2 : PyData.depth (.list (os.map opD)) ≤ 64 := by
    simp only [PyData.depth]
    omega
  show (PyData.canLay0 (.list (os.map opD)) && decide (PyData.depth (.list (os.map opD)) ≤ 64)) = true
  rw [Bool.and_eq_true]
  exact ⟨by simp only [PyData.canLay0]; exact opDs_lay os, decide_eq_true h2⟩
theorem opD_none : ∀ o, PyData.eqv (opD o) .none = o.isNone
  | none => by simp [opD, PyData.eqv]
  | some s => by simp [opD, PyData.eqv]
theorem opDs_none (os : List (Option (Int × Int))) : ((os.map opD).any fun z => PyData.eqv z .none) = os.any Option.isNone := by
  rw [List.any_map]
  congr 1
  funext o
  exact opD_none o
end Ov

set_option Elab.async false
set_option linter.all false
set_option maxRecDepth 100000
set_option maxHeartbeats 4000000
namespace Ov
open PySem PySem.Spec PyProof.Rows L2 GxR
theorem held_takeO {H : Hp} {tps : List Addr} {held : List St2} (k : Nat) (t : TupsA H tps held) : cutV (tps.map V.ref) none (some (k : Int)) = (tps.take k).map V.ref ∧ TupsA H (tps.take k) (held.take k) := ⟨by rw [cut_take, List.map_take], t.take k⟩
theorem cut_init (xs : List V) : cutV xs none (some (-1)) = xs.take (xs.length - 1) := by
  unfold cutV HT.sIx
  simp
  try omega
def inD : Int → PyData := PyData.int
theorem intDs_lay : ∀ os : List Int, PyData.canLayAll0 (os.map PyData.int) = true
  | [] => by simp [PyData.canLayAll0]
  | o :: os => by simp [PyData.canLayAll0, PyData.canLay0, intDs_lay os]
theorem intDs_depth : ∀ os : List Int, PyData.depthAll (os.map PyData.int) ≤ 1
  | [] => by simp [PyData.depthAll]
  | o :: os => by
    have h1 := intDs_depth os
    have h2 : (PyData.int o).depth ≤ 1 := by simp [PyData.depth]
    simp only [List.map_cons, PyData.depthAll]
    omega
theorem intDs_shaped (os : List Int) : SeqAt.shaped (.list (os.map PyData.int)) = true := by
  have h1 := intDs_depth os
  have h2 : PyData.depth (.list (os.map PyData.int)) ≤ 64 := by
    simp only [PyData.depth]
    omega
  show (PyData.canLay0 (.list (os.map PyData.int)) && decide (PyData.depth (.list (os.map PyData.int)) ≤ 64)) = true
  rw [Bool.and_eq_true]
  exact ⟨by simp only [PyData.canLay0]; exact intDs_lay os, decide_eq_true h2⟩
theorem eqv_nilO (ds : List PyData) : PyData.eqv (.list ds) (.list []) = ds.isEmpty := by
  cases ds <;> simp [PyData.eqv, PyData.eqvAll]
section
variable {K : PySem.W.Frag} {T : List Addr} {C : Addr} {B : BA} {A : PpA}
theorem dp_ints {H : Hp} : ∀ ms : List Int, DpAll K H (ms.map V.int) (ms.map PyData.int)
  | [] => .nil
  | i :: r => .cons (.int i) (dp_ints r)
theorem dp_tups {H : Hp} : ∀ (tps : List Addr) (held : List St2), TupsA H tps held → DpAll K H (tps.map V.ref) ((held.map some).map opD)
  | [], [], _ => .nil
  | [], _ :: _, h => by cases h
  | _ :: _, [], h => by cases h
  | a :: tps, s :: held, h => by
    unfold TupsA at h
    simp only [List.map_cons, List.cons.injEq] at h
    exact .cons (.tup (xs := [.int s.1, .int s.2]) (.inl (.inl h.1)) (.cons (.int _) (.cons (.int _) .nil))) (dp_tups tps held h.2)
theorem Held.sameO {H H' : Hp} {M : List Addr} {l : Addr} {held : List St2} (h : Held H M l held) (k : L2.Same H H') : Held H' M l held := by
  obtain ⟨tps, e, th, nh⟩ := h
  exact ⟨tps, k _ _ e, th.keep fun a xs e => k _ _ e, nh⟩
theorem Put.sameO {H0 H H4 H5 : Hp} {M : List Addr} {t sc sl hl : Addr} {N : Nat} {x : PA} {i n : Nat} {ws : List Str} {W : Nat} {held held' : List St2} {marks : List Int} {rs' : List V} (u : Put A C B T H0 M H H4 t N sc sl hl x i n ws W held held' marks rs') (k : L2.Same H4 H5) : Put A C B T H0 M H H5 t N sc sl hl x i n ws W held held' marks rs' := by
  obtain ⟨wl, e1, e2, e3⟩ := u.scn
  obtain ⟨ta, tb, tc, et, tr⟩ := u.tp
  exact ⟨(Same.fr (S := []) k u.hT).1, u.pap.same k, k _ _ u.st, u.hd.sameO k, ⟨wl, k _ _ e1, k _ _ e2, e3⟩, ⟨ta, tb, tc, k _ _ et, tr⟩, u.mok.same k, u.fr.tr (Same.fr k u.hT), fun b e => u.h0 b (k.free e), fun b o nb e => k _ _ (u.oth b o nb e)⟩
theorem Put.againO {H0 H H4 : Hp} {M : List Addr} {t sc sl hl hl2 : Addr} {N : Nat} {x : PA} {i n : Nat} {ws : List Str} {W : Nat} {held held' held2 : List St2} {marks : List Int} {rs' rs2 : List V} (b : Bas M t sl x) (u : Put A C B T H0 M H H4 t N sc sl hl x i n ws W held held' marks rs') (hd : Held H4 M hl2 held2) : Put A C B T H0 M H (upd H4 sl (.lst (.ref hl2 :: rs2))) t N sc sl hl2 x i n ws W held held2 marks rs2 := by
  have est := u.st
  obtain ⟨tps, eh, th, nh⟩ := hd
  have slT : sl ∉ T := not_tab u.hT est fun _ z => by cases z
  have f4 : Fr T [sl] H4 (upd H4 sl (.lst (.ref hl2 :: rs2))) := (Fr.refl u.hT).put (.inl (by simp)) slT
  have hs4 : ∀ c ∈ [sl], c ∈ M := fun c hc => by rw [List.mem_singleton.mp hc]; exact b.sM
  have hM4 : ∀ c ∈ M, c ∈ M ∨ H4 c = none := fun c hc => .inl hc
  have ne4 : ∀ {b : Addr} {o : HO}, b ≠ sl → H4 b = some o → upd H4 sl (.lst (.ref hl2 :: rs2)) b = some o := fun nb e => (upd_ne nb).trans e
  refine ⟨f4.1, u.pap.keep u.hT f4 (fun c hc z => b.sx (by rw [← List.mem_singleton.mp z]; exact hc)) (fun c hc => (u.mok c (hs4 c hc)).1) (u.mok.ntup hs4), upd_same, ⟨tps, ne4 (fun z => nh (z ▸ b.sM)) eh, th.keep fun a xs e => ne4 (ne_of e est (by intro z; cases z)) e, nh⟩, u.scn.step (M' := M) u.hT f4 u.mok hs4 hM4, u.tp.at (upd_ne b.ts), fun c hc => ?_, u.fr.tr f4, fun c e => ?_, fun c o nb e => ne4 nb (u.oth c o nb e)⟩
  · obtain ⟨h0, o, e, n1, n2⟩ := u.mok c hc
    by_cases z : c = sl
    · subst z
      exact ⟨h0, _, upd_same, fun _ z => (by cases z), fun _ z => (by cases z)⟩
    · exact ⟨h0, o, (upd_ne z).trans e, n1, n2⟩
  · by_cases z : c = sl
    · rw [z, upd_same] at e; cases e
    · exact u.h0 c ((upd_ne z).symm.trans e)
theorem LY.pressedO {M : List Addr} {H0 H H' : Hp} {t sc sl : Addr} {N N' : Nat} {x : PA} {i n : Nat} {ws : List Str} {W : Nat} {held held' : List St2} {marks : List Int} {rs : List V} (h : LY A C B T H0 M H t N sc sl x i n ws W held marks rs) (hh : held' = held ∨ ∃ s, held' = held ++ [s]) (l2 : LX A C B T H0 M H' t N' sc sl x i n ws W held' marks rs) (f : Fr T (x.all t sl) H H') :
    LY A C B T H0 M H' t N' sc sl x i n ws W held' marks rs ∧ held.length ≤ held'.length ∧ held'.length ≤ held.length + 1 := by
  obtain ⟨ml, us, e, em, nm⟩ := h.mks
  have hl : held.length ≤ held'.length ∧ held'.length ≤ held.length + 1 := by
    rcases hh with rfl | ⟨s, rfl⟩
    · omega
    · rw [List.length_append, List.length_singleton]; omega
  exact ⟨⟨l2, h.mo.mono hl.1, ml, us, e, f.at h.lx.hT (fun z => nm (h.lx.allM _ z)) em fun _ z => (by cases z), nm⟩, hl⟩
theorem LX.toPut {H0 H : Hp} {M : List Addr} {t sc sl : Addr} {N : Nat} {x y : PA} {i n : Nat} {ws : List Str} {W : Nat} {held held2 : List St2} {marks marks2 : List Int} {rs : List V} (lx : LX A C B T H0 M H t N sc sl x i n ws W held marks rs) {H5 : Hp} {S : List Addr} (p5 : Pap A C B H0 H5 y i n ws W held2 marks2) (f : Fr T S H H5) (hS : ∀ c ∈ S, c ∈ x.foot ∧ c ∈ y.foot) (hy : ∀ b ∈ y.foot, b ∈ x.foot ∨ H b = none) :
    (∃ hl, Put A C B T H0 (M ++ y.foot) H5 H5 t N sc sl hl y i n ws W held2 held marks2 rs) ∧ Bas (M ++ y.foot) t sl y ∧ (∀ b, H5 b = none → H0 b ≠ none) := by
  have hTt : t ∉ S := fun z => lx.tx (hS _ z).1
  have hTs : sl ∉ S := fun z => lx.sx (hS _ z).1
  obtain ⟨ta, tb, tc, et, tr⟩ := id lx.tp
  obtain ⟨hl, est, tps, eh, th, nh⟩ := lx.st
  have nf : ∀ {b : Addr} {o : HO}, b ∉ M → H b = some o → b ∉ M ++ y.foot := fun {b o} h1 h2 z => by
    rcases List.mem_append.mp z with z | z
    · exact h1 z
    · rcases hy _ z with z | z
      · exact h1 (lx.xM _ z)
      · rw [h2] at z; cases z
  have mok : MOk H0 H5 (M ++ y.foot) := fun c hc => by
    by_cases z : c ∈ y.foot
    · obtain ⟨o, e, n1, n2⟩ := p5.has c z
      exact ⟨p5.h0 c z, o, e, n1, n2⟩
    · rcases List.mem_append.mp hc with hc | hc
      · obtain ⟨h0, o, e, n1, n2⟩ := lx.mok c hc
        exact ⟨h0, o, f.at lx.hT (fun q => z (hS _ q).2) e n1, n1, n2⟩
      · exact absurd hc z
  have fre : ∀ b, H5 b = none → H b = none := fun b e => f.free lx.hT (fun d hd q => by
    obtain ⟨o, e', _⟩ := p5.has d (hS d hd).2
    rw [q] at e'; cases e') e
  have sM : ∀ c ∈ S, c ∈ M := fun c hc => lx.xM _ (hS c hc).1
  have ntx : ∀ {b : Addr} {o : HO}, H b = some o → (∀ ts, o ≠ .tbl ts) → b ∉ S → H5 b = some o := fun e n q => f.at lx.hT q e n
  refine ⟨⟨hl, f.1, p5, ntx est (fun _ z => by cases z) hTs, ⟨tps, ntx eh (fun _ z => by cases z) (fun z => nh (sM _ z)), th.keep fun a xs e => ntx e (fun _ z => by cases z) (fun z => ?_), nf nh eh⟩, ?_, ⟨ta, tb, tc, ntx et (fun _ z => by cases z) hTt, tr⟩, mok, Fr.refl f.1, fun _ e => e, fun _ _ _ e => e⟩, ⟨List.mem_append.mpr (.inl lx.tM), List.mem_append.mpr (.inl lx.sM), fun b hb => List.mem_append.mpr (.inr hb), fun z => ?_, fun z => ?_, lx.ts⟩, fun b e => lx.hH0 b (fre b e)⟩
  · obtain ⟨_, o, e2, _, n2⟩ := lx.mok a (sM _ z)
    rw [e] at e2
    cases e2
    exact n2 xs rfl
  · refine lx.scn.step (M' := M ++ y.foot) lx.hT f lx.mok sM fun c hc => ?_
    rcases List.mem_append.mp hc with hc | hc
    · exact .inl hc
    · rcases hy c hc with z | z
      · exact .inl (lx.xM _ z)
      · exact .inr z
  · rcases hy _ z with z | z
    · exact lx.tx z
    · rw [et] at z; cases z
  · rcases hy _ z with z | z
    · exact lx.sx z
    · rw [est] at z; cases z
end
end Ov

set_option Elab.async false
set_option linter.all false
set_option maxRecDepth 100000
set_option maxHeartbeats 4000000
namespace Ov
open PySem PySem.Spec PyProof.Rows L2 GxR
abbrev sIsS : Stmt := inClass (top 51) 14
abbrev sPpAll : Stmt := inClass (top 39) 5
/-- the two defs' names -/
structure PpKA (K : PySem.W.Frag) (mg : Str → Option Value) (A : PpA) (B : BA) (fIs fAl : Addr) : Prop where
  is : ∀ i, i < 3 → Meth K (B.c i) "is_stamping" fIs
  al : Meth K A.c "press_all" fAl
  tup : mg "tuple" = none
section
variable {P : Program} {w : World} {K : PySem.W.Frag} {mg : Str → Option Value} {base : Heap} {T : List Addr} {C D fLow fText fAre fTape fNext fInks fInit cLow PLow cAre PAre DSp DSg DNum DNo fKp fUn fIs fAl : Addr} {B : BA} {A : PpA}
/-! ### is_stamping -/
def spIsS (C : Addr) (B : BA) (i : Nat) : Sp := fun vs H Q _ => ∃ (a m l dm tp : Addr) (H0 : Hp) (ws : List Str) (W : Nat) (size wd pl : Int), vs = [.ref a, .int size, .ref tp] ∧ H tp = some (.tup [.int wd, .int pl]) ∧ BdAt B H0 H a i m ws W ∧ Stp H C m l dm (ws.map V.str) ∧ Good ws W ∧ fitsB i ws.length W size wd pl = true ∧ Q (.bl true) H
abbrev NIsS : List Str := ["self", "size", "thing", "word", "place"]
theorem scIsS : FnScope NIsS ["self", "size", "thing"] (defScope sIsS) := ⟨rfl, rfl, rfl, by decide +kernel, rfl, by decide +kernel, by decide +kernel⟩
theorem ok_iss {f : Addr} {fd fdI : FuncData} {fdF : Nat → FuncData} {i : Nat} (hi : i < 3) (F : L2.Fun K "is_stamping" "Band.is_stamping" sIsS f fd) (FI : L2.Fun K "is_integer" "is_integer" sIsInt A.fInt fdI)
    (hF : ∀ i, i < 3 → Binds K (fdF i) ["self", "size", "word", "place"] [] ∧ FnOk P w K mg base CX0 4 (B.ff i) (fdF i) ["self", "size", "word", "place"] (spFits C B i))
    (X : Txt K mg C fLow fText fAre fTape fNext fInks) (Y : PpK K mg A) (BB : Bds K mg B) (KA : PpKA K mg A B fIs fAl) : FnOk P w K mg base CX0 5 f fd ["self", "size", "thing"] (spIsS C B i) := by
  have II : FnOk P w K mg base CX0 1 A.fInt fdI ["thing"] spIsInt := ok_isint FI X Y
  have bI : Binds K fdI ["thing"] [] := FI.binds fun _ _ _ _ _ _ us hl => match us, hl with | [_], _ => rfl
  obtain ⟨bF, FF⟩ := hF i hi
  have k := BB.k i (by omega)
  refine F.ok scIsS (fun vs H Q E h => ?_) (fun cdv A' outer s H vs Q E hr h => ?_)
  · obtain ⟨a, m, l, dm, tp, H0, ws, W, size, wd, pl, rfl, _⟩ := h
    rfl
  · obtain ⟨a, m, l, dm, tp, H0, ws, W, size, wd, pl, rfl, et, bd, st, g, ft, q⟩ := h
    obtain ⟨dx, pc, ha, _⟩ := id bd
    refine ⟨_, (pss_cons (ps_if ((pw_or (pt_not (pt_val (pe_callB call_isi (by rfl) X.isi boot_isinstance (pa_cons (pv 2) (pa_cons (pe_bltn (v := .ty "tuple") (by rfl) KA.tup (by decide +kernel) rfl) pa_nil))))) (pw_or1 (pt_cmpR op_ne (pe_callB call_len_seq (by rfl) X.len boot_len (pa_cons (pv 2) pa_nil)) pe_int (by rfl)))).pt) (pss_one (ps_ret pe_bl)) pss_nil)
      (pss_cons (ps_asg (pv 2) (pg_tup rfl (pgs_cons (pg_name (i := 3) scIsS.nd rfl (Or.inl rfl)) (pgs_cons (pg_name (i := 4) scIsS.nd rfl (Or.inl rfl)) pgs_nil))))
      (pss_one (ps_ret (pe_and (pe_call II (hr.mono (by decide)) (by rfl) Y.gI Y.kI bI .nil L2.pass0 (pa_cons (pv 3) pa_nil)) (pe_and (pe_call II (hr.mono (by decide)) (by rfl) Y.gI Y.kI bI .nil L2.pass0 (pa_cons (pv 4) pa_nil)) (pe_one (pe_meth (pv 0) k.cls (BB.fits i hi) FF hr bF .nil L2.pass0 (pa_cons (pv 1) (pa_cons (pv 3) (pa_cons (pv 4) pa_nil))))))))))), ?_⟩
    refine ⟨_, rfl, _, _, _, _, _, rfl, .ty _, .base (.tup et), kit_ty (r := true) (by decide +kernel), true, rfl, ?_⟩
    refine iteF ?_
    refine ⟨_, rfl, tp, _, rfl, .inr (.inl (.inl et)), ?_⟩
    refine ⟨rfl, _, rfl, iteF' rfl ?_⟩
    refine ⟨_, rfl, tp, _, rfl, .inl (.inl et), rfl, _, _, rfl, _, _, rfl, rfl, ?_⟩
    refine ⟨_, rfl, _, rfl, _, rfl, iteT ?_⟩
    refine ⟨_, rfl, _, rfl, _, rfl, iteT ?_⟩
    refine ⟨_, rfl, a, dx, _, rfl, ha, rfl, _, rfl, _, rfl, _, rfl, a, m, l, dm, H0, ws, W, size, wd, pl, rfl, bd, st, g, ?_⟩
    rw [ft]
    exact q
/-! ### press_all -/
def spAll (A : PpA) (C : Addr) (B : BA) (T : List Addr) : Sp := fun vs H Q E => ∃ (x : PA) (H0 : Hp) (i n : Nat) (ws : List Str) (W : Nat) (held : List St2) (marks : List Int) (tps : List Addr) (new : List St2), vs = .ref x.pp :: tps.map V.ref ∧ Pap A C B H0 H x i n ws W held marks ∧ Good ws W ∧ (∀ p ∈ T, TabG H p) ∧ TupsA H tps new ∧ (∀ s ∈ new, fitsB i ws.length W (n : Nat) s.1 s.2 = true) ∧ new.length ≤ 1000 ∧ held.length + new.length < 100000 ∧ (∀ b, H b = none → H0 b ≠ none) ∧
  ∀ H', Pap A C B H0 H' x i n ws W (held ++ new) marks → Fr T [x.lp, x.ls] H H' → Q .non H'
abbrev NAll : List Str := ["self", "stampings", "stamping", "word", "place"]
theorem scAll : FnScope NAll ["self", "stampings"] (defScope sPpAll) := ⟨rfl, rfl, rfl, by decide +kernel, rfl, by decide +kernel, by decide +kernel⟩
theorem ok_all {fd fdI fdP : FuncData} (F : L2.Fun K "press_all" "Paper.press_all" sPpAll fAl fd) (hI : ∀ i, i < 3 → FnOk P w K mg base CX0 5 fIs fdI ["self", "size", "thing"] (spIsS C B i)) (bI : Binds K fdI ["self", "size", "thing"] [])
    (FP : L2.Fun K "press" "Paper.press" sPpPr A.fPr fdP) (PR : FnOk P w K mg base (L2.CX P w) 8 A.fPr fdP ["self", "word", "place"] (spPress A C B T))
    (Y : PpK K mg A) (BB : Bds K mg B) (KA : PpKA K mg A B fIs fAl) (E2 : ErrC K mg "InvalidStamping" DSg) : FnR P w K mg base (L2.CX P w) 9 fAl (spAll A C B T) := by
  have bP : Binds K fdP ["self", "word", "place"] [] := FP.binds fun _ _ _ _ _ _ us hl => match us, hl with | [_, _, _], _ => rfl
  obtain ⟨oc, od, kV, doc, pm, an, cdv, ct, osl, rfl, lk, hcd⟩ := F.ex
  have R := StX.fn_star (CX := L2.CX P w) (P := P) (w := w) (mg := mg) (base := base) (ps := ["self"]) (pv := "stampings") (N := NAll) (k := 8)
    (sp := fun vs H Q E => ∃ (x : PA) (H0 : Hp) (i n : Nat) (ws : List Str) (W : Nat) (held : List St2) (marks : List Int) (tps : List Addr) (new : List St2) (p : Addr), vs = [.ref x.pp, .ref p] ∧ H p = some (.tup (tps.map V.ref)) ∧ Pap A C B H0 H x i n ws W held marks ∧ Good ws W ∧ (∀ p ∈ T, TabG H p) ∧ TupsA H tps new ∧ (∀ s ∈ new, fitsB i ws.length W (n : Nat) s.1 s.2 = true) ∧ held.length + new.length < 100000 ∧ (∀ b, H b = none → H0 b ≠ none) ∧
      ∀ H', Pap A C B H0 H' x i n ws W (held ++ new) marks → Fr T [x.lp, x.ls] H H' → Q .non H')
    lk hcd scAll StX.cxUp (StX.bind_star1 (B := fun us => bindArgs _ ⟨us, []⟩) (fun _ => rfl) (fun _ _ _ => rfl)) (fun A' outer s H vs Q E hr h => ?_)
  · intro A' outer s H us vs Q E hr e0 r h
    refine R A' outer s H us vs Q E hr e0 r ?_
    obtain ⟨x, H0, i, n, ws, W, held, marks, tps, new, rfl, p, g, hT, tt, hf, hn, hl, hH0, q⟩ := h
    refine ⟨[.ref x.pp], tps.map V.ref, rfl, rfl, by rw [List.length_map, tt.len]; exact Nat.le_trans hn (by decide), fun a ha => ?_⟩
    have sn := same_new (o := .tup (tps.map V.ref)) ha
    refine ⟨x, H0, i, n, ws, W, held, marks, tps, new, a, rfl, upd_same, p.same sn, g, (Same.fr (S := []) sn hT).1, tt.keep fun b xs e => sn _ _ e, hf, hl, fun b e => hH0 b (sn.free e), fun H' p' f' => q H' p' ?_⟩
    have f0 : Fr T [x.lp, x.ls] H _ := Same.fr sn hT
    exact f0.tr f'
  · obtain ⟨x, H0, i, n, ws, W, held, marks, tps, new, a, rfl, ea, p, g, hT, tt, hf, hl, hH0, q⟩ := h
    have hi := p.i3
    have k := BB.k i (by omega)
    have IS := hI i hi
    obtain ⟨m, l, dm, bd, st, m0, l0⟩ := id p.bnd
    obtain ⟨db, pc, hb, b0, _⟩ := id bd
    refine ⟨_, (pss_cons (ps_for (passes_of rfl) rfl (pi_tup (pv 1)) (pg_name (i := 2) scAll.nd rfl (Or.inl rfl)) (pss_one (ps_if (pt_not (pt_val (pe_meth (pe_fld (pv 0) (by rfl)) k.cls (KA.is i hi) IS (hr.mono (by decide)) bI .nil L2.pass0 (pa_cons (pe_fld (pv 0) (by rfl)) (pa_cons (pv 2) pa_nil))))) (pss_one (ps_raise rfl (takes_of rfl rfl rfl rfl) (pmk_own PySem.F.excBase_ValueError E2.e E2.g E2.k (raises_own E2.b E2.t) (by rfl)))) pss_nil)))
      (pss_one (ps_for (passes_of rfl) rfl (pi_tup (pv 1)) (pg_tup rfl (pgs_cons (pg_name (i := 3) scAll.nd rfl (Or.inl rfl)) (pgs_cons (pg_name (i := 4) scAll.nd rfl (Or.inl rfl)) pgs_nil))) (pss_one (ps_expr (pe_meth (pv 0) Y.cls Y.pr PR hr bP .nil (passes_call (E := E) (takes_of rfl rfl rfl rfl) (fun _ _ _ _ h => h)) (pa_cons (pv 3) (pa_cons (pv 4) pa_nil)))))))), ?_⟩
    refine ⟨_, rfl, a, rfl, ⟨_, .inl (.inl ea)⟩, for_tup (xs := tps.map V.ref) (fun r σ H' => H' = H ∧ ∃ v2, σ = [some (.ref x.pp), some (.ref a), v2, none, none]) ⟨rfl, _, rfl⟩ (fun r σ H' _ pp => by rw [pp.1]; exact .inl (.inl ea)) (fun r y σ H' hr' pp => ?_) (fun σ H' pp => ?_)⟩
    · obtain ⟨rfl, v2, rfl⟩ := pp
      rw [List.getElem?_map] at hr'
      obtain ⟨tp, htp, rfl⟩ := Option.map_eq_some_iff.mp hr'
      obtain ⟨sp, hsp, esp⟩ := tt.get htp
      have ft := hf sp (List.mem_of_getElem? hsp)
      refine ⟨_, rfl, x.pp, _, _, _, _, rfl, p.ins, Y.cls, Y.nB, rfl, x.bd, db, _, rfl, hb, rfl, _, rfl, x.pp, _, _, _, _, rfl, p.ins, Y.cls, Y.nZ, rfl, _, rfl, x.bd, m, l, dm, tp, H0, ws, W, n, sp.1, sp.2, rfl, esp, bd, st, g, ft, _, rfl, iteF ?_⟩
      exact ⟨rfl, _, rfl⟩
    · obtain ⟨rfl, v2, rfl⟩ := pp
      have na : ∀ {c : Addr} {xs : List V}, H' c = some (.tup xs) → c ∉ [x.lp, x.ls] := fun {c xs} e z => by
        obtain ⟨tps0, et0, _⟩ := p.prs
        simp only [List.mem_cons, List.not_mem_nil, or_false] at z
        rcases z with rfl | rfl
        · rw [et0] at e; cases e
        · rw [p.str] at e; cases e
      refine ⟨_, rfl, a, rfl, ⟨_, .inl (.inl ea)⟩, for_tup (xs := tps.map V.ref) (fun r σ G => (∃ v2 v3 v4, σ = [some (.ref x.pp), some (.ref a), v2, v3, v4]) ∧ Pap A C B H0 G x i n ws W (held ++ new.take r) marks ∧ Fr T [x.lp, x.ls] H' G) ⟨⟨_, _, _, rfl⟩, by rw [List.take_zero, List.append_nil]; exact p, .refl hT⟩ (fun r σ G _ pp => .inl (.inl (pp.2.2.at hT (na ea) ea fun _ z => by cases z))) (fun r y σ G hr' pp => ?_) (fun σ G pp => ?_)⟩
      · obtain ⟨⟨v2, v3, v4, rfl⟩, p1, f1⟩ := pp
        rw [List.getElem?_map] at hr'
        obtain ⟨tp, htp, rfl⟩ := Option.map_eq_some_iff.mp hr'
        obtain ⟨sp, hsp, esp⟩ := tt.get htp
        have ft := hf sp (List.mem_of_getElem? hsp)
        have etp := f1.at hT (na esp) esp fun _ z => by cases z
        have nS : ∀ c ∈ [x.lp, x.ls], G c ≠ none := fun c hc z => by
          obtain ⟨tps0, et0, _⟩ := p1.prs
          simp only [List.mem_cons, List.not_mem_nil, or_false] at hc
          rcases hc with rfl | rfl
          · rw [et0] at z; cases z
          · rw [p1.str] at z; cases z
        have hr2 : r < new.length := (List.getElem?_eq_some_iff.mp hsp).1
        refine ⟨tp, _, rfl, .inl (.inl etp), rfl, _, _, rfl, _, _, rfl, rfl, ?_⟩
        refine ⟨_, rfl, x.pp, x.dx, _, rfl, p1.ins, rfl, _, rfl, _, rfl, x, H0, i, n, ws, W, held ++ new.take r, marks, sp.1, sp.2, rfl, p1, g, f1.1, ft, by rw [List.length_append, List.length_take]; omega, fun b e => hH0 b (f1.free hT nS e), fun G2 p2 f2 => ?_⟩
        refine ⟨⟨_, _, _, rfl⟩, ?_, f1.tr f2⟩
        have e : new.take (r + 1) = new.take r ++ [(sp.1, sp.2)] := by rw [List.take_add_one, hsp]; rfl
        rw [e, ← List.append_assoc]
        exact p2
      · obtain ⟨⟨v2, v3, v4, rfl⟩, p1, f1⟩ := pp
        rw [List.length_map, tt.len, List.take_length] at p1
        exact q _ p1 f1
end
end Ov

set_option Elab.async false
set_option linter.all false
set_option maxRecDepth 100000
set_option maxHeartbeats 4000000
/-! a def that raises nothing, called while an exception is handled: of the caller's pins one is enough -/
namespace Ov
open PySem PySem.Spec PyProof.Rows L2 GxR
structure FnM (P : Program) (w : World) (K : PySem.W.Frag) (mg : Str → Option Value) (base : Heap) (k : Nat) (f : Addr) (fd : FuncData) (ps : List Str) (sp : Sp) : Prop where
  n : ∀ vs H Q E, sp vs H Q E → vs.length = ps.length
  go : ∀ (A : Around) (outer : List Env) (s : Shared) (H : Hp) (g : Args) (us : List Value) (vs : List V) (Q : VK) (E : XK) (pin : Addr × Obj), L2H.RoomH k A → L2H.PinOk outer H s pin → Env0 P w K mg base A outer s H → BindsTo s fd g (ps.zip us) → Vals vs us → sp vs H Q E →
    codeAny (model P w) A (.call (.ref f) g) (CR CX0 outer P w H s Q E) s
theorem FnM.of {P : Program} {w : World} {K : PySem.W.Frag} {mg : Str → Option Value} {base : Heap} {x qual : Str} {st : Stmt} {f : Addr} {fd : FuncData} {N ps : List Str} {k : Nat} {sp : Sp} (F : L2.Fun K x qual st f fd) (S : FnScope N ps (defScope st)) (hn : ∀ vs H Q E, sp vs H Q E → vs.length = ps.length)
    (hb : ∀ (cdv : Value) (A : Around) (outer : List Env) (s : Shared) (H : Hp) (vs : List V) (Q : VK) (E : XK) (pin : Addr × Obj), L2H.RoomH k (A.deeper (envOfC qual (defScope st) s.heap.objs.size f cdv)) → sp vs H Q E →
      ∃ t, PSs (L2H.cxH CX0 P w K mg base N qual (defScope st) f cdv A outer s H E pin) (defBody st) t ∧ t { nx := fun _ H' => Q .non H', rt := Q } (L2.start N vs) H) : FnM P w K mg base (k + 1) f fd ps sp := by
  obtain ⟨oc, od, kV, doc, pm, an, cdv, ct, osl, rfl, lk, hcd⟩ := F.ex
  refine ⟨hn, fun A outer s H g us vs Q E pin room hpin env bind rel spec => ?_⟩
  have lv := hn _ _ _ _ spec
  have KH : K.In s.heap := env.mod.kin.keeps fun c u z => (env.bs c u z).1
  have nl : s.heap.NoLimit := env.mod.nolimit.keeps fun c u z => (env.bs c u z).1
  have kinds : ∀ z ∈ ps.zip us, (defScope st).names.lookup z.1 = some .local ∨ ((defScope st).names.lookup z.1 = some .cell ∧ ((cellsFrom (s.heap.objs.size + 1) (defScope st).names []).lookup z.1).isSome = true) := by
    rintro ⟨nm, val⟩ hz
    cases S.par nm (List.of_mem_zip hz).1 with
    | inl h1 => exact .inl h1
    | inr h2 => exact .inr ⟨h2, PySem.W.cellsFrom_some _ _ _ (.inl h2)⟩
  refine codeAny_call_function room.depth (KH _ _ lk) rfl S.co S.gen rfl (PySem.W.codeRec_of KH hcd) (bind _ _ _ _ ?_)
  refine wpAny_newFunctionEnv_cells S.kind kinds fun env2 eenv s1 y => ?_
  subst eenv
  refine ⟨nl.keeps y.toInCall.keep, codeAny_func ?_⟩
  obtain ⟨t, run, sat⟩ := hb cdv A outer s H vs Q E pin (room.deeper _) spec
  have J0 : Inv (L2H.cxH CX0 P w K mg base N qual (defScope st) f cdv A outer s H E pin) [] (L2.start N vs) H s1 := L2H.inv_startH S hpin env lv rel y
  refine wpAny_mono (run.run [] s1 (L2.start N vs) H _ J0 sat) (fun out s2 hout => ?_) fun er s2 her => her
  cases out with
  | ret u =>
    obtain ⟨v, σ', H', J, rv, hq⟩ := hout
    exact ⟨v, H', J.os, J.bare, J.base, J.hok, rv, hq⟩
  | next =>
    obtain ⟨σ', H', J, hq⟩ := hout
    exact ⟨V.non, H', J.os, J.bare, J.base, J.hok, rfl, hq⟩
  | brk => exact absurd hout.choose_spec.choose_spec.2 id
  | cont => exact absurd hout.choose_spec.choose_spec.2 id
section
variable {X : Cx} {pins : List (Addr × Obj)} {σ : L2.St} {H : Hp} {s : Shared}
theorem pinOk_of {pin : Addr × Obj} (I : Inv X pins σ H s) (hp : pin ∈ X.pn) : L2H.PinOk X.stack H s pin := by
  obtain ⟨a1, a2, a3, a4, a5⟩ := I.pin pin (List.mem_append_left _ hp)
  refine ⟨a1, a2, fun hm => ?_, a5⟩
  rcases List.mem_cons.mp (I.stkSub pin.1 hm) with z | z
  · exact a3 z
  · exact a4 z
theorem RoomH.in1 {k : Nat} {A : Around} (r : L2H.RoomH (k + 1) A) : L2H.RoomH k A.in1 :=
  ⟨by have := r.dp; show A.depth + 3 * k + 5 < _; omega, by have := r.un; show A.units + 1 + 16 * k + 200 < _; omega⟩
/-- len of an instance, while an exception is handled -/
theorem call_lenM {k : Nat} {C f : Addr} {fd : FuncData} {sp : Sp} {pin : Addr × Obj} (hs : PySem.W.findIn X.K (.ref C) "__len__" = some (some (.ref f))) (hf : PySem.W.isFn X.K (.ref f) = true) (F : FnM X.prog X.w X.K X.mg X.base k f fd ["self"] sp) (hb : Binds X.K fd ["self"] []) (hr : L2H.RoomH (k + 1) X.A) (hp : pin ∈ X.pn) : CallR X (.builtin "len") (rLenI C sp) := by
  intro pins s σ H xs us Q I r h
  obtain ⟨a, dx, fs, rfl, ha, q⟩ := h
  obtain ⟨u, rfl, ru⟩ := vals1 r
  obtain rfl : u = Value.ref a := ru
  obtain ⟨o, od, J, _⟩ := insAt I ha
  obtain ⟨m, Fm⟩ := frOf I
  have bd := hb s [.ref a] I.kIn rfl
  refine PySem.W.len_K Fm I.ok.mod.kin J hs hf ?_
  refine wpAny_call (codeAny_mono (F.go X.A.in1 X.stack s H ⟨[.ref a], []⟩ [.ref a] [V.ref a] _ E0 pin (RoomH.in1 hr) (pinOk_of I hp) I.env0.in1 bd (.cons rfl .nil) q) fun rr s' hq => ?_)
  cases rr with
  | error e => exact False.elim hq
  | ok fl =>
    cases fl with
    | ret u =>
      obtain ⟨v, H2, I2, rv, n, rfl, hn, q2⟩ := I.after hq
      obtain ⟨t, rfl⟩ := rv
      exact ⟨⟨by omega, by omega⟩, .int (n : Nat), H2, I2.tok _, ⟨_, rfl⟩, q2⟩
    | next => exact False.elim hq
    | brk => exact False.elim hq
    | cont => exact False.elim hq
/-- a property, while an exception is handled -/
theorem pe_propM {k : Nat} {p g : Addr} {f : Str} {fd : FuncData} {sp : Sp} {pin : Addr × Obj} {e : Expr} {pos : Pos} {ta : TE} (he : PE X e ta) (F : FnM X.prog X.w X.K X.mg X.base k g fd ["self"] sp) (hr : L2H.RoomH (k + 1) X.A) (hb : Binds X.K fd ["self"] []) (hp : pin ∈ X.pn)
    (hab : attributeBase e f X.env (eval e X.env) = eval e X.env := by rfl) : PE X (.Attribute e f pos) (tPropX X.K f p g sp [] E0 ta) := by
  refine ⟨fun pins s σ H Q I h => ?_⟩
  refine attr_of hab (thn (he.run pins s σ H _ I h) fun u s1 ⟨x, H1, I1, rx, a, C, dx, fs, ex, c, hpr, ea, q⟩ => ?_)
  subst ex
  obtain rfl : u = Value.ref a := rx
  obtain ⟨mA, O, _, _, _, _⟩ := ins_get I1.hok ea
  obtain ⟨od, J, _⟩ := O.look
  obtain ⟨rest, hrec⟩ := hpr.rec_
  have I2 := I1.tok (s1.toks + 1)
  have hcls : (PySem.W.clsIn X.K C).isSome = true := by
    obtain ⟨cd, hcd, _⟩ := PySem.W.any_some c.hd
    rw [hcd]; rfl
  have bd := hb { s1 with toks := s1.toks + 1 } [.ref a] I2.kIn rfl
  refine PySem.W.get_bind I1.kIn J (PySem.W.plainGet_of (c.get f)).1 (PySem.W.findObj_data hcls hpr.at_ hpr.get hpr.tak) (PySem.W.plainGet_of (c.get f)).2 (wpAny_call (PySem.W.prop_get (s := { s1 with toks := s1.toks + 1 }) I1.kIn hrec ?_))
  refine codeAny_mono (F.go X.A.in1 X.stack { s1 with toks := s1.toks + 1 } H1 ⟨[.ref a], []⟩ [.ref a] [.ref a] Q E0 pin (RoomH.in1 hr) (pinOk_of I2 hp) I2.env0.in1 bd (.cons rfl .nil) q) fun rr s' hq => ?_
  cases rr with
  | error er => exact False.elim hq
  | ok fl =>
    cases fl with
    | ret u =>
      obtain ⟨v, H', I3, rv, q3⟩ := I2.after hq
      show wpAny _ _ (handedOut u) _ _ _
      rw [PySem.W.handedOut_of (handed_of rv)]
      exact wpAny_pure ⟨v, H', I3, rv, q3⟩
    | next => exact False.elim hq
    | brk => exact False.elim hq
    | cont => exact False.elim hq
/-- the same, where the reading is told by name -/
theorem pe_propMK {K : PySem.W.Frag} (hK : X.K = K) {k : Nat} {p g : Addr} {f : Str} {fd : FuncData} {sp : Sp} {pin : Addr × Obj} {e : Expr} {pos : Pos} {ta : TE} (he : PE X e ta) (F : FnM X.prog X.w X.K X.mg X.base k g fd ["self"] sp) (hr : L2H.RoomH (k + 1) X.A) (hb : Binds X.K fd ["self"] []) (hp : pin ∈ X.pn)
    (hab : attributeBase e f X.env (eval e X.env) = eval e X.env := by rfl) : PE X (.Attribute e f pos) (tPropX K f p g sp [] E0 ta) := by
  subst hK
  exact pe_propM he F hr hb hp hab
theorem op_eqDK {K : PySem.W.Frag} (hK : X.K = K) (hu : X.A.units + 64 < cLine) : OpR X (compareOp .Eq) (rEqD K) := by
  subst hK
  exact op_eqD hu
end
end Ov

set_option Elab.async false
set_option linter.all false
set_option maxRecDepth 100000
set_option maxHeartbeats 4000000
/-! o.m(e, ..) with thirty values and more: the method is read as a value first -/
namespace Ov
open PySem PySem.Spec PyProof.Rows L2 GxR
theorem many_call {M : Model} {A : Around} {E : Value → Shared → Prop} {s : Shared} {env : Env} {o : Expr} {es : List Expr} {m : Str} {apos pos : Pos} {Q : Value → Shared → Prop} (hb : attributeBase o m env (eval o env) = eval o env) (hf : methodCallForm (es.length + ([] : List Keyword).length) (backTo pos (starEach es env)) [] = false)
    (h : wpAny M A (eval o env) (fun ov s₁ => wpAny M A (getAttr ov m true) (fun g s₂ => wpAny M A (callWith pos g [] (backTo pos (starEach es env)) []) Q E s₂) E s₁) E s) : wpAny M A (eval (.Call (.Attribute o m apos) es [] pos) env) Q E s := by
  have k0 : backToKw pos (keywordEach [] env) = [] := rfl
  have p0 : methodCallPos false o env apos pos = pure pos := rfl
  have c0 : ∀ ov, calleeOf false o env ov m = (getAttr ov m true >>= fun v => pure (v, [])) := fun _ => rfl
  rw [arm_eval_Call, hb, k0]
  refine wpAny_bind (wpAny_mono h (fun ov t1 ht => ?_) fun _ _ z => z)
  refine wpAny_bind (wpAny_standAt ?_)
  unfold methodCall
  rw [hf, p0, c0]
  refine wpAny_bind (wpAny_holding (wpAny_bind (wpAny_mono ht (fun g t2 hg => wpAny_pure ?_) fun _ _ z => z)))
  exact wpAny_bind (wpAny_pure hg)
def tMethMany (C : Addr) (m : Str) (g : Addr) (sp : Sp) (E : L2.St → XK) (ta : TE) (t : TA) : TE := fun σ H Q => ta σ H fun x H1 => ∃ a dx fs, x = .ref a ∧ H1 a = some (.ins C dx fs) ∧ fs.lookup m = none ∧ ∀ q, H1 q = none → t σ (upd H1 q (.met g a)) fun vs H2 => H2 q = some (.met g a) ∧ sp (.ref a :: vs) H2 Q (E σ)
theorem pe_methMany {X : Cx} {CX : CXT} {k : Nat} {C g : Addr} {m : Str} {sp : Sp} {E : L2.St → XK} {o e : Expr} {es : List Expr} {ta : TE} {t : TA} {apos pos : Pos} (he : PE X o ta) (c : Cls X.K C) (b : BMeth X.K C m g) (F : FnR X.prog X.w X.K X.mg X.base CX k g sp) (hr : Room k X.A) (hx : ∀ σ, PassesAt CX X σ (E σ)) (ha : L2.PA X (e :: es) t)
    (hb : attributeBase o m X.env (eval o X.env) = eval o X.env := by rfl) (hf : methodCallForm ((e :: es).length + ([] : List Keyword).length) (backTo pos (starEach (e :: es) X.env)) [] = false := by rfl)
    (hst : starEach (e :: es) X.env = (false, eval e X.env) :: starEach es X.env := by rfl) (hpl : (backTo pos (starEach es X.env)).any (·.1) = false := by rfl) : PE X (.Call (.Attribute o m apos) (e :: es) [] pos) (tMethMany C m g sp E ta t) := by
  refine ⟨fun pins s σ H Q I h => ?_⟩
  refine many_call hb hf (thn (he.run pins s σ H _ I h) fun u s1 ⟨x, H1, I1, rx, a, dx, fs, ex, ea, l, q⟩ => ?_)
  subst ex
  obtain rfl : u = Value.ref a := rx
  refine getbound_ok I1 ea c b l fun q1 s2 hq1 I2 => ?_
  have run := ha.run pos pins s2 σ _ _ I2 (q q1 hq1)
  rw [hst] at run ⊢
  refine callwith_met (X := X) (g := g) (a := a) (first := []) (by show ((false || (backTo pos (starEach es X.env)).any (·.1)) || false) = false; rw [hpl]; rfl) b.fi (Calls.evalArgs_plain (thn run fun us s3 ⟨vs, H2, I3, rv, hm, hsp⟩ => ⟨met_P I3 hm, ?_⟩))
  refine wpAny_call (PySem.W.method_call (met_P I3 hm).1 (codeAny_mono (F X.A X.stack s3 H2 (.ref a :: us) (V.ref a :: vs) Q (E σ) hr I3.env0 (.cons rfl rv) hsp) fun r s' hq => ?_))
  cases r with
  | error er => exact hx σ pins H2 s3 er s' I3 hq
  | ok fl =>
    cases fl with
    | ret u => exact I3.after hq
    | next => exact False.elim hq
    | brk => exact False.elim hq
    | cont => exact False.elim hq
end Ov

set_option Elab.async false
set_option linter.all false
set_option maxRecDepth 100000
set_option maxHeartbeats 4000000
namespace Ov
open PySem PySem.Spec PyProof.Rows L2 GxR
abbrev sEmp62 : Stmt := top 65
abbrev sUndone : Stmt := top 66
abbrev sSixty : Stmt := top 67
structure TopE (K : PySem.W.Frag) (mg : Str → Option Value) (fEm fUd fSx : Addr) : Prop where
  gEm : mg "_law_is_empty" = some (.ref fEm)
  kEm : PySem.W.keepIn K (.ref fEm) = true
  gUd : mg "_law_undone" = some (.ref fUd)
  kUd : PySem.W.keepIn K (.ref fUd) = true
  gSx : mg "_law_sixty" = some (.ref fSx)
  kSx : PySem.W.keepIn K (.ref fSx) = true
section
variable {P : Program} {w : World} {K : PySem.W.Frag} {mg : Str → Option Value} {base : Heap} {T : List Addr} {C D fLow fText fAre fTape fNext fInks fInit cLow PLow cAre PAre DSp DSg DNum DNo fKp fUn pWi fWi fDr fSc fSl fSa fPs fIs fAl fEm fUd fSx : Addr} {B : BA} {A : PpA} {Z : PpC}
theorem roomM {k : Nat} {A : Around} {o : Option Value} (r : Room k A) : L2H.RoomH k (A.mark o) := ⟨r.dp, r.un⟩
/-! ### a paper's readings, while an exception is handled -/
theorem ok_shownM {f : Addr} {fd : FuncData} (F : L2.Fun K "shown" "Paper.shown" sPpSh f fd) (Y : PpK K mg A) : FnM P w K mg base 1 f fd ["self"] (spShown A C B) := by
  refine FnM.of F scPpSh (fun vs H Q E h => ?_) (fun cdv A' outer s H vs Q E pin hr h => ?_)
  · obtain ⟨x, i, n, ws, held, rfl, _⟩ := h
    rfl
  · obtain ⟨x, i, n, ws, held, rfl, ⟨H0, W, marks, p⟩, q⟩ := h
    refine ⟨_, (pss_one (ps_ret (pe_ix ix_seq (pe_fld (pv 0) (by rfl)) (pe_un un_neg pe_int) fun _ _ => rfl))), ?_⟩
    exact ⟨_, rfl, _, _, _, _, _, rfl, p.ins, Y.cls, Y.nS, rfl, 1, rfl, .inl ⟨x.ls, _, -1, _, rfl, rfl, .inl (.inl p.str), strips_last, q⟩⟩
theorem ok_stpsM {f : Addr} {fd : FuncData} (F : L2.Fun K "stampings" "Paper.stampings" sPpSt f fd) (X : Txt K mg C fLow fText fAre fTape fNext fInks) (Y : PpK K mg A) : FnM P w K mg base 1 f fd ["self"] (spStps A C B) := by
  refine FnM.of F (show FnScope ["self"] ["self"] (defScope sPpSt) from ⟨rfl, rfl, rfl, by decide +kernel, rfl, by decide +kernel, by decide +kernel⟩) (fun vs H Q E h => ?_) (fun cdv A' outer s H vs Q E pin hr h => ?_)
  · obtain ⟨x, i, n, ws, held, rfl, _⟩ := h
    rfl
  · obtain ⟨x, i, n, ws, held, rfl, ⟨H0, W, marks, p⟩, q⟩ := h
    obtain ⟨tps, e, t⟩ := p.prs
    refine ⟨_, (pss_one (ps_ret (pe_callTy call_list_of (by rfl) X.lst (by decide +kernel) (pa_cons (pe_fld (pv 0) (by rfl)) pa_nil)))), ?_⟩
    exact ⟨_, rfl, _, _, _, _, _, rfl, p.ins, Y.cls, Y.nP, rfl, x.lp, _, rfl, .inl (.inl (.inl e)), fun l hl => q l tps hl t⟩
theorem ok_plnM {f : Addr} {fd : FuncData} (F : L2.Fun K "__len__" "Paper.__len__" sPpLn f fd) (X : Txt K mg C fLow fText fAre fTape fNext fInks) (Y : PpK K mg A) : FnM P w K mg base 1 f fd ["self"] (spPLn A C B) := by
  refine FnM.of F (show FnScope ["self"] ["self"] (defScope sPpLn) from ⟨rfl, rfl, rfl, by decide +kernel, rfl, by decide +kernel, by decide +kernel⟩) (fun vs H Q E h => ?_) (fun cdv A' outer s H vs Q E pin hr h => ?_)
  · obtain ⟨x, i, n, ws, held, rfl, _⟩ := h
    rfl
  · obtain ⟨x, i, n, ws, held, rfl, ⟨H0, W, marks, p⟩, q⟩ := h
    obtain ⟨tps, e, t⟩ := p.prs
    refine ⟨_, (pss_one (ps_ret (pe_callB call_len_seq (by rfl) X.len boot_len (pa_cons (pe_fld (pv 0) (by rfl)) pa_nil)))), ?_⟩
    refine ⟨_, rfl, _, _, _, _, _, rfl, p.ins, Y.cls, Y.nP, rfl, x.lp, _, rfl, .inl (.inl (.inl e)), ?_⟩
    rw [List.length_map, t.len]
    exact q
/-! ### nothing is left to undo -/
def spEmp (A : PpA) (C : Addr) (B : BA) (T : List Addr) : Sp := fun vs H Q _ => ∃ (x : PA) (H0 : Hp) (i n : Nat) (ws : List Str) (W : Nat) (marks : List Int) (sc wl : Addr), vs = [.ref x.pp, .ref sc] ∧ Pap A C B H0 H x i n ws W [] marks ∧ (∀ p ∈ T, TabG H p) ∧ (∀ b, H b = none → H0 b ≠ none) ∧ marks.length < 100000 ∧ H sc = some (.tup [.int (i : Nat), .int (n : Nat), .ref wl]) ∧ ∀ H', L2.Same H H' → Q (.bl true) H'
theorem scEmp62 : FnScope ["paper", "scene"] ["paper", "scene"] (defScope sEmp62) := ⟨rfl, rfl, rfl, by decide +kernel, rfl, by decide +kernel, by decide +kernel⟩
theorem ok_emp62 {f : Addr} {fd fdU fdSh fdSt fdLn : FuncData} (F : L2.Fun K "_law_is_empty" "_law_is_empty" sEmp62 f fd) (FU : L2.Fun K "undo" "Paper.undo" sPpU fUn fdU) (UN : FnOk P w K mg base (L2.CX P w) 2 fUn fdU ["self"] (spPpU A C B T DNo))
    (FSh : L2.Fun K "shown" "Paper.shown" sPpSh A.gSh fdSh) (FSt : L2.Fun K "stampings" "Paper.stampings" sPpSt A.gSt fdSt) (FLn : L2.Fun K "__len__" "Paper.__len__" sPpLn A.fLn fdLn)
    (X : Txt K mg C fLow fText fAre fTape fNext fInks) (Y : PpK K mg A) (UU : PpKU K A fKp fUn) (E1 : ErrC K mg "NothingToUndo" DNo) (ex : PySem.W.exmOne K (.ref DNo) (.ref DNo) = some true) : FnOk P w K mg base CX0 4 f fd ["paper", "scene"] (spEmp A C B T) := by
  have UR : FnR P w K mg base (L2.CX P w) 2 fUn (spPpU A C B T DNo) := (UN.raw (FU.binds fun _ _ _ _ _ _ us hl => match us, hl with | [_], _ => rfl) .nil).imp fun vs H Q E h => by rw [List.append_nil]; exact h
  have SHM : FnM P w K mg base 1 A.gSh fdSh ["self"] (spShown A C B) := ok_shownM FSh Y
  have bSh : Binds K fdSh ["self"] [] := FSh.binds fun _ _ _ _ _ _ us hl => match us, hl with | [_], _ => rfl
  have STM : FnM P w K mg base 1 A.gSt fdSt ["self"] (spStps A C B) := ok_stpsM FSt X Y
  have bSt : Binds K fdSt ["self"] [] := FSt.binds fun _ _ _ _ _ _ us hl => match us, hl with | [_], _ => rfl
  have LNM : FnM P w K mg base 1 A.fLn fdLn ["self"] (spPLn A C B) := ok_plnM FLn X Y
  have bLn : Binds K fdLn ["self"] [] := FLn.binds fun _ _ _ _ _ _ us hl => match us, hl with | [_], _ => rfl
  refine F.ok scEmp62 (fun vs H Q E h => ?_) (fun cdv A' outer s H vs Q E hr h => ?_)
  · obtain ⟨x, H0, i, n, ws, W, marks, sc, wl, rfl, _⟩ := h
    rfl
  · obtain ⟨x, H0, i, n, ws, W, marks, sc, wl, rfl, p, hT, hH0, hm, es, q⟩ := h
    have hu : (A'.deeper (envOfC "_law_is_empty" (defScope sEmp62) s.heap.objs.size f cdv)).units + 64 < cLine := by have := hr.un; omega
    have c60 : cellsN i ≤ 120 := by unfold cellsN; split <;> omega
    have n2 := p.n2
    refine ⟨_, (pss_cons (ps_try_only (c := .ref DNo) rfl rfl ⟨rfl, by decide, .inl E1.g⟩ takes0 (fun W pn xe tk _ => pss_one (ps_expr (pe_methE0 (pv 0) Y.cls UU.un UR (hr.mono (by decide)) (fun σ => passAt tk σ)))) (fun a oe cls d pn hz hf => pss_one (ps_ret (pe_and (pe_cmpR op_eq (pe_propMK (K := K) rfl (pin := (a, oe)) (p := A.pSh) (pv 0) SHM (roomM (hr.mono (by decide : 2 ≤ 3))) bSh List.mem_cons_self) (pe_op op_mulS pe_str (pe_ix (ix_K (K := K) rfl) (pv 1) pe_int fun _ _ => rfl)) (by rfl)) (pe_and (pe_cmpR (op_eqDK (K := K) rfl hu) (pe_propMK (K := K) rfl (pin := (a, oe)) (p := A.pSt) (pv 0) STM (roomM (hr.mono (by decide : 2 ≤ 3))) bSt List.mem_cons_self) (pe_lst pa_nil) (by rfl)) (pe_one (pe_cmpR op_eq (pe_callB (call_lenM (pin := (a, oe)) Y.ln.ls Y.ln.lf LNM bLn (roomM (hr.mono (by decide : 2 ≤ 3))) List.mem_cons_self) (by rfl) X.len boot_len (pa_cons (pv 0) pa_nil)) pe_int (by rfl)))))))) (pss_one (ps_ret pe_bl))), ?_⟩
    refine ⟨_, rfl, x.pp, x.dx, _, rfl, p.ins, rfl, x, H0, i, n, ws, W, [], marks, rfl, p, hT, hH0, hm, (fun _ => ?_), fun z => absurd rfl z⟩
    refine ⟨true, ex, fun _ a' ha => ?_, fun q => nomatch q⟩
    refine ⟨_, rfl, x.pp, A.c, x.dx, _, rfl, Y.cls, Y.sh, p.ins, x, i, n, ws, [], rfl, ⟨H0, W, marks, p⟩, ?_⟩
    refine ⟨_, rfl, .inr (.inl ⟨sc, _, 1, .int (n : Nat), rfl, rfl, .inl (.inl es), atI_nat (j := 1) rfl, _, _, rfl, rfl, by omega, by omega, by decide, rfl, ?_⟩)⟩
    have e : decide (V.str (stripF i ws n []) = V.str (⟨(List.replicate ((n : Nat) : Int).toNat ("." : Str).cps.toList).flatten.toArray⟩ : Str)) = true := by
      rw [rep_dots n, decide_eq_true_eq]
      rfl
    refine ⟨_, rfl, iteT' e ?_⟩
    refine ⟨_, rfl, x.pp, A.c, x.dx, _, rfl, Y.cls, Y.st, p.ins, x, i, n, ws, [], rfl, ⟨H0, W, marks, p⟩, fun l1 tps1 hl1 t1 => ?_⟩
    have s1 := same_new (o := .lst (tps1.map V.ref)) hl1
    have e1 : upd H l1 (.lst (tps1.map V.ref)) l1 = some (.lst (tps1.map V.ref)) := upd_same
    have t1e : tps1 = [] := by
      have := t1.len
      exact List.length_eq_zero_iff.mp this
    subst t1e
    refine ⟨(by decide : 0 ≤ sizeLine), fun l2 hl2 => ?_⟩
    have s2 := same_new (o := .lst []) hl2
    refine ⟨_, _, .lst (.inl (.inl (s2 _ _ e1))) .nil, .lst (.inl (.inl upd_same)) .nil, by decide, by decide, ?_⟩
    rw [eqv_nilO]
    refine ⟨_, rfl, iteT' rfl ?_⟩
    have p2 := p.same (s1.trans s2)
    refine ⟨_, rfl, x.pp, x.dx, _, rfl, p2.ins, x, i, n, ws, [], rfl, ⟨H0, W, marks, p2⟩, ?_⟩
    refine ⟨0, rfl, by decide, rfl, ?_⟩
    exact q _ (s1.trans s2)
theorem LX.put0 {M : List Addr} {H0 H : Hp} {t sc sl : Addr} {N : Nat} {x : PA} {i n : Nat} {ws : List Str} {W : Nat} {held : List St2} {marks : List Int} {rs : List V} (l : LX A C B T H0 M H t N sc sl x i n ws W held marks rs) : ∃ hl, Put A C B T H0 M H H t N sc sl hl x i n ws W held held marks rs := by
  obtain ⟨hl, est, hd⟩ := l.st
  exact ⟨hl, l.hT, l.pap, est, hd, l.scn, l.tp, l.mok, Fr.refl l.hT, fun _ e => e, fun _ _ _ e => e⟩
theorem foot3 {x : PA} {lp ls lm : Addr} : ∀ c ∈ [x.pp], c ∈ x.foot ∧ c ∈ (x.with3 lp ls lm).foot := fun c hc => by
  rw [List.mem_singleton.mp hc]
  unfold PA.foot PA.with3
  simp
theorem fsh3 {x : PA} {G : Hp} {lp ls lm : Addr} (hlp : G lp = none) (hls : G ls = none) (hlm : G lm = none) : ∀ b ∈ (x.with3 lp ls lm).foot, b ∈ x.foot ∨ G b = none := fun b hb => by
  unfold PA.foot PA.with3 at hb
  simp only [List.mem_cons, List.not_mem_nil, or_false] at hb
  rcases hb with rfl | rfl | rfl | rfl
  · exact .inl (by unfold PA.foot; simp)
  · exact .inr hlp
  · exact .inr hls
  · exact .inr hlm
/-! ### so many stampings undone -/
def spUndone (A : PpA) (C : Addr) (B : BA) (T : List Addr) : Sp := fun vs H Q _ => ∃ (H0 : Hp) (M : List Addr) (t : Addr) (N : Nat) (sc sl : Addr) (x : PA) (i n : Nat) (ws : List Str) (W : Nat) (held : List St2) (rs : List V) (m : Nat), vs = [.ref x.pp, .ref sc, .ref sl, .int (m : Nat)] ∧ LX A C B T H0 M H t N sc sl x i n ws W held [] rs ∧ held.length ≤ 250 ∧ m ≤ held.length ∧
  ∀ x' M' H', LX A C B T H0 M' H' t N sc sl x' i n ws W (held.take (held.length - m)) [] rs → Ste T M M' H0 H H' t sl N x x' → Q (.bl true) H'
abbrev NUndone : List Str := ["paper", "scene", "state", "many", "turn"]
theorem scUndone : FnScope NUndone ["paper", "scene", "state", "many"] (defScope sUndone) := ⟨rfl, rfl, rfl, by decide +kernel, rfl, by decide +kernel, by decide +kernel⟩
theorem ok_undone {f : Addr} {fd fdU fdS : FuncData} (F : L2.Fun K "_law_undone" "_law_undone" sUndone f fd) (FU : L2.Fun K "undo" "Paper.undo" sPpU fUn fdU) (UN : FnOk P w K mg base (L2.CX P w) 2 fUn fdU ["self"] (spPpU A C B T DNo))
    (FS : L2.Fun K "_law_same" "_law_same" sSame fSa fdS) (SA : FnG P w K mg base CX0 4 fSa fdS ["paper", "scene", "state"] (spSame A C B T)) (X2 : TopS2 K mg fSa fPs) (Y : PpK K mg A) (UU : PpKU K A fKp fUn) (X : Txt K mg C fLow fText fAre fTape fNext fInks) :
    FnG P w K mg base CX0 5 f fd ["paper", "scene", "state", "many"] (spUndone A C B T) := by
  have bU : Binds K fdU ["self"] [] := FU.binds fun _ _ _ _ _ _ us hl => match us, hl with | [_], _ => rfl
  have bS : Binds K fdS ["paper", "scene", "state"] [] := FS.binds fun _ _ _ _ _ _ us hl => match us, hl with | [_, _, _], _ => rfl
  refine fun_okG F scUndone (fun vs H Q E h => ?_) (fun cdv A' outer s H vs Q E hg hr h => ?_)
  · obtain ⟨H0, M, t, N, sc, sl, x, i, n, ws, W, held, rs, m, rfl, _⟩ := h
    rfl
  · obtain ⟨H0, M, t, N, sc, sl, x, i, n, ws, W, held, rs, m, rfl, lx, hh, hm, q⟩ := h
    refine ⟨_, (pss_cons (ps_for PassesOwn.never rfl (pi_range1 (by rfl) X.rng (pa_cons (pv 3) pa_nil)) (pg_name (i := 4) scUndone.nd rfl (Or.inl rfl)) (pss_cons (ps_asg (pe_slice sl_list (pe_ix ix_seq (pv 2) pe_int fun _ _ => rfl) po_none (po_some (pe_un un_neg pe_int))) (pg_sub (pv 2) pe_int set_list))
      (pss_one (ps_if ((pw_or (pt_cmpR op_notN (pe_meth0 (pv 0) Y.cls UU.un UN (hr.mono (by decide)) bU .nil passL) pe_non (by rfl)) (pw_or1 (pt_not (pt_val (pe_callG SA hg (hr.mono (by decide)) (by rfl) X2.gSa X2.kSa bS L2.pass0 (pa_cons (pv 0) (pa_cons (pv 1) (pa_cons (pv 2) pa_nil)))))))).pt) (pss_one (ps_ret pe_bl)) pss_nil))))
      (pss_one (ps_ret pe_bl))), ?_⟩
    refine ⟨_, rfl, (m : Nat), rfl, by omega, by omega, for_range (lo := 0) (n := ((m : Nat) : Int).toNat) (fun j σ Hx => ∃ (x1 : PA) (M1 : List Addr) (v4 : Option V), σ = [some (.ref x1.pp), some (.ref sc), some (.ref sl), some (.int (m : Nat)), v4] ∧ LX A C B T H0 M1 Hx t N sc sl x1 i n ws W (held.take (held.length - j)) [] rs ∧ Ste T M M1 H0 H Hx t sl N x x1)
      ⟨x, M, _, rfl, by rw [Nat.sub_zero, List.take_of_length_le (Nat.le_refl _)]; exact lx, Ste.refl lx⟩ (fun j σ Hx hj pp => ?_) (fun σ Hx pp => ?_)⟩
    · obtain ⟨x1, M1, v4, rfl, l1, st1⟩ := pp
      rw [Int.toNat_natCast] at hj
      obtain ⟨hd, hhd⟩ : ∃ hd, hd = held.take (held.length - j) := ⟨_, rfl⟩
      have ld : hd.length = held.length - j := by rw [hhd, List.length_take]; omega
      rw [← hhd] at l1
      obtain ⟨hl, est, hdd⟩ := l1.st
      obtain ⟨tps, eh, th, nh⟩ := id hdd
      refine ⟨_, rfl, .inl ⟨sl, _, 0, .ref hl, rfl, rfl, .inl (.inl est), atI_nat (j := 0) rfl, 1, rfl, _, rfl, hl, _, rfl, .inl (.inl eh), fun l' hl' => ?_⟩⟩
      rw [show (-1 : Int) = -1 from rfl, cut_init, List.length_map, th.len, ← List.map_take]
      have s3 := same_new (o := .lst ((tps.take (hd.length - 1)).map V.ref)) hl'
      have e3 : upd Hx l' (.lst ((tps.take (hd.length - 1)).map V.ref)) l' = some (.lst ((tps.take (hd.length - 1)).map V.ref)) := upd_same
      have l3 := l1.same s3
      have st3 := st1.trans (Ste.same l1 s3)
      have lM : l' ∉ M1 := fun z => by
        obtain ⟨_, o, e, _⟩ := l1.mok l' z
        rw [e] at hl'; cases hl'
      have hd3 : Held (upd Hx l' (.lst ((tps.take (hd.length - 1)).map V.ref))) M1 l' (hd.take (hd.length - 1)) := ⟨_, e3, (th.take _).keep fun a xs e => s3 _ _ e, lM⟩
      generalize upd Hx l' (.lst ((tps.take (hd.length - 1)).map V.ref)) = H3 at s3 e3 l3 st3 hd3
      refine ⟨_, rfl, sl, _, 0, 0, rfl, rfl, s3 _ _ est, by simp [ixN], ?_⟩
      rw [show ((V.ref hl :: rs).set 0 (V.ref l')) = V.ref l' :: rs from rfl]
      have u4 := l3.put (rs' := rs) hd3
      generalize upd H3 sl (.lst (V.ref l' :: rs)) = H4 at u4
      have h0 : hd ≠ [] := fun z => by rw [z] at ld; simp at ld; omega
      refine ⟨_, rfl, x1.pp, x1.dx, _, rfl, u4.pap.ins, rfl, x1, H0, i, n, ws, W, hd, [], rfl, u4.pap, u4.hT, fun b e => l3.hH0 b (u4.h0 b e), by simp, (fun z => absurd z h0), fun _ lp ls lm H7 hlp hls hlm p7 f7 => ?_⟩
      rw [List.filter_nil] at p7
      obtain ⟨l7, st7⟩ := u4.asm l3 p7 f7 foot3 rfl (fsh3 hlp hls hlm)
      refine ⟨rfl, _, rfl, iteF' (by simp) ?_⟩
      refine ⟨_, rfl, _, rfl, _, rfl, H0, _, t, _, sc, sl, x1.with3 lp ls lm, i, n, ws, W, hd.take (hd.length - 1), [], rs, rfl, l7, by rw [List.length_take]; omega, fun H8 s8 => ⟨_, rfl, iteF' rfl ?_⟩⟩
      have e8 : hd.take (hd.length - 1) = held.take (held.length - (j + 1)) := by
        rw [ld, hhd, List.take_take, Nat.min_eq_left (by omega)]
        congr 1
      exact ⟨x1.with3 lp ls lm, _, _, rfl, by rw [← e8]; exact l7.same s8, (st3.trans st7).trans (Ste.same l7 s8)⟩
    · obtain ⟨x1, M1, v4, rfl, l1, st1⟩ := pp
      rw [Int.toNat_natCast] at l1
      exact q x1 M1 Hx l1 st1
/-! ### sixty at once -/
def pat60 {α : Type} (a b c : α) : List α := (List.replicate 10 [a, b, c]).flatten ++ (List.replicate 5 [c, a, b, b, a, c]).flatten
def spSixty (A : PpA) (C : Addr) (B : BA) (T : List Addr) : Sp := fun vs H Q _ => ∃ (x : PA) (H0 : Hp) (i n : Nat) (ws : List Str) (W : Nat) (held : List St2) (marks : List Int) (ta tb tc : Addr) (sa sb sc : St2), vs = [.ref x.pp, .ref ta, .ref tb, .ref tc] ∧ Pap A C B H0 H x i n ws W held marks ∧ Good ws W ∧ (∀ p ∈ T, TabG H p) ∧ H ta = tupO sa ∧ H tb = tupO sb ∧ H tc = tupO sc ∧ (∀ s ∈ [sa, sb, sc], fitsB i ws.length W (n : Nat) s.1 s.2 = true) ∧ held.length ≤ 1000 ∧ (∀ b, H b = none → H0 b ≠ none) ∧
  ∀ H', Pap A C B H0 H' x i n ws W (held ++ pat60 sa sb sc) marks → Fr T [x.lp, x.ls] H H' → Q .non H'
theorem scSixty : FnScope ["paper", "a", "b", "c"] ["paper", "a", "b", "c"] (defScope sSixty) := ⟨rfl, rfl, rfl, by decide +kernel, rfl, by decide +kernel, by decide +kernel⟩
theorem pat_mem {α : Type} {a b c z : α} (h : z ∈ pat60 a b c) : z ∈ [a, b, c] := by
  unfold pat60 at h
  rw [List.mem_append, List.mem_flatten, List.mem_flatten] at h
  rcases h with ⟨l, hl, hz⟩ | ⟨l, hl, hz⟩
  · rw [(List.mem_replicate.mp hl).2] at hz
    exact hz
  · rw [(List.mem_replicate.mp hl).2] at hz
    simp only [List.mem_cons, List.not_mem_nil, or_false] at hz ⊢
    rcases hz with h | h | h | h | h | h <;> simp [h]
theorem ok_sixty {f : Addr} {fd : FuncData} (F : L2.Fun K "_law_sixty" "_law_sixty" sSixty f fd) (AL : FnR P w K mg base (L2.CX P w) 9 fAl (spAll A C B T)) (Y : PpK K mg A) (BM : BMeth K A.c "press_all" fAl) :
    FnOk P w K mg base CX0 10 f fd ["paper", "a", "b", "c"] (spSixty A C B T) := by
  refine F.ok scSixty (fun vs H Q E h => ?_) (fun cdv A' outer s H vs Q E hr h => ?_)
  · obtain ⟨x, H0, i, n, ws, W, held, marks, ta, tb, tc, sa, sb, sc, rfl, _⟩ := h
    rfl
  · obtain ⟨x, H0, i, n, ws, W, held, marks, ta, tb, tc, sa, sb, sc, rfl, p, g, hT, ea, eb, ec, hf, hh, hH0, q⟩ := h
    refine ⟨_, (pss_one (ps_ret (pe_methMany (pv 0) Y.cls BM AL (hr.mono (by decide)) (fun σ pins H s e s' I c => passL pins σ H s e s' I c) (pa_cons (pv 1) (pa_cons (pv 2) (pa_cons (pv 3) (pa_cons (pv 1) (pa_cons (pv 2) (pa_cons (pv 3) (pa_cons (pv 1) (pa_cons (pv 2) (pa_cons (pv 3) (pa_cons (pv 1) (pa_cons (pv 2) (pa_cons (pv 3) (pa_cons (pv 1) (pa_cons (pv 2) (pa_cons (pv 3) (pa_cons (pv 1) (pa_cons (pv 2) (pa_cons (pv 3) (pa_cons (pv 1) (pa_cons (pv 2) (pa_cons (pv 3) (pa_cons (pv 1) (pa_cons (pv 2) (pa_cons (pv 3) (pa_cons (pv 1) (pa_cons (pv 2) (pa_cons (pv 3) (pa_cons (pv 1) (pa_cons (pv 2) (pa_cons (pv 3) (pa_cons (pv 3) (pa_cons (pv 1) (pa_cons (pv 2) (pa_cons (pv 2) (pa_cons (pv 1) (pa_cons (pv 3) (pa_cons (pv 3) (pa_cons (pv 1) (pa_cons (pv 2) (pa_cons (pv 2) (pa_cons (pv 1) (pa_cons (pv 3) (pa_cons (pv 3) (pa_cons (pv 1) (pa_cons (pv 2) (pa_cons (pv 2) (pa_cons (pv 1) (pa_cons (pv 3) (pa_cons (pv 3) (pa_cons (pv 1) (pa_cons (pv 2) (pa_cons (pv 2) (pa_cons (pv 1) (pa_cons (pv 3) (pa_cons (pv 3) (pa_cons (pv 1) (pa_cons (pv 2) (pa_cons (pv 2) (pa_cons (pv 1) (pa_cons (pv 3) pa_nil))))))))))))))))))))))))))))))))))))))))))))))))))))))))))))))), ?_⟩
    have l60 : (pat60 sa sb sc).length = 60 := rfl
    refine ⟨_, rfl, x.pp, x.dx, _, rfl, p.ins, rfl, fun qm hqm => ?_⟩
    have sq := same_new (o := .met fAl x.pp) hqm
    have p2 := p.same sq
    have eq : upd H qm (.met fAl x.pp) qm = some (.met fAl x.pp) := upd_same
    have ea2 := sq _ _ ea
    have eb2 := sq _ _ eb
    have ec2 := sq _ _ ec
    have fq : Fr T [x.lp, x.ls] H (upd H qm (.met fAl x.pp)) := Same.fr sq hT
    have n2 : ∀ b, upd H qm (.met fAl x.pp) b = none → H0 b ≠ none := fun b e => hH0 b (sq.free e)
    generalize upd H qm (.met fAl x.pp) = H2 at p2 eq ea2 eb2 ec2 fq n2 ⊢
    refine ⟨_, rfl, _, rfl, _, rfl, _, rfl, _, rfl, _, rfl, _, rfl, _, rfl, _, rfl, _, rfl, _, rfl, _, rfl, _, rfl, _, rfl, _, rfl, _, rfl, _, rfl, _, rfl, _, rfl, _, rfl, _, rfl, _, rfl, _, rfl, _, rfl, _, rfl, _, rfl, _, rfl, _, rfl, _, rfl, _, rfl, _, rfl, _, rfl, _, rfl, _, rfl, _, rfl, _, rfl, _, rfl, _, rfl, _, rfl, _, rfl, _, rfl, _, rfl, _, rfl, _, rfl, _, rfl, _, rfl, _, rfl, _, rfl, _, rfl, _, rfl, _, rfl, _, rfl, _, rfl, _, rfl, _, rfl, _, rfl, _, rfl, _, rfl, _, rfl, _, rfl, eq, x, H0, i, n, ws, W, held, marks, pat60 ta tb tc, pat60 sa sb sc, rfl, p2, g, fq.1, ?_, fun s hs => hf s (pat_mem hs), by omega, by omega, n2, fun H7 p7 f7 => q H7 p7 (fq.tr f7)⟩
    unfold TupsA pat60
    simp [ea2, eb2, ec2, tupO]
end
end Ov

set_option Elab.async false
set_option linter.all false
set_option maxRecDepth 100000
set_option maxHeartbeats 4000000
namespace Ov
open PySem PySem.Spec PyProof.Rows L2 GxR
abbrev sBegun : Stmt := top 68
abbrev sRight62 : Stmt := top 69
abbrev sLaw62 : Stmt := top 70
structure TopF (K : PySem.W.Frag) (mg : Str → Option Value) (fBg fRi : Addr) : Prop where
  gBg : mg "_law_begun" = some (.ref fBg)
  kBg : PySem.W.keepIn K (.ref fBg) = true
  gRi : mg "_law_right" = some (.ref fRi)
  kRi : PySem.W.keepIn K (.ref fRi) = true
section
variable {P : Program} {w : World} {K : PySem.W.Frag} {mg : Str → Option Value} {base : Heap} {T : List Addr} {C D fLow fText fAre fTape fNext fInks fInit cLow PLow cAre PAre DSp DSg DNum DNo fKp fUn fMk fBk fTw pWi fWi fDr fSc fSl fSa fPs fIs fAl fEm fUd fSx fBg fRi fMd : Addr} {B : BA} {A : PpA} {Z : PpC}
/-- what was drawn -/
def vOB : Option (Addr × St2) → V
  | none => .non
  | some p => .ref p.1
theorem dp_osB {H : Hp} : ∀ os : List (Option (Addr × St2)), (∀ p, some p ∈ os → H p.1 = tupO p.2) → DpAll K H (os.map vOB) ((os.map (Option.map Prod.snd)).map opD)
  | [], _ => .nil
  | none :: os, h => .cons .non (dp_osB os fun p hp => h p (List.mem_cons_of_mem _ hp))
  | some (a, s) :: os, h => .cons (.tup (xs := [.int s.1, .int s.2]) (.inl (.inl (h (a, s) List.mem_cons_self))) (.cons (.int _) (.cons (.int _) .nil))) (dp_osB os fun p hp => h p (List.mem_cons_of_mem _ hp))
theorem os_someB : ∀ os : List (Option (Addr × St2)), os.any Option.isNone = false → ∃ l : List (Addr × St2), os = l.map some
  | [], _ => ⟨[], rfl⟩
  | none :: os, h => by simp at h
  | some p :: os, h => by
    obtain ⟨l, e⟩ := os_someB os (by simpa using h)
    exact ⟨p :: l, by rw [e]; rfl⟩
theorem yes_okB {σ : L2.St} {H : Hp} {R : Bool → Hp → Prop} (h : R true H) : tYes σ H R := h
theorem LY.pressedB {M : List Addr} {H0 H H' : Hp} {held held' : List St2} (hh : held' = held ∨ ∃ s, held' = held ++ [s]) : held'.length ≤ held.length + 1 := by
  rcases hh with rfl | ⟨s, rfl⟩
  · omega
  · rw [List.length_append, List.length_singleton]; omega
def spBegun (A : PpA) (C : Addr) (B : BA) (T : List Addr) : Sp := fun vs H Q _ => ∃ (H0 : Hp) (M : List Addr) (t : Addr) (N : Nat) (sc sl : Addr) (x : PA) (i n : Nat) (ws : List Str) (W : Nat) (rs : List V) (calls : Nat), vs = [.ref t, .ref x.pp, .ref sc, .ref sl, .int (calls : Nat)] ∧ LX A C B T H0 M H t N sc sl x i n ws W [] [] rs ∧ rs.length < 10 ∧ calls ≤ 100 ∧ N + 1000 < 2 ^ 40 ∧
  ∀ held' M' H', LX A C B T H0 M' H' t (N + 500) sc sl x i n ws W held' [] rs → Ste T M M' H0 H H' t sl (N + 500) x x → held'.length ≤ 100 → Q (.bl true) H'
abbrev NBegun : List Str := ["stock", "paper", "scene", "state", "calls", "turn", "some", "a", "b", "c"]
theorem scBegun : FnScope NBegun ["stock", "paper", "scene", "state", "calls"] (defScope sBegun) := ⟨rfl, rfl, rfl, by decide +kernel, rfl, by decide +kernel, by decide +kernel⟩
theorem ok_begun {f : Addr} {fd fdN fdD fdP fdS fdX : FuncData} (F : L2.Fun K "_law_begun" "_law_begun" sBegun f fd) (FN : L2.Fun K "_law_roll" "_law_roll" sNext fNext fdN) (FD : L2.Fun K "_law_drawn" "_law_drawn" sDrawn fDr fdD) (FP : L2.Fun K "_law_pressed" "_law_pressed" sPressed fPs fdP) (PR : FnOk P w K mg base CX0 9 fPs fdP ["stock", "paper", "scene", "state"] (spPressed A C B T))
    (FS : L2.Fun K "_law_same" "_law_same" sSame fSa fdS) (SA : FnG P w K mg base CX0 4 fSa fdS ["paper", "scene", "state"] (spSame A C B T)) (FX : L2.Fun K "_law_sixty" "_law_sixty" sSixty fSx fdX) (SX : FnOk P w K mg base CX0 10 fSx fdX ["paper", "a", "b", "c"] (spSixty A C B T))
    (X : Txt K mg C fLow fText fAre fTape fNext fInks) (XS : TopS K mg fDr fSc fSl) (X2 : TopS2 K mg fSa fPs) (XE : TopE K mg fEm fUd fSx) : FnG P w K mg base CX0 11 f fd ["stock", "paper", "scene", "state", "calls"] (spBegun A C B T) := by
  have N1 : FnOk P w K mg base CX0 1 fNext fdN ["stock", "many"] spNext := ok_next FN X
  have bN : Binds K fdN ["stock", "many"] [] := FN.binds fun _ _ _ _ _ _ us hl => match us, hl with | [_, _], _ => rfl
  have DR : FnOk P w K mg base CX0 2 fDr fdD ["stock", "kind", "cells_here", "words"] spDrawn := ok_drawn FD FN X XS
  have bD : Binds K fdD ["stock", "kind", "cells_here", "words"] [] := FD.binds fun _ _ _ _ _ _ us hl => match us, hl with | [_, _, _, _], _ => rfl
  have bP : Binds K fdP ["stock", "paper", "scene", "state"] [] := FP.binds fun _ _ _ _ _ _ us hl => match us, hl with | [_, _, _, _], _ => rfl
  have bS : Binds K fdS ["paper", "scene", "state"] [] := FS.binds fun _ _ _ _ _ _ us hl => match us, hl with | [_, _, _], _ => rfl
  have bSx : Binds K fdX ["paper", "a", "b", "c"] [] := FX.binds fun _ _ _ _ _ _ us hl => match us, hl with | [_, _, _, _], _ => rfl
  refine fun_okG F scBegun (fun vs H Q E h => ?_) (fun cdv A' outer s H vs Q E hg hr h => ?_)
  · obtain ⟨H0, M, t, N, sc, sl, x, i, n, ws, W, rs, calls, rfl, _⟩ := h
    rfl
  · obtain ⟨H0, M, t, N, sc, sl, x, i, n, ws, W, rs, calls, rfl, lx, hrs, hc, hN, q⟩ := h
    have hu : (A'.deeper (envOfC "_law_begun" (defScope sBegun) s.heap.objs.size f cdv)).units + 65 < cLine := by
      have := hr.un
      omega
    refine ⟨_, (pss_cons (ps_setLc (i := 6) (own := [("turn", 5)]) (g := gName 5) (tt := tYes) rfl scBegun.nd rfl rfl (sw_true rfl rfl rfl (by decide +kernel)) (pi_range1 (by rfl) X.rng (pa_cons pe_int pa_nil)) (blkOk_by (own := [("turn", 5)]) (N := NBegun) (sc := defScope sBegun) (by decide +kernel)) (fun _ _ _ _ _ => pg_name (i := 5) scBegun.nd rfl (Or.inl rfl)) (fun _ _ _ _ _ => pts_nil) (fun _ _ _ _ _ => pe_call DR (hr.mono (by decide)) (by rfl) XS.gDr XS.kDr bD .nil L2.pass0 (pa_cons (pv 0) (pa_cons (pe_ix (ix_K (K := K) rfl) (pv 2) pe_int fun _ _ => rfl) (pa_cons (pe_ix (ix_K (K := K) rfl) (pv 2) pe_int fun _ _ => rfl) (pa_cons (pe_ix (ix_K (K := K) rfl) (pv 2) pe_int fun _ _ => rfl) pa_nil))))))
      (C8.pss_cut (ps_if ((pw_and (pt_cmpR op_eq (pv 4) pe_int (by rfl)) (pw_and (pt_cmpR (op_notInD hu) pe_non (pv 6) (by rfl)) (pw_and1 (pt_cmpR op_eq (pe_call N1 (hr.mono (by decide)) (by rfl) X.gNext X.kNext bN .nil L2.pass0 (pa_cons (pv 0) (pa_cons pe_int pa_nil))) pe_int (by rfl))))).pt) (pss_cons (ps_asg (pv 6) (pg_lst rfl (pgs_cons (pg_name (i := 7) scBegun.nd rfl (Or.inl rfl)) (pgs_cons (pg_name (i := 8) scBegun.nd rfl (Or.inl rfl)) (pgs_cons (pg_name (i := 9) scBegun.nd rfl (Or.inl rfl)) pgs_nil)))))
      (pss_cons (ps_if (pt_cmpR op_notN (pe_call SX (hr.mono (by decide)) (by rfl) XE.gSx XE.kSx bSx .nil L2.pass0 (pa_cons (pv 1) (pa_cons (pv 7) (pa_cons (pv 8) (pa_cons (pv 9) pa_nil))))) pe_non (by rfl)) (pss_one (ps_ret pe_bl)) pss_nil)
      (pss_cons (ps_asg (pe_op op_cat (pe_op op_rep (pe_lst (pa_cons (pv 7) (pa_cons (pv 8) (pa_cons (pv 9) pa_nil)))) pe_int) (pe_op op_rep (pe_lst (pa_cons (pv 9) (pa_cons (pv 7) (pa_cons (pv 8) (pa_cons (pv 8) (pa_cons (pv 7) (pa_cons (pv 9) pa_nil))))))) pe_int)) (pg_sub (pv 3) pe_int set_list))
      (pss_one (ps_set (i := 4) scBegun.nd rfl (.inl rfl) pe_int))))) pss_nil)
      (C8.pss_cut (ps_for PassesOwn.never rfl (pi_range1 (by rfl) X.rng (pa_cons (pv 4) pa_nil)) (pg_name (i := 5) scBegun.nd rfl (Or.inl rfl)) (pss_one (ps_if (pt_not (pt_val (pe_call PR (hr.mono (by decide)) (by rfl) X2.gPs X2.kPs bP .nil L2.pass0 (pa_cons (pv 0) (pa_cons (pv 1) (pa_cons (pv 2) (pa_cons (pv 3) pa_nil))))))) (pss_one (ps_ret pe_bl)) pss_nil)))
      (pss_one (ps_ret (pe_callG SA hg (hr.mono (by decide)) (by rfl) X2.gSa X2.kSa bS L2.pass0 (pa_cons (pv 1) (pa_cons (pv 2) (pa_cons (pv 3) pa_nil))))))))), ?_⟩
    obtain ⟨wl, es, ew, nw⟩ := lx.scn
    have hT := lx.hT
    have nt := lx.tp.nT hT
    have wt : wl ≠ t := fun z => nw (z ▸ lx.tM)
    have hi := lx.pap.i3
    have sct : sc ≠ t := fun z => by obtain ⟨_, _, _, e, _⟩ := lx.tp; rw [← z, es] at e; cases e
    refine ⟨3, rfl, by decide, by decide, fun D hD => ?_⟩
    have Dt : t ≠ D := lx.tp.ne hD
    refine lc_range (lo := 0) (n := (3 : Int).toNat) (fun j Hx => ∃ os : List (Option (Addr × St2)), Hx D = some (.lst (os.map vOB)) ∧ os.length = j ∧ (∀ p, some p ∈ os → Hx p.1 = tupO p.2 ∧ fitsB i ws.length W (n : Nat) p.2.1 p.2.2 = true) ∧ Tp Hx t (N + 4 * j) ∧ Bt t H Hx) ⟨[], upd_same, rfl, fun p hp => (by simp at hp), lx.tp.new hD, Bt.new hD⟩ (fun j Hx hj pp => ?_) (fun Hx pp => ?_)
    · obtain ⟨os, eD, hl, ho, tpx, bx⟩ := pp
      have hj : j < 3 := hj
      have esx := bx _ _ sct es
      have ewx := bx _ _ wt ew
      have st : SqT K Hx sc [.int (i : Nat), .int (n : Nat), .ref wl] := .inl (.inl esx)
      have stp : ∀ {H' : Hp} {o : HO}, Bt t Hx H' → Bt t H (upd H' D o) := fun {H' o} bb c u hc e => (upd_ne (fun z => by rw [z, hD] at e; cases e)).trans (bb c u hc (bx c u hc e))
      have kp : ∀ {H' : Hp} {o : HO} {p : Addr} {xs : List V}, Bt t Hx H' → Hx p = some (.tup xs) → upd H' D o p = some (.tup xs) := fun {H' o p xs} bb e => (upd_ne (fun z => by rw [z, eD] at e; cases e)).trans (bb p _ (fun z => by obtain ⟨_, _, _, e', _⟩ := tpx; rw [← z, e] at e'; cases e') e)
      refine ⟨rfl, yes_okB (iteT' (b := true) rfl ?_)⟩
      refine ⟨_, rfl, _, rfl, .inr (.inl ⟨sc, _, 0, .int (i : Nat), rfl, rfl, st, by simp [atI, ixN], ?_⟩)⟩
      refine ⟨_, rfl, .inr (.inl ⟨sc, _, 1, .int (n : Nat), rfl, rfl, st, by simp [atI, ixN], ?_⟩)⟩
      refine ⟨_, rfl, .inr (.inl ⟨sc, _, 2, .ref wl, rfl, rfl, st, by simp [atI, ixN], ?_⟩)⟩
      refine ⟨t, wl, i, n, W, _, ws, rfl, ewx, lx.good, hi, lx.pap.n1, lx.pap.n2, wt, tpx, by omega, fun H2 tp2 b2 => ?_, fun tp s1 H2 htp etp fts tp2 b2 => ?_⟩
      · refine ⟨os.map vOB, b2 D _ Dt.symm eD, by rw [List.length_map, hl, sizeLine_eq]; omega, os ++ [none], by rw [upd_same, List.map_append]; rfl, by rw [List.length_append, hl]; rfl, fun p hp => ?_, (tp2.at (upd_ne Dt)).mono (by omega), stp b2⟩
        rcases List.mem_append.mp hp with hp | hp
        · exact ⟨kp b2 (ho p hp).1, (ho p hp).2⟩
        · simp at hp
      · refine ⟨os.map vOB, b2 D _ Dt.symm eD, by rw [List.length_map, hl, sizeLine_eq]; omega, os ++ [some (tp, s1)], by rw [upd_same, List.map_append]; rfl, by rw [List.length_append, hl]; rfl, fun p hp => ?_, (tp2.at (upd_ne Dt)).mono (by omega), stp b2⟩
        rcases List.mem_append.mp hp with hp | hp
        · exact ⟨kp b2 (ho p hp).1, (ho p hp).2⟩
        · obtain rfl : p = (tp, s1) := by simpa using hp
          exact ⟨(upd_ne (fun z => by have e := b2 D _ Dt.symm eD; rw [← z, etp] at e; cases e)).trans etp, fts⟩
    obtain ⟨os, eD, hl, ho, tpx, bx⟩ := pp
    have e3 : (3 : Int).toNat = 3 := rfl
    rw [e3] at hl tpx
    have l1 := lx.tape bx (N' := N + 12) tpx
    have st1 : Ste T M M H0 H Hx t sl (N + 12) x x := ste_in lx ((bt_fr bx hT nt).mono fun c hc => .inl (by rw [List.mem_singleton.mp hc]; exact List.mem_cons_self)) l1
    have DM : D ∉ M := fun z => by
      obtain ⟨_, o, e, _⟩ := lx.mok D z
      rw [e] at hD; cases hD
    -- sixty at once
    refine ⟨fun σ' G => ∃ (c' : Nat) (held' : List St2) (M1 : List Addr) (v6 v7 v8 v9 : Option V), σ' = [some (.ref t), some (.ref x.pp), some (.ref sc), some (.ref sl), some (.int (c' : Nat)), none, v6, v7, v8, v9] ∧ LX A C B T H0 M1 G t (N + 13) sc sl x i n ws W held' [] rs ∧ Ste T M M1 H0 H G t sl (N + 13) x x ∧ held'.length + c' ≤ 100, ?_, fun σ' G pp => ?_⟩
    · have stay : ∀ G', Bt t Hx G' → Tp G' t (N + 13) → ∃ (c' : Nat) (held' : List St2) (M1 : List Addr) (v6 v7 v8 v9 : Option V), ([some (.ref t), some (.ref x.pp), some (.ref sc), some (.ref sl), some (.int (calls : Nat)), none, some (.ref D), none, none, none] : L2.St) = [some (.ref t), some (.ref x.pp), some (.ref sc), some (.ref sl), some (.int (c' : Nat)), none, v6, v7, v8, v9] ∧ LX A C B T H0 M1 G' t (N + 13) sc sl x i n ws W held' [] rs ∧ Ste T M M1 H0 H G' t sl (N + 13) x x ∧ held'.length + c' ≤ 100 := fun G' b tp => by
        have l2 := l1.tape b tp
        exact ⟨calls, [], M, _, _, _, _, rfl, l2, st1.trans (ste_in l1 ((bt_fr b l1.hT (l1.tp.nT l1.hT)).mono fun c hc => .inl (by rw [List.mem_singleton.mp hc]; exact List.mem_cons_self)) l2), by simpa using hc⟩
      refine ⟨_, rfl, rfl, _, rfl, ?_⟩
      by_cases c1 : calls = 100
      case neg =>
        refine iteF' (by rw [decide_eq_false_iff_not]; intro z; injection z with z; omega) ?_
        exact stay Hx .refl (tpx.mono (by omega))
      refine iteT' (by rw [c1]; rfl) ?_
      refine ⟨_, rfl, .none, _, .non, .lst (.inl (.inl eD)) (dp_osB os fun p hp => (ho p hp).1), by decide, opDs_shaped _, _, rfl, ?_⟩
      rw [opDs_none, List.any_map]
      rw [show (Option.isNone ∘ Option.map Prod.snd : Option (Addr × St2) → Bool) = Option.isNone from by funext o; cases o <;> rfl]
      cases hany : os.any Option.isNone with
      | true =>
        refine iteF' rfl ?_
        exact stay Hx .refl (tpx.mono (by omega))
      | false =>
        refine iteT' rfl ?_
        refine ⟨_, rfl, t, 2, _, rfl, tpx, by omega, by decide, by decide, fun d H2 d0 d2 tp2 b2 => ?_⟩
        refine ⟨rfl, _, rfl, ?_⟩
        by_cases c2 : d = 0
        case neg =>
          refine iteF' (by rw [decide_eq_false_iff_not]; intro z; injection z; contradiction) ?_
          exact stay H2 b2.bt tp2
        refine iteT' (by rw [c2]; rfl) ?_
        obtain ⟨l, rfl⟩ := os_someB os hany
        rw [List.length_map] at hl
        obtain ⟨p0, p1, p2, rfl⟩ : ∃ p0 p1 p2, l = [p0, p1, p2] := by
          match l, hl with
          | [p0, p1, p2], _ => exact ⟨_, _, _, rfl⟩
        have l2 := l1.tape b2.bt (N' := N + 13) tp2
        have st2 : Ste T M M H0 H H2 t sl (N + 13) x x := st1.trans (ste_in l1 ((bt_fr b2.bt l1.hT (l1.tp.nT l1.hT)).mono fun c hc => .inl (by rw [List.mem_singleton.mp hc]; exact List.mem_cons_self)) l2)
        have eD2 := b2.bt D _ Dt.symm eD
        have tpt : ∀ {p : Addr} {s : St2}, Hx p = tupO s → H2 p = tupO s := fun e => b2.bt _ _ (fun z => by obtain ⟨_, _, _, e', _⟩ := tpx; rw [z, e'] at e; cases e) e
        have q0 := ho p0 (by simp)
        have q1 := ho p1 (by simp)
        have q2 := ho p2 (by simp)
        refine ⟨_, rfl, D, _, rfl, .inl (.inl eD2), rfl, _, _, rfl, _, _, rfl, _, _, rfl, rfl, ?_⟩
        have g := lx.good
        refine ⟨_, rfl, _, rfl, _, rfl, _, rfl, x, H0, i, n, ws, W, [], [], p0.1, p1.1, p2.1, p0.2, p1.2, p2.2, rfl, l2.pap, g, l2.hT, tpt q0.1, tpt q1.1, tpt q2.1, fun s hs => ?_, by simp, l2.hH0, fun H7 p7 f7 => ?_⟩
        · simp only [List.mem_cons, List.not_mem_nil, or_false] at hs
          rcases hs with rfl | rfl | rfl
          · exact q0.2
          · exact q1.2
          · exact q2.2
        refine ⟨rfl, _, rfl, iteF' (by simp) ?_⟩
        rw [List.nil_append] at p7
        have lpf : ∀ c ∈ [x.lp, x.ls], c ∈ x.foot ∧ c ∈ x.foot := fun c hc => by
          unfold PA.foot
          simp only [List.mem_cons, List.not_mem_nil, or_false] at hc ⊢
          rcases hc with rfl | rfl <;> simp
        obtain ⟨⟨hl5, u5⟩, bas5, n05⟩ := l2.toPut p7 f7 lpf (fun b hb => .inl hb)
        have tp7 : ∀ {p : Addr × St2}, Hx p.1 = tupO p.2 → H7 p.1 = tupO p.2 := fun {p} e => f7.at l2.hT (fun z => by
          obtain ⟨o, e', _, n2⟩ := l2.pap.has _ (lpf _ z).1
          rw [tpt e] at e'
          cases e'
          exact n2 _ rfl) (tpt e) fun _ z => by cases z
        simp only [vOB]
        refine ⟨_, rfl, _, rfl, _, rfl, (by decide : 3 ≤ sizeLine), fun l1' hl1' => ?_⟩
        have k1 := same_new (o := .lst [.ref p0.1, .ref p1.1, .ref p2.1]) hl1'
        have e1 : upd H7 l1' (.lst [.ref p0.1, .ref p1.1, .ref p2.1]) l1' = some (.lst [.ref p0.1, .ref p1.1, .ref p2.1]) := upd_same
        generalize upd H7 l1' (.lst [.ref p0.1, .ref p1.1, .ref p2.1]) = G1 at k1 e1 ⊢
        refine ⟨l1', 10, _, rfl, rfl, e1, by decide, by decide, by rw [sizeLine_eq]; simp, fun l2' hl2' => ?_⟩
        have k2 := same_new (o := .lst (List.replicate (10 : Int).toNat [V.ref p0.1, V.ref p1.1, V.ref p2.1]).flatten) hl2'
        have e2 : upd G1 l2' (.lst (List.replicate (10 : Int).toNat [V.ref p0.1, V.ref p1.1, V.ref p2.1]).flatten) l2' = some (.lst (List.replicate (10 : Int).toNat [V.ref p0.1, V.ref p1.1, V.ref p2.1]).flatten) := upd_same
        generalize upd G1 l2' (.lst (List.replicate (10 : Int).toNat [V.ref p0.1, V.ref p1.1, V.ref p2.1]).flatten) = G2 at k2 e2 ⊢
        refine ⟨_, rfl, _, rfl, _, rfl, _, rfl, _, rfl, _, rfl, (by decide : 6 ≤ sizeLine), fun l3' hl3' => ?_⟩
        have k3 := same_new (o := .lst [.ref p2.1, .ref p0.1, .ref p1.1, .ref p1.1, .ref p0.1, .ref p2.1]) hl3'
        have e3' : upd G2 l3' (.lst [.ref p2.1, .ref p0.1, .ref p1.1, .ref p1.1, .ref p0.1, .ref p2.1]) l3' = some (.lst [.ref p2.1, .ref p0.1, .ref p1.1, .ref p1.1, .ref p0.1, .ref p2.1]) := upd_same
        generalize upd G2 l3' (.lst [.ref p2.1, .ref p0.1, .ref p1.1, .ref p1.1, .ref p0.1, .ref p2.1]) = G3 at k3 e3' ⊢
        refine ⟨l3', 5, _, rfl, rfl, e3', by decide, by decide, by rw [sizeLine_eq]; simp, fun l4' hl4' => ?_⟩
        have k4 := same_new (o := .lst (List.replicate (5 : Int).toNat [V.ref p2.1, V.ref p0.1, V.ref p1.1, V.ref p1.1, V.ref p0.1, V.ref p2.1]).flatten) hl4'
        have e4 : upd G3 l4' (.lst (List.replicate (5 : Int).toNat [V.ref p2.1, V.ref p0.1, V.ref p1.1, V.ref p1.1, V.ref p0.1, V.ref p2.1]).flatten) l4' = some (.lst (List.replicate (5 : Int).toNat [V.ref p2.1, V.ref p0.1, V.ref p1.1, V.ref p1.1, V.ref p0.1, V.ref p2.1]).flatten) := upd_same
        generalize upd G3 l4' (.lst (List.replicate (5 : Int).toNat [V.ref p2.1, V.ref p0.1, V.ref p1.1, V.ref p1.1, V.ref p0.1, V.ref p2.1]).flatten) = G4 at k4 e4 ⊢
        refine ⟨l2', l4', _, _, rfl, rfl, k4 _ _ (k3 _ _ e2), e4, by rw [sizeLine_eq]; simp, fun l5' hl5' => ?_⟩
        rw [show (List.replicate (10 : Int).toNat [V.ref p0.1, V.ref p1.1, V.ref p2.1]).flatten ++ (List.replicate (5 : Int).toNat [V.ref p2.1, V.ref p0.1, V.ref p1.1, V.ref p1.1, V.ref p0.1, V.ref p2.1]).flatten = (pat60 p0.1 p1.1 p2.1).map V.ref from rfl]
        have k5 := same_new (o := .lst ((pat60 p0.1 p1.1 p2.1).map V.ref)) hl5'
        have e5 : upd G4 l5' (.lst ((pat60 p0.1 p1.1 p2.1).map V.ref)) l5' = some (.lst ((pat60 p0.1 p1.1 p2.1).map V.ref)) := upd_same
        have kk := k1.trans (k2.trans (k3.trans (k4.trans k5)))
        have n75 : H7 l5' = none := (k1.trans (k2.trans (k3.trans k4))).free hl5'
        generalize upd G4 l5' (.lst ((pat60 p0.1 p1.1 p2.1).map V.ref)) = G5 at k5 e5 kk
        have u6 := u5.sameO kk
        have lM : l5' ∉ M ++ x.foot := fun z => by
          obtain ⟨_, o, e, _⟩ := u5.mok l5' z
          rw [e] at n75; cases n75
        have b0 : G5 p0.1 = tupO p0.2 := kk _ _ (tp7 q0.1)
        have b1 : G5 p1.1 = tupO p1.2 := kk _ _ (tp7 q1.1)
        have b2' : G5 p2.1 = tupO p2.2 := kk _ _ (tp7 q2.1)
        have hd6 : Held G5 (M ++ x.foot) l5' (pat60 p0.2 p1.2 p2.2) := ⟨pat60 p0.1 p1.1 p2.1, e5, by
          unfold TupsA pat60
          simp [b0, b1, b2'], lM⟩
        refine ⟨_, rfl, sl, _, 0, 0, rfl, rfl, u6.st, by simp [ixN], ?_⟩
        rw [show ((V.ref hl5 :: rs).set 0 (V.ref l5')) = V.ref l5' :: rs from rfl]
        have u7 := u6.againO (rs2 := rs) bas5 hd6
        have l7 := u7.stay bas5 g n05
        have st7 : Ste T M (M ++ x.foot) H0 H2 (upd G5 sl (.lst (V.ref l5' :: rs))) t sl (N + 13) x x := by
          refine ⟨((f7.mono fun c hc => .inl ?_).tr (Same.fr kk f7.1)).tr ((Fr.refl u6.hT).put (.inl (List.mem_cons_of_mem _ List.mem_cons_self)) (not_tab u6.hT u6.st fun _ z => by cases z)), rfl, fun b hb => .inl hb, fun c hc => ?_, fun c hc => List.mem_append.mpr (.inl hc), l7.mok, l7.tp, fun b e => ?_⟩
          · exact List.mem_cons_of_mem _ (List.mem_cons_of_mem _ (lpf _ hc).1)
          · rcases List.mem_append.mp hc with hc | hc
            · exact .inl hc
            · exact .inl (l2.xM _ hc)
          · have e' : G5 b = none := by
              by_cases z : b = sl
              · rw [z, upd_same] at e; cases e
              · exact (upd_ne z).symm.trans e
            exact f7.free l2.hT (fun d hd z => by
              obtain ⟨o, e'', _⟩ := p7.has d (lpf d hd).1
              rw [z] at e''; cases e'') (kk.free e')
        exact ⟨40, pat60 p0.2 p1.2 p2.2, _, _, _, _, _, rfl, l7, st2.trans st7, by have : (pat60 p0.2 p1.2 p2.2).length = 60 := rfl
                                                                                   omega⟩
    obtain ⟨c', held', M1, v6, v7, v8, v9, rfl, l3, st3, hb⟩ := pp
    refine ⟨fun σ' G' => ∃ (held2 : List St2) (v5 : Option V), σ' = [some (.ref t), some (.ref x.pp), some (.ref sc), some (.ref sl), some (.int (c' : Nat)), v5, v6, v7, v8, v9] ∧ LX A C B T H0 M1 G' t (N + 500) sc sl x i n ws W held2 [] rs ∧ Ste T M M1 H0 H G' t sl (N + 500) x x ∧ held2.length ≤ 100, ?_, fun σ' G' pp => ?_⟩
    · refine ⟨_, rfl, (c' : Nat), rfl, by omega, by omega, for_range (lo := 0) (n := ((c' : Nat) : Int).toNat) (fun j σ' G' => ∃ (held2 : List St2) (v5 : Option V), σ' = [some (.ref t), some (.ref x.pp), some (.ref sc), some (.ref sl), some (.int (c' : Nat)), v5, v6, v7, v8, v9] ∧ LX A C B T H0 M1 G' t (N + 13 + 4 * j) sc sl x i n ws W held2 [] rs ∧ Ste T M M1 H0 H G' t sl (N + 13 + 4 * j) x x ∧ held2.length ≤ held'.length + j)
        ⟨held', _, rfl, l3, st3, by omega⟩ (fun j σ' G' hj pp => ?_) (fun σ' G' pp => ?_)⟩
      · obtain ⟨held2, v5, rfl, l4, st4, h4⟩ := pp
        rw [Int.toNat_natCast] at hj
        refine ⟨_, rfl, _, rfl, _, rfl, _, rfl, H0, M1, t, _, sc, sl, x, i, n, ws, W, held2, [], rs, rfl, l4, by omega, by omega, by omega, fun held3 G5 hh l5 f5 => ⟨_, rfl, iteF' rfl ?_⟩⟩
        have hl3 := LY.pressedB (M := M1) (H0 := H0) (H := G') (H' := G5) hh
        exact ⟨held3, _, rfl, l5.tape .refl (l5.tp.mono (by omega)), (st4.trans (ste_in l4 f5 l5)).mono (by omega), by omega⟩
      · obtain ⟨held2, v5, rfl, l4, st4, h4⟩ := pp
        rw [Int.toNat_natCast] at l4 st4 h4
        exact ⟨held2, _, rfl, l4.tape .refl (l4.tp.mono (by omega)), st4.mono (by omega), by omega⟩
    obtain ⟨held2, v5, rfl, l4, st4, h4⟩ := pp
    refine ⟨_, rfl, _, rfl, _, rfl, H0, M1, t, _, sc, sl, x, i, n, ws, W, held2, [], rs, rfl, l4, by omega, fun H2 s2 => ?_⟩
    exact q held2 M1 H2 (l4.same s2) (st4.trans (Ste.same l4 s2)) h4
/-! ### two papers -/
theorem LX.other {M M' : List Addr} {H0 H H' : Hp} {t sc sl sl2 : Addr} {N N' : Nat} {x x' y : PA} {i n : Nat} {ws : List Str} {W : Nat} {held2 : List St2} {marks2 : List Int} {rs2 : List V} (h : LX A C B T H0 M H t N sc sl2 y i n ws W held2 marks2 rs2) (a : Ste T M M' H0 H H' t sl N' x x') (hx : ∀ c ∈ x.all t sl, c ∈ M) (d : Dis sl sl2 x y) : LX A C B T H0 M' H' t N' sc sl2 y i n ws W held2 marks2 rs2 := by
  have nm : ∀ b, b = sl2 ∨ b ∈ y.foot → b ∉ x.all t sl := fun b hb z => by
    unfold PA.all at z
    rcases List.mem_cons.mp z with q | z
    · rcases hb with rfl | hb
      · exact h.ts q.symm
      · exact h.tx (q ▸ hb)
    · rcases List.mem_cons.mp z with q | z
      · rcases hb with rfl | hb
        · exact d.1 q
        · exact (d.2.2 b hb).1 q
      · rcases hb with rfl | hb
        · exact d.2.1 z
        · exact (d.2.2 b hb).2 z
  exact h.step a.fr hx a.g1 a.g2 a.mok a.tp a.h0 (nm _ (.inl rfl)) fun b hb => nm b (.inr hb)
theorem Dis.stepX {M M' : List Addr} {H0 H H' : Hp} {t sc sl sl2 : Addr} {N N' : Nat} {x x' y : PA} {i n : Nat} {ws : List Str} {W : Nat} {held2 : List St2} {marks2 : List Int} {rs2 : List V} (d : Dis sl sl2 x y) (a : Ste T M M' H0 H H' t sl N' x x') (h : LX A C B T H0 M H t N sc sl2 y i n ws W held2 marks2 rs2) : Dis sl sl2 x' y := by
  have nn : ∀ c, c ∈ M → H c ≠ none := fun c hc => by
    obtain ⟨_, o, e, _⟩ := h.mok c hc
    rw [e]; intro z; cases z
  have fx : ∀ b, b ∈ M → b ∉ x.foot → b ∉ x'.foot := fun b hb nb z => by
    rcases a.ft _ z with q | q
    · exact nb q
    · exact nn _ hb q
  exact ⟨d.1, fx _ h.sM d.2.1, fun b hb => ⟨(d.2.2 b hb).1, fx b (h.xM b hb) (d.2.2 b hb).2⟩⟩
theorem lx_twin {M : List Addr} {H0 H H1 H3 : Hp} {t sc sl sl2 hl : Addr} {N : Nat} {x y : PA} {i n : Nat} {ws : List Str} {W : Nat} {held : List St2} {marks : List Int} {rs rs2 : List V} (l : LX A C B T H0 M H t N sc sl x i n ws W held marks rs) (py : Pap A C B H0 H1 y i n ws W held marks) (fy : ∀ b ∈ y.foot, H b = none) (s1 : L2.Same H H1) (s3 : L2.Same H1 H3)
    (est : H sl = some (.lst (.ref hl :: rs))) (e2 : H3 sl2 = some (.lst (.ref hl :: rs2))) (n2 : H1 sl2 = none) :
    ∃ M2, LX A C B T H0 M2 H3 t N sc sl x i n ws W held marks rs ∧ LX A C B T H0 M2 H3 t N sc sl2 y i n ws W held marks rs2 ∧ Dis sl sl2 x y ∧ ∀ c ∈ M2, c ∈ M ∨ H c = none := by
  have s := s1.trans s3
  have n2H := s1.free n2
  have hM : ∀ c ∈ sl2 :: (M ++ y.foot), c ∈ M ∨ H c = none := fun c hc => by
    rcases List.mem_cons.mp hc with rfl | hc
    · exact .inr n2H
    · rcases List.mem_append.mp hc with hc | hc
      · exact .inl hc
      · exact .inr (fy c hc)
  have hM2 : ∀ c ∈ M, c ∈ sl2 :: (M ++ y.foot) := fun c hc => List.mem_cons_of_mem _ (List.mem_append.mpr (.inl hc))
  have lx3 := l.same s
  have py3 := py.same s3
  have mok : MOk H0 H3 (sl2 :: (M ++ y.foot)) := fun c hc => by
    rcases List.mem_cons.mp hc with rfl | hc
    · exact ⟨l.hH0 _ n2H, _, e2, fun _ z => (by cases z), fun _ z => (by cases z)⟩
    · rcases List.mem_append.mp hc with hc | hc
      · exact lx3.mok c hc
      · obtain ⟨o, e, q1, q2⟩ := py3.has c hc
        exact ⟨py3.h0 c hc, o, e, q1, q2⟩
  have f : Fr T [] H H3 := Same.fr s l.hT
  have l3 : LX A C B T H0 (sl2 :: (M ++ y.foot)) H3 t N sc sl x i n ws W held marks rs := l.step f (fun _ z => by cases z) hM hM2 mok lx3.tp (fun b e => s.free e) (fun z => by cases z) (fun b _ z => by cases z)
  obtain ⟨hl', est', hd⟩ := l.st
  obtain rfl : hl = hl' := by
    rw [est] at est'
    injection est' with e
    injection e with e
    injection e with e _
    injection e with e
  have hd2 : Held H3 (sl2 :: (M ++ y.foot)) hl held := hd.step l.hT f l.mok (fun _ z => by cases z) hM
  have Hs : ∀ {b : Addr} {o : HO}, H b = some o → b ∉ y.foot ∧ b ≠ sl2 := fun e => ⟨fun z => (by rw [fy _ z] at e; cases e), fun z => (by rw [z, n2H] at e; cases e)⟩
  have yH1 : ∀ b ∈ y.foot, H1 b ≠ none := fun b hb z => by
    obtain ⟨o, e, _⟩ := py.has b hb
    rw [z] at e; cases e
  obtain ⟨ta, tb, tc, et, tr⟩ := id l.tp
  have ly2 : LX A C B T H0 (sl2 :: (M ++ y.foot)) H3 t N sc sl2 y i n ws W held marks rs2 :=
    ⟨lx3.hT, lx3.tp, mok, lx3.hH0, py3, l3.scn, ⟨hl, e2, hd2⟩, l.good, l3.tM, List.mem_cons_self, fun b hb => List.mem_cons_of_mem _ (List.mem_append.mpr (.inr hb)), (Hs et).1, fun z => yH1 _ z n2, (Hs et).2⟩
  have xs : ∀ b ∈ x.foot, b ∉ y.foot ∧ b ≠ sl2 := fun b hb => by
    obtain ⟨o, e, _⟩ := l.pap.has b hb
    exact Hs e
  exact ⟨_, l3, ly2, ⟨fun z => (Hs est).2 z.symm, fun z => (xs _ z).2 rfl, fun b hb => ⟨fun z => (Hs est).1 (z ▸ hb), fun z => (xs _ z).1 hb⟩⟩, hM⟩
theorem Dis.symmB {a b : Addr} {x y : PA} (d : Dis a b x y) : Dis b a y x := ⟨fun z => d.1 z.symm, fun z => (d.2.2 a z).1 rfl, fun c hc => ⟨fun z => d.2.1 (z ▸ hc), fun z => (d.2.2 c z).2 hc⟩⟩
theorem globB {M M' : List Addr} {H0 Hs H H' : Hp} {t : Addr} {N' : Nat} {x x' : PA} {s : Addr} (hTs : ∀ p ∈ T, TabG Hs p) (fr : Fr T [t] Hs H) (gl : ∀ c ∈ M, c = t ∨ Hs c = none) (tH : H t ≠ none) (st : Ste T M M' H0 H H' t s N' x x') (al : ∀ c ∈ x.all t s, c ∈ M) : Fr T [t] Hs H' ∧ ∀ c ∈ M', c = t ∨ Hs c = none := by
  refine ⟨fr.trans st.fr (fun c hc => .inl hc) fun c hc => ?_, fun c hc => ?_⟩
  · rcases gl c (al c hc) with q | q
    · exact .inl (by rw [q]; simp)
    · exact .inr q
  · rcases st.g1 c hc with q | q
    · exact gl c q
    · exact .inr (fr.free hTs (fun d hd => by rw [List.mem_singleton.mp hd]; exact tH) q)
/-! ### a paper, undone; its twin too -/
def spRight62 (T : List Addr) : Sp := fun vs H Q _ => ∃ (t sc wl : Addr) (N calls i n : Nat) (ws : List Str) (W : Nat), vs = [.ref t, .ref sc, .int (calls : Nat)] ∧ H sc = some (.tup [.int (i : Nat), .int (n : Nat), .ref wl]) ∧ H wl = some (.lst (ws.map V.str)) ∧ wl ≠ t ∧ stampsV (ws.map V.str) = true ∧ Good ws W ∧ i < 3 ∧ 1 ≤ n ∧ n ≤ cellsN i ∧ (∀ p ∈ T, TabG H p) ∧ Tp H t N ∧ N + 10000 < 2 ^ 40 ∧ calls ≤ 100 ∧
  ∀ H', Fr T [t] H H' → Tp H' t (N + 700) → Q (.bl true) H'
abbrev NR62 : List Str := ["stock", "scene", "calls", "paper", "state", "twin", "mine", "turn"]
theorem scR62 : FnScope NR62 ["stock", "scene", "calls"] (defScope sRight62) := ⟨rfl, rfl, rfl, by decide +kernel, rfl, by decide +kernel, by decide +kernel⟩
theorem ok_right62 {f : Addr} {fd fdMd fdEm fdBg fdTw fdI fdIn fdUd fdP fdS : FuncData} (F : L2.Fun K "_law_right" "_law_right" sRight62 f fd) (FMd : L2.Fun K "_law_made" "_law_made" sMadeP fMd fdMd) (MD : FnOk P w K mg base CX0 9 fMd fdMd ["scene"] (spMadeP A C B T))
    (FEm : L2.Fun K "_law_is_empty" "_law_is_empty" sEmp62 fEm fdEm) (EM : FnOk P w K mg base CX0 4 fEm fdEm ["paper", "scene"] (spEmp A C B T)) (FBg : L2.Fun K "_law_begun" "_law_begun" sBegun fBg fdBg) (BG : FnG P w K mg base CX0 11 fBg fdBg ["stock", "paper", "scene", "state", "calls"] (spBegun A C B T))
    (FTw : L2.Fun K "twin" "Paper.twin" sPpTw fTw fdTw) (FI : L2.Fun K "__init__" "Paper.__init__" sPpI A.fI fdI) (FInt : L2.Fun K "is_integer" "is_integer" sIsInt A.fInt fdIn) (FUd : L2.Fun K "_law_undone" "_law_undone" sUndone fUd fdUd) (UD : FnG P w K mg base CX0 5 fUd fdUd ["paper", "scene", "state", "many"] (spUndone A C B T))
    (FP : L2.Fun K "_law_pressed" "_law_pressed" sPressed fPs fdP) (PR : FnOk P w K mg base CX0 9 fPs fdP ["stock", "paper", "scene", "state"] (spPressed A C B T)) (FS : L2.Fun K "_law_same" "_law_same" sSame fSa fdS) (SA : FnG P w K mg base CX0 4 fSa fdS ["paper", "scene", "state"] (spSame A C B T))
    (BB : Bds K mg B) (X : Txt K mg C fLow fText fAre fTape fNext fInks) (X2 : TopS2 K mg fSa fPs) (X5 : TopS5 K mg fMd) (XE : TopE K mg fEm fUd fSx) (XF : TopF K mg fBg fRi) (Y : PpK K mg A) (U : PpKM K A fMk fBk fTw) (E1 : ErrC K mg "InvalidNumber" DNum) :
    FnG P w K mg base CX0 12 f fd ["stock", "scene", "calls"] (spRight62 T) := by
  have bMd : Binds K fdMd ["scene"] [] := FMd.binds fun _ _ _ _ _ _ us hl => match us, hl with | [_], _ => rfl
  have bEm : Binds K fdEm ["paper", "scene"] [] := FEm.binds fun _ _ _ _ _ _ us hl => match us, hl with | [_, _], _ => rfl
  have bBg : Binds K fdBg ["stock", "paper", "scene", "state", "calls"] [] := FBg.binds fun _ _ _ _ _ _ us hl => match us, hl with | [_, _, _, _, _], _ => rfl
  have TW : FnOk P w K mg base (L2.CX P w) 4 fTw fdTw ["self"] (spPpTw A C B T) := ok_pptw FTw FI FInt X Y BB E1
  have bT : Binds K fdTw ["self"] [] := FTw.binds fun _ _ _ _ _ _ us hl => match us, hl with | [_], _ => rfl
  have bUd : Binds K fdUd ["paper", "scene", "state", "many"] [] := FUd.binds fun _ _ _ _ _ _ us hl => match us, hl with | [_, _, _, _], _ => rfl
  have bP : Binds K fdP ["stock", "paper", "scene", "state"] [] := FP.binds fun _ _ _ _ _ _ us hl => match us, hl with | [_, _, _, _], _ => rfl
  have bS : Binds K fdS ["paper", "scene", "state"] [] := FS.binds fun _ _ _ _ _ _ us hl => match us, hl with | [_, _, _], _ => rfl
  refine fun_okG F scR62 (fun vs H Q E h => ?_) (fun cdv A' outer s H vs Q E hg hr h => ?_)
  · obtain ⟨t, sc, wl, N, calls, i, n, ws, W, rfl, _⟩ := h
    rfl
  · obtain ⟨t, sc, wl, N, calls, i, n, ws, W, rfl, es, ew, wt, sv, g, hi, n1, n2, hT, tp, hN, hc, q⟩ := h
    refine ⟨_, (pss_cons (ps_par (i := 3) (j := 4) rfl scR62.nd rfl rfl (by decide) rfl rfl (pa_cons (pe_call MD (hr.mono (by decide)) (by rfl) X5.gMd X5.kMd bMd .nil L2.pass0 (pa_cons (pv 1) pa_nil)) (pa_cons (pe_lst (pa_cons (pe_lst pa_nil) (pa_cons (pe_lst pa_nil) pa_nil))) pa_nil)) (by rfl))
      (pss_cons (ps_if ((pw_or (pt_not (pt_val (pe_call EM (hr.mono (by decide)) (by rfl) XE.gEm XE.kEm bEm .nil L2.pass0 (pa_cons (pv 3) (pa_cons (pv 1) pa_nil))))) (pw_or1 (pt_not (pt_val (pe_callG BG hg (hr.mono (by decide)) (by rfl) XF.gBg XF.kBg bBg L2.pass0 (pa_cons (pv 0) (pa_cons (pv 3) (pa_cons (pv 1) (pa_cons (pv 4) (pa_cons (pv 2) pa_nil)))))))))).pt) (pss_one (ps_ret pe_bl)) pss_nil)
      (pss_cons (ps_par (i := 5) (j := 6) rfl scR62.nd rfl rfl (by decide) rfl rfl (pa_cons (pe_meth0 (pv 3) Y.cls U.tw TW (hr.mono (by decide)) bT .nil passL) (pa_cons (pe_lst (pa_cons (pe_ix ix_seq (pv 4) pe_int fun _ _ => rfl) (pa_cons (pe_lst pa_nil) pa_nil))) pa_nil)) (by rfl))
      (C8.pss_cut (ps_if (pt_cmpR op_lt (pv 2) pe_int (by rfl)) (pss_cons (ps_if (pt_not (pt_val (pe_callG UD hg (hr.mono (by decide)) (by rfl) XE.gUd XE.kUd bUd L2.pass0 (pa_cons (pv 3) (pa_cons (pv 1) (pa_cons (pv 4) (pa_cons (pe_op op_fdiv (pe_callB call_len_seq (by rfl) X.len boot_len (pa_cons (pe_ix ix_seq (pv 4) pe_int fun _ _ => rfl) pa_nil)) pe_int) pa_nil))))))) (pss_one (ps_ret pe_bl)) pss_nil)
      (pss_one (ps_for PassesOwn.never rfl (pi_range1 (by rfl) X.rng (pa_cons pe_int pa_nil)) (pg_name (i := 7) scR62.nd rfl (Or.inl rfl)) (pss_one (ps_if (pt_not (pt_val (pe_call PR (hr.mono (by decide)) (by rfl) X2.gPs X2.kPs bP .nil L2.pass0 (pa_cons (pv 0) (pa_cons (pv 3) (pa_cons (pv 1) (pa_cons (pv 4) pa_nil))))))) (pss_one (ps_ret pe_bl)) pss_nil))))) pss_nil)
      (pss_cons (ps_if ((pw_or (pt_not (pt_val (pe_callG SA hg (hr.mono (by decide)) (by rfl) X2.gSa X2.kSa bS L2.pass0 (pa_cons (pv 3) (pa_cons (pv 1) (pa_cons (pv 4) pa_nil)))))) (pw_or1 (pt_not (pt_val (pe_callG UD hg (hr.mono (by decide)) (by rfl) XE.gUd XE.kUd bUd L2.pass0 (pa_cons (pv 3) (pa_cons (pv 1) (pa_cons (pv 4) (pa_cons (pe_callB call_len_seq (by rfl) X.len boot_len (pa_cons (pe_ix ix_seq (pv 4) pe_int fun _ _ => rfl) pa_nil)) pa_nil))))))))).pt) (pss_one (ps_ret pe_bl)) pss_nil)
      (pss_cons (ps_if ((pw_or (pt_not (pt_val (pe_call EM (hr.mono (by decide)) (by rfl) XE.gEm XE.kEm bEm .nil L2.pass0 (pa_cons (pv 3) (pa_cons (pv 1) pa_nil))))) (pw_or1 (pt_not (pt_val (pe_callG SA hg (hr.mono (by decide)) (by rfl) X2.gSa X2.kSa bS L2.pass0 (pa_cons (pv 5) (pa_cons (pv 1) (pa_cons (pv 6) pa_nil)))))))).pt) (pss_one (ps_ret pe_bl)) pss_nil)
      (pss_one (ps_ret (pe_and (pe_callG UD hg (hr.mono (by decide)) (by rfl) XE.gUd XE.kUd bUd L2.pass0 (pa_cons (pv 5) (pa_cons (pv 1) (pa_cons (pv 6) (pa_cons (pe_callB call_len_seq (by rfl) X.len boot_len (pa_cons (pe_ix ix_seq (pv 6) pe_int fun _ _ => rfl) pa_nil)) pa_nil))))) (pe_one (pe_call EM (hr.mono (by decide)) (by rfl) XE.gEm XE.kEm bEm .nil L2.pass0 (pa_cons (pv 5) (pa_cons (pv 1) pa_nil))))))))))))), ?_⟩
    refine ⟨_, rfl, sc, wl, i, n, ws, W, rfl, es, ew, sv, g, hi, n1, n2, hT, fun x H1 np => ?_⟩
    refine ⟨(by decide : 0 ≤ sizeLine), fun hl hhl => ⟨(by decide : 0 ≤ sizeLine), fun ml hml => ⟨(by decide : 2 ≤ sizeLine), fun sl hsl => ⟨_, _, rfl, ?_⟩⟩⟩⟩
    obtain ⟨H0, ly, gl, kk⟩ := ly_new (us := []) hT tp es ew wt g np hhl hml hsl
    generalize upd (upd (upd H1 hl (.lst [])) ml (.lst [])) sl (.lst [.ref hl, .ref ml]) = G at ly kk ⊢
    generalize (t :: sl :: x.foot) = M at ly gl
    have lx := ly.lx
    have fr0 : Fr T [t] H G := kk.fr
    have tne : ∀ {G' : Hp} {N' : Nat}, Tp G' t N' → G' t ≠ none := fun tp z => by
      obtain ⟨_, _, _, e, _⟩ := tp
      rw [z] at e; cases e
    clear ly np kk hhl hml hsl
    obtain ⟨wl1, es1, ew1, nw1⟩ := lx.scn
    refine ⟨_, rfl, _, rfl, x, H0, i, n, ws, W, [], sc, wl1, rfl, lx.pap, lx.hT, lx.hH0, by simp, es1, fun H2 s2 => ⟨_, rfl, iteF' rfl ?_⟩⟩
    have lx2 := lx.same s2
    have fr2 := fr0.tr (Same.fr s2 fr0.1)
    refine ⟨_, rfl, _, rfl, _, rfl, _, rfl, _, rfl, H0, M, t, _, sc, sl, x, i, n, ws, W, _, calls, rfl, lx2, by simp, hc, by omega, fun held M3 H3 lx3 st3 hh => ⟨_, rfl, iteF' rfl ?_⟩⟩
    have p3 := lx3.pap
    obtain ⟨fr3, gl3⟩ := globB hT fr2 gl (tne lx2.tp) st3 lx2.allM
    refine ⟨_, rfl, x.pp, x.dx, _, rfl, p3.ins, rfl, x, H0, i, n, ws, W, held, [], rfl, p3, lx3.hH0, fun y H4 py fy s4 => ?_⟩
    obtain ⟨hl3, est3, hd3⟩ := lx3.st
    refine ⟨_, rfl, .inl ⟨sl, _, 0, .ref hl3, rfl, rfl, .inl (.inl (s4 _ _ est3)), atI_nat (j := 0) rfl, ?_⟩⟩
    refine ⟨(by decide : 0 ≤ sizeLine), fun mc hmc => ⟨(by decide : 2 ≤ sizeLine), fun sl2 hsl2 => ⟨_, _, rfl, ?_⟩⟩⟩
    have k5 := same_new (o := .lst []) hmc
    have k6 := same_new (o := .lst [.ref hl3, .ref mc]) hsl2
    have e6 : upd (upd H4 mc (.lst [])) sl2 (.lst [.ref hl3, .ref mc]) sl2 = some (.lst [.ref hl3, .ref mc]) := upd_same
    obtain ⟨M6, lx6, tx6, d12, hM6⟩ := lx_twin lx3 py fy s4 (k5.trans k6) est3 e6 (k5.free hsl2)
    have fr6 := fr3.tr (Same.fr (s4.trans (k5.trans k6)) fr3.1)
    have gl6 : ∀ c ∈ M6, c = t ∨ H c = none := fun c hc => by
      rcases hM6 c hc with z | z
      · exact gl3 c z
      · exact .inr (fr3.free hT (fun d hd => by rw [List.mem_singleton.mp hd]; exact tne lx3.tp) z)
    generalize upd (upd H4 mc (.lst [])) sl2 (.lst [.ref hl3, .ref mc]) = H6 at k6 e6 lx6 tx6 fr6 ⊢
    clear lx lx2 lx3 st3 py fy s4 k5 k6 e6 p3 hd3 est3 hM6 fr3 gl3 fr2 fr0 gl
    refine ⟨fun σ' G' => ∃ (x1 : PA) (held1 : List St2) (M1 : List Addr) (v7 : Option V), σ' = [some (.ref t), some (.ref sc), some (.int (calls : Nat)), some (.ref x1.pp), some (.ref sl), some (.ref y.pp), some (.ref sl2), v7] ∧ LX A C B T H0 M1 G' t (N + 600) sc sl x1 i n ws W held1 [] [.ref ml] ∧ LX A C B T H0 M1 G' t (N + 600) sc sl2 y i n ws W held [] [.ref mc] ∧ Dis sl sl2 x1 y ∧ held1.length ≤ 150 ∧ Fr T [t] H G' ∧ (∀ c ∈ M1, c = t ∨ H c = none), ?_, fun σ' G' pp => ?_⟩
    · refine ⟨_, rfl, _, _, rfl, rfl, _, rfl, ?_⟩
      refine ite2 (fun _ => ?_) (fun _ => ?_)
      case refine_2 => exact ⟨x, held, M6, _, rfl, lx6.tape .refl (lx6.tp.mono (by omega)), tx6.tape .refl (tx6.tp.mono (by omega)), d12, by omega, fr6, gl6⟩
      obtain ⟨hl6, est6, tps6, eh6, th6, nh6⟩ := lx6.st
      refine ⟨_, rfl, _, rfl, _, rfl, _, rfl, .inl ⟨sl, _, 0, .ref hl6, rfl, rfl, .inl (.inl est6), atI_nat (j := 0) rfl, hl6, _, rfl, .inl (.inl (.inl eh6)), ?_⟩⟩
      rw [List.length_map, th6.len]
      refine ⟨_, _, rfl, rfl, ⟨by decide, by decide⟩, H0, M6, t, _, sc, sl, x, i, n, ws, W, held, _, held.length / 2, (by show [V.ref x.pp, V.ref sc, V.ref sl, V.int ((held.length : Int) / 2)] = [V.ref x.pp, V.ref sc, V.ref sl, V.int ((held.length / 2 : Nat) : Int)]; rw [show ((held.length : Int) / 2) = ((held.length / 2 : Nat) : Int) by omega]), lx6, by omega, by omega, fun x7 M7 H7 l7 st7 => ⟨_, rfl, iteF' rfl ?_⟩⟩
      have epp : x.pp = x7.pp := st7.pp.symm
      rw [epp]
      have t7 := tx6.other st7 lx6.allM d12
      have d7 := d12.stepX st7 tx6
      obtain ⟨fr7, gl7⟩ := globB hT fr6 gl6 (tne lx6.tp) st7 lx6.allM
      have lh7 : (held.take (held.length - held.length / 2)).length ≤ 100 := by rw [List.length_take]; omega
      refine ⟨20, rfl, by decide, by decide, for_range (lo := 0) (n := (20 : Int).toNat) (fun j σ' G' => ∃ (held1 : List St2) (v7 : Option V), σ' = [some (.ref t), some (.ref sc), some (.int (calls : Nat)), some (.ref x7.pp), some (.ref sl), some (.ref y.pp), some (.ref sl2), v7] ∧ LX A C B T H0 M7 G' t (N + 500 + 4 * j) sc sl x7 i n ws W held1 [] [.ref ml] ∧ LX A C B T H0 M7 G' t (N + 500 + 4 * j) sc sl2 y i n ws W held [] [.ref mc] ∧ Dis sl sl2 x7 y ∧ held1.length ≤ 100 + j ∧ Fr T [t] H G')
        ⟨_, _, rfl, l7, t7, d7, lh7, fr7⟩ (fun j σ' G' hj pp => ?_) (fun σ' G' pp => ?_)⟩
      · obtain ⟨held1, v7, rfl, l1, t1, d1, h1, fr1⟩ := pp
        have hj : j < 20 := hj
        refine ⟨_, rfl, _, rfl, _, rfl, _, rfl, H0, M7, t, _, sc, sl, x7, i, n, ws, W, held1, [], _, rfl, l1, by omega, by simp, by omega, fun held2 G5 hh2 l5 f5 => ⟨_, rfl, iteF' rfl ?_⟩⟩
        have hl3 := LY.pressedB (M := M7) (H0 := H0) (H := G') (H' := G5) hh2
        have st5 := ste_in l1 f5 l5
        have t5 := t1.other st5 l1.allM d1
        exact ⟨held2, _, rfl, l5.tape .refl (l5.tp.mono (by omega)), t5.tape .refl (t5.tp.mono (by omega)), d1, by omega, (globB hT fr1 gl7 (tne l1.tp) st5 l1.allM).1⟩
      · obtain ⟨held1, v7, rfl, l1, t1, d1, h1, fr1⟩ := pp
        have e20 : (20 : Int).toNat = 20 := rfl
        rw [e20] at l1 t1 h1
        exact ⟨x7, held1, M7, _, rfl, l1.tape .refl (l1.tp.mono (by omega)), t1.tape .refl (t1.tp.mono (by omega)), d1, by omega, fr1, gl7⟩
    obtain ⟨x1, held1, M1, v7, rfl, l1, t1, d1, h1, fr1, gl1⟩ := pp
    refine ⟨_, rfl, _, rfl, _, rfl, H0, M1, t, _, sc, sl, x1, i, n, ws, W, held1, [], _, rfl, l1, by omega, fun H8 s8 => ⟨_, rfl, iteF' rfl ?_⟩⟩
    have l8 := l1.same s8
    have t8 := t1.same s8
    obtain ⟨hl8, est8, tps8, eh8, th8, nh8⟩ := l8.st
    refine ⟨_, rfl, _, rfl, _, rfl, _, rfl, .inl ⟨sl, _, 0, .ref hl8, rfl, rfl, .inl (.inl est8), atI_nat (j := 0) rfl, hl8, _, rfl, .inl (.inl (.inl eh8)), ?_⟩⟩
    rw [List.length_map, th8.len]
    refine ⟨H0, M1, t, _, sc, sl, x1, i, n, ws, W, held1, _, held1.length, rfl, l8, by omega, Nat.le_refl _, fun x9 M9 H9 l9 st9 => ⟨_, rfl, iteF' rfl ?_⟩⟩
    rw [Nat.sub_self, List.take_zero] at l9
    have epp : x1.pp = x9.pp := st9.pp.symm
    rw [epp]
    have t9 := t8.other st9 l8.allM d1
    obtain ⟨fr9, gl9⟩ := globB hT (fr1.tr (Same.fr s8 fr1.1)) gl1 (tne l8.tp) st9 l8.allM
    obtain ⟨wl9, es9, _⟩ := l9.scn
    refine ⟨_, rfl, _, rfl, x9, H0, i, n, ws, W, [], sc, wl9, rfl, l9.pap, l9.hT, l9.hH0, by simp, es9, fun H10 s10 => ⟨_, rfl, iteF' rfl ?_⟩⟩
    have t10 := t9.same s10
    refine ⟨_, rfl, _, rfl, _, rfl, H0, M9, t, _, sc, sl2, y, i, n, ws, W, held, [], _, rfl, t10, by omega, fun H11 s11 => ⟨_, rfl, iteF' rfl ?_⟩⟩
    have t11 := t10.same s11
    obtain ⟨hl11, est11, tps11, eh11, th11, nh11⟩ := t11.st
    refine ⟨_, rfl, _, rfl, _, rfl, _, rfl, .inl ⟨sl2, _, 0, .ref hl11, rfl, rfl, .inl (.inl est11), atI_nat (j := 0) rfl, hl11, _, rfl, .inl (.inl (.inl eh11)), ?_⟩⟩
    rw [List.length_map, th11.len]
    refine ⟨H0, M9, t, _, sc, sl2, y, i, n, ws, W, held, _, held.length, rfl, t11, by omega, Nat.le_refl _, fun y12 M12 H12 l12 st12 => ⟨_, rfl, iteT' rfl ?_⟩⟩
    rw [Nat.sub_self, List.take_zero] at l12
    have epp2 : y.pp = y12.pp := st12.pp.symm
    obtain ⟨fr12, gl12⟩ := globB hT ((fr9.tr (Same.fr s10 fr9.1)).tr (Same.fr s11 t10.hT)) gl9 (tne t11.tp) st12 t11.allM
    rw [epp2]
    obtain ⟨wl12, es12, _⟩ := l12.scn
    refine ⟨_, rfl, _, rfl, y12, H0, i, n, ws, W, [], sc, wl12, rfl, l12.pap, l12.hT, l12.hH0, by simp, es12, fun H13 s13 => ?_⟩
    have l13 := l12.same s13
    exact q H13 (fr12.tr (Same.fr s13 fr12.1)) (l13.tp.mono (by omega))
/-! ### the law -/
def spLaw62 (K : PySem.W.Frag) (T : List Addr) : Sp := fun vs H Q _ => ∃ (a : Addr) (ns : List Int), vs = [.ref a] ∧ (∀ p ∈ T, TabG H p) ∧ SqL K H a (ns.map V.int) ∧ ns.length ≤ 63 ∧ ∀ H', Q (.bl true) H'
abbrev NLaw62 : List Str := ["script", "stock", "turn"]
theorem scLaw62 : FnScope NLaw62 ["script"] (defScope sLaw62) := ⟨rfl, rfl, rfl, by decide +kernel, rfl, by decide +kernel, by decide +kernel⟩
theorem ok_law62 {f : Addr} {fd fdTp fdNx fdIn fdSc fdRi : FuncData} (F : L2.Fun K "law" "law" sLaw62 f fd) (FTp : L2.Fun K "_law_stock" "_law_stock" sTape fTape fdTp) (FNx : L2.Fun K "_law_roll" "_law_roll" sNext fNext fdNx) (FIn : L2.Fun K "_law_words" "_law_words" sInks fInks fdIn)
    (FSc : L2.Fun K "_law_scene" "_law_scene" sScene fSc fdSc) (FRi : L2.Fun K "_law_right" "_law_right" sRight62 fRi fdRi) (RR : FnG P w K mg base CX0 12 fRi fdRi ["stock", "scene", "calls"] (spRight62 T))
    (X : Txt K mg C fLow fText fAre fTape fNext fInks) (XS : TopS K mg fDr fSc fSl) (XF : TopF K mg fBg fRi) : FnG P w K mg base CX0 13 f fd ["script"] (spLaw62 K T) := by
  have TT : FnOk P w K mg base CX0 1 fTape fdTp ["script"] (spTape K) := ok_tape FTp X
  have bT : Binds K fdTp ["script"] [] := FTp.binds fun _ _ _ _ _ _ us hl => match us, hl with | [_], _ => rfl
  have N1 : FnOk P w K mg base CX0 1 fNext fdNx ["stock", "many"] spNext := ok_next FNx X
  have bN : Binds K fdNx ["stock", "many"] [] := FNx.binds fun _ _ _ _ _ _ us hl => match us, hl with | [_, _], _ => rfl
  have SC : FnOk P w K mg base CX0 3 fSc fdSc ["stock", "most"] spScene := ok_scene FSc FNx FIn X XS
  have bSc : Binds K fdSc ["stock", "most"] [] := FSc.binds fun _ _ _ _ _ _ us hl => match us, hl with | [_, _], _ => rfl
  have bR : Binds K fdRi ["stock", "scene", "calls"] [] := FRi.binds fun _ _ _ _ _ _ us hl => match us, hl with | [_, _, _], _ => rfl
  refine fun_okG F scLaw62 (fun vs H Q E h => ?_) (fun cdv A' outer s H vs Q E hg hr h => ?_)
  · obtain ⟨a, ns, rfl, _⟩ := h
    rfl
  · obtain ⟨a, ns, rfl, hT, hs, hn, q⟩ := h
    refine ⟨_, (pss_cons (ps_set (i := 1) scLaw62.nd rfl (.inl rfl) (pe_call TT (hr.mono (by decide)) (by rfl) X.gTape X.kTape bT .nil L2.pass0 (pa_cons (pv 0) pa_nil)))
      (pss_cons (ps_if (pt_not (pt_val (pe_callG RR hg (hr.mono (by decide)) (by rfl) XF.gRi XF.kRi bR L2.pass0 (pa_cons (pv 1) (pa_cons (pe_call SC (hr.mono (by decide)) (by rfl) XS.gSc XS.kSc bSc .nil L2.pass0 (pa_cons (pv 1) (pa_cons (pe_ix ix_seq (pe_lst (pa_cons pe_int (pa_cons pe_int pa_nil))) (pe_call N1 (hr.mono (by decide)) (by rfl) X.gNext X.kNext bN .nil L2.pass0 (pa_cons (pv 1) (pa_cons pe_int pa_nil))) fun _ _ => rfl) pa_nil))) (pa_cons pe_int pa_nil)))))) (pss_one (ps_ret pe_bl)) pss_nil)
      (pss_cons (ps_for PassesOwn.never rfl (pi_range1 (by rfl) X.rng (pa_cons (pe_callB (call_min2 rfl) (by rfl) X.min boot_min (pa_cons pe_int (pa_cons (pe_callB call_len_seq (by rfl) X.len boot_len (pa_cons (pv 0) pa_nil)) pa_nil))) pa_nil)) (pg_name (i := 2) scLaw62.nd rfl (Or.inl rfl)) (pss_one (ps_if (pt_not (pt_val (pe_callG RR hg (hr.mono (by decide)) (by rfl) XF.gRi XF.kRi bR L2.pass0 (pa_cons (pv 1) (pa_cons (pe_call SC (hr.mono (by decide)) (by rfl) XS.gSc XS.kSc bSc .nil L2.pass0 (pa_cons (pv 1) (pa_cons pe_int pa_nil))) (pa_cons (pe_op op_add pe_int (pe_call N1 (hr.mono (by decide)) (by rfl) X.gNext X.kNext bN .nil L2.pass0 (pa_cons (pv 1) (pa_cons pe_int pa_nil)))) pa_nil)))))) (pss_one (ps_ret pe_bl)) pss_nil)))
      (pss_one (ps_ret pe_bl))))), ?_⟩
    refine ⟨_, rfl, a, ns, rfl, hs, hn, fun t H1 ht tp1 s1 => ?_⟩
    have hT1 : ∀ p ∈ T, TabG H1 p := (Same.fr (S := []) s1 hT).1
    have nt1 := tp1.nT hT1
    have sq := s1.seq hs
    have nta : ∀ {H' : Hp}, Fr T [t] H1 H' → SqL K H' a (ns.map V.int) := fun f => by
      rcases hs with (e | ⟨o, e⟩) | e
      · have at_ : a ∉ [t] := fun z => by rw [List.mem_singleton.mp z, ht] at e; cases e
        exact .inl (.inl (f.at hT1 at_ (s1 _ _ e) fun _ z => by cases z))
      · have at_ : a ∉ [t] := fun z => by rw [List.mem_singleton.mp z, ht] at e; cases e
        exact .inl (.inr ⟨o, f.at hT1 at_ (s1 _ _ e) fun _ z => by cases z⟩)
      · exact .inr e
    refine ⟨_, rfl, _, rfl, (by decide : 2 ≤ sizeLine), fun ml hml => ?_⟩
    have bm : Bt t H1 (upd H1 ml (.lst [.int 120, .int 10])) := Bt.new hml
    have tp2 := tp1.new (o := .lst [.int 120, .int 10]) hml
    have eml : upd H1 ml (.lst [.int 120, .int 10]) ml = _ := upd_same
    generalize upd H1 ml (.lst [.int 120, .int 10]) = H2 at bm tp2 eml ⊢
    have mlt : ml ≠ t := fun z => by
      obtain ⟨_, _, _, e, _⟩ := tp1
      rw [z, e] at hml; cases hml
    refine ⟨_, rfl, t, 2, _, rfl, tp2, by omega, by decide, by decide, fun d H3 d0 d2 tp3 b3 => ?_⟩
    have f3 := bt_fr (bm.trans b3.bt) hT1 nt1
    obtain ⟨m, m1, m2, em⟩ : ∃ m : Nat, 1 ≤ m ∧ m ≤ 1000 ∧ atI [V.int 120, V.int 10] d = some (.int (m : Nat)) := by
      have : d = 0 ∨ d = 1 := by omega
      rcases this with rfl | rfl
      · exact ⟨120, by decide, by decide, rfl⟩
      · exact ⟨10, by decide, by decide, rfl⟩
    refine .inl ⟨ml, _, d, .int (m : Nat), rfl, rfl, .inl (.inl (b3.bt ml _ mlt eml)), em, t, m, _, rfl, m1, m2, tp3, by omega, fun sc wl i n ws W H5 hsc hwl esc ewl sv g hi n1 n2 n3 tp5 b5 => ?_⟩
    have f5 := f3.tr (bt_fr b5 f3.1 nt1)
    refine ⟨t, sc, wl, _, 100, i, n, ws, W, rfl, esc, ewl, (tp3.ne hwl).symm, sv, g, hi, n1, n2, f5.1, tp5, by omega, by decide, fun H6 f6 tp6 => ⟨_, rfl, iteF' rfl ?_⟩⟩
    have fa := f5.tr f6
    refine ⟨_, rfl, a, _, rfl, .inl (nta fa), _, _, rfl, ?_⟩
    rw [List.length_map]
    obtain ⟨c0, hc0⟩ : ∃ c0 : Nat, (if (ns.length : Int) < 2 then (ns.length : Int) else 2) = (c0 : Int) := ⟨(if (ns.length : Int) < 2 then (ns.length : Int) else 2).toNat, by split <;> omega⟩
    have c02 : c0 ≤ 2 := by split at hc0 <;> omega
    refine ⟨(c0 : Nat), (by show [V.int (if (ns.length : Int) < 2 then (ns.length : Int) else 2)] = [V.int (c0 : Nat)]; rw [hc0]), by omega, by omega, for_range (lo := 0) (n := ((c0 : Nat) : Int).toNat) (fun k σ H' => (∃ v2, σ = [some (.ref a), some (.ref t), v2]) ∧ (∀ p ∈ T, TabG H' p) ∧ Tp H' t (10000 + 10000 * k)) ⟨⟨_, rfl⟩, f6.1, tp6.mono (by omega)⟩ (fun k σ H' hk p => ?_) (fun σ H' p => ?_)⟩
    · obtain ⟨⟨v2, rfl⟩, hT', tp⟩ := p
      rw [Int.toNat_natCast] at hk
      have nt := tp.nT hT'
      refine ⟨_, rfl, _, rfl, t, 12, _, rfl, by decide, by decide, tp, by omega, fun sc wl i n ws W H5 hsc hwl esc ewl sv g hi n1 n2 n3 tp5 b5 => ?_⟩
      have f5 := bt_fr b5 hT' nt
      refine ⟨_, rfl, t, 50, _, rfl, tp5, by omega, by decide, by decide, fun d1 H6 d10 d11 tp6 b6 => ⟨_, _, rfl, rfl, ?_⟩⟩
      have f6 := bt_fr b6.bt f5.1 nt
      have sct : sc ≠ t := fun z => by
        obtain ⟨_, _, _, e, _⟩ := tp5
        rw [← z, esc] at e; cases e
      have wlt : wl ≠ t := (tp.ne hwl).symm
      obtain ⟨c, hc⟩ : ∃ c : Nat, (1 : Int) + d1 = (c : Int) := ⟨(1 + d1).toNat, by omega⟩
      refine ⟨t, sc, wl, _, c, i, n, ws, W, (by show [V.ref t, V.ref sc, V.int (1 + d1)] = [V.ref t, V.ref sc, V.int (c : Nat)]; rw [hc]), b6.bt sc _ sct esc, b6.bt wl _ wlt ewl, wlt, sv, g, hi, n1, n2, f6.1, tp6, by omega, by omega, fun H7 f7 tp7 => ⟨_, rfl, iteF' rfl ?_⟩⟩
      exact ⟨⟨_, rfl⟩, f7.1, tp7.mono (by omega)⟩
    · obtain ⟨⟨v2, rfl⟩, _⟩ := p
      exact q _
end
end Ov

set_option Elab.async false
set_option linter.all false
set_option maxRecDepth 100000
set_option maxHeartbeats 4000000
/-! the end of a law whose defs know the guards -/
namespace Ov
open PySem PySem.Spec PyProof.Rows L2 GxR
/-- as the library's for defs alone, with FnG -/
def LawAtG (l : PySem.W.OpenLaw) (w : World) (K : PySem.W.Frag) (k n : Nat) (x : Str) (mg : Str → Option Value) (fa : Addr) (h : Heap) : Prop :=
  ∃ (fd : FuncData) (cs : List (Addr × Addr)) (sp : Sp), (∀ p ∈ cs, h.get? p.2 = some { cls := .none, data := .fields #[] }) ∧ (∀ p ∈ cs, K.lookup p.2 = none) ∧ (∀ p ∈ cs, PySem.W.CodeHd h p.1 p.2) ∧ (∀ (s : Shared) (u : Value), BindsTo s fd ⟨[u], []⟩ [(x, u)]) ∧
    (∀ (H : Hp) (a : Addr) (ns : List Int), ns.length ≤ n → (∀ p ∈ cs, H p.2 = some (.tbl #[])) → SqL K H a (ns.map V.int) → sp [.ref a] H (fun v _ => v = .bl true) fun _ _ _ => False) ∧
    ∀ base : Heap, K.In base → base.Ns mainGlobals mg → (∀ p ∈ cs, LamX.TabB base mg p.1 p.2) → FnG l.prog w K mg base CX0 k fa fd [x] sp
theorem walk_TG {l : PySem.W.OpenLaw} {n k : Nat} {q : Program} {loose : List Str} {XP : (Str → Option Value) → Heap → Prop} {YP : World → Heap → Prop} {d : DefRec} {K : Params → PySem.W.Frag} {x : Str}
    (hn : l.most = some n) (hn2 : n ≤ sizeLine) (hdf : d.params.defaults = []) (hr : Room k callerA) (hY : ∀ (w : World) (h : Heap), YP w h → (K w.params).In h)
    (F : ∀ (w : World) (mg : Str → Option Value) (fa : Addr) (h : Heap), YP w h → (K w.params).In h → h.Ns mainGlobals mg → mg d.name = some (.ref fa) → TabsT q (K w.params) h → LawAtG l w (K w.params) k n x mg fa h) :
    PySem.W.WalkO q loose XP YP l.row.toRowW d [] (fun f vs => PySem.call f vs) := by
  refine Att.attach_callB hn hdf fun w s₀ s₁ mg mb fa o pm cd doc a vs ns G Y ho hd hcd hmg hobj hints hlen hbits hg => ?_
  have KX := hY w _ Y
  have tabs : TabsT q (K w.params) s₁.heap := fun x c P h1 h2 => by
    obtain ⟨d', hd'⟩ := Option.isSome_iff_exists.mp h1
    exact PySem.W.tab_of G.T KX hd' h2
  obtain ⟨fd, cs, sp, hT, nT, C, hb, hsp, hF⟩ := F w mg fa _ Y KX G.T.g hmg tabs
  exact law_callG KX G.T.g G.T.b G.T.builtins G.T.nolimit hg hT nT C G.T.bmain hobj hints (Nat.le_trans hlen hn2) fun base H KB GB TB env hH hS =>
    (hF base KB GB TB).run callerA [] s₁ H ⟨[.ref a], []⟩ [.ref a] [V.ref a] _ _ rfl hr env (hb s₁ (.ref a)) (.cons rfl .nil) (hsp H a ns hlen hH hS)
end Ov

set_option Elab.async false
set_option linter.all false
set_option maxRecDepth 100000
set_option maxHeartbeats 4000000
namespace Ov
open PySem PySem.Spec PyProof.Rows L2 GxR
theorem kit_ref {K : PySem.W.Frag} {D C : Addr} {b : Bool} (hi : PySem.W.isClsIn K C = true) (ht : PySem.W.typeIn K (.ref C) = some (.type "type")) (hs : PySem.W.subIn K (.ref D) (.ref C) = some b) (hself : PySem.W.subIn K (.ref C) (.ref C) = some true) : PySem.W.kitOne K (.ref D) (.ref C) = some b := by
  unfold PySem.W.kitOne
  by_cases h : D = C
  · subst h
    rw [hs] at hself
    rw [if_pos (by simp), Option.some.inj hself]
  · rw [if_neg (by simp [h])]
    unfold PySem.W.kitCls
    have hi' : (PySem.W.clsIn K C).isSome = true := hi
    show (if ((PySem.W.clsIn K C).isSome && PySem.W.typeIn K (.ref C) == some (.type "type")) = true then PySem.W.subIn K (.ref D) (.ref C) else none) = some b
    rw [hi', ht, if_pos (by rfl)]
    exact hs
theorem kit_typ {K : PySem.W.Frag} {D : Addr} {T : String} {b : Bool} (hm : PySem.W.kitMeta T = true) (hs : PySem.W.subIn K (.ref D) (.type T) = some b) : PySem.W.kitOne K (.ref D) (.type T) = some b := by
  unfold PySem.W.kitOne
  rw [if_neg (by simp)]
  show (if PySem.W.kitMeta T = true then PySem.W.subIn K (.ref D) (.type T) else none) = some b
  rw [if_pos hm]
  exact hs
theorem fam3 {R : Nat → FuncData → Prop} {a b c : FuncData} (h0 : R 0 a) (h1 : R 1 b) (h2 : R 2 c) : ∃ fd : Nat → FuncData, ∀ i, i < 3 → R i (fd i) :=
  ⟨fun i => match i with | 0 => a | 1 => b | _ => c, fun i hi => match i, hi with | 0, _ => h0 | 1, _ => h1 | 2, _ => h2⟩
theorem all_mk {P : Program} {w : World} {K : PySem.W.Frag} {h : Heap} {mg : Str → Option Value} {fa fLow cLow PLow fText fAre cAre PAre fStrip fOver fInt fTape fNext fInks fDrawn fScene fStripL fSame fPressed fMade fEmp fUndone fSixty fBegun fRight fLaw C fInit pO gO pWi fWi pWo fWo fLen fCl D DN DSp DSg DNum DNo fB pN gN pS gS fKn fCk fCs CP fP fF0 fF1 fF2 fS0 fS1 fS2 b0 b1 b2 b3 fSp fKi cPa fPaI pPsh gPsh pPst gPst fPln fPpr fPkp fPun fPmk fPbk fPtw fIs fPal : Addr} {ocLow kVLow dcLow pmLow ctLow ocText kVText dcText pmText ctText cdText ocAre kVAre dcAre pmAre ctAre ocStrip kVStrip dcStrip pmStrip ctStrip cdStrip ocOver kVOver dcOver pmOver ctOver cdOver ocInt kVInt dcInt pmInt ctInt cdInt ocTape kVTape dcTape pmTape ctTape cdTape ocNext kVNext dcNext pmNext ctNext cdNext ocInks kVInks dcInks pmInks ctInks cdInks ocDrawn kVDrawn dcDrawn pmDrawn ctDrawn cdDrawn ocScene kVScene dcScene pmScene ctScene cdScene ocStripL kVStripL dcStripL pmStripL ctStripL cdStripL ocSame kVSame dcSame pmSame ctSame cdSame ocPressed kVPressed dcPressed pmPressed ctPressed cdPressed ocMade kVMade dcMade pmMade ctMade cdMade ocEmp kVEmp dcEmp pmEmp ctEmp cdEmp ocUndone kVUndone dcUndone pmUndone ctUndone cdUndone ocSixty kVSixty dcSixty pmSixty ctSixty cdSixty ocBegun kVBegun dcBegun pmBegun ctBegun cdBegun ocRight kVRight dcRight pmRight ctRight cdRight ocLaw kVLaw dcLaw pmLaw ctLaw cdLaw ocInit kVInit dcInit pmInit ctInit cdInit ocOf kVOf dcOf pmOf ctOf cdOf ocWi kVWi dcWi pmWi ctWi cdWi ocWo kVWo dcWo pmWo ctWo cdWo ocLen kVLen dcLen pmLen ctLen cdLen ocCl kVCl dcCl pmCl ctCl cdCl ocB kVB dcB pmB ctB cdB ocN kVN dcN pmN ctN cdN ocG kVG dcG pmG ctG cdG ocP kVP dcP pmP ctP cdP ocSp kVSp dcSp pmSp ctSp cdSp ocKi kVKi dcKi pmKi ctKi cdKi ocKn kVKn dcKn pmKn ctKn cdKn ocCk kVCk dcCk pmCk ctCk cdCk ocCs kVCs dcCs pmCs ctCs cdCs ocF0 kVF0 dcF0 pmF0 ctF0 cdF0 ocSt0 kVSt0 dcSt0 pmSt0 ctSt0 cdSt0 ocF1 kVF1 dcF1 pmF1 ctF1 cdF1 ocSt1 kVSt1 dcSt1 pmSt1 ctSt1 cdSt1 ocF2 kVF2 dcF2 pmF2 ctF2 cdF2 ocSt2 kVSt2 dcSt2 pmSt2 ctSt2 cdSt2 ocPaI kVPaI dcPaI pmPaI ctPaI cdPaI ocPsh kVPsh dcPsh pmPsh ctPsh cdPsh ocPst kVPst dcPst pmPst ctPst cdPst ocPln kVPln dcPln pmPln ctPln cdPln ocPpr kVPpr dcPpr pmPpr ctPpr cdPpr ocPkp kVPkp dcPkp pmPkp ctPkp cdPkp ocPun kVPun dcPun pmPun ctPun cdPun ocPmk kVPmk dcPmk pmPmk ctPmk cdPmk ocPbk kVPbk dcPbk pmPbk ctPbk cdPbk ocPtw kVPtw dcPtw pmPtw ctPtw cdPtw ocIs kVIs dcIs pmIs ctIs cdIs ocPal kVPal dcPal pmPal ctPal cdPal : Value} {odLow anLow odText anText odAre anAre odStrip anStrip odOver anOver odInt anInt odTape anTape odNext anNext odInks anInks odDrawn anDrawn odScene anScene odStripL anStripL odSame anSame odPressed anPressed odMade anMade odEmp anEmp odUndone anUndone odSixty anSixty odBegun anBegun odRight anRight odLaw anLaw odInit anInit odOf anOf odWi anWi odWo anWo odLen anLen odCl anCl odB anB odN anN odG anG odP anP odSp anSp odKi anKi odKn anKn odCk anCk odCs anCs odF0 anF0 odSt0 anSt0 odF1 anF1 odSt1 anSt1 odF2 anF2 odSt2 anSt2 odPaI anPaI odPsh anPsh odPst anPst odPln anPln odPpr anPpr odPkp anPkp odPun anPun odPmk anPmk odPbk anPbk odPtw anPtw odIs anIs odPal anPal : Option Addr} {slLow slText slAre slStrip slOver slInt slTape slNext slInks slDrawn slScene slStripL slSame slPressed slMade slEmp slUndone slSixty slBegun slRight slLaw slInit slOf slWi slWo slLen slCl slB slN slG slP slSp slKi slKn slCk slCs slF0 slSt0 slF1 slSt1 slF2 slSt2 slPaI slPsh slPst slPln slPpr slPkp slPun slPmk slPbk slPtw slIs slPal : Array (Option Value)} {tW tM tCells tMost u0 v0 w0 u1 v1 w1 u2 v2 w2 u3 v3 w3 : Tok} {restO restWi restWo restN restS restPsh restPst : List Value}
    (X : K.In h) (G : h.Ns mainGlobals mg) (hfa : mg "law" = some (.ref fa)) (TB0 : PySem.W.CodeHd h cLow PLow ∧ h.get? PLow = some { cls := .none, data := .fields #[] }) (TB1 : PySem.W.CodeHd h cAre PAre ∧ h.get? PAre = some { cls := .none, data := .fields #[] })
    (aLow : PySem.W.nsIn K mainGlobals "is_lowercase" = some (some (.ref fLow)))
    (lLow : K.lookup fLow = some ⟨ocLow, odLow, .func (PySem.W.fnOf "is_lowercase" "is_lowercase" (defArgs sLow) (defBody sLow) (defScope sLow) .none kVLow dcLow pmLow anLow (.ref cLow) ctLow), slLow⟩)
    (coLow : PySem.W.codeIn K (.ref cLow) "is_lowercase" = true)
    (kLow : PySem.W.keepIn K (.ref fLow) = true)
    (nLow : K.lookup PLow = none)
    (aText : PySem.W.nsIn K mainGlobals "is_text" = some (some (.ref fText)))
    (lText : K.lookup fText = some ⟨ocText, odText, .func (PySem.W.fnOf "is_text" "is_text" (defArgs sText) (defBody sText) (defScope sText) .none kVText dcText pmText anText cdText ctText), slText⟩)
    (coText : PySem.W.codeIn K cdText "is_text" = true)
    (kText : PySem.W.keepIn K (.ref fText) = true)
    (aAre : PySem.W.nsIn K mainGlobals "are_stamps" = some (some (.ref fAre)))
    (lAre : K.lookup fAre = some ⟨ocAre, odAre, .func (PySem.W.fnOf "are_stamps" "are_stamps" (defArgs sAre) (defBody sAre) (defScope sAre) .none kVAre dcAre pmAre anAre (.ref cAre) ctAre), slAre⟩)
    (coAre : PySem.W.codeIn K (.ref cAre) "are_stamps" = true)
    (kAre : PySem.W.keepIn K (.ref fAre) = true)
    (nAre : K.lookup PAre = none)
    (aStrip : PySem.W.nsIn K mainGlobals "is_strip" = some (some (.ref fStrip)))
    (lStrip : K.lookup fStrip = some ⟨ocStrip, odStrip, .func (PySem.W.fnOf "is_strip" "is_strip" (defArgs sStrip) (defBody sStrip) (defScope sStrip) .none kVStrip dcStrip pmStrip anStrip cdStrip ctStrip), slStrip⟩)
    (coStrip : PySem.W.codeIn K cdStrip "is_strip" = true)
    (kStrip : PySem.W.keepIn K (.ref fStrip) = true)
    (aOver : PySem.W.nsIn K mainGlobals "over" = some (some (.ref fOver)))
    (lOver : K.lookup fOver = some ⟨ocOver, odOver, .func (PySem.W.fnOf "over" "over" (defArgs sOver) (defBody sOver) (defScope sOver) .none kVOver dcOver pmOver anOver cdOver ctOver), slOver⟩)
    (coOver : PySem.W.codeIn K cdOver "over" = true)
    (kOver : PySem.W.keepIn K (.ref fOver) = true)
    (aInt : PySem.W.nsIn K mainGlobals "is_integer" = some (some (.ref fInt)))
    (lInt : K.lookup fInt = some ⟨ocInt, odInt, .func (PySem.W.fnOf "is_integer" "is_integer" (defArgs sIsInt) (defBody sIsInt) (defScope sIsInt) .none kVInt dcInt pmInt anInt cdInt ctInt), slInt⟩)
    (coInt : PySem.W.codeIn K cdInt "is_integer" = true)
    (kInt : PySem.W.keepIn K (.ref fInt) = true)
    (aTape : PySem.W.nsIn K mainGlobals "_law_stock" = some (some (.ref fTape)))
    (lTape : K.lookup fTape = some ⟨ocTape, odTape, .func (PySem.W.fnOf "_law_stock" "_law_stock" (defArgs sTape) (defBody sTape) (defScope sTape) .none kVTape dcTape pmTape anTape cdTape ctTape), slTape⟩)
    (coTape : PySem.W.codeIn K cdTape "_law_stock" = true)
    (kTape : PySem.W.keepIn K (.ref fTape) = true)
    (aNext : PySem.W.nsIn K mainGlobals "_law_roll" = some (some (.ref fNext)))
    (lNext : K.lookup fNext = some ⟨ocNext, odNext, .func (PySem.W.fnOf "_law_roll" "_law_roll" (defArgs sNext) (defBody sNext) (defScope sNext) .none kVNext dcNext pmNext anNext cdNext ctNext), slNext⟩)
    (coNext : PySem.W.codeIn K cdNext "_law_roll" = true)
    (kNext : PySem.W.keepIn K (.ref fNext) = true)
    (aInks : PySem.W.nsIn K mainGlobals "_law_words" = some (some (.ref fInks)))
    (lInks : K.lookup fInks = some ⟨ocInks, odInks, .func (PySem.W.fnOf "_law_words" "_law_words" (defArgs sInks) (defBody sInks) (defScope sInks) .none kVInks dcInks pmInks anInks cdInks ctInks), slInks⟩)
    (coInks : PySem.W.codeIn K cdInks "_law_words" = true)
    (kInks : PySem.W.keepIn K (.ref fInks) = true)
    (aDrawn : PySem.W.nsIn K mainGlobals "_law_drawn" = some (some (.ref fDrawn)))
    (lDrawn : K.lookup fDrawn = some ⟨ocDrawn, odDrawn, .func (PySem.W.fnOf "_law_drawn" "_law_drawn" (defArgs sDrawn) (defBody sDrawn) (defScope sDrawn) .none kVDrawn dcDrawn pmDrawn anDrawn cdDrawn ctDrawn), slDrawn⟩)
    (coDrawn : PySem.W.codeIn K cdDrawn "_law_drawn" = true)
    (kDrawn : PySem.W.keepIn K (.ref fDrawn) = true)
    (aScene : PySem.W.nsIn K mainGlobals "_law_scene" = some (some (.ref fScene)))
    (lScene : K.lookup fScene = some ⟨ocScene, odScene, .func (PySem.W.fnOf "_law_scene" "_law_scene" (defArgs sScene) (defBody sScene) (defScope sScene) .none kVScene dcScene pmScene anScene cdScene ctScene), slScene⟩)
    (coScene : PySem.W.codeIn K cdScene "_law_scene" = true)
    (kScene : PySem.W.keepIn K (.ref fScene) = true)
    (aStripL : PySem.W.nsIn K mainGlobals "_law_strip" = some (some (.ref fStripL)))
    (lStripL : K.lookup fStripL = some ⟨ocStripL, odStripL, .func (PySem.W.fnOf "_law_strip" "_law_strip" (defArgs sStripL) (defBody sStripL) (defScope sStripL) .none kVStripL dcStripL pmStripL anStripL cdStripL ctStripL), slStripL⟩)
    (coStripL : PySem.W.codeIn K cdStripL "_law_strip" = true)
    (kStripL : PySem.W.keepIn K (.ref fStripL) = true)
    (aSame : PySem.W.nsIn K mainGlobals "_law_same" = some (some (.ref fSame)))
    (lSame : K.lookup fSame = some ⟨ocSame, odSame, .func (PySem.W.fnOf "_law_same" "_law_same" (defArgs sSame) (defBody sSame) (defScope sSame) .none kVSame dcSame pmSame anSame cdSame ctSame), slSame⟩)
    (coSame : PySem.W.codeIn K cdSame "_law_same" = true)
    (kSame : PySem.W.keepIn K (.ref fSame) = true)
    (aPressed : PySem.W.nsIn K mainGlobals "_law_pressed" = some (some (.ref fPressed)))
    (lPressed : K.lookup fPressed = some ⟨ocPressed, odPressed, .func (PySem.W.fnOf "_law_pressed" "_law_pressed" (defArgs sPressed) (defBody sPressed) (defScope sPressed) .none kVPressed dcPressed pmPressed anPressed cdPressed ctPressed), slPressed⟩)
    (coPressed : PySem.W.codeIn K cdPressed "_law_pressed" = true)
    (kPressed : PySem.W.keepIn K (.ref fPressed) = true)
    (aMade : PySem.W.nsIn K mainGlobals "_law_made" = some (some (.ref fMade)))
    (lMade : K.lookup fMade = some ⟨ocMade, odMade, .func (PySem.W.fnOf "_law_made" "_law_made" (defArgs sMadeP) (defBody sMadeP) (defScope sMadeP) .none kVMade dcMade pmMade anMade cdMade ctMade), slMade⟩)
    (coMade : PySem.W.codeIn K cdMade "_law_made" = true)
    (kMade : PySem.W.keepIn K (.ref fMade) = true)
    (aEmp : PySem.W.nsIn K mainGlobals "_law_is_empty" = some (some (.ref fEmp)))
    (lEmp : K.lookup fEmp = some ⟨ocEmp, odEmp, .func (PySem.W.fnOf "_law_is_empty" "_law_is_empty" (defArgs sEmp62) (defBody sEmp62) (defScope sEmp62) .none kVEmp dcEmp pmEmp anEmp cdEmp ctEmp), slEmp⟩)
    (coEmp : PySem.W.codeIn K cdEmp "_law_is_empty" = true)
    (kEmp : PySem.W.keepIn K (.ref fEmp) = true)
    (aUndone : PySem.W.nsIn K mainGlobals "_law_undone" = some (some (.ref fUndone)))
    (lUndone : K.lookup fUndone = some ⟨ocUndone, odUndone, .func (PySem.W.fnOf "_law_undone" "_law_undone" (defArgs sUndone) (defBody sUndone) (defScope sUndone) .none kVUndone dcUndone pmUndone anUndone cdUndone ctUndone), slUndone⟩)
    (coUndone : PySem.W.codeIn K cdUndone "_law_undone" = true)
    (kUndone : PySem.W.keepIn K (.ref fUndone) = true)
    (aSixty : PySem.W.nsIn K mainGlobals "_law_sixty" = some (some (.ref fSixty)))
    (lSixty : K.lookup fSixty = some ⟨ocSixty, odSixty, .func (PySem.W.fnOf "_law_sixty" "_law_sixty" (defArgs sSixty) (defBody sSixty) (defScope sSixty) .none kVSixty dcSixty pmSixty anSixty cdSixty ctSixty), slSixty⟩)
    (coSixty : PySem.W.codeIn K cdSixty "_law_sixty" = true)
    (kSixty : PySem.W.keepIn K (.ref fSixty) = true)
    (aBegun : PySem.W.nsIn K mainGlobals "_law_begun" = some (some (.ref fBegun)))
    (lBegun : K.lookup fBegun = some ⟨ocBegun, odBegun, .func (PySem.W.fnOf "_law_begun" "_law_begun" (defArgs sBegun) (defBody sBegun) (defScope sBegun) .none kVBegun dcBegun pmBegun anBegun cdBegun ctBegun), slBegun⟩)
    (coBegun : PySem.W.codeIn K cdBegun "_law_begun" = true)
    (kBegun : PySem.W.keepIn K (.ref fBegun) = true)
    (aRight : PySem.W.nsIn K mainGlobals "_law_right" = some (some (.ref fRight)))
    (lRight : K.lookup fRight = some ⟨ocRight, odRight, .func (PySem.W.fnOf "_law_right" "_law_right" (defArgs sRight62) (defBody sRight62) (defScope sRight62) .none kVRight dcRight pmRight anRight cdRight ctRight), slRight⟩)
    (coRight : PySem.W.codeIn K cdRight "_law_right" = true)
    (kRight : PySem.W.keepIn K (.ref fRight) = true)
    (aLaw : PySem.W.nsIn K mainGlobals "law" = some (some (.ref fLaw)))
    (lLaw : K.lookup fLaw = some ⟨ocLaw, odLaw, .func (PySem.W.fnOf "law" "law" (defArgs sLaw62) (defBody sLaw62) (defScope sLaw62) .none kVLaw dcLaw pmLaw anLaw cdLaw ctLaw), slLaw⟩)
    (coLaw : PySem.W.codeIn K cdLaw "law" = true)
    (kLaw : PySem.W.keepIn K (.ref fLaw) = true)
    (aWidest : PySem.W.nsIn K mainGlobals "WIDEST" = some (some (.int 8 tW)))
    (aMostL : PySem.W.nsIn K mainGlobals "MOST_LETTERS" = some (some (.int 36 tM)))
    (aCells : PySem.W.nsIn K mainGlobals "MOST_CELLS" = some (some (.int 120 tCells)))
    (aC : PySem.W.nsIn K mainGlobals "Stamps" = some (some (.ref C)))
    (rdS : PySem.W.readsIn K C (.type "type") = true)
    (gaS : PySem.W.specialIn K (.ref C) "__getattribute__" = some (some (.builtin "type.__getattribute__")))
    (pgS : PySem.W.plainGet K C Str.empty = true)
    (hdS : PySem.W.hasDictIn K C = true)
    (poS : PySem.W.plainOver K C = true)
    (saS : PySem.W.findIn K (.ref C) "__setattr__" = some (some (.builtin "object.__setattr__")))
    (mkS : PySem.W.makesIn K C = true)
    (kcS : PySem.W.keepIn K (.ref C) = true)
    (iInit : PySem.W.findIn K (.ref C) "__init__" = some (some (.ref fInit)))
    (jInit : PySem.W.isFn K (.ref fInit) = true)
    (lInit : K.lookup fInit = some ⟨ocInit, odInit, .func (PySem.W.fnOf "__init__" "Stamps.__init__" (defArgs sInit) (defBody sInit) (defScope sInit) .none kVInit dcInit pmInit anInit cdInit ctInit), slInit⟩)
    (coInit : PySem.W.codeIn K cdInit "Stamps.__init__" = true)
    (kInit : PySem.W.keepIn K (.ref fInit) = true)
    (nW : PySem.W.findIn K (.ref C) "_words" = some none)
    (mst : PySem.W.findCls K (.ref C) (.type "type") "MOST" = some (.val (.int 6 tMost)))
    (oAOf : PySem.W.findCls K (.ref C) (.type "type") "of" = some (.get (.builtin "classmethod.__get__") (.ref pO) .none (.ref C)))
    (oROf : PySem.W.recIn K pO "classmethod" = some (.ref gO :: restO))
    (oFOf : PySem.W.fnIn K gO = true)
    (lOf : K.lookup gO = some ⟨ocOf, odOf, .func (PySem.W.fnOf "of" "Stamps.of" (defArgs sOf) (defBody sOf) (defScope sOf) .none kVOf dcOf pmOf anOf cdOf ctOf), slOf⟩)
    (coOf : PySem.W.codeIn K cdOf "Stamps.of" = true)
    (kOf : PySem.W.keepIn K (.ref gO) = true)
    (prWi : PySem.W.findIn K (.ref C) "width" = some (some (.ref pWi)))
    (pGWi : PySem.W.specialIn K (.ref pWi) "__get__" = some (some (.builtin "property.__get__")))
    (ptWi : PySem.W.takesIn K (.ref pWi) = some true)
    (pcWi : PySem.W.recIn K pWi "property" = some (.ref fWi :: restWi))
    (lWi : K.lookup fWi = some ⟨ocWi, odWi, .func (PySem.W.fnOf "width" "Stamps.width" (defArgs sWidth) (defBody sWidth) (defScope sWidth) .none kVWi dcWi pmWi anWi cdWi ctWi), slWi⟩)
    (coWi : PySem.W.codeIn K cdWi "Stamps.width" = true)
    (kWi : PySem.W.keepIn K (.ref fWi) = true)
    (prWo : PySem.W.findIn K (.ref C) "words" = some (some (.ref pWo)))
    (pGWo : PySem.W.specialIn K (.ref pWo) "__get__" = some (some (.builtin "property.__get__")))
    (ptWo : PySem.W.takesIn K (.ref pWo) = some true)
    (pcWo : PySem.W.recIn K pWo "property" = some (.ref fWo :: restWo))
    (lWo : K.lookup fWo = some ⟨ocWo, odWo, .func (PySem.W.fnOf "words" "Stamps.words" (defArgs sWords) (defBody sWords) (defScope sWords) .none kVWo dcWo pmWo anWo cdWo ctWo), slWo⟩)
    (coWo : PySem.W.codeIn K cdWo "Stamps.words" = true)
    (kWo : PySem.W.keepIn K (.ref fWo) = true)
    (dLen : PySem.W.findIn K (.ref C) "__len__" = some (some (.ref fLen)))
    (eLen : PySem.W.isFn K (.ref fLen) = true)
    (lLen : K.lookup fLen = some ⟨ocLen, odLen, .func (PySem.W.fnOf "__len__" "Stamps.__len__" (defArgs sLenI) (defBody sLenI) (defScope sLenI) .none kVLen dcLen pmLen anLen cdLen ctLen), slLen⟩)
    (coLen : PySem.W.codeIn K cdLen "Stamps.__len__" = true)
    (kLen : PySem.W.keepIn K (.ref fLen) = true)
    (dCl : PySem.W.findIn K (.ref C) "__call__" = some (some (.ref fCl)))
    (eCl : PySem.W.isFn K (.ref fCl) = true)
    (lCl : K.lookup fCl = some ⟨ocCl, odCl, .func (PySem.W.fnOf "__call__" "Stamps.__call__" (defArgs sCall) (defBody sCall) (defScope sCall) .none kVCl dcCl pmCl anCl cdCl ctCl), slCl⟩)
    (coCl : PySem.W.codeIn K cdCl "Stamps.__call__" = true)
    (kCl : PySem.W.keepIn K (.ref fCl) = true)
    (cI : PySem.W.fnIn K fCl = true)
    (aD : PySem.W.nsIn K mainGlobals "InvalidStamps" = some (some (.ref D)))
    (xD : PySem.W.excIn K D [.type "ValueError", .type "Exception", .type "BaseException", .type "object"] "ValueError.__new__" = true)
    (kkD : PySem.W.keepIn K (.ref D) = true)
    (bD : PySem.W.subIn K (.ref D) (.type "BaseException") = some true)
    (tyD : PySem.W.typeIn K (.ref D) = some (.type "type"))
    (aDN : PySem.W.nsIn K mainGlobals "InvalidName" = some (some (.ref DN)))
    (xDN : PySem.W.excIn K DN [.type "ValueError", .type "Exception", .type "BaseException", .type "object"] "ValueError.__new__" = true)
    (kkDN : PySem.W.keepIn K (.ref DN) = true)
    (bDN : PySem.W.subIn K (.ref DN) (.type "BaseException") = some true)
    (tyDN : PySem.W.typeIn K (.ref DN) = some (.type "type"))
    (aDSp : PySem.W.nsIn K mainGlobals "InvalidStrip" = some (some (.ref DSp)))
    (xDSp : PySem.W.excIn K DSp [.type "ValueError", .type "Exception", .type "BaseException", .type "object"] "ValueError.__new__" = true)
    (kkDSp : PySem.W.keepIn K (.ref DSp) = true)
    (bDSp : PySem.W.subIn K (.ref DSp) (.type "BaseException") = some true)
    (tyDSp : PySem.W.typeIn K (.ref DSp) = some (.type "type"))
    (aDSg : PySem.W.nsIn K mainGlobals "InvalidStamping" = some (some (.ref DSg)))
    (xDSg : PySem.W.excIn K DSg [.type "ValueError", .type "Exception", .type "BaseException", .type "object"] "ValueError.__new__" = true)
    (kkDSg : PySem.W.keepIn K (.ref DSg) = true)
    (bDSg : PySem.W.subIn K (.ref DSg) (.type "BaseException") = some true)
    (tyDSg : PySem.W.typeIn K (.ref DSg) = some (.type "type"))
    (aDNum : PySem.W.nsIn K mainGlobals "InvalidNumber" = some (some (.ref DNum)))
    (xDNum : PySem.W.excIn K DNum [.type "ValueError", .type "Exception", .type "BaseException", .type "object"] "ValueError.__new__" = true)
    (kkDNum : PySem.W.keepIn K (.ref DNum) = true)
    (bDNum : PySem.W.subIn K (.ref DNum) (.type "BaseException") = some true)
    (tyDNum : PySem.W.typeIn K (.ref DNum) = some (.type "type"))
    (aDNo : PySem.W.nsIn K mainGlobals "NothingToUndo" = some (some (.ref DNo)))
    (xDNo : PySem.W.excIn K DNo [.type "ValueError", .type "Exception", .type "BaseException", .type "object"] "ValueError.__new__" = true)
    (kkDNo : PySem.W.keepIn K (.ref DNo) = true)
    (bDNo : PySem.W.subIn K (.ref DNo) (.type "BaseException") = some true)
    (tyDNo : PySem.W.typeIn K (.ref DNo) = some (.type "type"))
    (e6 : PySem.W.specialIn K (.builtin "object.__class__") "__get__" = some (some (.builtin "getset_descriptor.__get__")))
    (e7 : PySem.W.takesIn K (.builtin "object.__class__") = some true)
    (ab0 : PySem.W.nsIn K mainGlobals "Line" = some (some (.ref b0)))
    (rdB0 : PySem.W.readsIn K b0 (.type "type") = true)
    (gaB0 : PySem.W.specialIn K (.ref b0) "__getattribute__" = some (some (.builtin "type.__getattribute__")))
    (pgB0 : PySem.W.plainGet K b0 Str.empty = true)
    (hdB0 : PySem.W.hasDictIn K b0 = true)
    (poB0 : PySem.W.plainOver K b0 = true)
    (saB0 : PySem.W.findIn K (.ref b0) "__setattr__" = some (some (.builtin "object.__setattr__")))
    (mkB0 : PySem.W.makesIn K b0 = true)
    (kcB0 : PySem.W.keepIn K (.ref b0) = true)
    (eqB0 : PySem.W.findIn K (.ref b0) "__eq__" = some (some (.builtin "object.__eq__")))
    (neB0 : PySem.W.findIn K (.ref b0) "__ne__" = some (some (.builtin "object.__ne__")))
    (soB0 : PySem.W.subIn K (.ref b0) (.type "object") = some true)
    (iB0 : PySem.W.findIn K (.ref b0) "__init__" = some (some (.ref fB)))
    (nS0 : PySem.W.findIn K (.ref b0) "_stamps" = some none)
    (nP0 : PySem.W.findIn K (.ref b0) "pieces" = some none)
    (nm0 : PySem.W.findCls K (.ref b0) (.type "type") "NAME" = some (.val (.str "line" u0)))
    (cn0 : PySem.W.findIn K (.ref b0) "NAME" = some (some (.str "line" v0)))
    (gc0 : PySem.W.specialIn K (.str "line" v0) "__get__" = some none)
    (ce0 : PySem.W.findIn K (.ref b0) "CELLS" = some (some (.int 120 w0)))
    (cg0 : PySem.W.specialIn K (.int 120 w0) "__get__" = some none)
    (nd0 : PySem.W.findCls K (.ref b0) (.type "type") "named" = some (.get (.builtin "classmethod.__get__") (.ref pN) .none (.ref b0)))
    (pr0 : PySem.W.findIn K (.ref b0) "stamps" = some (some (.ref pS)))
    (kn0 : PySem.W.findIn K (.ref b0) "_knows" = some (some (.ref fKn)))
    (ck0 : PySem.W.findIn K (.ref b0) "_check_stamping" = some (some (.ref fCk)))
    (cs0 : PySem.W.findIn K (.ref b0) "check_strip" = some (some (.ref fCs)))
    (hcb0 : PySem.W.findIn K (.ref b0) "__class__" = some (some (.builtin "object.__class__")))
    (hmb0 : PySem.W.mroIn K b0 (.type "object") = some true)
    (icb0 : PySem.W.isClsIn K b0 = true)
    (tyb0 : PySem.W.typeIn K (.ref b0) = some (.type "type"))
    (ab1 : PySem.W.nsIn K mainGlobals "Window" = some (some (.ref b1)))
    (rdB1 : PySem.W.readsIn K b1 (.type "type") = true)
    (gaB1 : PySem.W.specialIn K (.ref b1) "__getattribute__" = some (some (.builtin "type.__getattribute__")))
    (pgB1 : PySem.W.plainGet K b1 Str.empty = true)
    (hdB1 : PySem.W.hasDictIn K b1 = true)
    (poB1 : PySem.W.plainOver K b1 = true)
    (saB1 : PySem.W.findIn K (.ref b1) "__setattr__" = some (some (.builtin "object.__setattr__")))
    (mkB1 : PySem.W.makesIn K b1 = true)
    (kcB1 : PySem.W.keepIn K (.ref b1) = true)
    (eqB1 : PySem.W.findIn K (.ref b1) "__eq__" = some (some (.builtin "object.__eq__")))
    (neB1 : PySem.W.findIn K (.ref b1) "__ne__" = some (some (.builtin "object.__ne__")))
    (soB1 : PySem.W.subIn K (.ref b1) (.type "object") = some true)
    (iB1 : PySem.W.findIn K (.ref b1) "__init__" = some (some (.ref fB)))
    (nS1 : PySem.W.findIn K (.ref b1) "_stamps" = some none)
    (nP1 : PySem.W.findIn K (.ref b1) "pieces" = some none)
    (nm1 : PySem.W.findCls K (.ref b1) (.type "type") "NAME" = some (.val (.str "window" u1)))
    (cn1 : PySem.W.findIn K (.ref b1) "NAME" = some (some (.str "window" v1)))
    (gc1 : PySem.W.specialIn K (.str "window" v1) "__get__" = some none)
    (ce1 : PySem.W.findIn K (.ref b1) "CELLS" = some (some (.int 120 w1)))
    (cg1 : PySem.W.specialIn K (.int 120 w1) "__get__" = some none)
    (nd1 : PySem.W.findCls K (.ref b1) (.type "type") "named" = some (.get (.builtin "classmethod.__get__") (.ref pN) .none (.ref b1)))
    (pr1 : PySem.W.findIn K (.ref b1) "stamps" = some (some (.ref pS)))
    (kn1 : PySem.W.findIn K (.ref b1) "_knows" = some (some (.ref fKn)))
    (ck1 : PySem.W.findIn K (.ref b1) "_check_stamping" = some (some (.ref fCk)))
    (cs1 : PySem.W.findIn K (.ref b1) "check_strip" = some (some (.ref fCs)))
    (hcb1 : PySem.W.findIn K (.ref b1) "__class__" = some (some (.builtin "object.__class__")))
    (hmb1 : PySem.W.mroIn K b1 (.type "object") = some true)
    (icb1 : PySem.W.isClsIn K b1 = true)
    (tyb1 : PySem.W.typeIn K (.ref b1) = some (.type "type"))
    (ab2 : PySem.W.nsIn K mainGlobals "Ring" = some (some (.ref b2)))
    (rdB2 : PySem.W.readsIn K b2 (.type "type") = true)
    (gaB2 : PySem.W.specialIn K (.ref b2) "__getattribute__" = some (some (.builtin "type.__getattribute__")))
    (pgB2 : PySem.W.plainGet K b2 Str.empty = true)
    (hdB2 : PySem.W.hasDictIn K b2 = true)
    (poB2 : PySem.W.plainOver K b2 = true)
    (saB2 : PySem.W.findIn K (.ref b2) "__setattr__" = some (some (.builtin "object.__setattr__")))
    (mkB2 : PySem.W.makesIn K b2 = true)
    (kcB2 : PySem.W.keepIn K (.ref b2) = true)
    (eqB2 : PySem.W.findIn K (.ref b2) "__eq__" = some (some (.builtin "object.__eq__")))
    (neB2 : PySem.W.findIn K (.ref b2) "__ne__" = some (some (.builtin "object.__ne__")))
    (soB2 : PySem.W.subIn K (.ref b2) (.type "object") = some true)
    (iB2 : PySem.W.findIn K (.ref b2) "__init__" = some (some (.ref fB)))
    (nS2 : PySem.W.findIn K (.ref b2) "_stamps" = some none)
    (nP2 : PySem.W.findIn K (.ref b2) "pieces" = some none)
    (nm2 : PySem.W.findCls K (.ref b2) (.type "type") "NAME" = some (.val (.str "ring" u2)))
    (cn2 : PySem.W.findIn K (.ref b2) "NAME" = some (some (.str "ring" v2)))
    (gc2 : PySem.W.specialIn K (.str "ring" v2) "__get__" = some none)
    (ce2 : PySem.W.findIn K (.ref b2) "CELLS" = some (some (.int 60 w2)))
    (cg2 : PySem.W.specialIn K (.int 60 w2) "__get__" = some none)
    (nd2 : PySem.W.findCls K (.ref b2) (.type "type") "named" = some (.get (.builtin "classmethod.__get__") (.ref pN) .none (.ref b2)))
    (pr2 : PySem.W.findIn K (.ref b2) "stamps" = some (some (.ref pS)))
    (kn2 : PySem.W.findIn K (.ref b2) "_knows" = some (some (.ref fKn)))
    (ck2 : PySem.W.findIn K (.ref b2) "_check_stamping" = some (some (.ref fCk)))
    (cs2 : PySem.W.findIn K (.ref b2) "check_strip" = some (some (.ref fCs)))
    (hcb2 : PySem.W.findIn K (.ref b2) "__class__" = some (some (.builtin "object.__class__")))
    (hmb2 : PySem.W.mroIn K b2 (.type "object") = some true)
    (icb2 : PySem.W.isClsIn K b2 = true)
    (tyb2 : PySem.W.typeIn K (.ref b2) = some (.type "type"))
    (ab3 : PySem.W.nsIn K mainGlobals "Band" = some (some (.ref b3)))
    (rdB3 : PySem.W.readsIn K b3 (.type "type") = true)
    (gaB3 : PySem.W.specialIn K (.ref b3) "__getattribute__" = some (some (.builtin "type.__getattribute__")))
    (pgB3 : PySem.W.plainGet K b3 Str.empty = true)
    (hdB3 : PySem.W.hasDictIn K b3 = true)
    (poB3 : PySem.W.plainOver K b3 = true)
    (saB3 : PySem.W.findIn K (.ref b3) "__setattr__" = some (some (.builtin "object.__setattr__")))
    (mkB3 : PySem.W.makesIn K b3 = true)
    (kcB3 : PySem.W.keepIn K (.ref b3) = true)
    (eqB3 : PySem.W.findIn K (.ref b3) "__eq__" = some (some (.builtin "object.__eq__")))
    (neB3 : PySem.W.findIn K (.ref b3) "__ne__" = some (some (.builtin "object.__ne__")))
    (soB3 : PySem.W.subIn K (.ref b3) (.type "object") = some true)
    (iB3 : PySem.W.findIn K (.ref b3) "__init__" = some (some (.ref fB)))
    (nS3 : PySem.W.findIn K (.ref b3) "_stamps" = some none)
    (nP3 : PySem.W.findIn K (.ref b3) "pieces" = some none)
    (nm3 : PySem.W.findCls K (.ref b3) (.type "type") "NAME" = some (.val (.str "" u3)))
    (cn3 : PySem.W.findIn K (.ref b3) "NAME" = some (some (.str "" v3)))
    (gc3 : PySem.W.specialIn K (.str "" v3) "__get__" = some none)
    (ce3 : PySem.W.findIn K (.ref b3) "CELLS" = some (some (.int 120 w3)))
    (cg3 : PySem.W.specialIn K (.int 120 w3) "__get__" = some none)
    (nd3 : PySem.W.findCls K (.ref b3) (.type "type") "named" = some (.get (.builtin "classmethod.__get__") (.ref pN) .none (.ref b3)))
    (pr3 : PySem.W.findIn K (.ref b3) "stamps" = some (some (.ref pS)))
    (kn3 : PySem.W.findIn K (.ref b3) "_knows" = some (some (.ref fKn)))
    (ck3 : PySem.W.findIn K (.ref b3) "_check_stamping" = some (some (.ref fCk)))
    (cs3 : PySem.W.findIn K (.ref b3) "check_strip" = some (some (.ref fCs)))
    (hcb3 : PySem.W.findIn K (.ref b3) "__class__" = some (some (.builtin "object.__class__")))
    (hmb3 : PySem.W.mroIn K b3 (.type "object") = some true)
    (icb3 : PySem.W.isClsIn K b3 = true)
    (tyb3 : PySem.W.typeIn K (.ref b3) = some (.type "type"))
    (jB : PySem.W.isFn K (.ref fB) = true)
    (lB : K.lookup fB = some ⟨ocB, odB, .func (PySem.W.fnOf "__init__" "Band.__init__" (defArgs sBInit) (defBody sBInit) (defScope sBInit) .none kVB dcB pmB anB cdB ctB), slB⟩)
    (coB : PySem.W.codeIn K cdB "Band.__init__" = true)
    (kB : PySem.W.keepIn K (.ref fB) = true)
    (jKn : PySem.W.isFn K (.ref fKn) = true)
    (kKn : PySem.W.keepIn K (.ref fKn) = true)
    (jCs : PySem.W.isFn K (.ref fCs) = true)
    (kCs : PySem.W.keepIn K (.ref fCs) = true)
    (jCk : PySem.W.isFn K (.ref fCk) = true)
    (kCk : PySem.W.keepIn K (.ref fCk) = true)
    (nR : PySem.W.recIn K pN "classmethod" = some (.ref gN :: restN))
    (nF : PySem.W.fnIn K gN = true)
    (lN : K.lookup gN = some ⟨ocN, odN, .func (PySem.W.fnOf "named" "Band.named" (defArgs sNamed) (defBody sNamed) (defScope sNamed) .none kVN dcN pmN anN cdN ctN), slN⟩)
    (coN : PySem.W.codeIn K cdN "Band.named" = true)
    (kN : PySem.W.keepIn K (.ref gN) = true)
    (p1 : PySem.W.specialIn K (.ref pS) "__get__" = some (some (.builtin "property.__get__")))
    (p2 : PySem.W.takesIn K (.ref pS) = some true)
    (p3 : PySem.W.recIn K pS "property" = some (.ref gS :: restS))
    (lG : K.lookup gS = some ⟨ocG, odG, .func (PySem.W.fnOf "stamps" "Band.stamps" (defArgs sStamps) (defBody sStamps) (defScope sStamps) .none kVG dcG pmG anG cdG ctG), slG⟩)
    (coG : PySem.W.codeIn K cdG "Band.stamps" = true)
    (kG : PySem.W.keepIn K (.ref gS) = true)
    (sb00 : PySem.W.subIn K (.ref b0) (.ref b0) = some true)
    (sb01 : PySem.W.subIn K (.ref b0) (.ref b1) = some false)
    (sb02 : PySem.W.subIn K (.ref b0) (.ref b2) = some false)
    (sb03 : PySem.W.subIn K (.ref b0) (.ref b3) = some true)
    (sb10 : PySem.W.subIn K (.ref b1) (.ref b0) = some false)
    (sb11 : PySem.W.subIn K (.ref b1) (.ref b1) = some true)
    (sb12 : PySem.W.subIn K (.ref b1) (.ref b2) = some false)
    (sb13 : PySem.W.subIn K (.ref b1) (.ref b3) = some true)
    (sb20 : PySem.W.subIn K (.ref b2) (.ref b0) = some false)
    (sb21 : PySem.W.subIn K (.ref b2) (.ref b1) = some false)
    (sb22 : PySem.W.subIn K (.ref b2) (.ref b2) = some true)
    (sb23 : PySem.W.subIn K (.ref b2) (.ref b3) = some true)
    (sb30 : PySem.W.subIn K (.ref b3) (.ref b0) = some false)
    (sb31 : PySem.W.subIn K (.ref b3) (.ref b1) = some false)
    (sb32 : PySem.W.subIn K (.ref b3) (.ref b2) = some false)
    (sb33 : PySem.W.subIn K (.ref b3) (.ref b3) = some true)
    (mF0 : PySem.W.findIn K (.ref b0) "fits" = some (some (.ref fF0)))
    (jF0 : PySem.W.isFn K (.ref fF0) = true)
    (kF0_ : PySem.W.keepIn K (.ref fF0) = true)
    (mS0 : PySem.W.findIn K (.ref b0) "stamped" = some (some (.ref fS0)))
    (jS0 : PySem.W.isFn K (.ref fS0) = true)
    (kS0_ : PySem.W.keepIn K (.ref fS0) = true)
    (mF1 : PySem.W.findIn K (.ref b1) "fits" = some (some (.ref fF1)))
    (jF1 : PySem.W.isFn K (.ref fF1) = true)
    (kF1_ : PySem.W.keepIn K (.ref fF1) = true)
    (mS1 : PySem.W.findIn K (.ref b1) "stamped" = some (some (.ref fS1)))
    (jS1 : PySem.W.isFn K (.ref fS1) = true)
    (kS1_ : PySem.W.keepIn K (.ref fS1) = true)
    (mF2 : PySem.W.findIn K (.ref b2) "fits" = some (some (.ref fF2)))
    (jF2 : PySem.W.isFn K (.ref fF2) = true)
    (kF2_ : PySem.W.keepIn K (.ref fF2) = true)
    (mS2 : PySem.W.findIn K (.ref b2) "stamped" = some (some (.ref fS2)))
    (jS2 : PySem.W.isFn K (.ref fS2) = true)
    (kS2_ : PySem.W.keepIn K (.ref fS2) = true)
    (aCP : PySem.W.nsIn K mainGlobals "Pieces" = some (some (.ref CP)))
    (rdP : PySem.W.readsIn K CP (.type "type") = true)
    (gaP : PySem.W.specialIn K (.ref CP) "__getattribute__" = some (some (.builtin "type.__getattribute__")))
    (pgP : PySem.W.plainGet K CP Str.empty = true)
    (hdP : PySem.W.hasDictIn K CP = true)
    (poP : PySem.W.plainOver K CP = true)
    (saP : PySem.W.findIn K (.ref CP) "__setattr__" = some (some (.builtin "object.__setattr__")))
    (mkP : PySem.W.makesIn K CP = true)
    (kcP : PySem.W.keepIn K (.ref CP) = true)
    (iP : PySem.W.findIn K (.ref CP) "__init__" = some (some (.ref fP)))
    (jP : PySem.W.isFn K (.ref fP) = true)
    (lP : K.lookup fP = some ⟨ocP, odP, .func (PySem.W.fnOf "__init__" "Pieces.__init__" (defArgs sPInit) (defBody sPInit) (defScope sPInit) .none kVP dcP pmP anP cdP ctP), slP⟩)
    (coP : PySem.W.codeIn K cdP "Pieces.__init__" = true)
    (kP : PySem.W.keepIn K (.ref fP) = true)
    (nq1 : PySem.W.findIn K (.ref CP) "span" = some none)
    (nq2 : PySem.W.findIn K (.ref CP) "spots" = some none)
    (nq3 : PySem.W.findIn K (.ref CP) "kinds" = some none)
    (aSp : PySem.W.nsIn K mainGlobals "spots_of" = some (some (.ref fSp)))
    (lSp : K.lookup fSp = some ⟨ocSp, odSp, .func (PySem.W.fnOf "spots_of" "spots_of" (defArgs sSpots) (defBody sSpots) (defScope sSpots) .none kVSp dcSp pmSp anSp cdSp ctSp), slSp⟩)
    (coSp : PySem.W.codeIn K cdSp "spots_of" = true)
    (kSp : PySem.W.keepIn K (.ref fSp) = true)
    (aKi : PySem.W.nsIn K mainGlobals "kinds_of" = some (some (.ref fKi)))
    (lKi : K.lookup fKi = some ⟨ocKi, odKi, .func (PySem.W.fnOf "kinds_of" "kinds_of" (defArgs sKinds) (defBody sKinds) (defScope sKinds) .none kVKi dcKi pmKi anKi cdKi ctKi), slKi⟩)
    (coKi : PySem.W.codeIn K cdKi "kinds_of" = true)
    (kKi : PySem.W.keepIn K (.ref fKi) = true)
    (z_enumerate : PySem.W.nsIn K mainGlobals "enumerate" = some none)
    (lKn : K.lookup fKn = some ⟨ocKn, odKn, .func (PySem.W.fnOf "_knows" "Band._knows" (defArgs sKnows) (defBody sKnows) (defScope sKnows) .none kVKn dcKn pmKn anKn cdKn ctKn), slKn⟩)
    (coKn : PySem.W.codeIn K cdKn "Band._knows" = true)
    (lCk : K.lookup fCk = some ⟨ocCk, odCk, .func (PySem.W.fnOf "_check_stamping" "Band._check_stamping" (defArgs sCheck) (defBody sCheck) (defScope sCheck) .none kVCk dcCk pmCk anCk cdCk ctCk), slCk⟩)
    (coCk : PySem.W.codeIn K cdCk "Band._check_stamping" = true)
    (lCs : K.lookup fCs = some ⟨ocCs, odCs, .func (PySem.W.fnOf "check_strip" "Band.check_strip" (defArgs sChkS) (defBody sChkS) (defScope sChkS) .none kVCs dcCs pmCs anCs cdCs ctCs), slCs⟩)
    (coCs : PySem.W.codeIn K cdCs "Band.check_strip" = true)
    (lF0 : K.lookup fF0 = some ⟨ocF0, odF0, .func (PySem.W.fnOf "fits" "Line.fits" (defArgs sLFits) (defBody sLFits) (defScope sLFits) .none kVF0 dcF0 pmF0 anF0 cdF0 ctF0), slF0⟩)
    (coF0 : PySem.W.codeIn K cdF0 "Line.fits" = true)
    (kF0 : PySem.W.keepIn K (.ref fF0) = true)
    (lSt0 : K.lookup fS0 = some ⟨ocSt0, odSt0, .func (PySem.W.fnOf "stamped" "Line.stamped" (defArgs sLStm) (defBody sLStm) (defScope sLStm) .none kVSt0 dcSt0 pmSt0 anSt0 cdSt0 ctSt0), slSt0⟩)
    (coSt0 : PySem.W.codeIn K cdSt0 "Line.stamped" = true)
    (kSt0 : PySem.W.keepIn K (.ref fS0) = true)
    (lF1 : K.lookup fF1 = some ⟨ocF1, odF1, .func (PySem.W.fnOf "fits" "Window.fits" (defArgs sWFits) (defBody sWFits) (defScope sWFits) .none kVF1 dcF1 pmF1 anF1 cdF1 ctF1), slF1⟩)
    (coF1 : PySem.W.codeIn K cdF1 "Window.fits" = true)
    (kF1 : PySem.W.keepIn K (.ref fF1) = true)
    (lSt1 : K.lookup fS1 = some ⟨ocSt1, odSt1, .func (PySem.W.fnOf "stamped" "Window.stamped" (defArgs sWStm) (defBody sWStm) (defScope sWStm) .none kVSt1 dcSt1 pmSt1 anSt1 cdSt1 ctSt1), slSt1⟩)
    (coSt1 : PySem.W.codeIn K cdSt1 "Window.stamped" = true)
    (kSt1 : PySem.W.keepIn K (.ref fS1) = true)
    (lF2 : K.lookup fF2 = some ⟨ocF2, odF2, .func (PySem.W.fnOf "fits" "Ring.fits" (defArgs sRFits) (defBody sRFits) (defScope sRFits) .none kVF2 dcF2 pmF2 anF2 cdF2 ctF2), slF2⟩)
    (coF2 : PySem.W.codeIn K cdF2 "Ring.fits" = true)
    (kF2 : PySem.W.keepIn K (.ref fF2) = true)
    (lSt2 : K.lookup fS2 = some ⟨ocSt2, odSt2, .func (PySem.W.fnOf "stamped" "Ring.stamped" (defArgs sRStm) (defBody sRStm) (defScope sRStm) .none kVSt2 dcSt2 pmSt2 anSt2 cdSt2 ctSt2), slSt2⟩)
    (coSt2 : PySem.W.codeIn K cdSt2 "Ring.stamped" = true)
    (kSt2 : PySem.W.keepIn K (.ref fS2) = true)
    (acPa : PySem.W.nsIn K mainGlobals "Paper" = some (some (.ref cPa)))
    (rdPa : PySem.W.readsIn K cPa (.type "type") = true)
    (gaPa : PySem.W.specialIn K (.ref cPa) "__getattribute__" = some (some (.builtin "type.__getattribute__")))
    (pgPa : PySem.W.plainGet K cPa Str.empty = true)
    (hdPa : PySem.W.hasDictIn K cPa = true)
    (poPa : PySem.W.plainOver K cPa = true)
    (saPa : PySem.W.findIn K (.ref cPa) "__setattr__" = some (some (.builtin "object.__setattr__")))
    (mkPa : PySem.W.makesIn K cPa = true)
    (kcPa : PySem.W.keepIn K (.ref cPa) = true)
    (iPaI : PySem.W.findIn K (.ref cPa) "__init__" = some (some (.ref fPaI)))
    (jPaI : PySem.W.isFn K (.ref fPaI) = true)
    (lPaI : K.lookup fPaI = some ⟨ocPaI, odPaI, .func (PySem.W.fnOf "__init__" "Paper.__init__" (defArgs sPpI) (defBody sPpI) (defScope sPpI) .none kVPaI dcPaI pmPaI anPaI cdPaI ctPaI), slPaI⟩)
    (coPaI : PySem.W.codeIn K cdPaI "Paper.__init__" = true)
    (kPaI : PySem.W.keepIn K (.ref fPaI) = true)
    (nPB : PySem.W.findIn K (.ref cPa) "_band" = some none)
    (nPZ : PySem.W.findIn K (.ref cPa) "_size" = some none)
    (nPP : PySem.W.findIn K (.ref cPa) "_pressed" = some none)
    (nPS : PySem.W.findIn K (.ref cPa) "_strips" = some none)
    (nPM : PySem.W.findIn K (.ref cPa) "_marks" = some none)
    (prPsh : PySem.W.findIn K (.ref cPa) "shown" = some (some (.ref pPsh)))
    (pGPsh : PySem.W.specialIn K (.ref pPsh) "__get__" = some (some (.builtin "property.__get__")))
    (ptPsh : PySem.W.takesIn K (.ref pPsh) = some true)
    (pcPsh : PySem.W.recIn K pPsh "property" = some (.ref gPsh :: restPsh))
    (lPsh : K.lookup gPsh = some ⟨ocPsh, odPsh, .func (PySem.W.fnOf "shown" "Paper.shown" (defArgs sPpSh) (defBody sPpSh) (defScope sPpSh) .none kVPsh dcPsh pmPsh anPsh cdPsh ctPsh), slPsh⟩)
    (coPsh : PySem.W.codeIn K cdPsh "Paper.shown" = true)
    (kPsh : PySem.W.keepIn K (.ref gPsh) = true)
    (prPst : PySem.W.findIn K (.ref cPa) "stampings" = some (some (.ref pPst)))
    (pGPst : PySem.W.specialIn K (.ref pPst) "__get__" = some (some (.builtin "property.__get__")))
    (ptPst : PySem.W.takesIn K (.ref pPst) = some true)
    (pcPst : PySem.W.recIn K pPst "property" = some (.ref gPst :: restPst))
    (lPst : K.lookup gPst = some ⟨ocPst, odPst, .func (PySem.W.fnOf "stampings" "Paper.stampings" (defArgs sPpSt) (defBody sPpSt) (defScope sPpSt) .none kVPst dcPst pmPst anPst cdPst ctPst), slPst⟩)
    (coPst : PySem.W.codeIn K cdPst "Paper.stampings" = true)
    (kPst : PySem.W.keepIn K (.ref gPst) = true)
    (dPln : PySem.W.findIn K (.ref cPa) "__len__" = some (some (.ref fPln)))
    (ePln : PySem.W.isFn K (.ref fPln) = true)
    (lPln : K.lookup fPln = some ⟨ocPln, odPln, .func (PySem.W.fnOf "__len__" "Paper.__len__" (defArgs sPpLn) (defBody sPpLn) (defScope sPpLn) .none kVPln dcPln pmPln anPln cdPln ctPln), slPln⟩)
    (coPln : PySem.W.codeIn K cdPln "Paper.__len__" = true)
    (kPln : PySem.W.keepIn K (.ref fPln) = true)
    (mPpr : PySem.W.findIn K (.ref cPa) "press" = some (some (.ref fPpr)))
    (jPpr : PySem.W.isFn K (.ref fPpr) = true)
    (lPpr : K.lookup fPpr = some ⟨ocPpr, odPpr, .func (PySem.W.fnOf "press" "Paper.press" (defArgs sPpPr) (defBody sPpPr) (defScope sPpPr) .none kVPpr dcPpr pmPpr anPpr cdPpr ctPpr), slPpr⟩)
    (coPpr : PySem.W.codeIn K cdPpr "Paper.press" = true)
    (kPpr : PySem.W.keepIn K (.ref fPpr) = true)
    (mPkp : PySem.W.findIn K (.ref cPa) "_keep" = some (some (.ref fPkp)))
    (jPkp : PySem.W.isFn K (.ref fPkp) = true)
    (lPkp : K.lookup fPkp = some ⟨ocPkp, odPkp, .func (PySem.W.fnOf "_keep" "Paper._keep" (defArgs sPpK) (defBody sPpK) (defScope sPpK) .none kVPkp dcPkp pmPkp anPkp cdPkp ctPkp), slPkp⟩)
    (coPkp : PySem.W.codeIn K cdPkp "Paper._keep" = true)
    (kPkp : PySem.W.keepIn K (.ref fPkp) = true)
    (mPun : PySem.W.findIn K (.ref cPa) "undo" = some (some (.ref fPun)))
    (jPun : PySem.W.isFn K (.ref fPun) = true)
    (lPun : K.lookup fPun = some ⟨ocPun, odPun, .func (PySem.W.fnOf "undo" "Paper.undo" (defArgs sPpU) (defBody sPpU) (defScope sPpU) .none kVPun dcPun pmPun anPun cdPun ctPun), slPun⟩)
    (coPun : PySem.W.codeIn K cdPun "Paper.undo" = true)
    (kPun : PySem.W.keepIn K (.ref fPun) = true)
    (mPmk : PySem.W.findIn K (.ref cPa) "mark" = some (some (.ref fPmk)))
    (jPmk : PySem.W.isFn K (.ref fPmk) = true)
    (lPmk : K.lookup fPmk = some ⟨ocPmk, odPmk, .func (PySem.W.fnOf "mark" "Paper.mark" (defArgs sPpMk) (defBody sPpMk) (defScope sPpMk) .none kVPmk dcPmk pmPmk anPmk cdPmk ctPmk), slPmk⟩)
    (coPmk : PySem.W.codeIn K cdPmk "Paper.mark" = true)
    (kPmk : PySem.W.keepIn K (.ref fPmk) = true)
    (mPbk : PySem.W.findIn K (.ref cPa) "undo_to" = some (some (.ref fPbk)))
    (jPbk : PySem.W.isFn K (.ref fPbk) = true)
    (lPbk : K.lookup fPbk = some ⟨ocPbk, odPbk, .func (PySem.W.fnOf "undo_to" "Paper.undo_to" (defArgs sPpBk) (defBody sPpBk) (defScope sPpBk) .none kVPbk dcPbk pmPbk anPbk cdPbk ctPbk), slPbk⟩)
    (coPbk : PySem.W.codeIn K cdPbk "Paper.undo_to" = true)
    (kPbk : PySem.W.keepIn K (.ref fPbk) = true)
    (mPtw : PySem.W.findIn K (.ref cPa) "twin" = some (some (.ref fPtw)))
    (jPtw : PySem.W.isFn K (.ref fPtw) = true)
    (lPtw : K.lookup fPtw = some ⟨ocPtw, odPtw, .func (PySem.W.fnOf "twin" "Paper.twin" (defArgs sPpTw) (defBody sPpTw) (defScope sPpTw) .none kVPtw dcPtw pmPtw anPtw cdPtw ctPtw), slPtw⟩)
    (coPtw : PySem.W.codeIn K cdPtw "Paper.twin" = true)
    (kPtw : PySem.W.keepIn K (.ref fPtw) = true)
    (eqPa : PySem.W.findIn K (.ref cPa) "__eq__" = some (some (.builtin "object.__eq__")))
    (nePa : PySem.W.findIn K (.ref cPa) "__ne__" = some (some (.builtin "object.__ne__")))
    (soPa : PySem.W.subIn K (.ref cPa) (.type "object") = some true)
    (mIs0 : PySem.W.findIn K (.ref b0) "is_stamping" = some (some (.ref fIs)))
    (mIs1 : PySem.W.findIn K (.ref b1) "is_stamping" = some (some (.ref fIs)))
    (mIs2 : PySem.W.findIn K (.ref b2) "is_stamping" = some (some (.ref fIs)))
    (jIs : PySem.W.isFn K (.ref fIs) = true)
    (lIs : K.lookup fIs = some ⟨ocIs, odIs, .func (PySem.W.fnOf "is_stamping" "Band.is_stamping" (defArgs sIsS) (defBody sIsS) (defScope sIsS) .none kVIs dcIs pmIs anIs cdIs ctIs), slIs⟩)
    (coIs : PySem.W.codeIn K cdIs "Band.is_stamping" = true)
    (kIs : PySem.W.keepIn K (.ref fIs) = true)
    (mPal : PySem.W.findIn K (.ref cPa) "press_all" = some (some (.ref fPal)))
    (jPal : PySem.W.isFn K (.ref fPal) = true)
    (lPal : K.lookup fPal = some ⟨ocPal, odPal, .func (PySem.W.fnOf "press_all" "Paper.press_all" (defArgs sPpAll) (defBody sPpAll) (defScope sPpAll) .none kVPal dcPal pmPal anPal cdPal ctPal), slPal⟩)
    (coPal : PySem.W.codeIn K cdPal "Paper.press_all" = true)
    (kPal : PySem.W.keepIn K (.ref fPal) = true)
    (u4DNo : PySem.W.hasDictIn K DNo = true)
    (snDNo_DNo : PySem.W.subIn K (.ref DNo) (.ref DNo) = some true)
    (gfPal : PySem.W.specialIn K (.ref fPal) "__get__" = some (some (.builtin "function.__get__")))
    (tkPal : PySem.W.takesIn K (.ref fPal) = some false)
    (fiPal : PySem.W.fnIn K fPal = true)
    (z_all : PySem.W.nsIn K mainGlobals "all" = some none)
    (z_len : PySem.W.nsIn K mainGlobals "len" = some none)
    (z_isinstance : PySem.W.nsIn K mainGlobals "isinstance" = some none)
    (z_str : PySem.W.nsIn K mainGlobals "str" = some none)
    (z_list : PySem.W.nsIn K mainGlobals "list" = some none)
    (z_set : PySem.W.nsIn K mainGlobals "set" = some none)
    (z_abs : PySem.W.nsIn K mainGlobals "abs" = some none)
    (z_max : PySem.W.nsIn K mainGlobals "max" = some none)
    (z_min : PySem.W.nsIn K mainGlobals "min" = some none)
    (z_range : PySem.W.nsIn K mainGlobals "range" = some none)
    (z_int : PySem.W.nsIn K mainGlobals "int" = some none)
    (z_bool : PySem.W.nsIn K mainGlobals "bool" = some none)
    (z_repr : PySem.W.nsIn K mainGlobals "repr" = some none)
    (z_tuple : PySem.W.nsIn K mainGlobals "tuple" = some none) (l : PySem.W.OpenLaw) (hl : l.prog = P) :
    LawAtG l w K 13 63 "script" mg fa h := by
  subst hl
  have ee := hfa.symm.trans (PySem.W.mg_of X G aLaw)
  cases ee
  have FLow : FunC K "is_lowercase" "is_lowercase" sLow fLow _ cLow := funC_mk lLow coLow kLow
  have FText := fun_mk (st := sText) lText coText kText
  have FAre : FunC K "are_stamps" "are_stamps" sAre fAre _ cAre := funC_mk lAre coAre kAre
  have FStrip := fun_mk (st := sStrip) lStrip coStrip kStrip
  have FOver := fun_mk (st := sOver) lOver coOver kOver
  have FInt := fun_mk (st := sIsInt) lInt coInt kInt
  have FTape := fun_mk (st := sTape) lTape coTape kTape
  have FNext := fun_mk (st := sNext) lNext coNext kNext
  have FInks := fun_mk (st := sInks) lInks coInks kInks
  have FDrawn := fun_mk (st := sDrawn) lDrawn coDrawn kDrawn
  have FScene := fun_mk (st := sScene) lScene coScene kScene
  have FStripL := fun_mk (st := sStripL) lStripL coStripL kStripL
  have FSame := fun_mk (st := sSame) lSame coSame kSame
  have FPressed := fun_mk (st := sPressed) lPressed coPressed kPressed
  have FMade := fun_mk (st := sMadeP) lMade coMade kMade
  have FEmp := fun_mk (st := sEmp62) lEmp coEmp kEmp
  have FUndone := fun_mk (st := sUndone) lUndone coUndone kUndone
  have FSixty := fun_mk (st := sSixty) lSixty coSixty kSixty
  have FBegun := fun_mk (st := sBegun) lBegun coBegun kBegun
  have FRight := fun_mk (st := sRight62) lRight coRight kRight
  have FLaw := fun_mk (st := sLaw62) lLaw coLaw kLaw
  have FInit := fun_mk (st := sInit) lInit coInit kInit
  have FOf := fun_mk (st := sOf) lOf coOf kOf
  have FWi := fun_mk (st := sWidth) lWi coWi kWi
  have FWo := fun_mk (st := sWords) lWo coWo kWo
  have FLen := fun_mk (st := sLenI) lLen coLen kLen
  have FCl := fun_mk (st := sCall) lCl coCl kCl
  have FB := fun_mk (st := sBInit) lB coB kB
  have FN := fun_mk (st := sNamed) lN coN kN
  have FG := fun_mk (st := sStamps) lG coG kG
  have FP := fun_mk (st := sPInit) lP coP kP
  have FSp := fun_mk (st := sSpots) lSp coSp kSp
  have FKi := fun_mk (st := sKinds) lKi coKi kKi
  have FKn := fun_mk (st := sKnows) lKn coKn kKn
  have FCk := fun_mk (st := sCheck) lCk coCk kCk
  have FCs := fun_mk (st := sChkS) lCs coCs kCs
  have FF0 := fun_mk (st := sLFits) lF0 coF0 kF0
  have FSt0 := fun_mk (st := sLStm) lSt0 coSt0 kSt0
  have FF1 := fun_mk (st := sWFits) lF1 coF1 kF1
  have FSt1 := fun_mk (st := sWStm) lSt1 coSt1 kSt1
  have FF2 := fun_mk (st := sRFits) lF2 coF2 kF2
  have FSt2 := fun_mk (st := sRStm) lSt2 coSt2 kSt2
  have FPaI := fun_mk (st := sPpI) lPaI coPaI kPaI
  have FPsh := fun_mk (st := sPpSh) lPsh coPsh kPsh
  have FPst := fun_mk (st := sPpSt) lPst coPst kPst
  have FPln := fun_mk (st := sPpLn) lPln coPln kPln
  have FPpr := fun_mk (st := sPpPr) lPpr coPpr kPpr
  have FPkp := fun_mk (st := sPpK) lPkp coPkp kPkp
  have FPun := fun_mk (st := sPpU) lPun coPun kPun
  have FPmk := fun_mk (st := sPpMk) lPmk coPmk kPmk
  have FPbk := fun_mk (st := sPpBk) lPbk coPbk kPbk
  have FPtw := fun_mk (st := sPpTw) lPtw coPtw kPtw
  have FIs := fun_mk (st := sIsS) lIs coIs kIs
  have FPal := fun_mk (st := sPpAll) lPal coPal kPal
  have X' : Txt K mg C fLow fText fAre fTape fNext fInks := ⟨(PySem.W.mg_none_of X G z_all), (PySem.W.mg_none_of X G z_len), (PySem.W.mg_none_of X G z_isinstance), (PySem.W.mg_none_of X G z_str), (PySem.W.mg_none_of X G z_list), (PySem.W.mg_none_of X G z_set), (PySem.W.mg_none_of X G z_abs), (PySem.W.mg_none_of X G z_max), (PySem.W.mg_none_of X G z_min), (PySem.W.mg_none_of X G z_range),
    (PySem.W.mg_of X G aTape), kTape, (PySem.W.mg_of X G aNext), kNext, (PySem.W.mg_of X G aInks), kInks, (PySem.W.mg_of X G aLow), kLow, (PySem.W.mg_of X G aText), kText, (PySem.W.mg_of X G aAre), kAre, (PySem.W.mg_of X G aC), ⟨_, (PySem.W.mg_of X G aWidest)⟩, ⟨_, (PySem.W.mg_of X G aMostL)⟩, ⟨rdS, gaS⟩, ⟨_, mst, ⟨_, rfl⟩⟩⟩
  have XT2 : Txt2 K mg fStrip fOver := ⟨(PySem.W.mg_of X G aStrip), kStrip, (PySem.W.mg_of X G aOver), kOver, ⟨_, (PySem.W.mg_of X G aCells)⟩⟩
  let BAv : BA := ⟨fun i => match i with | 0 => b0 | 1 => b1 | 2 => b2 | _ => b3, (fun i => match i with | 0 => fF0 | 1 => fF1 | _ => fF2), (fun i => match i with | 0 => fS0 | 1 => fS1 | _ => fS2), fB, pN, gN, pS, gS, fKn, fCk, CP, fP, fSp, fKi, fCs⟩
  have BB : Bds K mg BAv := by
    refine ⟨fun i hi => ?_, fun i j hi hj => ?_, fun i j hi hj => ?_, e6, e7, fun i hi => ?_, fun i hi => ?_, (PySem.W.mg_of X G aCP), ⟨mkP, iP, jP, kcP⟩, ⟨⟨pgP, hdP, poP, saP⟩, nq1, nq2, nq3⟩, ⟨(PySem.W.mg_of X G aSp), kSp, (PySem.W.mg_of X G aKi), kKi, (PySem.W.mg_none_of X G z_enumerate)⟩⟩
    · match i, hi with
      | 0, _ => exact ⟨(PySem.W.mg_of X G ab0), ⟨mkB0, iB0, jB, kcB0⟩, ⟨pgB0, hdB0, poB0, saB0⟩, ⟨eqB0, neB0, soB0⟩, nS0, nP0, ⟨rdB0, gaB0⟩, ⟨_, nm0, ⟨_, rfl⟩⟩, ⟨_, cn0, ⟨_, rfl⟩, gc0, by decide +kernel⟩, ⟨_, ce0, ⟨_, rfl⟩, cg0, by decide +kernel⟩, ⟨nd0, ⟨_, nR⟩, nF⟩, ⟨pr0, p1, p2, ⟨_, p3⟩⟩, hcb0, hmb0, ⟨kn0, jKn, kKn⟩, ⟨ck0, jCk, kCk⟩, ⟨cs0, jCs, kCs⟩⟩
      | 1, _ => exact ⟨(PySem.W.mg_of X G ab1), ⟨mkB1, iB1, jB, kcB1⟩, ⟨pgB1, hdB1, poB1, saB1⟩, ⟨eqB1, neB1, soB1⟩, nS1, nP1, ⟨rdB1, gaB1⟩, ⟨_, nm1, ⟨_, rfl⟩⟩, ⟨_, cn1, ⟨_, rfl⟩, gc1, by decide +kernel⟩, ⟨_, ce1, ⟨_, rfl⟩, cg1, by decide +kernel⟩, ⟨nd1, ⟨_, nR⟩, nF⟩, ⟨pr1, p1, p2, ⟨_, p3⟩⟩, hcb1, hmb1, ⟨kn1, jKn, kKn⟩, ⟨ck1, jCk, kCk⟩, ⟨cs1, jCs, kCs⟩⟩
      | 2, _ => exact ⟨(PySem.W.mg_of X G ab2), ⟨mkB2, iB2, jB, kcB2⟩, ⟨pgB2, hdB2, poB2, saB2⟩, ⟨eqB2, neB2, soB2⟩, nS2, nP2, ⟨rdB2, gaB2⟩, ⟨_, nm2, ⟨_, rfl⟩⟩, ⟨_, cn2, ⟨_, rfl⟩, gc2, by decide +kernel⟩, ⟨_, ce2, ⟨_, rfl⟩, cg2, by decide +kernel⟩, ⟨nd2, ⟨_, nR⟩, nF⟩, ⟨pr2, p1, p2, ⟨_, p3⟩⟩, hcb2, hmb2, ⟨kn2, jKn, kKn⟩, ⟨ck2, jCk, kCk⟩, ⟨cs2, jCs, kCs⟩⟩
      | 3, _ => exact ⟨(PySem.W.mg_of X G ab3), ⟨mkB3, iB3, jB, kcB3⟩, ⟨pgB3, hdB3, poB3, saB3⟩, ⟨eqB3, neB3, soB3⟩, nS3, nP3, ⟨rdB3, gaB3⟩, ⟨_, nm3, ⟨_, rfl⟩⟩, ⟨_, cn3, ⟨_, rfl⟩, gc3, by decide +kernel⟩, ⟨_, ce3, ⟨_, rfl⟩, cg3, by decide +kernel⟩, ⟨nd3, ⟨_, nR⟩, nF⟩, ⟨pr3, p1, p2, ⟨_, p3⟩⟩, hcb3, hmb3, ⟨kn3, jKn, kKn⟩, ⟨ck3, jCk, kCk⟩, ⟨cs3, jCs, kCs⟩⟩
    · match i, j, hi, hj with
      | 0, 0, _, _ => exact kit_ref icb0 tyb0 sb00 sb00
      | 0, 1, _, _ => exact kit_ref icb1 tyb1 sb01 sb11
      | 0, 2, _, _ => exact kit_ref icb2 tyb2 sb02 sb22
      | 0, 3, _, _ => exact kit_ref icb3 tyb3 sb03 sb33
      | 1, 0, _, _ => exact kit_ref icb0 tyb0 sb10 sb00
      | 1, 1, _, _ => exact kit_ref icb1 tyb1 sb11 sb11
      | 1, 2, _, _ => exact kit_ref icb2 tyb2 sb12 sb22
      | 1, 3, _, _ => exact kit_ref icb3 tyb3 sb13 sb33
      | 2, 0, _, _ => exact kit_ref icb0 tyb0 sb20 sb00
      | 2, 1, _, _ => exact kit_ref icb1 tyb1 sb21 sb11
      | 2, 2, _, _ => exact kit_ref icb2 tyb2 sb22 sb22
      | 2, 3, _, _ => exact kit_ref icb3 tyb3 sb23 sb33
      | 3, 0, _, _ => exact kit_ref icb0 tyb0 sb30 sb00
      | 3, 1, _, _ => exact kit_ref icb1 tyb1 sb31 sb11
      | 3, 2, _, _ => exact kit_ref icb2 tyb2 sb32 sb22
      | 3, 3, _, _ => exact kit_ref icb3 tyb3 sb33 sb33
    · match i, j, hi, hj with
      | 0, 0, _, _ => exact sb00
      | 0, 1, _, _ => exact sb01
      | 0, 2, _, _ => exact sb02
      | 0, 3, _, _ => exact sb03
      | 1, 0, _, _ => exact sb10
      | 1, 1, _, _ => exact sb11
      | 1, 2, _, _ => exact sb12
      | 1, 3, _, _ => exact sb13
      | 2, 0, _, _ => exact sb20
      | 2, 1, _, _ => exact sb21
      | 2, 2, _, _ => exact sb22
      | 2, 3, _, _ => exact sb23
      | 3, 0, _, _ => exact sb30
      | 3, 1, _, _ => exact sb31
      | 3, 2, _, _ => exact sb32
      | 3, 3, _, _ => exact sb33
    · match i, hi with
      | 0, _ => exact ⟨mF0, jF0, kF0_⟩
      | 1, _ => exact ⟨mF1, jF1, kF1_⟩
      | 2, _ => exact ⟨mF2, jF2, kF2_⟩
    · match i, hi with
      | 0, _ => exact ⟨mS0, jS0, kS0_⟩
      | 1, _ => exact ⟨mS1, jS1, kS1_⟩
      | 2, _ => exact ⟨mS2, jS2, kS2_⟩
  have Er : ErrC K mg "InvalidStamps" D := ⟨xD, (PySem.W.mg_of X G aD), kkD, bD, tyD⟩
  have En : ErrC K mg "InvalidName" DN := ⟨xDN, (PySem.W.mg_of X G aDN), kkDN, bDN, tyDN⟩
  have Esp : ErrC K mg "InvalidStrip" DSp := ⟨xDSp, (PySem.W.mg_of X G aDSp), kkDSp, bDSp, tyDSp⟩
  have Esg : ErrC K mg "InvalidStamping" DSg := ⟨xDSg, (PySem.W.mg_of X G aDSg), kkDSg, bDSg, tyDSg⟩
  have Enu : ErrC K mg "InvalidNumber" DNum := ⟨xDNum, (PySem.W.mg_of X G aDNum), kkDNum, bDNum, tyDNum⟩
  have Eno : ErrC K mg "NothingToUndo" DNo := ⟨xDNo, (PySem.W.mg_of X G aDNo), kkDNo, bDNo, tyDNo⟩
  let PAv : PpA := ⟨cPa, fPaI, pPsh, gPsh, pPst, gPst, fPln, fPpr, fInt⟩
  have Y : PpK K mg PAv := ⟨(PySem.W.mg_of X G acPa), ⟨mkPa, iPaI, jPaI, kcPa⟩, ⟨pgPa, hdPa, poPa, saPa⟩, nPB, nPZ, nPP, nPS, nPM, ⟨prPsh, pGPsh, ptPsh, ⟨_, pcPsh⟩⟩, ⟨prPst, pGPst, ptPst, ⟨_, pcPst⟩⟩, ⟨dPln, ePln⟩, ⟨mPpr, jPpr, kPpr⟩, (PySem.W.mg_of X G aInt), kInt, (PySem.W.mg_none_of X G z_int), (PySem.W.mg_none_of X G z_bool)⟩
  have UU : PpKU K PAv fPkp fPun := ⟨⟨mPkp, jPkp, kPkp⟩, ⟨mPun, jPun, kPun⟩⟩
  have UM : PpKM K PAv fPmk fPbk fPtw := ⟨⟨mPmk, jPmk, kPmk⟩, ⟨mPbk, jPbk, kPbk⟩, ⟨mPtw, jPtw, kPtw⟩⟩
  have XS : TopS K mg fDrawn fScene fStripL := ⟨(PySem.W.mg_of X G aDrawn), kDrawn, (PySem.W.mg_of X G aScene), kScene, (PySem.W.mg_of X G aStripL), kStripL, (PySem.W.mg_none_of X G z_int), (PySem.W.mg_none_of X G z_enumerate), (PySem.W.mg_none_of X G z_repr)⟩
  have X2 : TopS2 K mg fSame fPressed := ⟨(PySem.W.mg_of X G aSame), kSame, (PySem.W.mg_of X G aPressed), kPressed⟩
  have KA : PpKA K mg PAv BAv fIs fPal := ⟨fun i hi => by
    match i, hi with
    | 0, _ => exact ⟨mIs0, jIs, kIs⟩
    | 1, _ => exact ⟨mIs1, jIs, kIs⟩
    | 2, _ => exact ⟨mIs2, jIs, kIs⟩, ⟨mPal, jPal, kPal⟩, (PySem.W.mg_none_of X G z_tuple)⟩
  have X5 : TopS5 K mg fMade := ⟨(PySem.W.mg_of X G aMade), kMade⟩
  have XE : TopE K mg fEmp fUndone fSixty := ⟨(PySem.W.mg_of X G aEmp), kEmp, (PySem.W.mg_of X G aUndone), kUndone, (PySem.W.mg_of X G aSixty), kSixty⟩
  have XF : TopF K mg fBegun fRight := ⟨(PySem.W.mg_of X G aBegun), kBegun, (PySem.W.mg_of X G aRight), kRight⟩
  have BM : BMeth K PAv.c "press_all" fPal := ⟨⟨mPal, jPal, kPal⟩, gfPal, tkPal, by decide +kernel, fiPal⟩
  have exN : PySem.W.exmOne K (.ref DNo) (.ref DNo) = some true := (PySem.W.exm_ref bDNo u4DNo tyDNo snDNo_DNo)
  refine ⟨PySem.W.fnOf "law" "law" (defArgs sLaw62) (defBody sLaw62) (defScope sLaw62) .none kVLaw dcLaw pmLaw anLaw cdLaw ctLaw, [(cLow, PLow), (cAre, PAre)], spLaw62 K [PLow, PAre], fun p hp => ?_, fun p hp => ?_, fun p hp => ?_, fun s u => .of_eq rfl, fun H a ns hn hH hS => ?_, fun base KB GB TB => ?_⟩
  · simp only [List.mem_cons, List.not_mem_nil, or_false] at hp
    rcases hp with rfl | rfl
    · exact TB0.2
    · exact TB1.2
  · simp only [List.mem_cons, List.not_mem_nil, or_false] at hp
    rcases hp with rfl | rfl
    · exact nLow
    · exact nAre
  · simp only [List.mem_cons, List.not_mem_nil, or_false] at hp
    rcases hp with rfl | rfl
    · exact TB0.1
    · exact TB1.1
  · refine ⟨a, ns, rfl, fun p hp => ?_, hS, hn, fun _ => rfl⟩
    have tr : TriplesOk (#[] : Array Value).toList := by first | trivial | simp [TriplesOk] | exact ⟨⟩
    simp only [List.mem_cons, List.not_mem_nil, or_false] at hp
    rcases hp with rfl | rfl
    · exact ⟨#[], hH (cLow, _) (by simp), tr⟩
    · exact ⟨#[], hH (cAre, _) (by simp), tr⟩
  · have TTB : ∀ c P', (c, P') ∈ ([(cLow, PLow), (cAre, PAre)] : List (Addr × Addr)) → TabB base mg c P' := fun c P' hm => (fun (z : LamX.TabB base mg c P') => ⟨z.code, z.bm, z.gP⟩) (TB (c, P') hm)
    have Tb : Tab base mg [PLow, PAre] cLow PLow cAre PAre := ⟨TTB cLow PLow (by simp), TTB cAre PAre (by simp), by simp, by simp⟩
    have O : Own K C := ⟨⟨pgS, hdS, poS, saS⟩, nW⟩
    have M : Mk K C fInit := ⟨mkS, iInit, jInit, kcS⟩
    have co : ClX.CMet K C (.type "type") "of" pO gO := ⟨oAOf, ⟨_, oROf⟩, oFOf⟩
    have pwo : PropOf K C "words" pWo fWo := ⟨prWo, pGWo, ptWo, ⟨_, pcWo⟩⟩
    have pwi : PropOf K C "width" pWi fWi := ⟨prWi, pGWi, ptWi, ⟨_, pcWi⟩⟩
    have LO : LenO K C fLen := ⟨dLen, eLen⟩
    have FI1 := ok_init (P := l.prog) (w := w) FInit FAre FText FLow X' Tb O Er
    have OO := ok_of FOf FI1 M X' Er
    have FI0 : FnOk l.prog w K mg base CX0 4 BAv.fB _ ["self", "stamps"] (spBInit K C BAv) := ok_binit FB FWo FP FSp FKi X' O pwo BB
    have NN := ok_named (P := l.prog) (w := w) (base := base) FN FB FI0 BB En
    have T0 := ok_lfits (P := l.prog) (w := w) (base := base) (B := BAv) FF0 FKn FLen FWi X' O pwi BB LO
    have T1 := ok_wfits (P := l.prog) (w := w) (base := base) (B := BAv) FF1 FKn FLen FWi X' O pwi BB LO
    have T2 := ok_rfits (P := l.prog) (w := w) (base := base) (B := BAv) FF2 FKn FLen FWi X' O pwi BB LO
    obtain ⟨fdf, hF⟩ := fam3 (R := fun i fd => Binds K fd ["self", "size", "word", "place"] [] ∧ FnOk l.prog w K mg base CX0 4 (BAv.ff i) fd ["self", "size", "word", "place"] (spFits C BAv i)) ⟨FF0.binds (fun _ _ _ _ _ _ us hl => match us, hl with | [_, _, _, _], _ => rfl), T0⟩ ⟨FF1.binds (fun _ _ _ _ _ _ us hl => match us, hl with | [_, _, _, _], _ => rfl), T1⟩ ⟨FF2.binds (fun _ _ _ _ _ _ us hl => match us, hl with | [_, _, _, _], _ => rfl), T2⟩
    have CL := ok_call (P := l.prog) (w := w) FCl FStrip FLow FOver FWi X' XT2 Tb O pwi Esp Esg
    have D1 := ok_chks (P := l.prog) (w := w) (base := base) (B := BAv) (i := 1) (by decide) FCs FStrip FLow X' XT2 Tb BB Esp
    have D2 := ok_chks (P := l.prog) (w := w) (base := base) (B := BAv) (i := 2) (by decide) FCs FStrip FLow X' XT2 Tb BB Esp
    have C1 := ok_check (B := BAv) (i := 1) (by decide) FCk FCs D1 T1 (FF1.binds (fun _ _ _ _ _ _ us hl => match us, hl with | [_, _, _, _], _ => rfl)) X' BB Esg
    have C2 := ok_check (B := BAv) (i := 2) (by decide) FCk FCs D2 T2 (FF2.binds (fun _ _ _ _ _ _ us hl => match us, hl with | [_, _, _, _], _ => rfl)) X' BB Esg
    have bC : Binds K _ ["self", "strip", "word", "place"] [] := FCk.binds (fun _ _ _ _ _ _ us hl => match us, hl with | [_, _, _, _], _ => rfl)
    have S0 := ok_lstm (B := BAv) FSt0 FCl CL BB ⟨dCl, eCl, cI⟩
    have S1 := ok_wstm (B := BAv) FSt1 C1 bC FOver FWo X' XT2 O pwo BB
    have S2 := ok_rstm (B := BAv) FSt2 C2 bC FOver FWo X' XT2 O pwo BB
    obtain ⟨fds, hS⟩ := fam3 (R := fun i fd => Binds K fd ["self", "strip", "word", "place"] [] ∧ FnOk l.prog w K mg base (L2.CX l.prog w) 7 (BAv.fs i) fd ["self", "strip", "word", "place"] (spStm K [PLow, PAre] C BAv DSp DSg i)) ⟨FSt0.binds (fun _ _ _ _ _ _ us hl => match us, hl with | [_, _, _, _], _ => rfl), S0⟩ ⟨FSt1.binds (fun _ _ _ _ _ _ us hl => match us, hl with | [_, _, _, _], _ => rfl), S1⟩ ⟨FSt2.binds (fun _ _ _ _ _ _ us hl => match us, hl with | [_, _, _, _], _ => rfl), S2⟩
    have PR := ok_press (A := PAv) FPpr FPsh hF hS X' Y BB Esg
    have SA := ok_same (P := l.prog) (w := w) (base := base) (A := PAv) (B := BAv) (C := C) (T := [PLow, PAre]) FSame FPsh FPst FPln FStripL X' XS Y
    have PD := ok_pressed FPressed FDrawn FNext FPpr PR X' XS Y
    have UN := ok_ppu (P := l.prog) (w := w) (base := base) (A := PAv) (B := BAv) (C := C) (T := [PLow, PAre]) FPun FPkp X' Y UU Eno
    have hI : ∀ i, i < 3 → FnOk l.prog w K mg base CX0 5 fIs _ ["self", "size", "thing"] (spIsS C BAv i) := fun i hi => ok_iss hi FIs FInt hF X' Y BB KA
    have AL := ok_all (T := [PLow, PAre]) FPal hI (FIs.binds (fun _ _ _ _ _ _ us hl => match us, hl with | [_, _, _], _ => rfl)) FPpr PR Y BB KA Esg
    have MD := ok_madep (T := [PLow, PAre]) FMade FOf FN FPaI FInt OO NN BB X' Y Enu co
    have EM := ok_emp62 (T := [PLow, PAre]) FEmp FPun UN FPsh FPst FPln X' Y UU Eno exN
    have UD := ok_undone FUndone FPun UN FSame SA X2 Y UU X'
    have SX := ok_sixty FSixty AL Y BM
    have BG := ok_begun FBegun FNext FDrawn FPressed PD FSame SA FSixty SX X' XS X2 XE
    have RI := ok_right62 FRight FMade MD FEmp EM FBegun BG FPtw FPaI FInt FUndone UD FPressed PD FSame SA BB X' X2 X5 XE XF Y UM Enu
    exact ok_law62 FLaw FTape FNext FInks FScene FRight RI X' XS XF
end Ov

set_option Elab.async false
set_option linter.all false
set_option maxRecDepth 100000
set_option maxHeartbeats 2000000
/-! a Hook whose defs are found by a path, with one Bool for all other facts -/
namespace Ov
open PySem PySem.Spec PyProof.Rows L2
structure DefP where
  at_ : PySem.W.Frag → Addr
  name : Str
  qual : Str
  params : Arguments
  body : List Stmt
  scope : Scope
def fnWP (K : PySem.W.Frag) (a : Addr) : He.FnW := match K.lookup a with
  | some ⟨_, _, .func fd, _⟩ => some (fd.name, fd.qualname, fd.params, fd.body, fd.scope, fd.globals, fd.closure, fd.builtins)
  | _ => none
def DefP.val (d : DefP) : He.FnW := some (d.name, d.qual, d.params, .stmts d.body, d.scope, mainGlobals, [], builtinsNs)
def DefP.ok (K : PySem.W.Frag) (d : DefP) : Bool := PySem.W.keepIn K (.ref (d.at_ K)) && (match K.lookup (d.at_ K) with
  | some ⟨_, _, .func fd, _⟩ => PySem.W.codeIn K fd.code d.qual && He.dflB K fd.defaults []
  | _ => false)
theorem DefP.look {K : PySem.W.Frag} {d : DefP} (e : fnWP K (d.at_ K) = d.val) (c : d.ok K = true) : ∃ oc od kV dc pm an cd ct sl, K.lookup (d.at_ K) = some ⟨oc, od, .func (PySem.W.fnOf d.name d.qual d.params d.body d.scope .none kV dc pm an cd ct), sl⟩ ∧ PySem.W.codeIn K cd d.qual = true ∧ PySem.W.keepIn K (.ref (d.at_ K)) = true := by
  obtain ⟨kp, c2⟩ := He.ba c
  unfold fnWP at e
  cases q : K.lookup (d.at_ K) with
  | none =>
    rw [q] at c2
    cases c2
  | some o =>
    obtain ⟨oc, od, dt, osl⟩ := o
    rw [q] at c2 e
    cases dt with
    | func fd =>
      obtain ⟨n1, n2, n3, n4, n5, n6, n7, n8, n9, n10, n11, n12, n13, n14, n15⟩ := fd
      have e2 : (some (n1, n2, n3, n4, n5, n6, n7, n15) : He.FnW) = some (d.name, d.qual, d.params, .stmts d.body, d.scope, mainGlobals, [], builtinsNs) := e
      simp only [Option.some.injEq, Prod.mk.injEq] at e2
      obtain ⟨h1, h2, h3, h4, h5, h6, h7, h8⟩ := e2
      subst h1 h2 h3 h4 h5 h6 h7 h8
      obtain ⟨k1, k2⟩ := He.ba (show (PySem.W.codeIn K n13 d.qual && He.dflB K n8 []) = true from c2)
      have hn : n8 = .none := by
        cases n8 with
        | none => rfl
        | _ => cases k2
      subst hn
      exact ⟨oc, od, n9, n10, n11, n12, n13, n14, osl, rfl, k1, kp⟩
    | _ => cases c2
/-! ### the Hook -/
abbrev TabP : Type := PySem.W.Frag → Addr × Addr
structure SaysP (fn : List DefP) (tf : List TabP) (ex : PySem.W.Frag → Bool) (h : Heap) (K : PySem.W.Frag) : Prop where
  ok : (fn.all fun d => d.ok K) = true
  defs : (fn.map fun d => fnWP K (d.at_ K)) = fn.map DefP.val
  more : ex K = true
  hd : ∀ p ∈ tf, PySem.W.codeHdIn K (p K).1 (p K).2 = true
  out : ∀ p ∈ tf, K.lookup (p K).2 = none
  empty : ∀ p ∈ tf, h.get? (p K).2 = some { cls := .none, data := .fields #[] }
abbrev AlP : Type := (Bool × List He.FnW) × Bool
def tabsP (g : Addr → Option Obj) (tf : List TabP) (K : PySem.W.Frag) : Bool := tf.all fun p => PySem.W.codeHdIn K (p K).1 (p K).2 && (match g (p K).2 with
  | some o => He.emptyTab o
  | none => false)
def obsP (as : List Addr) (fn : List DefP) (tf : List TabP) (ex : PySem.W.Frag → Bool) (g : Addr → Option Obj) : AlP :=
  (((fn.all fun d => d.ok (He.frT g (as))), fn.map fun d => fnWP (He.frT g (as)) (d.at_ (He.frT g (as)))), ex (He.frT g (as)) && tabsP g tf (He.frT g (as)))
def valP (fn : List DefP) : AlP := ((true, fn.map DefP.val), true)
theorem saysP_of {as : List Addr} {fn : List DefP} {tf : List TabP} {ex : PySem.W.Frag → Bool} {h : Heap} (e : obsP as fn tf ex h.get? = valP fn) : SaysP fn tf ex h (He.frT h.get? as) := by
  have e1 := congrArg (fun z : AlP => z.1.1) e
  have e2 := congrArg (fun z : AlP => z.1.2) e
  have e3 : (ex (He.frT h.get? as) && tabsP h.get? tf (He.frT h.get? as)) = true := congrArg (fun z : AlP => z.2) e
  obtain ⟨h1, h2⟩ := He.ba e3
  have key : ∀ p ∈ tf, PySem.W.codeHdIn (He.frT h.get? as) (p (He.frT h.get? as)).1 (p (He.frT h.get? as)).2 = true ∧ ∃ o, h.get? (p (He.frT h.get? as)).2 = some o ∧ He.emptyTab o = true := fun p hp => by
    obtain ⟨h3, h4⟩ := He.ba (List.all_eq_true.mp h2 p hp)
    refine ⟨h3, ?_⟩
    cases q : h.get? (p (He.frT h.get? as)).2 with
    | none =>
      rw [q] at h4
      cases h4
    | some o =>
      rw [q] at h4
      exact ⟨o, rfl, h4⟩
  exact ⟨e1, e2, h1, fun p hp => (key p hp).1, fun p hp => by
    obtain ⟨_, o, q, z⟩ := key p hp
    exact He.frT_none q z, fun p hp => by
    obtain ⟨_, o, q, z⟩ := key p hp
    rw [q, He.emptyTab_eq z]⟩
def hookP (as : List Addr) (fn : List DefP) (tf : List TabP) (ex : PySem.W.Frag → Bool) : PySem.W.Hook where
  α := AlP
  obs := fun s => obsP as fn tf ex s.heap.get?
  val := fun _ => valP fn
  says := fun _ h => ∃ K : PySem.W.Frag, K.In h ∧ SaysP fn tf ex h K
  of := fun _ _ e => ⟨_, He.frT_in, saysP_of e⟩
  keeps := fun _ _ _ ⟨K, hK, c⟩ k => ⟨K, PySem.W.Frag.In.keeps hK k, ⟨c.ok, c.defs, c.more, c.hd, c.out, fun p hp => k _ _ (c.empty p hp)⟩⟩
theorem obsP_eq {as : List Addr} {fn : List DefP} {tf : List TabP} {ex : PySem.W.Frag → Bool} {g : Addr → Option Obj} {s : Shared} (h : ∀ a, g a = s.heap.get? a) : obsP as fn tf ex g = (hookP as fn tf ex).obs s := by
  have e : g = s.heap.get? := funext h
  rw [e] <;> rfl
theorem SaysP.def_ {fn : List DefP} {tf : List TabP} {ex : PySem.W.Frag → Bool} {h : Heap} {K : PySem.W.Frag} (c : SaysP fn tf ex h K) (i : Nat) {d : DefP} (hi : fn[i]? = some d := by rfl) :
    ∃ oc od kV dc pm an cd ct sl, K.lookup (d.at_ K) = some ⟨oc, od, .func (PySem.W.fnOf d.name d.qual d.params d.body d.scope .none kV dc pm an cd ct), sl⟩ ∧ PySem.W.codeIn K cd d.qual = true ∧ PySem.W.keepIn K (.ref (d.at_ K)) = true := by
  have e2 : (fn.map fun d => fnWP K (d.at_ K))[i]? = (fn.map DefP.val)[i]? := by rw [c.defs]
  rw [List.getElem?_map, List.getElem?_map, hi] at e2
  exact DefP.look (Option.some.inj e2) (List.all_eq_true.mp c.ok d (List.mem_of_getElem? hi))
instance : DecidableEq PySem.W.CFound := fun a b => match a, b with
  | .val x, .val y => if h : x = y then isTrue (by rw [h]) else isFalse (fun e => h (by injection e))
  | .get a b c d, .get a' b' c' d' => if h : a = a' ∧ b = b' ∧ c = c' ∧ d = d' then isTrue (by obtain ⟨rfl, rfl, rfl, rfl⟩ := h; rfl) else isFalse (fun e => h (by injection e with h1 h2 h3 h4; exact ⟨h1, h2, h3, h4⟩))
  | .val _, .get _ _ _ _ => isFalse (fun e => by cases e)
  | .get _ _ _ _, .val _ => isFalse (fun e => by cases e)
/-! ### code objects, lists of facts -/
def codeP (K : PySem.W.Frag) (a : Addr) : Addr := match K.lookup a with
  | some ⟨_, _, .func fd, _⟩ => (match fd.code with
    | .ref c => c
    | _ => 0)
  | _ => 0
theorem codeP_eq {K : PySem.W.Frag} {a : Addr} {oc : Value} {od : Option Addr} {fd : FuncData} {sl : Array (Option Value)} {q : Str} (lk : K.lookup a = some ⟨oc, od, .func fd, sl⟩) (co : PySem.W.codeIn K fd.code q = true) : fd.code = .ref (codeP K a) := by
  obtain ⟨c, e⟩ := He.codeIn_ref co
  unfold codeP
  rw [lk]
  show fd.code = .ref (match fd.code with | .ref c => c | _ => 0)
  rw [e]
theorem all_at {l : List Bool} (h : l.all id = true) (i : Nat) {b : Bool} (e : l[i]? = some b) : b = true := List.all_eq_true.mp h b (List.mem_of_getElem? e)
/-- the walk: the written part comes from the Hook -/
theorem walk_TGP {l : PySem.W.OpenLaw} {n k : Nat} {q : Program} {loose : List Str} {XP : (Str → Option Value) → Heap → Prop} {YP : World → Heap → Prop} {d : DefRec} {x : Str}
    (hn : l.most = some n) (hn2 : n ≤ sizeLine) (hdf : d.params.defaults = []) (hr : Room k callerA)
    (F : ∀ (w : World) (mg : Str → Option Value) (fa : Addr) (h : Heap), YP w h → h.Ns mainGlobals mg → mg d.name = some (.ref fa) → ∃ K : PySem.W.Frag, K.In h ∧ LawAtG l w K k n x mg fa h) :
    PySem.W.WalkO q loose XP YP l.row.toRowW d [] (fun f vs => PySem.call f vs) := by
  refine Att.attach_callB hn hdf fun w s₀ s₁ mg mb fa o pm cd doc a vs ns G Y ho hd hcd hmg hobj hints hlen hbits hg => ?_
  obtain ⟨K, KX, fd, cs, sp, hT, nT, C, hb, hsp, hF⟩ := F w mg fa _ Y G.T.g hmg
  exact law_callG KX G.T.g G.T.b G.T.builtins G.T.nolimit hg hT nT C G.T.bmain hobj hints (Nat.le_trans hlen hn2) fun base H KB GB TB env hH hS =>
    (hF base KB GB TB).run callerA [] s₁ H ⟨[.ref a], []⟩ [.ref a] [V.ref a] _ _ rfl hr env (hb s₁ (.ref a)) (.cons rfl .nil) (hsp H a ns hlen hH hS)
end Ov

set_option Elab.async false
set_option linter.all false
set_option maxRecDepth 100000
set_option maxHeartbeats 0
namespace Ov
open PySem PySem.Spec PyProof.Rows L2 GxR
def q_fLow (K : PySem.W.Frag) : Addr := match PySem.W.nsIn K mainGlobals "is_lowercase" with
  | some (some (.ref z)) => z
  | _ => default
def q_fText (K : PySem.W.Frag) : Addr := match PySem.W.nsIn K mainGlobals "is_text" with
  | some (some (.ref z)) => z
  | _ => default
def q_fAre (K : PySem.W.Frag) : Addr := match PySem.W.nsIn K mainGlobals "are_stamps" with
  | some (some (.ref z)) => z
  | _ => default
def q_fStrip (K : PySem.W.Frag) : Addr := match PySem.W.nsIn K mainGlobals "is_strip" with
  | some (some (.ref z)) => z
  | _ => default
def q_fOver (K : PySem.W.Frag) : Addr := match PySem.W.nsIn K mainGlobals "over" with
  | some (some (.ref z)) => z
  | _ => default
def q_fInt (K : PySem.W.Frag) : Addr := match PySem.W.nsIn K mainGlobals "is_integer" with
  | some (some (.ref z)) => z
  | _ => default
def q_fTape (K : PySem.W.Frag) : Addr := match PySem.W.nsIn K mainGlobals "_law_stock" with
  | some (some (.ref z)) => z
  | _ => default
def q_fNext (K : PySem.W.Frag) : Addr := match PySem.W.nsIn K mainGlobals "_law_roll" with
  | some (some (.ref z)) => z
  | _ => default
def q_fInks (K : PySem.W.Frag) : Addr := match PySem.W.nsIn K mainGlobals "_law_words" with
  | some (some (.ref z)) => z
  | _ => default
def q_fDrawn (K : PySem.W.Frag) : Addr := match PySem.W.nsIn K mainGlobals "_law_drawn" with
  | some (some (.ref z)) => z
  | _ => default
def q_fScene (K : PySem.W.Frag) : Addr := match PySem.W.nsIn K mainGlobals "_law_scene" with
  | some (some (.ref z)) => z
  | _ => default
def q_fStripL (K : PySem.W.Frag) : Addr := match PySem.W.nsIn K mainGlobals "_law_strip" with
  | some (some (.ref z)) => z
  | _ => default
def q_fSame (K : PySem.W.Frag) : Addr := match PySem.W.nsIn K mainGlobals "_law_same" with
  | some (some (.ref z)) => z
  | _ => default
def q_fPressed (K : PySem.W.Frag) : Addr := match PySem.W.nsIn K mainGlobals "_law_pressed" with
  | some (some (.ref z)) => z
  | _ => default
def q_fMade (K : PySem.W.Frag) : Addr := match PySem.W.nsIn K mainGlobals "_law_made" with
  | some (some (.ref z)) => z
  | _ => default
def q_fEmp (K : PySem.W.Frag) : Addr := match PySem.W.nsIn K mainGlobals "_law_is_empty" with
  | some (some (.ref z)) => z
  | _ => default
def q_fUndone (K : PySem.W.Frag) : Addr := match PySem.W.nsIn K mainGlobals "_law_undone" with
  | some (some (.ref z)) => z
  | _ => default
def q_fSixty (K : PySem.W.Frag) : Addr := match PySem.W.nsIn K mainGlobals "_law_sixty" with
  | some (some (.ref z)) => z
  | _ => default
def q_fBegun (K : PySem.W.Frag) : Addr := match PySem.W.nsIn K mainGlobals "_law_begun" with
  | some (some (.ref z)) => z
  | _ => default
def q_fRight (K : PySem.W.Frag) : Addr := match PySem.W.nsIn K mainGlobals "_law_right" with
  | some (some (.ref z)) => z
  | _ => default
def q_fLaw (K : PySem.W.Frag) : Addr := match PySem.W.nsIn K mainGlobals "law" with
  | some (some (.ref z)) => z
  | _ => default
def q_tW (K : PySem.W.Frag) : Tok := match PySem.W.nsIn K mainGlobals "WIDEST" with
  | some (some (.int _ z)) => z
  | _ => default
def q_tM (K : PySem.W.Frag) : Tok := match PySem.W.nsIn K mainGlobals "MOST_LETTERS" with
  | some (some (.int _ z)) => z
  | _ => default
def q_tCells (K : PySem.W.Frag) : Tok := match PySem.W.nsIn K mainGlobals "MOST_CELLS" with
  | some (some (.int _ z)) => z
  | _ => default
def q_C (K : PySem.W.Frag) : Addr := match PySem.W.nsIn K mainGlobals "Stamps" with
  | some (some (.ref z)) => z
  | _ => default
def q_fInit (K : PySem.W.Frag) : Addr := match PySem.W.findIn K (.ref (q_C K)) "__init__" with
  | some (some (.ref z)) => z
  | _ => default
def q_tMost (K : PySem.W.Frag) : Tok := match PySem.W.findCls K (.ref (q_C K)) (.type "type") "MOST" with
  | some (.val (.int _ z)) => z
  | _ => default
def q_pO (K : PySem.W.Frag) : Addr := match PySem.W.findCls K (.ref (q_C K)) (.type "type") "of" with
  | some (.get (.builtin _) (.ref z) .none (.ref _)) => z
  | _ => default
def q_gO (K : PySem.W.Frag) : Addr := match PySem.W.recIn K (q_pO K) "classmethod" with
  | some (.ref z :: _) => z
  | _ => default
def q_restO (K : PySem.W.Frag) : List Value := match PySem.W.recIn K (q_pO K) "classmethod" with
  | some (.ref _ :: z) => z
  | _ => default
def q_pWi (K : PySem.W.Frag) : Addr := match PySem.W.findIn K (.ref (q_C K)) "width" with
  | some (some (.ref z)) => z
  | _ => default
def q_fWi (K : PySem.W.Frag) : Addr := match PySem.W.recIn K (q_pWi K) "property" with
  | some (.ref z :: _) => z
  | _ => default
def q_restWi (K : PySem.W.Frag) : List Value := match PySem.W.recIn K (q_pWi K) "property" with
  | some (.ref _ :: z) => z
  | _ => default
def q_pWo (K : PySem.W.Frag) : Addr := match PySem.W.findIn K (.ref (q_C K)) "words" with
  | some (some (.ref z)) => z
  | _ => default
def q_fWo (K : PySem.W.Frag) : Addr := match PySem.W.recIn K (q_pWo K) "property" with
  | some (.ref z :: _) => z
  | _ => default
def q_restWo (K : PySem.W.Frag) : List Value := match PySem.W.recIn K (q_pWo K) "property" with
  | some (.ref _ :: z) => z
  | _ => default
def q_fLen (K : PySem.W.Frag) : Addr := match PySem.W.findIn K (.ref (q_C K)) "__len__" with
  | some (some (.ref z)) => z
  | _ => default
def q_fCl (K : PySem.W.Frag) : Addr := match PySem.W.findIn K (.ref (q_C K)) "__call__" with
  | some (some (.ref z)) => z
  | _ => default
def q_D (K : PySem.W.Frag) : Addr := match PySem.W.nsIn K mainGlobals "InvalidStamps" with
  | some (some (.ref z)) => z
  | _ => default
def q_DN (K : PySem.W.Frag) : Addr := match PySem.W.nsIn K mainGlobals "InvalidName" with
  | some (some (.ref z)) => z
  | _ => default
def q_DSp (K : PySem.W.Frag) : Addr := match PySem.W.nsIn K mainGlobals "InvalidStrip" with
  | some (some (.ref z)) => z
  | _ => default
def q_DSg (K : PySem.W.Frag) : Addr := match PySem.W.nsIn K mainGlobals "InvalidStamping" with
  | some (some (.ref z)) => z
  | _ => default
def q_DNum (K : PySem.W.Frag) : Addr := match PySem.W.nsIn K mainGlobals "InvalidNumber" with
  | some (some (.ref z)) => z
  | _ => default
def q_DNo (K : PySem.W.Frag) : Addr := match PySem.W.nsIn K mainGlobals "NothingToUndo" with
  | some (some (.ref z)) => z
  | _ => default
def q_b0 (K : PySem.W.Frag) : Addr := match PySem.W.nsIn K mainGlobals "Line" with
  | some (some (.ref z)) => z
  | _ => default
def q_fB (K : PySem.W.Frag) : Addr := match PySem.W.findIn K (.ref (q_b0 K)) "__init__" with
  | some (some (.ref z)) => z
  | _ => default
def q_u0 (K : PySem.W.Frag) : Tok := match PySem.W.findCls K (.ref (q_b0 K)) (.type "type") "NAME" with
  | some (.val (.str _ z)) => z
  | _ => default
def q_v0 (K : PySem.W.Frag) : Tok := match PySem.W.findIn K (.ref (q_b0 K)) "NAME" with
  | some (some (.str _ z)) => z
  | _ => default
def q_w0 (K : PySem.W.Frag) : Tok := match PySem.W.findIn K (.ref (q_b0 K)) "CELLS" with
  | some (some (.int _ z)) => z
  | _ => default
def q_pN (K : PySem.W.Frag) : Addr := match PySem.W.findCls K (.ref (q_b0 K)) (.type "type") "named" with
  | some (.get (.builtin _) (.ref z) .none (.ref _)) => z
  | _ => default
def q_pS (K : PySem.W.Frag) : Addr := match PySem.W.findIn K (.ref (q_b0 K)) "stamps" with
  | some (some (.ref z)) => z
  | _ => default
def q_fKn (K : PySem.W.Frag) : Addr := match PySem.W.findIn K (.ref (q_b0 K)) "_knows" with
  | some (some (.ref z)) => z
  | _ => default
def q_fCk (K : PySem.W.Frag) : Addr := match PySem.W.findIn K (.ref (q_b0 K)) "_check_stamping" with
  | some (some (.ref z)) => z
  | _ => default
def q_fCs (K : PySem.W.Frag) : Addr := match PySem.W.findIn K (.ref (q_b0 K)) "check_strip" with
  | some (some (.ref z)) => z
  | _ => default
def q_b1 (K : PySem.W.Frag) : Addr := match PySem.W.nsIn K mainGlobals "Window" with
  | some (some (.ref z)) => z
  | _ => default
def q_u1 (K : PySem.W.Frag) : Tok := match PySem.W.findCls K (.ref (q_b1 K)) (.type "type") "NAME" with
  | some (.val (.str _ z)) => z
  | _ => default
def q_v1 (K : PySem.W.Frag) : Tok := match PySem.W.findIn K (.ref (q_b1 K)) "NAME" with
  | some (some (.str _ z)) => z
  | _ => default
def q_w1 (K : PySem.W.Frag) : Tok := match PySem.W.findIn K (.ref (q_b1 K)) "CELLS" with
  | some (some (.int _ z)) => z
  | _ => default
def q_b2 (K : PySem.W.Frag) : Addr := match PySem.W.nsIn K mainGlobals "Ring" with
  | some (some (.ref z)) => z
  | _ => default
def q_u2 (K : PySem.W.Frag) : Tok := match PySem.W.findCls K (.ref (q_b2 K)) (.type "type") "NAME" with
  | some (.val (.str _ z)) => z
  | _ => default
def q_v2 (K : PySem.W.Frag) : Tok := match PySem.W.findIn K (.ref (q_b2 K)) "NAME" with
  | some (some (.str _ z)) => z
  | _ => default
def q_w2 (K : PySem.W.Frag) : Tok := match PySem.W.findIn K (.ref (q_b2 K)) "CELLS" with
  | some (some (.int _ z)) => z
  | _ => default
def q_b3 (K : PySem.W.Frag) : Addr := match PySem.W.nsIn K mainGlobals "Band" with
  | some (some (.ref z)) => z
  | _ => default
def q_u3 (K : PySem.W.Frag) : Tok := match PySem.W.findCls K (.ref (q_b3 K)) (.type "type") "NAME" with
  | some (.val (.str _ z)) => z
  | _ => default
def q_v3 (K : PySem.W.Frag) : Tok := match PySem.W.findIn K (.ref (q_b3 K)) "NAME" with
  | some (some (.str _ z)) => z
  | _ => default
def q_w3 (K : PySem.W.Frag) : Tok := match PySem.W.findIn K (.ref (q_b3 K)) "CELLS" with
  | some (some (.int _ z)) => z
  | _ => default
def q_gN (K : PySem.W.Frag) : Addr := match PySem.W.recIn K (q_pN K) "classmethod" with
  | some (.ref z :: _) => z
  | _ => default
def q_restN (K : PySem.W.Frag) : List Value := match PySem.W.recIn K (q_pN K) "classmethod" with
  | some (.ref _ :: z) => z
  | _ => default
def q_gS (K : PySem.W.Frag) : Addr := match PySem.W.recIn K (q_pS K) "property" with
  | some (.ref z :: _) => z
  | _ => default
def q_restS (K : PySem.W.Frag) : List Value := match PySem.W.recIn K (q_pS K) "property" with
  | some (.ref _ :: z) => z
  | _ => default
def q_fF0 (K : PySem.W.Frag) : Addr := match PySem.W.findIn K (.ref (q_b0 K)) "fits" with
  | some (some (.ref z)) => z
  | _ => default
def q_fS0 (K : PySem.W.Frag) : Addr := match PySem.W.findIn K (.ref (q_b0 K)) "stamped" with
  | some (some (.ref z)) => z
  | _ => default
def q_fF1 (K : PySem.W.Frag) : Addr := match PySem.W.findIn K (.ref (q_b1 K)) "fits" with
  | some (some (.ref z)) => z
  | _ => default
def q_fS1 (K : PySem.W.Frag) : Addr := match PySem.W.findIn K (.ref (q_b1 K)) "stamped" with
  | some (some (.ref z)) => z
  | _ => default
def q_fF2 (K : PySem.W.Frag) : Addr := match PySem.W.findIn K (.ref (q_b2 K)) "fits" with
  | some (some (.ref z)) => z
  | _ => default
def q_fS2 (K : PySem.W.Frag) : Addr := match PySem.W.findIn K (.ref (q_b2 K)) "stamped" with
  | some (some (.ref z)) => z
  | _ => default
def q_CP (K : PySem.W.Frag) : Addr := match PySem.W.nsIn K mainGlobals "Pieces" with
  | some (some (.ref z)) => z
  | _ => default
def q_fP (K : PySem.W.Frag) : Addr := match PySem.W.findIn K (.ref (q_CP K)) "__init__" with
  | some (some (.ref z)) => z
  | _ => default
def q_fSp (K : PySem.W.Frag) : Addr := match PySem.W.nsIn K mainGlobals "spots_of" with
  | some (some (.ref z)) => z
  | _ => default
def q_fKi (K : PySem.W.Frag) : Addr := match PySem.W.nsIn K mainGlobals "kinds_of" with
  | some (some (.ref z)) => z
  | _ => default
def q_cPa (K : PySem.W.Frag) : Addr := match PySem.W.nsIn K mainGlobals "Paper" with
  | some (some (.ref z)) => z
  | _ => default
def q_fPaI (K : PySem.W.Frag) : Addr := match PySem.W.findIn K (.ref (q_cPa K)) "__init__" with
  | some (some (.ref z)) => z
  | _ => default
def q_pPsh (K : PySem.W.Frag) : Addr := match PySem.W.findIn K (.ref (q_cPa K)) "shown" with
  | some (some (.ref z)) => z
  | _ => default
def q_gPsh (K : PySem.W.Frag) : Addr := match PySem.W.recIn K (q_pPsh K) "property" with
  | some (.ref z :: _) => z
  | _ => default
def q_restPsh (K : PySem.W.Frag) : List Value := match PySem.W.recIn K (q_pPsh K) "property" with
  | some (.ref _ :: z) => z
  | _ => default
def q_pPst (K : PySem.W.Frag) : Addr := match PySem.W.findIn K (.ref (q_cPa K)) "stampings" with
  | some (some (.ref z)) => z
  | _ => default
def q_gPst (K : PySem.W.Frag) : Addr := match PySem.W.recIn K (q_pPst K) "property" with
  | some (.ref z :: _) => z
  | _ => default
def q_restPst (K : PySem.W.Frag) : List Value := match PySem.W.recIn K (q_pPst K) "property" with
  | some (.ref _ :: z) => z
  | _ => default
def q_fPln (K : PySem.W.Frag) : Addr := match PySem.W.findIn K (.ref (q_cPa K)) "__len__" with
  | some (some (.ref z)) => z
  | _ => default
def q_fPpr (K : PySem.W.Frag) : Addr := match PySem.W.findIn K (.ref (q_cPa K)) "press" with
  | some (some (.ref z)) => z
  | _ => default
def q_fPkp (K : PySem.W.Frag) : Addr := match PySem.W.findIn K (.ref (q_cPa K)) "_keep" with
  | some (some (.ref z)) => z
  | _ => default
def q_fPun (K : PySem.W.Frag) : Addr := match PySem.W.findIn K (.ref (q_cPa K)) "undo" with
  | some (some (.ref z)) => z
  | _ => default
def q_fPmk (K : PySem.W.Frag) : Addr := match PySem.W.findIn K (.ref (q_cPa K)) "mark" with
  | some (some (.ref z)) => z
  | _ => default
def q_fPbk (K : PySem.W.Frag) : Addr := match PySem.W.findIn K (.ref (q_cPa K)) "undo_to" with
  | some (some (.ref z)) => z
  | _ => default
def q_fPtw (K : PySem.W.Frag) : Addr := match PySem.W.findIn K (.ref (q_cPa K)) "twin" with
  | some (some (.ref z)) => z
  | _ => default
def q_fIs (K : PySem.W.Frag) : Addr := match PySem.W.findIn K (.ref (q_b0 K)) "is_stamping" with
  | some (some (.ref z)) => z
  | _ => default
def q_fPal (K : PySem.W.Frag) : Addr := match PySem.W.findIn K (.ref (q_cPa K)) "press_all" with
  | some (some (.ref z)) => z
  | _ => default
def q_cLow (K : PySem.W.Frag) : Addr := codeP K (q_fLow K)
def q_PLow (K : PySem.W.Frag) : Addr := He.tabOf K (q_cLow K)
def q_cAre (K : PySem.W.Frag) : Addr := codeP K (q_fAre K)
def q_PAre (K : PySem.W.Frag) : Addr := He.tabOf K (q_cAre K)
def fs0 (K : PySem.W.Frag) : List Bool := [decide (PySem.W.nsIn K mainGlobals "is_lowercase" = some (some (.ref (q_fLow K)))), decide (PySem.W.nsIn K mainGlobals "is_text" = some (some (.ref (q_fText K)))), decide (PySem.W.nsIn K mainGlobals "are_stamps" = some (some (.ref (q_fAre K)))), decide (PySem.W.nsIn K mainGlobals "is_strip" = some (some (.ref (q_fStrip K)))), decide (PySem.W.nsIn K mainGlobals "over" = some (some (.ref (q_fOver K)))), decide (PySem.W.nsIn K mainGlobals "is_integer" = some (some (.ref (q_fInt K)))), decide (PySem.W.nsIn K mainGlobals "_law_stock" = some (some (.ref (q_fTape K)))), decide (PySem.W.nsIn K mainGlobals "_law_roll" = some (some (.ref (q_fNext K)))), decide (PySem.W.nsIn K mainGlobals "_law_words" = some (some (.ref (q_fInks K)))), decide (PySem.W.nsIn K mainGlobals "_law_drawn" = some (some (.ref (q_fDrawn K)))), decide (PySem.W.nsIn K mainGlobals "_law_scene" = some (some (.ref (q_fScene K)))), decide (PySem.W.nsIn K mainGlobals "_law_strip" = some (some (.ref (q_fStripL K)))), decide (PySem.W.nsIn K mainGlobals "_law_same" = some (some (.ref (q_fSame K)))), decide (PySem.W.nsIn K mainGlobals "_law_pressed" = some (some (.ref (q_fPressed K)))), decide (PySem.W.nsIn K mainGlobals "_law_made" = some (some (.ref (q_fMade K)))), decide (PySem.W.nsIn K mainGlobals "_law_is_empty" = some (some (.ref (q_fEmp K)))), decide (PySem.W.nsIn K mainGlobals "_law_undone" = some (some (.ref (q_fUndone K)))), decide (PySem.W.nsIn K mainGlobals "_law_sixty" = some (some (.ref (q_fSixty K)))), decide (PySem.W.nsIn K mainGlobals "_law_begun" = some (some (.ref (q_fBegun K)))), decide (PySem.W.nsIn K mainGlobals "_law_right" = some (some (.ref (q_fRight K)))), decide (PySem.W.nsIn K mainGlobals "law" = some (some (.ref (q_fLaw K)))), decide (PySem.W.nsIn K mainGlobals "WIDEST" = some (some (.int 8 (q_tW K)))), decide (PySem.W.nsIn K mainGlobals "MOST_LETTERS" = some (some (.int 36 (q_tM K)))), decide (PySem.W.nsIn K mainGlobals "MOST_CELLS" = some (some (.int 120 (q_tCells K)))), decide (PySem.W.nsIn K mainGlobals "Stamps" = some (some (.ref (q_C K)))), decide (PySem.W.readsIn K (q_C K) (.type "type") = true), decide (PySem.W.specialIn K (.ref (q_C K)) "__getattribute__" = some (some (.builtin "type.__getattribute__"))), decide (PySem.W.plainGet K (q_C K) Str.empty = true), decide (PySem.W.hasDictIn K (q_C K) = true), decide (PySem.W.plainOver K (q_C K) = true), decide (PySem.W.findIn K (.ref (q_C K)) "__setattr__" = some (some (.builtin "object.__setattr__"))), decide (PySem.W.makesIn K (q_C K) = true), decide (PySem.W.keepIn K (.ref (q_C K)) = true), decide (PySem.W.findIn K (.ref (q_C K)) "__init__" = some (some (.ref (q_fInit K)))), decide (PySem.W.isFn K (.ref (q_fInit K)) = true), decide (PySem.W.findIn K (.ref (q_C K)) "_words" = some none), decide (PySem.W.findCls K (.ref (q_C K)) (.type "type") "MOST" = some (.val (.int 6 (q_tMost K)))), decide (PySem.W.findCls K (.ref (q_C K)) (.type "type") "of" = some (.get (.builtin "classmethod.__get__") (.ref (q_pO K)) .none (.ref (q_C K)))), decide (PySem.W.recIn K (q_pO K) "classmethod" = some (.ref (q_gO K) :: (q_restO K))), decide (PySem.W.fnIn K (q_gO K) = true)]
def fs1 (K : PySem.W.Frag) : List Bool := [decide (PySem.W.findIn K (.ref (q_C K)) "width" = some (some (.ref (q_pWi K)))), decide (PySem.W.specialIn K (.ref (q_pWi K)) "__get__" = some (some (.builtin "property.__get__"))), decide (PySem.W.takesIn K (.ref (q_pWi K)) = some true), decide (PySem.W.recIn K (q_pWi K) "property" = some (.ref (q_fWi K) :: (q_restWi K))), decide (PySem.W.findIn K (.ref (q_C K)) "words" = some (some (.ref (q_pWo K)))), decide (PySem.W.specialIn K (.ref (q_pWo K)) "__get__" = some (some (.builtin "property.__get__"))), decide (PySem.W.takesIn K (.ref (q_pWo K)) = some true), decide (PySem.W.recIn K (q_pWo K) "property" = some (.ref (q_fWo K) :: (q_restWo K))), decide (PySem.W.findIn K (.ref (q_C K)) "__len__" = some (some (.ref (q_fLen K)))), decide (PySem.W.isFn K (.ref (q_fLen K)) = true), decide (PySem.W.findIn K (.ref (q_C K)) "__call__" = some (some (.ref (q_fCl K)))), decide (PySem.W.isFn K (.ref (q_fCl K)) = true), decide (PySem.W.fnIn K (q_fCl K) = true), decide (PySem.W.nsIn K mainGlobals "InvalidStamps" = some (some (.ref (q_D K)))), decide (PySem.W.excIn K (q_D K) [.type "ValueError", .type "Exception", .type "BaseException", .type "object"] "ValueError.__new__" = true), decide (PySem.W.keepIn K (.ref (q_D K)) = true), decide (PySem.W.subIn K (.ref (q_D K)) (.type "BaseException") = some true), decide (PySem.W.typeIn K (.ref (q_D K)) = some (.type "type")), decide (PySem.W.nsIn K mainGlobals "InvalidName" = some (some (.ref (q_DN K)))), decide (PySem.W.excIn K (q_DN K) [.type "ValueError", .type "Exception", .type "BaseException", .type "object"] "ValueError.__new__" = true), decide (PySem.W.keepIn K (.ref (q_DN K)) = true), decide (PySem.W.subIn K (.ref (q_DN K)) (.type "BaseException") = some true), decide (PySem.W.typeIn K (.ref (q_DN K)) = some (.type "type")), decide (PySem.W.nsIn K mainGlobals "InvalidStrip" = some (some (.ref (q_DSp K)))), decide (PySem.W.excIn K (q_DSp K) [.type "ValueError", .type "Exception", .type "BaseException", .type "object"] "ValueError.__new__" = true), decide (PySem.W.keepIn K (.ref (q_DSp K)) = true), decide (PySem.W.subIn K (.ref (q_DSp K)) (.type "BaseException") = some true), decide (PySem.W.typeIn K (.ref (q_DSp K)) = some (.type "type")), decide (PySem.W.nsIn K mainGlobals "InvalidStamping" = some (some (.ref (q_DSg K)))), decide (PySem.W.excIn K (q_DSg K) [.type "ValueError", .type "Exception", .type "BaseException", .type "object"] "ValueError.__new__" = true), decide (PySem.W.keepIn K (.ref (q_DSg K)) = true), decide (PySem.W.subIn K (.ref (q_DSg K)) (.type "BaseException") = some true), decide (PySem.W.typeIn K (.ref (q_DSg K)) = some (.type "type")), decide (PySem.W.nsIn K mainGlobals "InvalidNumber" = some (some (.ref (q_DNum K)))), decide (PySem.W.excIn K (q_DNum K) [.type "ValueError", .type "Exception", .type "BaseException", .type "object"] "ValueError.__new__" = true), decide (PySem.W.keepIn K (.ref (q_DNum K)) = true), decide (PySem.W.subIn K (.ref (q_DNum K)) (.type "BaseException") = some true), decide (PySem.W.typeIn K (.ref (q_DNum K)) = some (.type "type")), decide (PySem.W.nsIn K mainGlobals "NothingToUndo" = some (some (.ref (q_DNo K)))), decide (PySem.W.excIn K (q_DNo K) [.type "ValueError", .type "Exception", .type "BaseException", .type "object"] "ValueError.__new__" = true)]
def fs2 (K : PySem.W.Frag) : List Bool := [decide (PySem.W.keepIn K (.ref (q_DNo K)) = true), decide (PySem.W.subIn K (.ref (q_DNo K)) (.type "BaseException") = some true), decide (PySem.W.typeIn K (.ref (q_DNo K)) = some (.type "type")), decide (PySem.W.specialIn K (.builtin "object.__class__") "__get__" = some (some (.builtin "getset_descriptor.__get__"))), decide (PySem.W.takesIn K (.builtin "object.__class__") = some true), decide (PySem.W.nsIn K mainGlobals "Line" = some (some (.ref (q_b0 K)))), decide (PySem.W.readsIn K (q_b0 K) (.type "type") = true), decide (PySem.W.specialIn K (.ref (q_b0 K)) "__getattribute__" = some (some (.builtin "type.__getattribute__"))), decide (PySem.W.plainGet K (q_b0 K) Str.empty = true), decide (PySem.W.hasDictIn K (q_b0 K) = true), decide (PySem.W.plainOver K (q_b0 K) = true), decide (PySem.W.findIn K (.ref (q_b0 K)) "__setattr__" = some (some (.builtin "object.__setattr__"))), decide (PySem.W.makesIn K (q_b0 K) = true), decide (PySem.W.keepIn K (.ref (q_b0 K)) = true), decide (PySem.W.findIn K (.ref (q_b0 K)) "__eq__" = some (some (.builtin "object.__eq__"))), decide (PySem.W.findIn K (.ref (q_b0 K)) "__ne__" = some (some (.builtin "object.__ne__"))), decide (PySem.W.subIn K (.ref (q_b0 K)) (.type "object") = some true), decide (PySem.W.findIn K (.ref (q_b0 K)) "__init__" = some (some (.ref (q_fB K)))), decide (PySem.W.findIn K (.ref (q_b0 K)) "_stamps" = some none), decide (PySem.W.findIn K (.ref (q_b0 K)) "pieces" = some none), decide (PySem.W.findCls K (.ref (q_b0 K)) (.type "type") "NAME" = some (.val (.str "line" (q_u0 K)))), decide (PySem.W.findIn K (.ref (q_b0 K)) "NAME" = some (some (.str "line" (q_v0 K)))), decide (PySem.W.specialIn K (.str "line" (q_v0 K)) "__get__" = some none), decide (PySem.W.findIn K (.ref (q_b0 K)) "CELLS" = some (some (.int 120 (q_w0 K)))), decide (PySem.W.specialIn K (.int 120 (q_w0 K)) "__get__" = some none), decide (PySem.W.findCls K (.ref (q_b0 K)) (.type "type") "named" = some (.get (.builtin "classmethod.__get__") (.ref (q_pN K)) .none (.ref (q_b0 K)))), decide (PySem.W.findIn K (.ref (q_b0 K)) "stamps" = some (some (.ref (q_pS K)))), decide (PySem.W.findIn K (.ref (q_b0 K)) "_knows" = some (some (.ref (q_fKn K)))), decide (PySem.W.findIn K (.ref (q_b0 K)) "_check_stamping" = some (some (.ref (q_fCk K)))), decide (PySem.W.findIn K (.ref (q_b0 K)) "check_strip" = some (some (.ref (q_fCs K)))), decide (PySem.W.findIn K (.ref (q_b0 K)) "__class__" = some (some (.builtin "object.__class__"))), decide (PySem.W.mroIn K (q_b0 K) (.type "object") = some true), decide (PySem.W.isClsIn K (q_b0 K) = true), decide (PySem.W.typeIn K (.ref (q_b0 K)) = some (.type "type")), decide (PySem.W.nsIn K mainGlobals "Window" = some (some (.ref (q_b1 K)))), decide (PySem.W.readsIn K (q_b1 K) (.type "type") = true), decide (PySem.W.specialIn K (.ref (q_b1 K)) "__getattribute__" = some (some (.builtin "type.__getattribute__"))), decide (PySem.W.plainGet K (q_b1 K) Str.empty = true), decide (PySem.W.hasDictIn K (q_b1 K) = true), decide (PySem.W.plainOver K (q_b1 K) = true)]
def fs3 (K : PySem.W.Frag) : List Bool := [decide (PySem.W.findIn K (.ref (q_b1 K)) "__setattr__" = some (some (.builtin "object.__setattr__"))), decide (PySem.W.makesIn K (q_b1 K) = true), decide (PySem.W.keepIn K (.ref (q_b1 K)) = true), decide (PySem.W.findIn K (.ref (q_b1 K)) "__eq__" = some (some (.builtin "object.__eq__"))), decide (PySem.W.findIn K (.ref (q_b1 K)) "__ne__" = some (some (.builtin "object.__ne__"))), decide (PySem.W.subIn K (.ref (q_b1 K)) (.type "object") = some true), decide (PySem.W.findIn K (.ref (q_b1 K)) "__init__" = some (some (.ref (q_fB K)))), decide (PySem.W.findIn K (.ref (q_b1 K)) "_stamps" = some none), decide (PySem.W.findIn K (.ref (q_b1 K)) "pieces" = some none), decide (PySem.W.findCls K (.ref (q_b1 K)) (.type "type") "NAME" = some (.val (.str "window" (q_u1 K)))), decide (PySem.W.findIn K (.ref (q_b1 K)) "NAME" = some (some (.str "window" (q_v1 K)))), decide (PySem.W.specialIn K (.str "window" (q_v1 K)) "__get__" = some none), decide (PySem.W.findIn K (.ref (q_b1 K)) "CELLS" = some (some (.int 120 (q_w1 K)))), decide (PySem.W.specialIn K (.int 120 (q_w1 K)) "__get__" = some none), decide (PySem.W.findCls K (.ref (q_b1 K)) (.type "type") "named" = some (.get (.builtin "classmethod.__get__") (.ref (q_pN K)) .none (.ref (q_b1 K)))), decide (PySem.W.findIn K (.ref (q_b1 K)) "stamps" = some (some (.ref (q_pS K)))), decide (PySem.W.findIn K (.ref (q_b1 K)) "_knows" = some (some (.ref (q_fKn K)))), decide (PySem.W.findIn K (.ref (q_b1 K)) "_check_stamping" = some (some (.ref (q_fCk K)))), decide (PySem.W.findIn K (.ref (q_b1 K)) "check_strip" = some (some (.ref (q_fCs K)))), decide (PySem.W.findIn K (.ref (q_b1 K)) "__class__" = some (some (.builtin "object.__class__"))), decide (PySem.W.mroIn K (q_b1 K) (.type "object") = some true), decide (PySem.W.isClsIn K (q_b1 K) = true), decide (PySem.W.typeIn K (.ref (q_b1 K)) = some (.type "type")), decide (PySem.W.nsIn K mainGlobals "Ring" = some (some (.ref (q_b2 K)))), decide (PySem.W.readsIn K (q_b2 K) (.type "type") = true), decide (PySem.W.specialIn K (.ref (q_b2 K)) "__getattribute__" = some (some (.builtin "type.__getattribute__"))), decide (PySem.W.plainGet K (q_b2 K) Str.empty = true), decide (PySem.W.hasDictIn K (q_b2 K) = true), decide (PySem.W.plainOver K (q_b2 K) = true), decide (PySem.W.findIn K (.ref (q_b2 K)) "__setattr__" = some (some (.builtin "object.__setattr__"))), decide (PySem.W.makesIn K (q_b2 K) = true), decide (PySem.W.keepIn K (.ref (q_b2 K)) = true), decide (PySem.W.findIn K (.ref (q_b2 K)) "__eq__" = some (some (.builtin "object.__eq__"))), decide (PySem.W.findIn K (.ref (q_b2 K)) "__ne__" = some (some (.builtin "object.__ne__"))), decide (PySem.W.subIn K (.ref (q_b2 K)) (.type "object") = some true), decide (PySem.W.findIn K (.ref (q_b2 K)) "__init__" = some (some (.ref (q_fB K)))), decide (PySem.W.findIn K (.ref (q_b2 K)) "_stamps" = some none), decide (PySem.W.findIn K (.ref (q_b2 K)) "pieces" = some none), decide (PySem.W.findCls K (.ref (q_b2 K)) (.type "type") "NAME" = some (.val (.str "ring" (q_u2 K)))), decide (PySem.W.findIn K (.ref (q_b2 K)) "NAME" = some (some (.str "ring" (q_v2 K))))]
def fs4 (K : PySem.W.Frag) : List Bool := [decide (PySem.W.specialIn K (.str "ring" (q_v2 K)) "__get__" = some none), decide (PySem.W.findIn K (.ref (q_b2 K)) "CELLS" = some (some (.int 60 (q_w2 K)))), decide (PySem.W.specialIn K (.int 60 (q_w2 K)) "__get__" = some none), decide (PySem.W.findCls K (.ref (q_b2 K)) (.type "type") "named" = some (.get (.builtin "classmethod.__get__") (.ref (q_pN K)) .none (.ref (q_b2 K)))), decide (PySem.W.findIn K (.ref (q_b2 K)) "stamps" = some (some (.ref (q_pS K)))), decide (PySem.W.findIn K (.ref (q_b2 K)) "_knows" = some (some (.ref (q_fKn K)))), decide (PySem.W.findIn K (.ref (q_b2 K)) "_check_stamping" = some (some (.ref (q_fCk K)))), decide (PySem.W.findIn K (.ref (q_b2 K)) "check_strip" = some (some (.ref (q_fCs K)))), decide (PySem.W.findIn K (.ref (q_b2 K)) "__class__" = some (some (.builtin "object.__class__"))), decide (PySem.W.mroIn K (q_b2 K) (.type "object") = some true), decide (PySem.W.isClsIn K (q_b2 K) = true), decide (PySem.W.typeIn K (.ref (q_b2 K)) = some (.type "type")), decide (PySem.W.nsIn K mainGlobals "Band" = some (some (.ref (q_b3 K)))), decide (PySem.W.readsIn K (q_b3 K) (.type "type") = true), decide (PySem.W.specialIn K (.ref (q_b3 K)) "__getattribute__" = some (some (.builtin "type.__getattribute__"))), decide (PySem.W.plainGet K (q_b3 K) Str.empty = true), decide (PySem.W.hasDictIn K (q_b3 K) = true), decide (PySem.W.plainOver K (q_b3 K) = true), decide (PySem.W.findIn K (.ref (q_b3 K)) "__setattr__" = some (some (.builtin "object.__setattr__"))), decide (PySem.W.makesIn K (q_b3 K) = true), decide (PySem.W.keepIn K (.ref (q_b3 K)) = true), decide (PySem.W.findIn K (.ref (q_b3 K)) "__eq__" = some (some (.builtin "object.__eq__"))), decide (PySem.W.findIn K (.ref (q_b3 K)) "__ne__" = some (some (.builtin "object.__ne__"))), decide (PySem.W.subIn K (.ref (q_b3 K)) (.type "object") = some true), decide (PySem.W.findIn K (.ref (q_b3 K)) "__init__" = some (some (.ref (q_fB K)))), decide (PySem.W.findIn K (.ref (q_b3 K)) "_stamps" = some none), decide (PySem.W.findIn K (.ref (q_b3 K)) "pieces" = some none), decide (PySem.W.findCls K (.ref (q_b3 K)) (.type "type") "NAME" = some (.val (.str "" (q_u3 K)))), decide (PySem.W.findIn K (.ref (q_b3 K)) "NAME" = some (some (.str "" (q_v3 K)))), decide (PySem.W.specialIn K (.str "" (q_v3 K)) "__get__" = some none), decide (PySem.W.findIn K (.ref (q_b3 K)) "CELLS" = some (some (.int 120 (q_w3 K)))), decide (PySem.W.specialIn K (.int 120 (q_w3 K)) "__get__" = some none), decide (PySem.W.findCls K (.ref (q_b3 K)) (.type "type") "named" = some (.get (.builtin "classmethod.__get__") (.ref (q_pN K)) .none (.ref (q_b3 K)))), decide (PySem.W.findIn K (.ref (q_b3 K)) "stamps" = some (some (.ref (q_pS K)))), decide (PySem.W.findIn K (.ref (q_b3 K)) "_knows" = some (some (.ref (q_fKn K)))), decide (PySem.W.findIn K (.ref (q_b3 K)) "_check_stamping" = some (some (.ref (q_fCk K)))), decide (PySem.W.findIn K (.ref (q_b3 K)) "check_strip" = some (some (.ref (q_fCs K)))), decide (PySem.W.findIn K (.ref (q_b3 K)) "__class__" = some (some (.builtin "object.__class__"))), decide (PySem.W.mroIn K (q_b3 K) (.type "object") = some true), decide (PySem.W.isClsIn K (q_b3 K) = true)]
def fs5 (K : PySem.W.Frag) : List Bool := [decide (PySem.W.typeIn K (.ref (q_b3 K)) = some (.type "type")), decide (PySem.W.isFn K (.ref (q_fB K)) = true), decide (PySem.W.isFn K (.ref (q_fKn K)) = true), decide (PySem.W.isFn K (.ref (q_fCs K)) = true), decide (PySem.W.isFn K (.ref (q_fCk K)) = true), decide (PySem.W.recIn K (q_pN K) "classmethod" = some (.ref (q_gN K) :: (q_restN K))), decide (PySem.W.fnIn K (q_gN K) = true), decide (PySem.W.specialIn K (.ref (q_pS K)) "__get__" = some (some (.builtin "property.__get__"))), decide (PySem.W.takesIn K (.ref (q_pS K)) = some true), decide (PySem.W.recIn K (q_pS K) "property" = some (.ref (q_gS K) :: (q_restS K))), decide (PySem.W.subIn K (.ref (q_b0 K)) (.ref (q_b0 K)) = some true), decide (PySem.W.subIn K (.ref (q_b0 K)) (.ref (q_b1 K)) = some false), decide (PySem.W.subIn K (.ref (q_b0 K)) (.ref (q_b2 K)) = some false), decide (PySem.W.subIn K (.ref (q_b0 K)) (.ref (q_b3 K)) = some true), decide (PySem.W.subIn K (.ref (q_b1 K)) (.ref (q_b0 K)) = some false), decide (PySem.W.subIn K (.ref (q_b1 K)) (.ref (q_b1 K)) = some true), decide (PySem.W.subIn K (.ref (q_b1 K)) (.ref (q_b2 K)) = some false), decide (PySem.W.subIn K (.ref (q_b1 K)) (.ref (q_b3 K)) = some true), decide (PySem.W.subIn K (.ref (q_b2 K)) (.ref (q_b0 K)) = some false), decide (PySem.W.subIn K (.ref (q_b2 K)) (.ref (q_b1 K)) = some false), decide (PySem.W.subIn K (.ref (q_b2 K)) (.ref (q_b2 K)) = some true), decide (PySem.W.subIn K (.ref (q_b2 K)) (.ref (q_b3 K)) = some true), decide (PySem.W.subIn K (.ref (q_b3 K)) (.ref (q_b0 K)) = some false), decide (PySem.W.subIn K (.ref (q_b3 K)) (.ref (q_b1 K)) = some false), decide (PySem.W.subIn K (.ref (q_b3 K)) (.ref (q_b2 K)) = some false), decide (PySem.W.subIn K (.ref (q_b3 K)) (.ref (q_b3 K)) = some true), decide (PySem.W.findIn K (.ref (q_b0 K)) "fits" = some (some (.ref (q_fF0 K)))), decide (PySem.W.isFn K (.ref (q_fF0 K)) = true), decide (PySem.W.keepIn K (.ref (q_fF0 K)) = true), decide (PySem.W.findIn K (.ref (q_b0 K)) "stamped" = some (some (.ref (q_fS0 K)))), decide (PySem.W.isFn K (.ref (q_fS0 K)) = true), decide (PySem.W.keepIn K (.ref (q_fS0 K)) = true), decide (PySem.W.findIn K (.ref (q_b1 K)) "fits" = some (some (.ref (q_fF1 K)))), decide (PySem.W.isFn K (.ref (q_fF1 K)) = true), decide (PySem.W.keepIn K (.ref (q_fF1 K)) = true), decide (PySem.W.findIn K (.ref (q_b1 K)) "stamped" = some (some (.ref (q_fS1 K)))), decide (PySem.W.isFn K (.ref (q_fS1 K)) = true), decide (PySem.W.keepIn K (.ref (q_fS1 K)) = true), decide (PySem.W.findIn K (.ref (q_b2 K)) "fits" = some (some (.ref (q_fF2 K)))), decide (PySem.W.isFn K (.ref (q_fF2 K)) = true)]
def fs6 (K : PySem.W.Frag) : List Bool := [decide (PySem.W.keepIn K (.ref (q_fF2 K)) = true), decide (PySem.W.findIn K (.ref (q_b2 K)) "stamped" = some (some (.ref (q_fS2 K)))), decide (PySem.W.isFn K (.ref (q_fS2 K)) = true), decide (PySem.W.keepIn K (.ref (q_fS2 K)) = true), decide (PySem.W.nsIn K mainGlobals "Pieces" = some (some (.ref (q_CP K)))), decide (PySem.W.readsIn K (q_CP K) (.type "type") = true), decide (PySem.W.specialIn K (.ref (q_CP K)) "__getattribute__" = some (some (.builtin "type.__getattribute__"))), decide (PySem.W.plainGet K (q_CP K) Str.empty = true), decide (PySem.W.hasDictIn K (q_CP K) = true), decide (PySem.W.plainOver K (q_CP K) = true), decide (PySem.W.findIn K (.ref (q_CP K)) "__setattr__" = some (some (.builtin "object.__setattr__"))), decide (PySem.W.makesIn K (q_CP K) = true), decide (PySem.W.keepIn K (.ref (q_CP K)) = true), decide (PySem.W.findIn K (.ref (q_CP K)) "__init__" = some (some (.ref (q_fP K)))), decide (PySem.W.isFn K (.ref (q_fP K)) = true), decide (PySem.W.findIn K (.ref (q_CP K)) "span" = some none), decide (PySem.W.findIn K (.ref (q_CP K)) "spots" = some none), decide (PySem.W.findIn K (.ref (q_CP K)) "kinds" = some none), decide (PySem.W.nsIn K mainGlobals "spots_of" = some (some (.ref (q_fSp K)))), decide (PySem.W.nsIn K mainGlobals "kinds_of" = some (some (.ref (q_fKi K)))), decide (PySem.W.nsIn K mainGlobals "enumerate" = some none), decide (PySem.W.nsIn K mainGlobals "Paper" = some (some (.ref (q_cPa K)))), decide (PySem.W.readsIn K (q_cPa K) (.type "type") = true), decide (PySem.W.specialIn K (.ref (q_cPa K)) "__getattribute__" = some (some (.builtin "type.__getattribute__"))), decide (PySem.W.plainGet K (q_cPa K) Str.empty = true), decide (PySem.W.hasDictIn K (q_cPa K) = true), decide (PySem.W.plainOver K (q_cPa K) = true), decide (PySem.W.findIn K (.ref (q_cPa K)) "__setattr__" = some (some (.builtin "object.__setattr__"))), decide (PySem.W.makesIn K (q_cPa K) = true), decide (PySem.W.keepIn K (.ref (q_cPa K)) = true), decide (PySem.W.findIn K (.ref (q_cPa K)) "__init__" = some (some (.ref (q_fPaI K)))), decide (PySem.W.isFn K (.ref (q_fPaI K)) = true), decide (PySem.W.findIn K (.ref (q_cPa K)) "_band" = some none), decide (PySem.W.findIn K (.ref (q_cPa K)) "_size" = some none), decide (PySem.W.findIn K (.ref (q_cPa K)) "_pressed" = some none), decide (PySem.W.findIn K (.ref (q_cPa K)) "_strips" = some none), decide (PySem.W.findIn K (.ref (q_cPa K)) "_marks" = some none), decide (PySem.W.findIn K (.ref (q_cPa K)) "shown" = some (some (.ref (q_pPsh K)))), decide (PySem.W.specialIn K (.ref (q_pPsh K)) "__get__" = some (some (.builtin "property.__get__"))), decide (PySem.W.takesIn K (.ref (q_pPsh K)) = some true)]
def fs7 (K : PySem.W.Frag) : List Bool := [decide (PySem.W.recIn K (q_pPsh K) "property" = some (.ref (q_gPsh K) :: (q_restPsh K))), decide (PySem.W.findIn K (.ref (q_cPa K)) "stampings" = some (some (.ref (q_pPst K)))), decide (PySem.W.specialIn K (.ref (q_pPst K)) "__get__" = some (some (.builtin "property.__get__"))), decide (PySem.W.takesIn K (.ref (q_pPst K)) = some true), decide (PySem.W.recIn K (q_pPst K) "property" = some (.ref (q_gPst K) :: (q_restPst K))), decide (PySem.W.findIn K (.ref (q_cPa K)) "__len__" = some (some (.ref (q_fPln K)))), decide (PySem.W.isFn K (.ref (q_fPln K)) = true), decide (PySem.W.findIn K (.ref (q_cPa K)) "press" = some (some (.ref (q_fPpr K)))), decide (PySem.W.isFn K (.ref (q_fPpr K)) = true), decide (PySem.W.findIn K (.ref (q_cPa K)) "_keep" = some (some (.ref (q_fPkp K)))), decide (PySem.W.isFn K (.ref (q_fPkp K)) = true), decide (PySem.W.findIn K (.ref (q_cPa K)) "undo" = some (some (.ref (q_fPun K)))), decide (PySem.W.isFn K (.ref (q_fPun K)) = true), decide (PySem.W.findIn K (.ref (q_cPa K)) "mark" = some (some (.ref (q_fPmk K)))), decide (PySem.W.isFn K (.ref (q_fPmk K)) = true), decide (PySem.W.findIn K (.ref (q_cPa K)) "undo_to" = some (some (.ref (q_fPbk K)))), decide (PySem.W.isFn K (.ref (q_fPbk K)) = true), decide (PySem.W.findIn K (.ref (q_cPa K)) "twin" = some (some (.ref (q_fPtw K)))), decide (PySem.W.isFn K (.ref (q_fPtw K)) = true), decide (PySem.W.findIn K (.ref (q_cPa K)) "__eq__" = some (some (.builtin "object.__eq__"))), decide (PySem.W.findIn K (.ref (q_cPa K)) "__ne__" = some (some (.builtin "object.__ne__"))), decide (PySem.W.subIn K (.ref (q_cPa K)) (.type "object") = some true), decide (PySem.W.findIn K (.ref (q_b0 K)) "is_stamping" = some (some (.ref (q_fIs K)))), decide (PySem.W.findIn K (.ref (q_b1 K)) "is_stamping" = some (some (.ref (q_fIs K)))), decide (PySem.W.findIn K (.ref (q_b2 K)) "is_stamping" = some (some (.ref (q_fIs K)))), decide (PySem.W.isFn K (.ref (q_fIs K)) = true), decide (PySem.W.findIn K (.ref (q_cPa K)) "press_all" = some (some (.ref (q_fPal K)))), decide (PySem.W.isFn K (.ref (q_fPal K)) = true), decide (PySem.W.hasDictIn K (q_DNo K) = true), decide (PySem.W.subIn K (.ref (q_DNo K)) (.ref (q_DNo K)) = some true), decide (PySem.W.specialIn K (.ref (q_fPal K)) "__get__" = some (some (.builtin "function.__get__"))), decide (PySem.W.takesIn K (.ref (q_fPal K)) = some false), decide (PySem.W.fnIn K (q_fPal K) = true), decide (PySem.W.nsIn K mainGlobals "all" = some none), decide (PySem.W.nsIn K mainGlobals "len" = some none), decide (PySem.W.nsIn K mainGlobals "isinstance" = some none), decide (PySem.W.nsIn K mainGlobals "str" = some none), decide (PySem.W.nsIn K mainGlobals "list" = some none), decide (PySem.W.nsIn K mainGlobals "set" = some none), decide (PySem.W.nsIn K mainGlobals "abs" = some none)]
def fs8 (K : PySem.W.Frag) : List Bool := [decide (PySem.W.nsIn K mainGlobals "max" = some none), decide (PySem.W.nsIn K mainGlobals "min" = some none), decide (PySem.W.nsIn K mainGlobals "range" = some none), decide (PySem.W.nsIn K mainGlobals "int" = some none), decide (PySem.W.nsIn K mainGlobals "bool" = some none), decide (PySem.W.nsIn K mainGlobals "repr" = some none), decide (PySem.W.nsIn K mainGlobals "tuple" = some none)]
def exA (K : PySem.W.Frag) : Bool := (fs0 K).all id && ((fs1 K).all id && ((fs2 K).all id && ((fs3 K).all id && ((fs4 K).all id && ((fs5 K).all id && ((fs6 K).all id && ((fs7 K).all id && ((fs8 K).all id))))))))
def d_Low : DefP := ⟨q_fLow, "is_lowercase", "is_lowercase", defArgs sLow, defBody sLow, defScope sLow⟩
def d_Text : DefP := ⟨q_fText, "is_text", "is_text", defArgs sText, defBody sText, defScope sText⟩
def d_Are : DefP := ⟨q_fAre, "are_stamps", "are_stamps", defArgs sAre, defBody sAre, defScope sAre⟩
def d_Strip : DefP := ⟨q_fStrip, "is_strip", "is_strip", defArgs sStrip, defBody sStrip, defScope sStrip⟩
def d_Over : DefP := ⟨q_fOver, "over", "over", defArgs sOver, defBody sOver, defScope sOver⟩
def d_Int : DefP := ⟨q_fInt, "is_integer", "is_integer", defArgs sIsInt, defBody sIsInt, defScope sIsInt⟩
def d_Tape : DefP := ⟨q_fTape, "_law_stock", "_law_stock", defArgs sTape, defBody sTape, defScope sTape⟩
def d_Next : DefP := ⟨q_fNext, "_law_roll", "_law_roll", defArgs sNext, defBody sNext, defScope sNext⟩
def d_Inks : DefP := ⟨q_fInks, "_law_words", "_law_words", defArgs sInks, defBody sInks, defScope sInks⟩
def d_Drawn : DefP := ⟨q_fDrawn, "_law_drawn", "_law_drawn", defArgs sDrawn, defBody sDrawn, defScope sDrawn⟩
def d_Scene : DefP := ⟨q_fScene, "_law_scene", "_law_scene", defArgs sScene, defBody sScene, defScope sScene⟩
def d_StripL : DefP := ⟨q_fStripL, "_law_strip", "_law_strip", defArgs sStripL, defBody sStripL, defScope sStripL⟩
def d_Same : DefP := ⟨q_fSame, "_law_same", "_law_same", defArgs sSame, defBody sSame, defScope sSame⟩
def d_Pressed : DefP := ⟨q_fPressed, "_law_pressed", "_law_pressed", defArgs sPressed, defBody sPressed, defScope sPressed⟩
def d_Made : DefP := ⟨q_fMade, "_law_made", "_law_made", defArgs sMadeP, defBody sMadeP, defScope sMadeP⟩
def d_Emp : DefP := ⟨q_fEmp, "_law_is_empty", "_law_is_empty", defArgs sEmp62, defBody sEmp62, defScope sEmp62⟩
def d_Undone : DefP := ⟨q_fUndone, "_law_undone", "_law_undone", defArgs sUndone, defBody sUndone, defScope sUndone⟩
def d_Sixty : DefP := ⟨q_fSixty, "_law_sixty", "_law_sixty", defArgs sSixty, defBody sSixty, defScope sSixty⟩
def d_Begun : DefP := ⟨q_fBegun, "_law_begun", "_law_begun", defArgs sBegun, defBody sBegun, defScope sBegun⟩
def d_Right : DefP := ⟨q_fRight, "_law_right", "_law_right", defArgs sRight62, defBody sRight62, defScope sRight62⟩
def d_Law : DefP := ⟨q_fLaw, "law", "law", defArgs sLaw62, defBody sLaw62, defScope sLaw62⟩
def d_Init : DefP := ⟨q_fInit, "__init__", "Stamps.__init__", defArgs sInit, defBody sInit, defScope sInit⟩
def d_Of : DefP := ⟨q_gO, "of", "Stamps.of", defArgs sOf, defBody sOf, defScope sOf⟩
def d_Wi : DefP := ⟨q_fWi, "width", "Stamps.width", defArgs sWidth, defBody sWidth, defScope sWidth⟩
def d_Wo : DefP := ⟨q_fWo, "words", "Stamps.words", defArgs sWords, defBody sWords, defScope sWords⟩
def d_Len : DefP := ⟨q_fLen, "__len__", "Stamps.__len__", defArgs sLenI, defBody sLenI, defScope sLenI⟩
def d_Cl : DefP := ⟨q_fCl, "__call__", "Stamps.__call__", defArgs sCall, defBody sCall, defScope sCall⟩
def d_B : DefP := ⟨q_fB, "__init__", "Band.__init__", defArgs sBInit, defBody sBInit, defScope sBInit⟩
def d_N : DefP := ⟨q_gN, "named", "Band.named", defArgs sNamed, defBody sNamed, defScope sNamed⟩
def d_G : DefP := ⟨q_gS, "stamps", "Band.stamps", defArgs sStamps, defBody sStamps, defScope sStamps⟩
def d_P : DefP := ⟨q_fP, "__init__", "Pieces.__init__", defArgs sPInit, defBody sPInit, defScope sPInit⟩
def d_Sp : DefP := ⟨q_fSp, "spots_of", "spots_of", defArgs sSpots, defBody sSpots, defScope sSpots⟩
def d_Ki : DefP := ⟨q_fKi, "kinds_of", "kinds_of", defArgs sKinds, defBody sKinds, defScope sKinds⟩
def d_Kn : DefP := ⟨q_fKn, "_knows", "Band._knows", defArgs sKnows, defBody sKnows, defScope sKnows⟩
def d_Ck : DefP := ⟨q_fCk, "_check_stamping", "Band._check_stamping", defArgs sCheck, defBody sCheck, defScope sCheck⟩
def d_Cs : DefP := ⟨q_fCs, "check_strip", "Band.check_strip", defArgs sChkS, defBody sChkS, defScope sChkS⟩
def d_F0 : DefP := ⟨q_fF0, "fits", "Line.fits", defArgs sLFits, defBody sLFits, defScope sLFits⟩
def d_St0 : DefP := ⟨q_fS0, "stamped", "Line.stamped", defArgs sLStm, defBody sLStm, defScope sLStm⟩
def d_F1 : DefP := ⟨q_fF1, "fits", "Window.fits", defArgs sWFits, defBody sWFits, defScope sWFits⟩
def d_St1 : DefP := ⟨q_fS1, "stamped", "Window.stamped", defArgs sWStm, defBody sWStm, defScope sWStm⟩
def d_F2 : DefP := ⟨q_fF2, "fits", "Ring.fits", defArgs sRFits, defBody sRFits, defScope sRFits⟩
def d_St2 : DefP := ⟨q_fS2, "stamped", "Ring.stamped", defArgs sRStm, defBody sRStm, defScope sRStm⟩
def d_PaI : DefP := ⟨q_fPaI, "__init__", "Paper.__init__", defArgs sPpI, defBody sPpI, defScope sPpI⟩
def d_Psh : DefP := ⟨q_gPsh, "shown", "Paper.shown", defArgs sPpSh, defBody sPpSh, defScope sPpSh⟩
def d_Pst : DefP := ⟨q_gPst, "stampings", "Paper.stampings", defArgs sPpSt, defBody sPpSt, defScope sPpSt⟩
def d_Pln : DefP := ⟨q_fPln, "__len__", "Paper.__len__", defArgs sPpLn, defBody sPpLn, defScope sPpLn⟩
def d_Ppr : DefP := ⟨q_fPpr, "press", "Paper.press", defArgs sPpPr, defBody sPpPr, defScope sPpPr⟩
def d_Pkp : DefP := ⟨q_fPkp, "_keep", "Paper._keep", defArgs sPpK, defBody sPpK, defScope sPpK⟩
def d_Pun : DefP := ⟨q_fPun, "undo", "Paper.undo", defArgs sPpU, defBody sPpU, defScope sPpU⟩
def d_Pmk : DefP := ⟨q_fPmk, "mark", "Paper.mark", defArgs sPpMk, defBody sPpMk, defScope sPpMk⟩
def d_Pbk : DefP := ⟨q_fPbk, "undo_to", "Paper.undo_to", defArgs sPpBk, defBody sPpBk, defScope sPpBk⟩
def d_Ptw : DefP := ⟨q_fPtw, "twin", "Paper.twin", defArgs sPpTw, defBody sPpTw, defScope sPpTw⟩
def d_Is : DefP := ⟨q_fIs, "is_stamping", "Band.is_stamping", defArgs sIsS, defBody sIsS, defScope sIsS⟩
def d_Pal : DefP := ⟨q_fPal, "press_all", "Paper.press_all", defArgs sPpAll, defBody sPpAll, defScope sPpAll⟩
def fnA : List DefP := [d_Low, d_Text, d_Are, d_Strip, d_Over, d_Int, d_Tape, d_Next, d_Inks, d_Drawn, d_Scene, d_StripL, d_Same, d_Pressed, d_Made, d_Emp, d_Undone, d_Sixty, d_Begun, d_Right, d_Law, d_Init, d_Of, d_Wi, d_Wo, d_Len, d_Cl, d_B, d_N, d_G, d_P, d_Sp, d_Ki, d_Kn, d_Ck, d_Cs, d_F0, d_St0, d_F1, d_St1, d_F2, d_St2, d_PaI, d_Psh, d_Pst, d_Pln, d_Ppr, d_Pkp, d_Pun, d_Pmk, d_Pbk, d_Ptw, d_Is, d_Pal]
def tfA : List TabP := [fun K => (q_cLow K, q_PLow K), fun K => (q_cAre K, q_PAre K)]
def names0 : List Str := ["_wall", "StampError", "InvalidStamps", "InvalidText", "InvalidStrip", "InvalidStamping", "InvalidName", "InvalidNumber", "NotPossible", "NothingToUndo", "TOO_MANY", "NO_REACH", "LOOSE", "ENDED", "KEPT", "is_integer", "is_part", "are_parts", "ends", "cover", "splits_row", "splits_ring", "spots_of", "kinds_of", "Pieces", "reach_of", "reaches_of", "fewest_rests", "least_cover", "rests_of_row"]
def names1 : List Str := ["fewest_row", "least_row", "rests_around", "fewest_around", "fewest_ring", "least_ring", "Paper", "WIDEST", "MOST_LETTERS", "MOST_CELLS", "is_lowercase", "is_text", "is_strip", "are_stamps", "over", "Stamps", "Band", "Line", "Window", "Ring", "_law_stock", "_law_roll", "_law_words", "_law_drawn", "_law_scene", "_law_strip", "_law_same", "_law_made", "_law_pressed", "_law_is_empty"]
def names2 : List Str := ["_law_undone", "_law_sixty", "_law_begun", "_law_right"]
def namesA : List Str := names0 ++ names1 ++ names2
abbrev rowA : PySem.W.OpenRow := PySem.W.OpenLaw.row PySem.Challenge.rw_overstamps_k62_histories_undone
def as0 : List Addr := [2, 3, 6, 4, 21, 31, 44, 56, 68, 80, 92, 104, 116, 128, 131, 138, 145, 152, 159, 166, 173, 180, 187, 194, 221, 232, 239, 246, 253, 260, 267, 274, 281, 288, 295, 302, 415, 426, 433, 440, 447, 454, 516, 646, 709, 770, 829, 838, 845, 850, 857, 864, 871, 878, 885, 892, 899, 906, 913, 918]
def as1 : List Addr := [925, 932, 0, 20, 30, 43, 55, 67, 79, 91, 103, 115, 127, 137, 144, 151, 158, 165, 172, 179, 186, 193, 220, 231, 238, 245, 252, 259, 266, 273, 280, 287, 294, 301, 414, 425, 432, 439, 446, 453, 515, 645, 708, 769, 828, 837, 844, 849, 856, 863, 870, 877, 884, 891, 898, 905, 912, 917, 924, 931]
def as2 : List Addr := [15, 16, 17, 18, 19, 29, 32, 42, 54, 66, 78, 90, 102, 114, 126, 132, 133, 134, 135, 136, 139, 140, 141, 142, 143, 146, 147, 148, 149, 150, 153, 154, 155, 156, 157, 160, 161, 162, 163, 164, 167, 168, 169, 170, 171, 174, 175, 176, 177, 178, 181, 182, 183, 184, 185, 188, 189, 190, 191, 192]
def as3 : List Addr := [206, 211, 218, 219, 222, 223, 226, 227, 228, 229, 230, 233, 234, 235, 236, 237, 240, 241, 242, 243, 244, 247, 248, 249, 250, 251, 254, 255, 256, 257, 258, 261, 262, 263, 264, 265, 268, 269, 270, 271, 272, 275, 276, 277, 278, 279, 282, 283, 284, 285, 286, 289, 290, 291, 292, 293, 296, 297, 298, 299]
def as4 : List Addr := [300, 316, 324, 332, 339, 346, 353, 358, 365, 372, 377, 384, 391, 398, 405, 412, 413, 416, 417, 420, 421, 422, 423, 424, 427, 428, 429, 430, 431, 434, 435, 436, 437, 438, 441, 442, 443, 444, 445, 448, 449, 450, 451, 452, 468, 477, 486, 494, 501, 506, 513, 514, 517, 518, 534, 543, 552, 559, 566, 573]
def as5 : List Addr := [580, 587, 594, 601, 608, 615, 622, 629, 636, 643, 644, 647, 648, 664, 671, 678, 685, 692, 699, 706, 707, 725, 732, 739, 746, 753, 760, 767, 768, 786, 793, 798, 805, 812, 819, 826, 827, 832, 833, 834, 835, 836, 839, 840, 841, 842, 843, 846, 847, 848, 851, 852, 853, 854, 855, 858, 859, 860, 861, 862]
def as6 : List Addr := [865, 866, 867, 868, 869, 872, 873, 874, 875, 876, 879, 880, 881, 882, 883, 886, 887, 888, 889, 890, 893, 894, 895, 896, 897, 900, 901, 902, 903, 904, 907, 908, 909, 910, 911, 914, 915, 916, 919, 920, 921, 922, 923, 926, 927, 928, 929, 930, 205, 210, 217, 315, 323, 331, 338, 345, 352, 357, 364, 371]
def as7 : List Addr := [376, 383, 390, 397, 404, 411, 467, 475, 476, 485, 493, 500, 505, 512, 533, 541, 542, 551, 558, 565, 572, 579, 586, 593, 600, 607, 614, 621, 628, 635, 642, 663, 670, 677, 684, 691, 698, 705, 724, 731, 738, 745, 752, 759, 766, 785, 792, 797, 804, 811, 818, 825, 202, 203, 204, 207, 208, 209, 212, 213]
def as8 : List Addr := [214, 215, 216, 310, 311, 312, 313, 314, 322, 330, 333, 334, 335, 336, 337, 340, 341, 342, 343, 344, 347, 348, 349, 350, 351, 354, 355, 356, 359, 360, 361, 362, 363, 366, 367, 368, 369, 370, 373, 374, 375, 378, 379, 380, 381, 382, 385, 386, 387, 388, 389, 392, 393, 394, 395, 396, 399, 400, 401, 402]
def as9 : List Addr := [403, 406, 407, 408, 409, 410, 462, 463, 464, 465, 466, 474, 478, 484, 492, 495, 496, 497, 498, 499, 502, 503, 504, 507, 508, 509, 510, 511, 528, 529, 530, 531, 532, 540, 544, 550, 553, 554, 555, 556, 557, 560, 561, 562, 563, 564, 567, 568, 569, 570, 571, 574, 575, 576, 577, 578, 581, 582, 583, 584]
def as10 : List Addr := [585, 588, 589, 590, 591, 592, 595, 596, 597, 598, 599, 602, 603, 604, 605, 606, 609, 610, 611, 612, 613, 616, 617, 618, 619, 620, 623, 624, 625, 626, 627, 630, 631, 632, 633, 634, 637, 638, 639, 640, 641, 658, 659, 660, 661, 662, 665, 666, 667, 668, 669, 672, 673, 674, 675, 676, 679, 680, 681, 682]
def as11 : List Addr := [683, 686, 687, 688, 689, 690, 693, 694, 695, 696, 697, 700, 701, 702, 703, 704, 719, 720, 721, 722, 723, 726, 727, 728, 729, 730, 733, 734, 735, 736, 737, 740, 741, 742, 743, 744, 747, 748, 749, 750, 751, 754, 755, 756, 757, 758, 761, 762, 763, 764, 765, 780, 781, 782, 783, 784, 787, 788, 789, 790]
def as12 : List Addr := [791, 794, 795, 796, 799, 800, 801, 802, 803, 806, 807, 808, 809, 810, 813, 814, 815, 816, 817, 820, 821, 822, 823, 824, 317, 318, 319, 320, 321, 325, 326, 327, 328, 329, 469, 470, 471, 472, 473, 479, 480, 481, 482, 483, 487, 488, 489, 490, 491, 535, 536, 537, 538, 539, 545, 546, 547, 548, 549]
def asA : List Addr := as0 ++ as1 ++ as2 ++ as3 ++ as4 ++ as5 ++ as6 ++ as7 ++ as8 ++ as9 ++ as10 ++ as11 ++ as12
abbrev hkA : PySem.W.Hook := hookP asA fnA tfA exA
def obA (s : PySem.W.SharedT) : AlP := obsP asA fnA tfA exA (HandSHeadRun.getT s)
theorem obA_eq (s : PySem.W.SharedT) : obA s = hkA.obs s.abs := obsP_eq (HandSHeadRun.getT_eq s)
theorem runA (w : World) : HandSHeadRun.RunEq rowA (PySem.W.view rowA.prog [70]) hkA obA 20000 namesA w := by
  intro os
  kernel_rfl
theorem factsA {w : World} {K : PySem.W.Frag} {h : Heap} {mg : Str → Option Value} {fa : Addr} (X : K.In h) (G : h.Ns mainGlobals mg) (hfa : mg "law" = some (.ref fa)) (c : SaysP fnA tfA exA h K) (l : PySem.W.OpenLaw) (hl : l.prog = PySem.Challenge.rw_overstamps_k62_histories_undone.prog) : LawAtG l w K 13 63 "script" mg fa h := by
  obtain ⟨g0, m0⟩ := He.ba (show ((fs0 K).all id && _) = true from c.more)
  obtain ⟨g1, m1⟩ := He.ba (show ((fs1 K).all id && _) = true from m0)
  obtain ⟨g2, m2⟩ := He.ba (show ((fs2 K).all id && _) = true from m1)
  obtain ⟨g3, m3⟩ := He.ba (show ((fs3 K).all id && _) = true from m2)
  obtain ⟨g4, m4⟩ := He.ba (show ((fs4 K).all id && _) = true from m3)
  obtain ⟨g5, m5⟩ := He.ba (show ((fs5 K).all id && _) = true from m4)
  obtain ⟨g6, m6⟩ := He.ba (show ((fs6 K).all id && _) = true from m5)
  obtain ⟨g7, m7⟩ := He.ba (show ((fs7 K).all id && _) = true from m6)
  have g8 : (fs8 K).all id = true := m7
  have aLow : PySem.W.nsIn K mainGlobals "is_lowercase" = some (some (.ref (q_fLow K))) := of_decide_eq_true (all_at g0 0 rfl)
  have aText : PySem.W.nsIn K mainGlobals "is_text" = some (some (.ref (q_fText K))) := of_decide_eq_true (all_at g0 1 rfl)
  have aAre : PySem.W.nsIn K mainGlobals "are_stamps" = some (some (.ref (q_fAre K))) := of_decide_eq_true (all_at g0 2 rfl)
  have aStrip : PySem.W.nsIn K mainGlobals "is_strip" = some (some (.ref (q_fStrip K))) := of_decide_eq_true (all_at g0 3 rfl)
  have aOver : PySem.W.nsIn K mainGlobals "over" = some (some (.ref (q_fOver K))) := of_decide_eq_true (all_at g0 4 rfl)
  have aInt : PySem.W.nsIn K mainGlobals "is_integer" = some (some (.ref (q_fInt K))) := of_decide_eq_true (all_at g0 5 rfl)
  have aTape : PySem.W.nsIn K mainGlobals "_law_stock" = some (some (.ref (q_fTape K))) := of_decide_eq_true (all_at g0 6 rfl)
  have aNext : PySem.W.nsIn K mainGlobals "_law_roll" = some (some (.ref (q_fNext K))) := of_decide_eq_true (all_at g0 7 rfl)
  have aInks : PySem.W.nsIn K mainGlobals "_law_words" = some (some (.ref (q_fInks K))) := of_decide_eq_true (all_at g0 8 rfl)
  have aDrawn : PySem.W.nsIn K mainGlobals "_law_drawn" = some (some (.ref (q_fDrawn K))) := of_decide_eq_true (all_at g0 9 rfl)
  have aScene : PySem.W.nsIn K mainGlobals "_law_scene" = some (some (.ref (q_fScene K))) := of_decide_eq_true (all_at g0 10 rfl)
  have aStripL : PySem.W.nsIn K mainGlobals "_law_strip" = some (some (.ref (q_fStripL K))) := of_decide_eq_true (all_at g0 11 rfl)
  have aSame : PySem.W.nsIn K mainGlobals "_law_same" = some (some (.ref (q_fSame K))) := of_decide_eq_true (all_at g0 12 rfl)
  have aPressed : PySem.W.nsIn K mainGlobals "_law_pressed" = some (some (.ref (q_fPressed K))) := of_decide_eq_true (all_at g0 13 rfl)
  have aMade : PySem.W.nsIn K mainGlobals "_law_made" = some (some (.ref (q_fMade K))) := of_decide_eq_true (all_at g0 14 rfl)
  have aEmp : PySem.W.nsIn K mainGlobals "_law_is_empty" = some (some (.ref (q_fEmp K))) := of_decide_eq_true (all_at g0 15 rfl)
  have aUndone : PySem.W.nsIn K mainGlobals "_law_undone" = some (some (.ref (q_fUndone K))) := of_decide_eq_true (all_at g0 16 rfl)
  have aSixty : PySem.W.nsIn K mainGlobals "_law_sixty" = some (some (.ref (q_fSixty K))) := of_decide_eq_true (all_at g0 17 rfl)
  have aBegun : PySem.W.nsIn K mainGlobals "_law_begun" = some (some (.ref (q_fBegun K))) := of_decide_eq_true (all_at g0 18 rfl)
  have aRight : PySem.W.nsIn K mainGlobals "_law_right" = some (some (.ref (q_fRight K))) := of_decide_eq_true (all_at g0 19 rfl)
  have aLaw : PySem.W.nsIn K mainGlobals "law" = some (some (.ref (q_fLaw K))) := of_decide_eq_true (all_at g0 20 rfl)
  have aWidest : PySem.W.nsIn K mainGlobals "WIDEST" = some (some (.int 8 (q_tW K))) := of_decide_eq_true (all_at g0 21 rfl)
  have aMostL : PySem.W.nsIn K mainGlobals "MOST_LETTERS" = some (some (.int 36 (q_tM K))) := of_decide_eq_true (all_at g0 22 rfl)
  have aCells : PySem.W.nsIn K mainGlobals "MOST_CELLS" = some (some (.int 120 (q_tCells K))) := of_decide_eq_true (all_at g0 23 rfl)
  have aC : PySem.W.nsIn K mainGlobals "Stamps" = some (some (.ref (q_C K))) := of_decide_eq_true (all_at g0 24 rfl)
  have rdS : PySem.W.readsIn K (q_C K) (.type "type") = true := of_decide_eq_true (all_at g0 25 rfl)
  have gaS : PySem.W.specialIn K (.ref (q_C K)) "__getattribute__" = some (some (.builtin "type.__getattribute__")) := of_decide_eq_true (all_at g0 26 rfl)
  have pgS : PySem.W.plainGet K (q_C K) Str.empty = true := of_decide_eq_true (all_at g0 27 rfl)
  have hdS : PySem.W.hasDictIn K (q_C K) = true := of_decide_eq_true (all_at g0 28 rfl)
  have poS : PySem.W.plainOver K (q_C K) = true := of_decide_eq_true (all_at g0 29 rfl)
  have saS : PySem.W.findIn K (.ref (q_C K)) "__setattr__" = some (some (.builtin "object.__setattr__")) := of_decide_eq_true (all_at g0 30 rfl)
  have mkS : PySem.W.makesIn K (q_C K) = true := of_decide_eq_true (all_at g0 31 rfl)
  have kcS : PySem.W.keepIn K (.ref (q_C K)) = true := of_decide_eq_true (all_at g0 32 rfl)
  have iInit : PySem.W.findIn K (.ref (q_C K)) "__init__" = some (some (.ref (q_fInit K))) := of_decide_eq_true (all_at g0 33 rfl)
  have jInit : PySem.W.isFn K (.ref (q_fInit K)) = true := of_decide_eq_true (all_at g0 34 rfl)
  have nW : PySem.W.findIn K (.ref (q_C K)) "_words" = some none := of_decide_eq_true (all_at g0 35 rfl)
  have mst : PySem.W.findCls K (.ref (q_C K)) (.type "type") "MOST" = some (.val (.int 6 (q_tMost K))) := of_decide_eq_true (all_at g0 36 rfl)
  have oAOf : PySem.W.findCls K (.ref (q_C K)) (.type "type") "of" = some (.get (.builtin "classmethod.__get__") (.ref (q_pO K)) .none (.ref (q_C K))) := of_decide_eq_true (all_at g0 37 rfl)
  have oROf : PySem.W.recIn K (q_pO K) "classmethod" = some (.ref (q_gO K) :: (q_restO K)) := of_decide_eq_true (all_at g0 38 rfl)
  have oFOf : PySem.W.fnIn K (q_gO K) = true := of_decide_eq_true (all_at g0 39 rfl)
  have prWi : PySem.W.findIn K (.ref (q_C K)) "width" = some (some (.ref (q_pWi K))) := of_decide_eq_true (all_at g1 0 rfl)
  have pGWi : PySem.W.specialIn K (.ref (q_pWi K)) "__get__" = some (some (.builtin "property.__get__")) := of_decide_eq_true (all_at g1 1 rfl)
  have ptWi : PySem.W.takesIn K (.ref (q_pWi K)) = some true := of_decide_eq_true (all_at g1 2 rfl)
  have pcWi : PySem.W.recIn K (q_pWi K) "property" = some (.ref (q_fWi K) :: (q_restWi K)) := of_decide_eq_true (all_at g1 3 rfl)
  have prWo : PySem.W.findIn K (.ref (q_C K)) "words" = some (some (.ref (q_pWo K))) := of_decide_eq_true (all_at g1 4 rfl)
  have pGWo : PySem.W.specialIn K (.ref (q_pWo K)) "__get__" = some (some (.builtin "property.__get__")) := of_decide_eq_true (all_at g1 5 rfl)
  have ptWo : PySem.W.takesIn K (.ref (q_pWo K)) = some true := of_decide_eq_true (all_at g1 6 rfl)
  have pcWo : PySem.W.recIn K (q_pWo K) "property" = some (.ref (q_fWo K) :: (q_restWo K)) := of_decide_eq_true (all_at g1 7 rfl)
  have dLen : PySem.W.findIn K (.ref (q_C K)) "__len__" = some (some (.ref (q_fLen K))) := of_decide_eq_true (all_at g1 8 rfl)
  have eLen : PySem.W.isFn K (.ref (q_fLen K)) = true := of_decide_eq_true (all_at g1 9 rfl)
  have dCl : PySem.W.findIn K (.ref (q_C K)) "__call__" = some (some (.ref (q_fCl K))) := of_decide_eq_true (all_at g1 10 rfl)
  have eCl : PySem.W.isFn K (.ref (q_fCl K)) = true := of_decide_eq_true (all_at g1 11 rfl)
  have cI : PySem.W.fnIn K (q_fCl K) = true := of_decide_eq_true (all_at g1 12 rfl)
  have aD : PySem.W.nsIn K mainGlobals "InvalidStamps" = some (some (.ref (q_D K))) := of_decide_eq_true (all_at g1 13 rfl)
  have xD : PySem.W.excIn K (q_D K) [.type "ValueError", .type "Exception", .type "BaseException", .type "object"] "ValueError.__new__" = true := of_decide_eq_true (all_at g1 14 rfl)
  have kkD : PySem.W.keepIn K (.ref (q_D K)) = true := of_decide_eq_true (all_at g1 15 rfl)
  have bD : PySem.W.subIn K (.ref (q_D K)) (.type "BaseException") = some true := of_decide_eq_true (all_at g1 16 rfl)
  have tyD : PySem.W.typeIn K (.ref (q_D K)) = some (.type "type") := of_decide_eq_true (all_at g1 17 rfl)
  have aDN : PySem.W.nsIn K mainGlobals "InvalidName" = some (some (.ref (q_DN K))) := of_decide_eq_true (all_at g1 18 rfl)
  have xDN : PySem.W.excIn K (q_DN K) [.type "ValueError", .type "Exception", .type "BaseException", .type "object"] "ValueError.__new__" = true := of_decide_eq_true (all_at g1 19 rfl)
  have kkDN : PySem.W.keepIn K (.ref (q_DN K)) = true := of_decide_eq_true (all_at g1 20 rfl)
  have bDN : PySem.W.subIn K (.ref (q_DN K)) (.type "BaseException") = some true := of_decide_eq_true (all_at g1 21 rfl)
  have tyDN : PySem.W.typeIn K (.ref (q_DN K)) = some (.type "type") := of_decide_eq_true (all_at g1 22 rfl)
  have aDSp : PySem.W.nsIn K mainGlobals "InvalidStrip" = some (some (.ref (q_DSp K))) := of_decide_eq_true (all_at g1 23 rfl)
  have xDSp : PySem.W.excIn K (q_DSp K) [.type "ValueError", .type "Exception", .type "BaseException", .type "object"] "ValueError.__new__" = true := of_decide_eq_true (all_at g1 24 rfl)
  have kkDSp : PySem.W.keepIn K (.ref (q_DSp K)) = true := of_decide_eq_true (all_at g1 25 rfl)
  have bDSp : PySem.W.subIn K (.ref (q_DSp K)) (.type "BaseException") = some true := of_decide_eq_true (all_at g1 26 rfl)
  have tyDSp : PySem.W.typeIn K (.ref (q_DSp K)) = some (.type "type") := of_decide_eq_true (all_at g1 27 rfl)
  have aDSg : PySem.W.nsIn K mainGlobals "InvalidStamping" = some (some (.ref (q_DSg K))) := of_decide_eq_true (all_at g1 28 rfl)
  have xDSg : PySem.W.excIn K (q_DSg K) [.type "ValueError", .type "Exception", .type "BaseException", .type "object"] "ValueError.__new__" = true := of_decide_eq_true (all_at g1 29 rfl)
  have kkDSg : PySem.W.keepIn K (.ref (q_DSg K)) = true := of_decide_eq_true (all_at g1 30 rfl)
  have bDSg : PySem.W.subIn K (.ref (q_DSg K)) (.type "BaseException") = some true := of_decide_eq_true (all_at g1 31 rfl)
  have tyDSg : PySem.W.typeIn K (.ref (q_DSg K)) = some (.type "type") := of_decide_eq_true (all_at g1 32 rfl)
  have aDNum : PySem.W.nsIn K mainGlobals "InvalidNumber" = some (some (.ref (q_DNum K))) := of_decide_eq_true (all_at g1 33 rfl)
  have xDNum : PySem.W.excIn K (q_DNum K) [.type "ValueError", .type "Exception", .type "BaseException", .type "object"] "ValueError.__new__" = true := of_decide_eq_true (all_at g1 34 rfl)
  have kkDNum : PySem.W.keepIn K (.ref (q_DNum K)) = true := of_decide_eq_true (all_at g1 35 rfl)
  have bDNum : PySem.W.subIn K (.ref (q_DNum K)) (.type "BaseException") = some true := of_decide_eq_true (all_at g1 36 rfl)
  have tyDNum : PySem.W.typeIn K (.ref (q_DNum K)) = some (.type "type") := of_decide_eq_true (all_at g1 37 rfl)
  have aDNo : PySem.W.nsIn K mainGlobals "NothingToUndo" = some (some (.ref (q_DNo K))) := of_decide_eq_true (all_at g1 38 rfl)
  have xDNo : PySem.W.excIn K (q_DNo K) [.type "ValueError", .type "Exception", .type "BaseException", .type "object"] "ValueError.__new__" = true := of_decide_eq_true (all_at g1 39 rfl)
  have kkDNo : PySem.W.keepIn K (.ref (q_DNo K)) = true := of_decide_eq_true (all_at g2 0 rfl)
  have bDNo : PySem.W.subIn K (.ref (q_DNo K)) (.type "BaseException") = some true := of_decide_eq_true (all_at g2 1 rfl)
  have tyDNo : PySem.W.typeIn K (.ref (q_DNo K)) = some (.type "type") := of_decide_eq_true (all_at g2 2 rfl)
  have e6 : PySem.W.specialIn K (.builtin "object.__class__") "__get__" = some (some (.builtin "getset_descriptor.__get__")) := of_decide_eq_true (all_at g2 3 rfl)
  have e7 : PySem.W.takesIn K (.builtin "object.__class__") = some true := of_decide_eq_true (all_at g2 4 rfl)
  have ab0 : PySem.W.nsIn K mainGlobals "Line" = some (some (.ref (q_b0 K))) := of_decide_eq_true (all_at g2 5 rfl)
  have rdB0 : PySem.W.readsIn K (q_b0 K) (.type "type") = true := of_decide_eq_true (all_at g2 6 rfl)
  have gaB0 : PySem.W.specialIn K (.ref (q_b0 K)) "__getattribute__" = some (some (.builtin "type.__getattribute__")) := of_decide_eq_true (all_at g2 7 rfl)
  have pgB0 : PySem.W.plainGet K (q_b0 K) Str.empty = true := of_decide_eq_true (all_at g2 8 rfl)
  have hdB0 : PySem.W.hasDictIn K (q_b0 K) = true := of_decide_eq_true (all_at g2 9 rfl)
  have poB0 : PySem.W.plainOver K (q_b0 K) = true := of_decide_eq_true (all_at g2 10 rfl)
  have saB0 : PySem.W.findIn K (.ref (q_b0 K)) "__setattr__" = some (some (.builtin "object.__setattr__")) := of_decide_eq_true (all_at g2 11 rfl)
  have mkB0 : PySem.W.makesIn K (q_b0 K) = true := of_decide_eq_true (all_at g2 12 rfl)
  have kcB0 : PySem.W.keepIn K (.ref (q_b0 K)) = true := of_decide_eq_true (all_at g2 13 rfl)
  have eqB0 : PySem.W.findIn K (.ref (q_b0 K)) "__eq__" = some (some (.builtin "object.__eq__")) := of_decide_eq_true (all_at g2 14 rfl)
  have neB0 : PySem.W.findIn K (.ref (q_b0 K)) "__ne__" = some (some (.builtin "object.__ne__")) := of_decide_eq_true (all_at g2 15 rfl)
  have soB0 : PySem.W.subIn K (.ref (q_b0 K)) (.type "object") = some true := of_decide_eq_true (all_at g2 16 rfl)
  have iB0 : PySem.W.findIn K (.ref (q_b0 K)) "__init__" = some (some (.ref (q_fB K))) := of_decide_eq_true (all_at g2 17 rfl)
  have nS0 : PySem.W.findIn K (.ref (q_b0 K)) "_stamps" = some none := of_decide_eq_true (all_at g2 18 rfl)
  have nP0 : PySem.W.findIn K (.ref (q_b0 K)) "pieces" = some none := of_decide_eq_true (all_at g2 19 rfl)
  have nm0 : PySem.W.findCls K (.ref (q_b0 K)) (.type "type") "NAME" = some (.val (.str "line" (q_u0 K))) := of_decide_eq_true (all_at g2 20 rfl)
  have cn0 : PySem.W.findIn K (.ref (q_b0 K)) "NAME" = some (some (.str "line" (q_v0 K))) := of_decide_eq_true (all_at g2 21 rfl)
  have gc0 : PySem.W.specialIn K (.str "line" (q_v0 K)) "__get__" = some none := of_decide_eq_true (all_at g2 22 rfl)
  have ce0 : PySem.W.findIn K (.ref (q_b0 K)) "CELLS" = some (some (.int 120 (q_w0 K))) := of_decide_eq_true (all_at g2 23 rfl)
  have cg0 : PySem.W.specialIn K (.int 120 (q_w0 K)) "__get__" = some none := of_decide_eq_true (all_at g2 24 rfl)
  have nd0 : PySem.W.findCls K (.ref (q_b0 K)) (.type "type") "named" = some (.get (.builtin "classmethod.__get__") (.ref (q_pN K)) .none (.ref (q_b0 K))) := of_decide_eq_true (all_at g2 25 rfl)
  have pr0 : PySem.W.findIn K (.ref (q_b0 K)) "stamps" = some (some (.ref (q_pS K))) := of_decide_eq_true (all_at g2 26 rfl)
  have kn0 : PySem.W.findIn K (.ref (q_b0 K)) "_knows" = some (some (.ref (q_fKn K))) := of_decide_eq_true (all_at g2 27 rfl)
  have ck0 : PySem.W.findIn K (.ref (q_b0 K)) "_check_stamping" = some (some (.ref (q_fCk K))) := of_decide_eq_true (all_at g2 28 rfl)
  have cs0 : PySem.W.findIn K (.ref (q_b0 K)) "check_strip" = some (some (.ref (q_fCs K))) := of_decide_eq_true (all_at g2 29 rfl)
  have hcb0 : PySem.W.findIn K (.ref (q_b0 K)) "__class__" = some (some (.builtin "object.__class__")) := of_decide_eq_true (all_at g2 30 rfl)
  have hmb0 : PySem.W.mroIn K (q_b0 K) (.type "object") = some true := of_decide_eq_true (all_at g2 31 rfl)
  have icb0 : PySem.W.isClsIn K (q_b0 K) = true := of_decide_eq_true (all_at g2 32 rfl)
  have tyb0 : PySem.W.typeIn K (.ref (q_b0 K)) = some (.type "type") := of_decide_eq_true (all_at g2 33 rfl)
  have ab1 : PySem.W.nsIn K mainGlobals "Window" = some (some (.ref (q_b1 K))) := of_decide_eq_true (all_at g2 34 rfl)
  have rdB1 : PySem.W.readsIn K (q_b1 K) (.type "type") = true := of_decide_eq_true (all_at g2 35 rfl)
  have gaB1 : PySem.W.specialIn K (.ref (q_b1 K)) "__getattribute__" = some (some (.builtin "type.__getattribute__")) := of_decide_eq_true (all_at g2 36 rfl)
  have pgB1 : PySem.W.plainGet K (q_b1 K) Str.empty = true := of_decide_eq_true (all_at g2 37 rfl)
  have hdB1 : PySem.W.hasDictIn K (q_b1 K) = true := of_decide_eq_true (all_at g2 38 rfl)
  have poB1 : PySem.W.plainOver K (q_b1 K) = true := of_decide_eq_true (all_at g2 39 rfl)
  have saB1 : PySem.W.findIn K (.ref (q_b1 K)) "__setattr__" = some (some (.builtin "object.__setattr__")) := of_decide_eq_true (all_at g3 0 rfl)
  have mkB1 : PySem.W.makesIn K (q_b1 K) = true := of_decide_eq_true (all_at g3 1 rfl)
  have kcB1 : PySem.W.keepIn K (.ref (q_b1 K)) = true := of_decide_eq_true (all_at g3 2 rfl)
  have eqB1 : PySem.W.findIn K (.ref (q_b1 K)) "__eq__" = some (some (.builtin "object.__eq__")) := of_decide_eq_true (all_at g3 3 rfl)
  have neB1 : PySem.W.findIn K (.ref (q_b1 K)) "__ne__" = some (some (.builtin "object.__ne__")) := of_decide_eq_true (all_at g3 4 rfl)
  have soB1 : PySem.W.subIn K (.ref (q_b1 K)) (.type "object") = some true := of_decide_eq_true (all_at g3 5 rfl)
  have iB1 : PySem.W.findIn K (.ref (q_b1 K)) "__init__" = some (some (.ref (q_fB K))) := of_decide_eq_true (all_at g3 6 rfl)
  have nS1 : PySem.W.findIn K (.ref (q_b1 K)) "_stamps" = some none := of_decide_eq_true (all_at g3 7 rfl)
  have nP1 : PySem.W.findIn K (.ref (q_b1 K)) "pieces" = some none := of_decide_eq_true (all_at g3 8 rfl)
  have nm1 : PySem.W.findCls K (.ref (q_b1 K)) (.type "type") "NAME" = some (.val (.str "window" (q_u1 K))) := of_decide_eq_true (all_at g3 9 rfl)
  have cn1 : PySem.W.findIn K (.ref (q_b1 K)) "NAME" = some (some (.str "window" (q_v1 K))) := of_decide_eq_true (all_at g3 10 rfl)
  have gc1 : PySem.W.specialIn K (.str "window" (q_v1 K)) "__get__" = some none := of_decide_eq_true (all_at g3 11 rfl)
  have ce1 : PySem.W.findIn K (.ref (q_b1 K)) "CELLS" = some (some (.int 120 (q_w1 K))) := of_decide_eq_true (all_at g3 12 rfl)
  have cg1 : PySem.W.specialIn K (.int 120 (q_w1 K)) "__get__" = some none := of_decide_eq_true (all_at g3 13 rfl)
  have nd1 : PySem.W.findCls K (.ref (q_b1 K)) (.type "type") "named" = some (.get (.builtin "classmethod.__get__") (.ref (q_pN K)) .none (.ref (q_b1 K))) := of_decide_eq_true (all_at g3 14 rfl)
  have pr1 : PySem.W.findIn K (.ref (q_b1 K)) "stamps" = some (some (.ref (q_pS K))) := of_decide_eq_true (all_at g3 15 rfl)
  have kn1 : PySem.W.findIn K (.ref (q_b1 K)) "_knows" = some (some (.ref (q_fKn K))) := of_decide_eq_true (all_at g3 16 rfl)
  have ck1 : PySem.W.findIn K (.ref (q_b1 K)) "_check_stamping" = some (some (.ref (q_fCk K))) := of_decide_eq_true (all_at g3 17 rfl)
  have cs1 : PySem.W.findIn K (.ref (q_b1 K)) "check_strip" = some (some (.ref (q_fCs K))) := of_decide_eq_true (all_at g3 18 rfl)
  have hcb1 : PySem.W.findIn K (.ref (q_b1 K)) "__class__" = some (some (.builtin "object.__class__")) := of_decide_eq_true (all_at g3 19 rfl)
  have hmb1 : PySem.W.mroIn K (q_b1 K) (.type "object") = some true := of_decide_eq_true (all_at g3 20 rfl)
  have icb1 : PySem.W.isClsIn K (q_b1 K) = true := of_decide_eq_true (all_at g3 21 rfl)
  have tyb1 : PySem.W.typeIn K (.ref (q_b1 K)) = some (.type "type") := of_decide_eq_true (all_at g3 22 rfl)
  have ab2 : PySem.W.nsIn K mainGlobals "Ring" = some (some (.ref (q_b2 K))) := of_decide_eq_true (all_at g3 23 rfl)
  have rdB2 : PySem.W.readsIn K (q_b2 K) (.type "type") = true := of_decide_eq_true (all_at g3 24 rfl)
  have gaB2 : PySem.W.specialIn K (.ref (q_b2 K)) "__getattribute__" = some (some (.builtin "type.__getattribute__")) := of_decide_eq_true (all_at g3 25 rfl)
  have pgB2 : PySem.W.plainGet K (q_b2 K) Str.empty = true := of_decide_eq_true (all_at g3 26 rfl)
  have hdB2 : PySem.W.hasDictIn K (q_b2 K) = true := of_decide_eq_true (all_at g3 27 rfl)
  have poB2 : PySem.W.plainOver K (q_b2 K) = true := of_decide_eq_true (all_at g3 28 rfl)
  have saB2 : PySem.W.findIn K (.ref (q_b2 K)) "__setattr__" = some (some (.builtin "object.__setattr__")) := of_decide_eq_true (all_at g3 29 rfl)
  have mkB2 : PySem.W.makesIn K (q_b2 K) = true := of_decide_eq_true (all_at g3 30 rfl)
  have kcB2 : PySem.W.keepIn K (.ref (q_b2 K)) = true := of_decide_eq_true (all_at g3 31 rfl)
  have eqB2 : PySem.W.findIn K (.ref (q_b2 K)) "__eq__" = some (some (.builtin "object.__eq__")) := of_decide_eq_true (all_at g3 32 rfl)
  have neB2 : PySem.W.findIn K (.ref (q_b2 K)) "__ne__" = some (some (.builtin "object.__ne__")) := of_decide_eq_true (all_at g3 33 rfl)
  have soB2 : PySem.W.subIn K (.ref (q_b2 K)) (.type "object") = some true := of_decide_eq_true (all_at g3 34 rfl)
  have iB2 : PySem.W.findIn K (.ref (q_b2 K)) "__init__" = some (some (.ref (q_fB K))) := of_decide_eq_true (all_at g3 35 rfl)
  have nS2 : PySem.W.findIn K (.ref (q_b2 K)) "_stamps" = some none := of_decide_eq_true (all_at g3 36 rfl)
  have nP2 : PySem.W.findIn K (.ref (q_b2 K)) "pieces" = some none := of_decide_eq_true (all_at g3 37 rfl)
  have nm2 : PySem.W.findCls K (.ref (q_b2 K)) (.type "type") "NAME" = some (.val (.str "ring" (q_u2 K))) := of_decide_eq_true (all_at g3 38 rfl)
  have cn2 : PySem.W.findIn K (.ref (q_b2 K)) "NAME" = some (some (.str "ring" (q_v2 K))) := of_decide_eq_true (all_at g3 39 rfl)
  have gc2 : PySem.W.specialIn K (.str "ring" (q_v2 K)) "__get__" = some none := of_decide_eq_true (all_at g4 0 rfl)
  have ce2 : PySem.W.findIn K (.ref (q_b2 K)) "CELLS" = some (some (.int 60 (q_w2 K))) := of_decide_eq_true (all_at g4 1 rfl)
  have cg2 : PySem.W.specialIn K (.int 60 (q_w2 K)) "__get__" = some none := of_decide_eq_true (all_at g4 2 rfl)
  have nd2 : PySem.W.findCls K (.ref (q_b2 K)) (.type "type") "named" = some (.get (.builtin "classmethod.__get__") (.ref (q_pN K)) .none (.ref (q_b2 K))) := of_decide_eq_true (all_at g4 3 rfl)
  have pr2 : PySem.W.findIn K (.ref (q_b2 K)) "stamps" = some (some (.ref (q_pS K))) := of_decide_eq_true (all_at g4 4 rfl)
  have kn2 : PySem.W.findIn K (.ref (q_b2 K)) "_knows" = some (some (.ref (q_fKn K))) := of_decide_eq_true (all_at g4 5 rfl)
  have ck2 : PySem.W.findIn K (.ref (q_b2 K)) "_check_stamping" = some (some (.ref (q_fCk K))) := of_decide_eq_true (all_at g4 6 rfl)
  have cs2 : PySem.W.findIn K (.ref (q_b2 K)) "check_strip" = some (some (.ref (q_fCs K))) := of_decide_eq_true (all_at g4 7 rfl)
  have hcb2 : PySem.W.findIn K (.ref (q_b2 K)) "__class__" = some (some (.builtin "object.__class__")) := of_decide_eq_true (all_at g4 8 rfl)
  have hmb2 : PySem.W.mroIn K (q_b2 K) (.type "object") = some true := of_decide_eq_true (all_at g4 9 rfl)
  have icb2 : PySem.W.isClsIn K (q_b2 K) = true := of_decide_eq_true (all_at g4 10 rfl)
  have tyb2 : PySem.W.typeIn K (.ref (q_b2 K)) = some (.type "type") := of_decide_eq_true (all_at g4 11 rfl)
  have ab3 : PySem.W.nsIn K mainGlobals "Band" = some (some (.ref (q_b3 K))) := of_decide_eq_true (all_at g4 12 rfl)
  have rdB3 : PySem.W.readsIn K (q_b3 K) (.type "type") = true := of_decide_eq_true (all_at g4 13 rfl)
  have gaB3 : PySem.W.specialIn K (.ref (q_b3 K)) "__getattribute__" = some (some (.builtin "type.__getattribute__")) := of_decide_eq_true (all_at g4 14 rfl)
  have pgB3 : PySem.W.plainGet K (q_b3 K) Str.empty = true := of_decide_eq_true (all_at g4 15 rfl)
  have hdB3 : PySem.W.hasDictIn K (q_b3 K) = true := of_decide_eq_true (all_at g4 16 rfl)
  have poB3 : PySem.W.plainOver K (q_b3 K) = true := of_decide_eq_true (all_at g4 17 rfl)
  have saB3 : PySem.W.findIn K (.ref (q_b3 K)) "__setattr__" = some (some (.builtin "object.__setattr__")) := of_decide_eq_true (all_at g4 18 rfl)
  have mkB3 : PySem.W.makesIn K (q_b3 K) = true := of_decide_eq_true (all_at g4 19 rfl)
  have kcB3 : PySem.W.keepIn K (.ref (q_b3 K)) = true := of_decide_eq_true (all_at g4 20 rfl)
  have eqB3 : PySem.W.findIn K (.ref (q_b3 K)) "__eq__" = some (some (.builtin "object.__eq__")) := of_decide_eq_true (all_at g4 21 rfl)
  have neB3 : PySem.W.findIn K (.ref (q_b3 K)) "__ne__" = some (some (.builtin "object.__ne__")) := of_decide_eq_true (all_at g4 22 rfl)
  have soB3 : PySem.W.subIn K (.ref (q_b3 K)) (.type "object") = some true := of_decide_eq_true (all_at g4 23 rfl)
  have iB3 : PySem.W.findIn K (.ref (q_b3 K)) "__init__" = some (some (.ref (q_fB K))) := of_decide_eq_true (all_at g4 24 rfl)
  have nS3 : PySem.W.findIn K (.ref (q_b3 K)) "_stamps" = some none := of_decide_eq_true (all_at g4 25 rfl)
  have nP3 : PySem.W.findIn K (.ref (q_b3 K)) "pieces" = some none := of_decide_eq_true (all_at g4 26 rfl)
  have nm3 : PySem.W.findCls K (.ref (q_b3 K)) (.type "type") "NAME" = some (.val (.str "" (q_u3 K))) := of_decide_eq_true (all_at g4 27 rfl)
  have cn3 : PySem.W.findIn K (.ref (q_b3 K)) "NAME" = some (some (.str "" (q_v3 K))) := of_decide_eq_true (all_at g4 28 rfl)
  have gc3 : PySem.W.specialIn K (.str "" (q_v3 K)) "__get__" = some none := of_decide_eq_true (all_at g4 29 rfl)
  have ce3 : PySem.W.findIn K (.ref (q_b3 K)) "CELLS" = some (some (.int 120 (q_w3 K))) := of_decide_eq_true (all_at g4 30 rfl)
  have cg3 : PySem.W.specialIn K (.int 120 (q_w3 K)) "__get__" = some none := of_decide_eq_true (all_at g4 31 rfl)
  have nd3 : PySem.W.findCls K (.ref (q_b3 K)) (.type "type") "named" = some (.get (.builtin "classmethod.__get__") (.ref (q_pN K)) .none (.ref (q_b3 K))) := of_decide_eq_true (all_at g4 32 rfl)
  have pr3 : PySem.W.findIn K (.ref (q_b3 K)) "stamps" = some (some (.ref (q_pS K))) := of_decide_eq_true (all_at g4 33 rfl)
  have kn3 : PySem.W.findIn K (.ref (q_b3 K)) "_knows" = some (some (.ref (q_fKn K))) := of_decide_eq_true (all_at g4 34 rfl)
  have ck3 : PySem.W.findIn K (.ref (q_b3 K)) "_check_stamping" = some (some (.ref (q_fCk K))) := of_decide_eq_true (all_at g4 35 rfl)
  have cs3 : PySem.W.findIn K (.ref (q_b3 K)) "check_strip" = some (some (.ref (q_fCs K))) := of_decide_eq_true (all_at g4 36 rfl)
  have hcb3 : PySem.W.findIn K (.ref (q_b3 K)) "__class__" = some (some (.builtin "object.__class__")) := of_decide_eq_true (all_at g4 37 rfl)
  have hmb3 : PySem.W.mroIn K (q_b3 K) (.type "object") = some true := of_decide_eq_true (all_at g4 38 rfl)
  have icb3 : PySem.W.isClsIn K (q_b3 K) = true := of_decide_eq_true (all_at g4 39 rfl)
  have tyb3 : PySem.W.typeIn K (.ref (q_b3 K)) = some (.type "type") := of_decide_eq_true (all_at g5 0 rfl)
  have jB : PySem.W.isFn K (.ref (q_fB K)) = true := of_decide_eq_true (all_at g5 1 rfl)
  have jKn : PySem.W.isFn K (.ref (q_fKn K)) = true := of_decide_eq_true (all_at g5 2 rfl)
  have jCs : PySem.W.isFn K (.ref (q_fCs K)) = true := of_decide_eq_true (all_at g5 3 rfl)
  have jCk : PySem.W.isFn K (.ref (q_fCk K)) = true := of_decide_eq_true (all_at g5 4 rfl)
  have nR : PySem.W.recIn K (q_pN K) "classmethod" = some (.ref (q_gN K) :: (q_restN K)) := of_decide_eq_true (all_at g5 5 rfl)
  have nF : PySem.W.fnIn K (q_gN K) = true := of_decide_eq_true (all_at g5 6 rfl)
  have p1 : PySem.W.specialIn K (.ref (q_pS K)) "__get__" = some (some (.builtin "property.__get__")) := of_decide_eq_true (all_at g5 7 rfl)
  have p2 : PySem.W.takesIn K (.ref (q_pS K)) = some true := of_decide_eq_true (all_at g5 8 rfl)
  have p3 : PySem.W.recIn K (q_pS K) "property" = some (.ref (q_gS K) :: (q_restS K)) := of_decide_eq_true (all_at g5 9 rfl)
  have sb00 : PySem.W.subIn K (.ref (q_b0 K)) (.ref (q_b0 K)) = some true := of_decide_eq_true (all_at g5 10 rfl)
  have sb01 : PySem.W.subIn K (.ref (q_b0 K)) (.ref (q_b1 K)) = some false := of_decide_eq_true (all_at g5 11 rfl)
  have sb02 : PySem.W.subIn K (.ref (q_b0 K)) (.ref (q_b2 K)) = some false := of_decide_eq_true (all_at g5 12 rfl)
  have sb03 : PySem.W.subIn K (.ref (q_b0 K)) (.ref (q_b3 K)) = some true := of_decide_eq_true (all_at g5 13 rfl)
  have sb10 : PySem.W.subIn K (.ref (q_b1 K)) (.ref (q_b0 K)) = some false := of_decide_eq_true (all_at g5 14 rfl)
  have sb11 : PySem.W.subIn K (.ref (q_b1 K)) (.ref (q_b1 K)) = some true := of_decide_eq_true (all_at g5 15 rfl)
  have sb12 : PySem.W.subIn K (.ref (q_b1 K)) (.ref (q_b2 K)) = some false := of_decide_eq_true (all_at g5 16 rfl)
  have sb13 : PySem.W.subIn K (.ref (q_b1 K)) (.ref (q_b3 K)) = some true := of_decide_eq_true (all_at g5 17 rfl)
  have sb20 : PySem.W.subIn K (.ref (q_b2 K)) (.ref (q_b0 K)) = some false := of_decide_eq_true (all_at g5 18 rfl)
  have sb21 : PySem.W.subIn K (.ref (q_b2 K)) (.ref (q_b1 K)) = some false := of_decide_eq_true (all_at g5 19 rfl)
  have sb22 : PySem.W.subIn K (.ref (q_b2 K)) (.ref (q_b2 K)) = some true := of_decide_eq_true (all_at g5 20 rfl)
  have sb23 : PySem.W.subIn K (.ref (q_b2 K)) (.ref (q_b3 K)) = some true := of_decide_eq_true (all_at g5 21 rfl)
  have sb30 : PySem.W.subIn K (.ref (q_b3 K)) (.ref (q_b0 K)) = some false := of_decide_eq_true (all_at g5 22 rfl)
  have sb31 : PySem.W.subIn K (.ref (q_b3 K)) (.ref (q_b1 K)) = some false := of_decide_eq_true (all_at g5 23 rfl)
  have sb32 : PySem.W.subIn K (.ref (q_b3 K)) (.ref (q_b2 K)) = some false := of_decide_eq_true (all_at g5 24 rfl)
  have sb33 : PySem.W.subIn K (.ref (q_b3 K)) (.ref (q_b3 K)) = some true := of_decide_eq_true (all_at g5 25 rfl)
  have mF0 : PySem.W.findIn K (.ref (q_b0 K)) "fits" = some (some (.ref (q_fF0 K))) := of_decide_eq_true (all_at g5 26 rfl)
  have jF0 : PySem.W.isFn K (.ref (q_fF0 K)) = true := of_decide_eq_true (all_at g5 27 rfl)
  have kF0_ : PySem.W.keepIn K (.ref (q_fF0 K)) = true := of_decide_eq_true (all_at g5 28 rfl)
  have mS0 : PySem.W.findIn K (.ref (q_b0 K)) "stamped" = some (some (.ref (q_fS0 K))) := of_decide_eq_true (all_at g5 29 rfl)
  have jS0 : PySem.W.isFn K (.ref (q_fS0 K)) = true := of_decide_eq_true (all_at g5 30 rfl)
  have kS0_ : PySem.W.keepIn K (.ref (q_fS0 K)) = true := of_decide_eq_true (all_at g5 31 rfl)
  have mF1 : PySem.W.findIn K (.ref (q_b1 K)) "fits" = some (some (.ref (q_fF1 K))) := of_decide_eq_true (all_at g5 32 rfl)
  have jF1 : PySem.W.isFn K (.ref (q_fF1 K)) = true := of_decide_eq_true (all_at g5 33 rfl)
  have kF1_ : PySem.W.keepIn K (.ref (q_fF1 K)) = true := of_decide_eq_true (all_at g5 34 rfl)
  have mS1 : PySem.W.findIn K (.ref (q_b1 K)) "stamped" = some (some (.ref (q_fS1 K))) := of_decide_eq_true (all_at g5 35 rfl)
  have jS1 : PySem.W.isFn K (.ref (q_fS1 K)) = true := of_decide_eq_true (all_at g5 36 rfl)
  have kS1_ : PySem.W.keepIn K (.ref (q_fS1 K)) = true := of_decide_eq_true (all_at g5 37 rfl)
  have mF2 : PySem.W.findIn K (.ref (q_b2 K)) "fits" = some (some (.ref (q_fF2 K))) := of_decide_eq_true (all_at g5 38 rfl)
  have jF2 : PySem.W.isFn K (.ref (q_fF2 K)) = true := of_decide_eq_true (all_at g5 39 rfl)
  have kF2_ : PySem.W.keepIn K (.ref (q_fF2 K)) = true := of_decide_eq_true (all_at g6 0 rfl)
  have mS2 : PySem.W.findIn K (.ref (q_b2 K)) "stamped" = some (some (.ref (q_fS2 K))) := of_decide_eq_true (all_at g6 1 rfl)
  have jS2 : PySem.W.isFn K (.ref (q_fS2 K)) = true := of_decide_eq_true (all_at g6 2 rfl)
  have kS2_ : PySem.W.keepIn K (.ref (q_fS2 K)) = true := of_decide_eq_true (all_at g6 3 rfl)
  have aCP : PySem.W.nsIn K mainGlobals "Pieces" = some (some (.ref (q_CP K))) := of_decide_eq_true (all_at g6 4 rfl)
  have rdP : PySem.W.readsIn K (q_CP K) (.type "type") = true := of_decide_eq_true (all_at g6 5 rfl)
  have gaP : PySem.W.specialIn K (.ref (q_CP K)) "__getattribute__" = some (some (.builtin "type.__getattribute__")) := of_decide_eq_true (all_at g6 6 rfl)
  have pgP : PySem.W.plainGet K (q_CP K) Str.empty = true := of_decide_eq_true (all_at g6 7 rfl)
  have hdP : PySem.W.hasDictIn K (q_CP K) = true := of_decide_eq_true (all_at g6 8 rfl)
  have poP : PySem.W.plainOver K (q_CP K) = true := of_decide_eq_true (all_at g6 9 rfl)
  have saP : PySem.W.findIn K (.ref (q_CP K)) "__setattr__" = some (some (.builtin "object.__setattr__")) := of_decide_eq_true (all_at g6 10 rfl)
  have mkP : PySem.W.makesIn K (q_CP K) = true := of_decide_eq_true (all_at g6 11 rfl)
  have kcP : PySem.W.keepIn K (.ref (q_CP K)) = true := of_decide_eq_true (all_at g6 12 rfl)
  have iP : PySem.W.findIn K (.ref (q_CP K)) "__init__" = some (some (.ref (q_fP K))) := of_decide_eq_true (all_at g6 13 rfl)
  have jP : PySem.W.isFn K (.ref (q_fP K)) = true := of_decide_eq_true (all_at g6 14 rfl)
  have nq1 : PySem.W.findIn K (.ref (q_CP K)) "span" = some none := of_decide_eq_true (all_at g6 15 rfl)
  have nq2 : PySem.W.findIn K (.ref (q_CP K)) "spots" = some none := of_decide_eq_true (all_at g6 16 rfl)
  have nq3 : PySem.W.findIn K (.ref (q_CP K)) "kinds" = some none := of_decide_eq_true (all_at g6 17 rfl)
  have aSp : PySem.W.nsIn K mainGlobals "spots_of" = some (some (.ref (q_fSp K))) := of_decide_eq_true (all_at g6 18 rfl)
  have aKi : PySem.W.nsIn K mainGlobals "kinds_of" = some (some (.ref (q_fKi K))) := of_decide_eq_true (all_at g6 19 rfl)
  have z_enumerate : PySem.W.nsIn K mainGlobals "enumerate" = some none := of_decide_eq_true (all_at g6 20 rfl)
  have acPa : PySem.W.nsIn K mainGlobals "Paper" = some (some (.ref (q_cPa K))) := of_decide_eq_true (all_at g6 21 rfl)
  have rdPa : PySem.W.readsIn K (q_cPa K) (.type "type") = true := of_decide_eq_true (all_at g6 22 rfl)
  have gaPa : PySem.W.specialIn K (.ref (q_cPa K)) "__getattribute__" = some (some (.builtin "type.__getattribute__")) := of_decide_eq_true (all_at g6 23 rfl)
  have pgPa : PySem.W.plainGet K (q_cPa K) Str.empty = true := of_decide_eq_true (all_at g6 24 rfl)
  have hdPa : PySem.W.hasDictIn K (q_cPa K) = true := of_decide_eq_true (all_at g6 25 rfl)
  have poPa : PySem.W.plainOver K (q_cPa K) = true := of_decide_eq_true (all_at g6 26 rfl)
  have saPa : PySem.W.findIn K (.ref (q_cPa K)) "__setattr__" = some (some (.builtin "object.__setattr__")) := of_decide_eq_true (all_at g6 27 rfl)
  have mkPa : PySem.W.makesIn K (q_cPa K) = true := of_decide_eq_true (all_at g6 28 rfl)
  have kcPa : PySem.W.keepIn K (.ref (q_cPa K)) = true := of_decide_eq_true (all_at g6 29 rfl)
  have iPaI : PySem.W.findIn K (.ref (q_cPa K)) "__init__" = some (some (.ref (q_fPaI K))) := of_decide_eq_true (all_at g6 30 rfl)
  have jPaI : PySem.W.isFn K (.ref (q_fPaI K)) = true := of_decide_eq_true (all_at g6 31 rfl)
  have nPB : PySem.W.findIn K (.ref (q_cPa K)) "_band" = some none := of_decide_eq_true (all_at g6 32 rfl)
  have nPZ : PySem.W.findIn K (.ref (q_cPa K)) "_size" = some none := of_decide_eq_true (all_at g6 33 rfl)
  have nPP : PySem.W.findIn K (.ref (q_cPa K)) "_pressed" = some none := of_decide_eq_true (all_at g6 34 rfl)
  have nPS : PySem.W.findIn K (.ref (q_cPa K)) "_strips" = some none := of_decide_eq_true (all_at g6 35 rfl)
  have nPM : PySem.W.findIn K (.ref (q_cPa K)) "_marks" = some none := of_decide_eq_true (all_at g6 36 rfl)
  have prPsh : PySem.W.findIn K (.ref (q_cPa K)) "shown" = some (some (.ref (q_pPsh K))) := of_decide_eq_true (all_at g6 37 rfl)
  have pGPsh : PySem.W.specialIn K (.ref (q_pPsh K)) "__get__" = some (some (.builtin "property.__get__")) := of_decide_eq_true (all_at g6 38 rfl)
  have ptPsh : PySem.W.takesIn K (.ref (q_pPsh K)) = some true := of_decide_eq_true (all_at g6 39 rfl)
  have pcPsh : PySem.W.recIn K (q_pPsh K) "property" = some (.ref (q_gPsh K) :: (q_restPsh K)) := of_decide_eq_true (all_at g7 0 rfl)
  have prPst : PySem.W.findIn K (.ref (q_cPa K)) "stampings" = some (some (.ref (q_pPst K))) := of_decide_eq_true (all_at g7 1 rfl)
  have pGPst : PySem.W.specialIn K (.ref (q_pPst K)) "__get__" = some (some (.builtin "property.__get__")) := of_decide_eq_true (all_at g7 2 rfl)
  have ptPst : PySem.W.takesIn K (.ref (q_pPst K)) = some true := of_decide_eq_true (all_at g7 3 rfl)
  have pcPst : PySem.W.recIn K (q_pPst K) "property" = some (.ref (q_gPst K) :: (q_restPst K)) := of_decide_eq_true (all_at g7 4 rfl)
  have dPln : PySem.W.findIn K (.ref (q_cPa K)) "__len__" = some (some (.ref (q_fPln K))) := of_decide_eq_true (all_at g7 5 rfl)
  have ePln : PySem.W.isFn K (.ref (q_fPln K)) = true := of_decide_eq_true (all_at g7 6 rfl)
  have mPpr : PySem.W.findIn K (.ref (q_cPa K)) "press" = some (some (.ref (q_fPpr K))) := of_decide_eq_true (all_at g7 7 rfl)
  have jPpr : PySem.W.isFn K (.ref (q_fPpr K)) = true := of_decide_eq_true (all_at g7 8 rfl)
  have mPkp : PySem.W.findIn K (.ref (q_cPa K)) "_keep" = some (some (.ref (q_fPkp K))) := of_decide_eq_true (all_at g7 9 rfl)
  have jPkp : PySem.W.isFn K (.ref (q_fPkp K)) = true := of_decide_eq_true (all_at g7 10 rfl)
  have mPun : PySem.W.findIn K (.ref (q_cPa K)) "undo" = some (some (.ref (q_fPun K))) := of_decide_eq_true (all_at g7 11 rfl)
  have jPun : PySem.W.isFn K (.ref (q_fPun K)) = true := of_decide_eq_true (all_at g7 12 rfl)
  have mPmk : PySem.W.findIn K (.ref (q_cPa K)) "mark" = some (some (.ref (q_fPmk K))) := of_decide_eq_true (all_at g7 13 rfl)
  have jPmk : PySem.W.isFn K (.ref (q_fPmk K)) = true := of_decide_eq_true (all_at g7 14 rfl)
  have mPbk : PySem.W.findIn K (.ref (q_cPa K)) "undo_to" = some (some (.ref (q_fPbk K))) := of_decide_eq_true (all_at g7 15 rfl)
  have jPbk : PySem.W.isFn K (.ref (q_fPbk K)) = true := of_decide_eq_true (all_at g7 16 rfl)
  have mPtw : PySem.W.findIn K (.ref (q_cPa K)) "twin" = some (some (.ref (q_fPtw K))) := of_decide_eq_true (all_at g7 17 rfl)
  have jPtw : PySem.W.isFn K (.ref (q_fPtw K)) = true := of_decide_eq_true (all_at g7 18 rfl)
  have eqPa : PySem.W.findIn K (.ref (q_cPa K)) "__eq__" = some (some (.builtin "object.__eq__")) := of_decide_eq_true (all_at g7 19 rfl)
  have nePa : PySem.W.findIn K (.ref (q_cPa K)) "__ne__" = some (some (.builtin "object.__ne__")) := of_decide_eq_true (all_at g7 20 rfl)
  have soPa : PySem.W.subIn K (.ref (q_cPa K)) (.type "object") = some true := of_decide_eq_true (all_at g7 21 rfl)
  have mIs0 : PySem.W.findIn K (.ref (q_b0 K)) "is_stamping" = some (some (.ref (q_fIs K))) := of_decide_eq_true (all_at g7 22 rfl)
  have mIs1 : PySem.W.findIn K (.ref (q_b1 K)) "is_stamping" = some (some (.ref (q_fIs K))) := of_decide_eq_true (all_at g7 23 rfl)
  have mIs2 : PySem.W.findIn K (.ref (q_b2 K)) "is_stamping" = some (some (.ref (q_fIs K))) := of_decide_eq_true (all_at g7 24 rfl)
  have jIs : PySem.W.isFn K (.ref (q_fIs K)) = true := of_decide_eq_true (all_at g7 25 rfl)
  have mPal : PySem.W.findIn K (.ref (q_cPa K)) "press_all" = some (some (.ref (q_fPal K))) := of_decide_eq_true (all_at g7 26 rfl)
  have jPal : PySem.W.isFn K (.ref (q_fPal K)) = true := of_decide_eq_true (all_at g7 27 rfl)
  have u4DNo : PySem.W.hasDictIn K (q_DNo K) = true := of_decide_eq_true (all_at g7 28 rfl)
  have snDNo_DNo : PySem.W.subIn K (.ref (q_DNo K)) (.ref (q_DNo K)) = some true := of_decide_eq_true (all_at g7 29 rfl)
  have gfPal : PySem.W.specialIn K (.ref (q_fPal K)) "__get__" = some (some (.builtin "function.__get__")) := of_decide_eq_true (all_at g7 30 rfl)
  have tkPal : PySem.W.takesIn K (.ref (q_fPal K)) = some false := of_decide_eq_true (all_at g7 31 rfl)
  have fiPal : PySem.W.fnIn K (q_fPal K) = true := of_decide_eq_true (all_at g7 32 rfl)
  have z_all : PySem.W.nsIn K mainGlobals "all" = some none := of_decide_eq_true (all_at g7 33 rfl)
  have z_len : PySem.W.nsIn K mainGlobals "len" = some none := of_decide_eq_true (all_at g7 34 rfl)
  have z_isinstance : PySem.W.nsIn K mainGlobals "isinstance" = some none := of_decide_eq_true (all_at g7 35 rfl)
  have z_str : PySem.W.nsIn K mainGlobals "str" = some none := of_decide_eq_true (all_at g7 36 rfl)
  have z_list : PySem.W.nsIn K mainGlobals "list" = some none := of_decide_eq_true (all_at g7 37 rfl)
  have z_set : PySem.W.nsIn K mainGlobals "set" = some none := of_decide_eq_true (all_at g7 38 rfl)
  have z_abs : PySem.W.nsIn K mainGlobals "abs" = some none := of_decide_eq_true (all_at g7 39 rfl)
  have z_max : PySem.W.nsIn K mainGlobals "max" = some none := of_decide_eq_true (all_at g8 0 rfl)
  have z_min : PySem.W.nsIn K mainGlobals "min" = some none := of_decide_eq_true (all_at g8 1 rfl)
  have z_range : PySem.W.nsIn K mainGlobals "range" = some none := of_decide_eq_true (all_at g8 2 rfl)
  have z_int : PySem.W.nsIn K mainGlobals "int" = some none := of_decide_eq_true (all_at g8 3 rfl)
  have z_bool : PySem.W.nsIn K mainGlobals "bool" = some none := of_decide_eq_true (all_at g8 4 rfl)
  have z_repr : PySem.W.nsIn K mainGlobals "repr" = some none := of_decide_eq_true (all_at g8 5 rfl)
  have z_tuple : PySem.W.nsIn K mainGlobals "tuple" = some none := of_decide_eq_true (all_at g8 6 rfl)
  obtain ⟨ocLow, odLow, kVLow, dcLow, pmLow, anLow, cdLow, ctLow, slLow, l0Low, c0Low, k0Low⟩ := c.def_ 0 (d := d_Low) rfl
  obtain rfl : cdLow = .ref (q_cLow K) := codeP_eq l0Low c0Low
  have lLow : K.lookup (q_fLow K) = some ⟨ocLow, odLow, .func (PySem.W.fnOf "is_lowercase" "is_lowercase" (defArgs sLow) (defBody sLow) (defScope sLow) .none kVLow dcLow pmLow anLow (.ref (q_cLow K)) ctLow), slLow⟩ := l0Low
  have coLow : PySem.W.codeIn K (.ref (q_cLow K)) "is_lowercase" = true := c0Low
  have kLow : PySem.W.keepIn K (.ref (q_fLow K)) = true := k0Low
  obtain ⟨ocText, odText, kVText, dcText, pmText, anText, cdText, ctText, slText, l0Text, c0Text, k0Text⟩ := c.def_ 1 (d := d_Text) rfl
  have lText : K.lookup (q_fText K) = some ⟨ocText, odText, .func (PySem.W.fnOf "is_text" "is_text" (defArgs sText) (defBody sText) (defScope sText) .none kVText dcText pmText anText cdText ctText), slText⟩ := l0Text
  have coText : PySem.W.codeIn K cdText "is_text" = true := c0Text
  have kText : PySem.W.keepIn K (.ref (q_fText K)) = true := k0Text
  obtain ⟨ocAre, odAre, kVAre, dcAre, pmAre, anAre, cdAre, ctAre, slAre, l0Are, c0Are, k0Are⟩ := c.def_ 2 (d := d_Are) rfl
  obtain rfl : cdAre = .ref (q_cAre K) := codeP_eq l0Are c0Are
  have lAre : K.lookup (q_fAre K) = some ⟨ocAre, odAre, .func (PySem.W.fnOf "are_stamps" "are_stamps" (defArgs sAre) (defBody sAre) (defScope sAre) .none kVAre dcAre pmAre anAre (.ref (q_cAre K)) ctAre), slAre⟩ := l0Are
  have coAre : PySem.W.codeIn K (.ref (q_cAre K)) "are_stamps" = true := c0Are
  have kAre : PySem.W.keepIn K (.ref (q_fAre K)) = true := k0Are
  obtain ⟨ocStrip, odStrip, kVStrip, dcStrip, pmStrip, anStrip, cdStrip, ctStrip, slStrip, l0Strip, c0Strip, k0Strip⟩ := c.def_ 3 (d := d_Strip) rfl
  have lStrip : K.lookup (q_fStrip K) = some ⟨ocStrip, odStrip, .func (PySem.W.fnOf "is_strip" "is_strip" (defArgs sStrip) (defBody sStrip) (defScope sStrip) .none kVStrip dcStrip pmStrip anStrip cdStrip ctStrip), slStrip⟩ := l0Strip
  have coStrip : PySem.W.codeIn K cdStrip "is_strip" = true := c0Strip
  have kStrip : PySem.W.keepIn K (.ref (q_fStrip K)) = true := k0Strip
  obtain ⟨ocOver, odOver, kVOver, dcOver, pmOver, anOver, cdOver, ctOver, slOver, l0Over, c0Over, k0Over⟩ := c.def_ 4 (d := d_Over) rfl
  have lOver : K.lookup (q_fOver K) = some ⟨ocOver, odOver, .func (PySem.W.fnOf "over" "over" (defArgs sOver) (defBody sOver) (defScope sOver) .none kVOver dcOver pmOver anOver cdOver ctOver), slOver⟩ := l0Over
  have coOver : PySem.W.codeIn K cdOver "over" = true := c0Over
  have kOver : PySem.W.keepIn K (.ref (q_fOver K)) = true := k0Over
  obtain ⟨ocInt, odInt, kVInt, dcInt, pmInt, anInt, cdInt, ctInt, slInt, l0Int, c0Int, k0Int⟩ := c.def_ 5 (d := d_Int) rfl
  have lInt : K.lookup (q_fInt K) = some ⟨ocInt, odInt, .func (PySem.W.fnOf "is_integer" "is_integer" (defArgs sIsInt) (defBody sIsInt) (defScope sIsInt) .none kVInt dcInt pmInt anInt cdInt ctInt), slInt⟩ := l0Int
  have coInt : PySem.W.codeIn K cdInt "is_integer" = true := c0Int
  have kInt : PySem.W.keepIn K (.ref (q_fInt K)) = true := k0Int
  obtain ⟨ocTape, odTape, kVTape, dcTape, pmTape, anTape, cdTape, ctTape, slTape, l0Tape, c0Tape, k0Tape⟩ := c.def_ 6 (d := d_Tape) rfl
  have lTape : K.lookup (q_fTape K) = some ⟨ocTape, odTape, .func (PySem.W.fnOf "_law_stock" "_law_stock" (defArgs sTape) (defBody sTape) (defScope sTape) .none kVTape dcTape pmTape anTape cdTape ctTape), slTape⟩ := l0Tape
  have coTape : PySem.W.codeIn K cdTape "_law_stock" = true := c0Tape
  have kTape : PySem.W.keepIn K (.ref (q_fTape K)) = true := k0Tape
  obtain ⟨ocNext, odNext, kVNext, dcNext, pmNext, anNext, cdNext, ctNext, slNext, l0Next, c0Next, k0Next⟩ := c.def_ 7 (d := d_Next) rfl
  have lNext : K.lookup (q_fNext K) = some ⟨ocNext, odNext, .func (PySem.W.fnOf "_law_roll" "_law_roll" (defArgs sNext) (defBody sNext) (defScope sNext) .none kVNext dcNext pmNext anNext cdNext ctNext), slNext⟩ := l0Next
  have coNext : PySem.W.codeIn K cdNext "_law_roll" = true := c0Next
  have kNext : PySem.W.keepIn K (.ref (q_fNext K)) = true := k0Next
  obtain ⟨ocInks, odInks, kVInks, dcInks, pmInks, anInks, cdInks, ctInks, slInks, l0Inks, c0Inks, k0Inks⟩ := c.def_ 8 (d := d_Inks) rfl
  have lInks : K.lookup (q_fInks K) = some ⟨ocInks, odInks, .func (PySem.W.fnOf "_law_words" "_law_words" (defArgs sInks) (defBody sInks) (defScope sInks) .none kVInks dcInks pmInks anInks cdInks ctInks), slInks⟩ := l0Inks
  have coInks : PySem.W.codeIn K cdInks "_law_words" = true := c0Inks
  have kInks : PySem.W.keepIn K (.ref (q_fInks K)) = true := k0Inks
  obtain ⟨ocDrawn, odDrawn, kVDrawn, dcDrawn, pmDrawn, anDrawn, cdDrawn, ctDrawn, slDrawn, l0Drawn, c0Drawn, k0Drawn⟩ := c.def_ 9 (d := d_Drawn) rfl
  have lDrawn : K.lookup (q_fDrawn K) = some ⟨ocDrawn, odDrawn, .func (PySem.W.fnOf "_law_drawn" "_law_drawn" (defArgs sDrawn) (defBody sDrawn) (defScope sDrawn) .none kVDrawn dcDrawn pmDrawn anDrawn cdDrawn ctDrawn), slDrawn⟩ := l0Drawn
  have coDrawn : PySem.W.codeIn K cdDrawn "_law_drawn" = true := c0Drawn
  have kDrawn : PySem.W.keepIn K (.ref (q_fDrawn K)) = true := k0Drawn
  obtain ⟨ocScene, odScene, kVScene, dcScene, pmScene, anScene, cdScene, ctScene, slScene, l0Scene, c0Scene, k0Scene⟩ := c.def_ 10 (d := d_Scene) rfl
  have lScene : K.lookup (q_fScene K) = some ⟨ocScene, odScene, .func (PySem.W.fnOf "_law_scene" "_law_scene" (defArgs sScene) (defBody sScene) (defScope sScene) .none kVScene dcScene pmScene anScene cdScene ctScene), slScene⟩ := l0Scene
  have coScene : PySem.W.codeIn K cdScene "_law_scene" = true := c0Scene
  have kScene : PySem.W.keepIn K (.ref (q_fScene K)) = true := k0Scene
  obtain ⟨ocStripL, odStripL, kVStripL, dcStripL, pmStripL, anStripL, cdStripL, ctStripL, slStripL, l0StripL, c0StripL, k0StripL⟩ := c.def_ 11 (d := d_StripL) rfl
  have lStripL : K.lookup (q_fStripL K) = some ⟨ocStripL, odStripL, .func (PySem.W.fnOf "_law_strip" "_law_strip" (defArgs sStripL) (defBody sStripL) (defScope sStripL) .none kVStripL dcStripL pmStripL anStripL cdStripL ctStripL), slStripL⟩ := l0StripL
  have coStripL : PySem.W.codeIn K cdStripL "_law_strip" = true := c0StripL
  have kStripL : PySem.W.keepIn K (.ref (q_fStripL K)) = true := k0StripL
  obtain ⟨ocSame, odSame, kVSame, dcSame, pmSame, anSame, cdSame, ctSame, slSame, l0Same, c0Same, k0Same⟩ := c.def_ 12 (d := d_Same) rfl
  have lSame : K.lookup (q_fSame K) = some ⟨ocSame, odSame, .func (PySem.W.fnOf "_law_same" "_law_same" (defArgs sSame) (defBody sSame) (defScope sSame) .none kVSame dcSame pmSame anSame cdSame ctSame), slSame⟩ := l0Same
  have coSame : PySem.W.codeIn K cdSame "_law_same" = true := c0Same
  have kSame : PySem.W.keepIn K (.ref (q_fSame K)) = true := k0Same
  obtain ⟨ocPressed, odPressed, kVPressed, dcPressed, pmPressed, anPressed, cdPressed, ctPressed, slPressed, l0Pressed, c0Pressed, k0Pressed⟩ := c.def_ 13 (d := d_Pressed) rfl
  have lPressed : K.lookup (q_fPressed K) = some ⟨ocPressed, odPressed, .func (PySem.W.fnOf "_law_pressed" "_law_pressed" (defArgs sPressed) (defBody sPressed) (defScope sPressed) .none kVPressed dcPressed pmPressed anPressed cdPressed ctPressed), slPressed⟩ := l0Pressed
  have coPressed : PySem.W.codeIn K cdPressed "_law_pressed" = true := c0Pressed
  have kPressed : PySem.W.keepIn K (.ref (q_fPressed K)) = true := k0Pressed
  obtain ⟨ocMade, odMade, kVMade, dcMade, pmMade, anMade, cdMade, ctMade, slMade, l0Made, c0Made, k0Made⟩ := c.def_ 14 (d := d_Made) rfl
  have lMade : K.lookup (q_fMade K) = some ⟨ocMade, odMade, .func (PySem.W.fnOf "_law_made" "_law_made" (defArgs sMadeP) (defBody sMadeP) (defScope sMadeP) .none kVMade dcMade pmMade anMade cdMade ctMade), slMade⟩ := l0Made
  have coMade : PySem.W.codeIn K cdMade "_law_made" = true := c0Made
  have kMade : PySem.W.keepIn K (.ref (q_fMade K)) = true := k0Made
  obtain ⟨ocEmp, odEmp, kVEmp, dcEmp, pmEmp, anEmp, cdEmp, ctEmp, slEmp, l0Emp, c0Emp, k0Emp⟩ := c.def_ 15 (d := d_Emp) rfl
  have lEmp : K.lookup (q_fEmp K) = some ⟨ocEmp, odEmp, .func (PySem.W.fnOf "_law_is_empty" "_law_is_empty" (defArgs sEmp62) (defBody sEmp62) (defScope sEmp62) .none kVEmp dcEmp pmEmp anEmp cdEmp ctEmp), slEmp⟩ := l0Emp
  have coEmp : PySem.W.codeIn K cdEmp "_law_is_empty" = true := c0Emp
  have kEmp : PySem.W.keepIn K (.ref (q_fEmp K)) = true := k0Emp
  obtain ⟨ocUndone, odUndone, kVUndone, dcUndone, pmUndone, anUndone, cdUndone, ctUndone, slUndone, l0Undone, c0Undone, k0Undone⟩ := c.def_ 16 (d := d_Undone) rfl
  have lUndone : K.lookup (q_fUndone K) = some ⟨ocUndone, odUndone, .func (PySem.W.fnOf "_law_undone" "_law_undone" (defArgs sUndone) (defBody sUndone) (defScope sUndone) .none kVUndone dcUndone pmUndone anUndone cdUndone ctUndone), slUndone⟩ := l0Undone
  have coUndone : PySem.W.codeIn K cdUndone "_law_undone" = true := c0Undone
  have kUndone : PySem.W.keepIn K (.ref (q_fUndone K)) = true := k0Undone
  obtain ⟨ocSixty, odSixty, kVSixty, dcSixty, pmSixty, anSixty, cdSixty, ctSixty, slSixty, l0Sixty, c0Sixty, k0Sixty⟩ := c.def_ 17 (d := d_Sixty) rfl
  have lSixty : K.lookup (q_fSixty K) = some ⟨ocSixty, odSixty, .func (PySem.W.fnOf "_law_sixty" "_law_sixty" (defArgs sSixty) (defBody sSixty) (defScope sSixty) .none kVSixty dcSixty pmSixty anSixty cdSixty ctSixty), slSixty⟩ := l0Sixty
  have coSixty : PySem.W.codeIn K cdSixty "_law_sixty" = true := c0Sixty
  have kSixty : PySem.W.keepIn K (.ref (q_fSixty K)) = true := k0Sixty
  obtain ⟨ocBegun, odBegun, kVBegun, dcBegun, pmBegun, anBegun, cdBegun, ctBegun, slBegun, l0Begun, c0Begun, k0Begun⟩ := c.def_ 18 (d := d_Begun) rfl
  have lBegun : K.lookup (q_fBegun K) = some ⟨ocBegun, odBegun, .func (PySem.W.fnOf "_law_begun" "_law_begun" (defArgs sBegun) (defBody sBegun) (defScope sBegun) .none kVBegun dcBegun pmBegun anBegun cdBegun ctBegun), slBegun⟩ := l0Begun
  have coBegun : PySem.W.codeIn K cdBegun "_law_begun" = true := c0Begun
  have kBegun : PySem.W.keepIn K (.ref (q_fBegun K)) = true := k0Begun
  obtain ⟨ocRight, odRight, kVRight, dcRight, pmRight, anRight, cdRight, ctRight, slRight, l0Right, c0Right, k0Right⟩ := c.def_ 19 (d := d_Right) rfl
  have lRight : K.lookup (q_fRight K) = some ⟨ocRight, odRight, .func (PySem.W.fnOf "_law_right" "_law_right" (defArgs sRight62) (defBody sRight62) (defScope sRight62) .none kVRight dcRight pmRight anRight cdRight ctRight), slRight⟩ := l0Right
  have coRight : PySem.W.codeIn K cdRight "_law_right" = true := c0Right
  have kRight : PySem.W.keepIn K (.ref (q_fRight K)) = true := k0Right
  obtain ⟨ocLaw, odLaw, kVLaw, dcLaw, pmLaw, anLaw, cdLaw, ctLaw, slLaw, l0Law, c0Law, k0Law⟩ := c.def_ 20 (d := d_Law) rfl
  have lLaw : K.lookup (q_fLaw K) = some ⟨ocLaw, odLaw, .func (PySem.W.fnOf "law" "law" (defArgs sLaw62) (defBody sLaw62) (defScope sLaw62) .none kVLaw dcLaw pmLaw anLaw cdLaw ctLaw), slLaw⟩ := l0Law
  have coLaw : PySem.W.codeIn K cdLaw "law" = true := c0Law
  have kLaw : PySem.W.keepIn K (.ref (q_fLaw K)) = true := k0Law
  obtain ⟨ocInit, odInit, kVInit, dcInit, pmInit, anInit, cdInit, ctInit, slInit, l0Init, c0Init, k0Init⟩ := c.def_ 21 (d := d_Init) rfl
  have lInit : K.lookup (q_fInit K) = some ⟨ocInit, odInit, .func (PySem.W.fnOf "__init__" "Stamps.__init__" (defArgs sInit) (defBody sInit) (defScope sInit) .none kVInit dcInit pmInit anInit cdInit ctInit), slInit⟩ := l0Init
  have coInit : PySem.W.codeIn K cdInit "Stamps.__init__" = true := c0Init
  have kInit : PySem.W.keepIn K (.ref (q_fInit K)) = true := k0Init
  obtain ⟨ocOf, odOf, kVOf, dcOf, pmOf, anOf, cdOf, ctOf, slOf, l0Of, c0Of, k0Of⟩ := c.def_ 22 (d := d_Of) rfl
  have lOf : K.lookup (q_gO K) = some ⟨ocOf, odOf, .func (PySem.W.fnOf "of" "Stamps.of" (defArgs sOf) (defBody sOf) (defScope sOf) .none kVOf dcOf pmOf anOf cdOf ctOf), slOf⟩ := l0Of
  have coOf : PySem.W.codeIn K cdOf "Stamps.of" = true := c0Of
  have kOf : PySem.W.keepIn K (.ref (q_gO K)) = true := k0Of
  obtain ⟨ocWi, odWi, kVWi, dcWi, pmWi, anWi, cdWi, ctWi, slWi, l0Wi, c0Wi, k0Wi⟩ := c.def_ 23 (d := d_Wi) rfl
  have lWi : K.lookup (q_fWi K) = some ⟨ocWi, odWi, .func (PySem.W.fnOf "width" "Stamps.width" (defArgs sWidth) (defBody sWidth) (defScope sWidth) .none kVWi dcWi pmWi anWi cdWi ctWi), slWi⟩ := l0Wi
  have coWi : PySem.W.codeIn K cdWi "Stamps.width" = true := c0Wi
  have kWi : PySem.W.keepIn K (.ref (q_fWi K)) = true := k0Wi
  obtain ⟨ocWo, odWo, kVWo, dcWo, pmWo, anWo, cdWo, ctWo, slWo, l0Wo, c0Wo, k0Wo⟩ := c.def_ 24 (d := d_Wo) rfl
  have lWo : K.lookup (q_fWo K) = some ⟨ocWo, odWo, .func (PySem.W.fnOf "words" "Stamps.words" (defArgs sWords) (defBody sWords) (defScope sWords) .none kVWo dcWo pmWo anWo cdWo ctWo), slWo⟩ := l0Wo
  have coWo : PySem.W.codeIn K cdWo "Stamps.words" = true := c0Wo
  have kWo : PySem.W.keepIn K (.ref (q_fWo K)) = true := k0Wo
  obtain ⟨ocLen, odLen, kVLen, dcLen, pmLen, anLen, cdLen, ctLen, slLen, l0Len, c0Len, k0Len⟩ := c.def_ 25 (d := d_Len) rfl
  have lLen : K.lookup (q_fLen K) = some ⟨ocLen, odLen, .func (PySem.W.fnOf "__len__" "Stamps.__len__" (defArgs sLenI) (defBody sLenI) (defScope sLenI) .none kVLen dcLen pmLen anLen cdLen ctLen), slLen⟩ := l0Len
  have coLen : PySem.W.codeIn K cdLen "Stamps.__len__" = true := c0Len
  have kLen : PySem.W.keepIn K (.ref (q_fLen K)) = true := k0Len
  obtain ⟨ocCl, odCl, kVCl, dcCl, pmCl, anCl, cdCl, ctCl, slCl, l0Cl, c0Cl, k0Cl⟩ := c.def_ 26 (d := d_Cl) rfl
  have lCl : K.lookup (q_fCl K) = some ⟨ocCl, odCl, .func (PySem.W.fnOf "__call__" "Stamps.__call__" (defArgs sCall) (defBody sCall) (defScope sCall) .none kVCl dcCl pmCl anCl cdCl ctCl), slCl⟩ := l0Cl
  have coCl : PySem.W.codeIn K cdCl "Stamps.__call__" = true := c0Cl
  have kCl : PySem.W.keepIn K (.ref (q_fCl K)) = true := k0Cl
  obtain ⟨ocB, odB, kVB, dcB, pmB, anB, cdB, ctB, slB, l0B, c0B, k0B⟩ := c.def_ 27 (d := d_B) rfl
  have lB : K.lookup (q_fB K) = some ⟨ocB, odB, .func (PySem.W.fnOf "__init__" "Band.__init__" (defArgs sBInit) (defBody sBInit) (defScope sBInit) .none kVB dcB pmB anB cdB ctB), slB⟩ := l0B
  have coB : PySem.W.codeIn K cdB "Band.__init__" = true := c0B
  have kB : PySem.W.keepIn K (.ref (q_fB K)) = true := k0B
  obtain ⟨ocN, odN, kVN, dcN, pmN, anN, cdN, ctN, slN, l0N, c0N, k0N⟩ := c.def_ 28 (d := d_N) rfl
  have lN : K.lookup (q_gN K) = some ⟨ocN, odN, .func (PySem.W.fnOf "named" "Band.named" (defArgs sNamed) (defBody sNamed) (defScope sNamed) .none kVN dcN pmN anN cdN ctN), slN⟩ := l0N
  have coN : PySem.W.codeIn K cdN "Band.named" = true := c0N
  have kN : PySem.W.keepIn K (.ref (q_gN K)) = true := k0N
  obtain ⟨ocG, odG, kVG, dcG, pmG, anG, cdG, ctG, slG, l0G, c0G, k0G⟩ := c.def_ 29 (d := d_G) rfl
  have lG : K.lookup (q_gS K) = some ⟨ocG, odG, .func (PySem.W.fnOf "stamps" "Band.stamps" (defArgs sStamps) (defBody sStamps) (defScope sStamps) .none kVG dcG pmG anG cdG ctG), slG⟩ := l0G
  have coG : PySem.W.codeIn K cdG "Band.stamps" = true := c0G
  have kG : PySem.W.keepIn K (.ref (q_gS K)) = true := k0G
  obtain ⟨ocP, odP, kVP, dcP, pmP, anP, cdP, ctP, slP, l0P, c0P, k0P⟩ := c.def_ 30 (d := d_P) rfl
  have lP : K.lookup (q_fP K) = some ⟨ocP, odP, .func (PySem.W.fnOf "__init__" "Pieces.__init__" (defArgs sPInit) (defBody sPInit) (defScope sPInit) .none kVP dcP pmP anP cdP ctP), slP⟩ := l0P
  have coP : PySem.W.codeIn K cdP "Pieces.__init__" = true := c0P
  have kP : PySem.W.keepIn K (.ref (q_fP K)) = true := k0P
  obtain ⟨ocSp, odSp, kVSp, dcSp, pmSp, anSp, cdSp, ctSp, slSp, l0Sp, c0Sp, k0Sp⟩ := c.def_ 31 (d := d_Sp) rfl
  have lSp : K.lookup (q_fSp K) = some ⟨ocSp, odSp, .func (PySem.W.fnOf "spots_of" "spots_of" (defArgs sSpots) (defBody sSpots) (defScope sSpots) .none kVSp dcSp pmSp anSp cdSp ctSp), slSp⟩ := l0Sp
  have coSp : PySem.W.codeIn K cdSp "spots_of" = true := c0Sp
  have kSp : PySem.W.keepIn K (.ref (q_fSp K)) = true := k0Sp
  obtain ⟨ocKi, odKi, kVKi, dcKi, pmKi, anKi, cdKi, ctKi, slKi, l0Ki, c0Ki, k0Ki⟩ := c.def_ 32 (d := d_Ki) rfl
  have lKi : K.lookup (q_fKi K) = some ⟨ocKi, odKi, .func (PySem.W.fnOf "kinds_of" "kinds_of" (defArgs sKinds) (defBody sKinds) (defScope sKinds) .none kVKi dcKi pmKi anKi cdKi ctKi), slKi⟩ := l0Ki
  have coKi : PySem.W.codeIn K cdKi "kinds_of" = true := c0Ki
  have kKi : PySem.W.keepIn K (.ref (q_fKi K)) = true := k0Ki
  obtain ⟨ocKn, odKn, kVKn, dcKn, pmKn, anKn, cdKn, ctKn, slKn, l0Kn, c0Kn, k0Kn⟩ := c.def_ 33 (d := d_Kn) rfl
  have lKn : K.lookup (q_fKn K) = some ⟨ocKn, odKn, .func (PySem.W.fnOf "_knows" "Band._knows" (defArgs sKnows) (defBody sKnows) (defScope sKnows) .none kVKn dcKn pmKn anKn cdKn ctKn), slKn⟩ := l0Kn
  have coKn : PySem.W.codeIn K cdKn "Band._knows" = true := c0Kn
  have kKn : PySem.W.keepIn K (.ref (q_fKn K)) = true := k0Kn
  obtain ⟨ocCk, odCk, kVCk, dcCk, pmCk, anCk, cdCk, ctCk, slCk, l0Ck, c0Ck, k0Ck⟩ := c.def_ 34 (d := d_Ck) rfl
  have lCk : K.lookup (q_fCk K) = some ⟨ocCk, odCk, .func (PySem.W.fnOf "_check_stamping" "Band._check_stamping" (defArgs sCheck) (defBody sCheck) (defScope sCheck) .none kVCk dcCk pmCk anCk cdCk ctCk), slCk⟩ := l0Ck
  have coCk : PySem.W.codeIn K cdCk "Band._check_stamping" = true := c0Ck
  have kCk : PySem.W.keepIn K (.ref (q_fCk K)) = true := k0Ck
  obtain ⟨ocCs, odCs, kVCs, dcCs, pmCs, anCs, cdCs, ctCs, slCs, l0Cs, c0Cs, k0Cs⟩ := c.def_ 35 (d := d_Cs) rfl
  have lCs : K.lookup (q_fCs K) = some ⟨ocCs, odCs, .func (PySem.W.fnOf "check_strip" "Band.check_strip" (defArgs sChkS) (defBody sChkS) (defScope sChkS) .none kVCs dcCs pmCs anCs cdCs ctCs), slCs⟩ := l0Cs
  have coCs : PySem.W.codeIn K cdCs "Band.check_strip" = true := c0Cs
  have kCs : PySem.W.keepIn K (.ref (q_fCs K)) = true := k0Cs
  obtain ⟨ocF0, odF0, kVF0, dcF0, pmF0, anF0, cdF0, ctF0, slF0, l0F0, c0F0, k0F0⟩ := c.def_ 36 (d := d_F0) rfl
  have lF0 : K.lookup (q_fF0 K) = some ⟨ocF0, odF0, .func (PySem.W.fnOf "fits" "Line.fits" (defArgs sLFits) (defBody sLFits) (defScope sLFits) .none kVF0 dcF0 pmF0 anF0 cdF0 ctF0), slF0⟩ := l0F0
  have coF0 : PySem.W.codeIn K cdF0 "Line.fits" = true := c0F0
  have kF0 : PySem.W.keepIn K (.ref (q_fF0 K)) = true := k0F0
  obtain ⟨ocSt0, odSt0, kVSt0, dcSt0, pmSt0, anSt0, cdSt0, ctSt0, slSt0, l0St0, c0St0, k0St0⟩ := c.def_ 37 (d := d_St0) rfl
  have lSt0 : K.lookup (q_fS0 K) = some ⟨ocSt0, odSt0, .func (PySem.W.fnOf "stamped" "Line.stamped" (defArgs sLStm) (defBody sLStm) (defScope sLStm) .none kVSt0 dcSt0 pmSt0 anSt0 cdSt0 ctSt0), slSt0⟩ := l0St0
  have coSt0 : PySem.W.codeIn K cdSt0 "Line.stamped" = true := c0St0
  have kSt0 : PySem.W.keepIn K (.ref (q_fS0 K)) = true := k0St0
  obtain ⟨ocF1, odF1, kVF1, dcF1, pmF1, anF1, cdF1, ctF1, slF1, l0F1, c0F1, k0F1⟩ := c.def_ 38 (d := d_F1) rfl
  have lF1 : K.lookup (q_fF1 K) = some ⟨ocF1, odF1, .func (PySem.W.fnOf "fits" "Window.fits" (defArgs sWFits) (defBody sWFits) (defScope sWFits) .none kVF1 dcF1 pmF1 anF1 cdF1 ctF1), slF1⟩ := l0F1
  have coF1 : PySem.W.codeIn K cdF1 "Window.fits" = true := c0F1
  have kF1 : PySem.W.keepIn K (.ref (q_fF1 K)) = true := k0F1
  obtain ⟨ocSt1, odSt1, kVSt1, dcSt1, pmSt1, anSt1, cdSt1, ctSt1, slSt1, l0St1, c0St1, k0St1⟩ := c.def_ 39 (d := d_St1) rfl
  have lSt1 : K.lookup (q_fS1 K) = some ⟨ocSt1, odSt1, .func (PySem.W.fnOf "stamped" "Window.stamped" (defArgs sWStm) (defBody sWStm) (defScope sWStm) .none kVSt1 dcSt1 pmSt1 anSt1 cdSt1 ctSt1), slSt1⟩ := l0St1
  have coSt1 : PySem.W.codeIn K cdSt1 "Window.stamped" = true := c0St1
  have kSt1 : PySem.W.keepIn K (.ref (q_fS1 K)) = true := k0St1
  obtain ⟨ocF2, odF2, kVF2, dcF2, pmF2, anF2, cdF2, ctF2, slF2, l0F2, c0F2, k0F2⟩ := c.def_ 40 (d := d_F2) rfl
  have lF2 : K.lookup (q_fF2 K) = some ⟨ocF2, odF2, .func (PySem.W.fnOf "fits" "Ring.fits" (defArgs sRFits) (defBody sRFits) (defScope sRFits) .none kVF2 dcF2 pmF2 anF2 cdF2 ctF2), slF2⟩ := l0F2
  have coF2 : PySem.W.codeIn K cdF2 "Ring.fits" = true := c0F2
  have kF2 : PySem.W.keepIn K (.ref (q_fF2 K)) = true := k0F2
  obtain ⟨ocSt2, odSt2, kVSt2, dcSt2, pmSt2, anSt2, cdSt2, ctSt2, slSt2, l0St2, c0St2, k0St2⟩ := c.def_ 41 (d := d_St2) rfl
  have lSt2 : K.lookup (q_fS2 K) = some ⟨ocSt2, odSt2, .func (PySem.W.fnOf "stamped" "Ring.stamped" (defArgs sRStm) (defBody sRStm) (defScope sRStm) .none kVSt2 dcSt2 pmSt2 anSt2 cdSt2 ctSt2), slSt2⟩ := l0St2
  have coSt2 : PySem.W.codeIn K cdSt2 "Ring.stamped" = true := c0St2
  have kSt2 : PySem.W.keepIn K (.ref (q_fS2 K)) = true := k0St2
  obtain ⟨ocPaI, odPaI, kVPaI, dcPaI, pmPaI, anPaI, cdPaI, ctPaI, slPaI, l0PaI, c0PaI, k0PaI⟩ := c.def_ 42 (d := d_PaI) rfl
  have lPaI : K.lookup (q_fPaI K) = some ⟨ocPaI, odPaI, .func (PySem.W.fnOf "__init__" "Paper.__init__" (defArgs sPpI) (defBody sPpI) (defScope sPpI) .none kVPaI dcPaI pmPaI anPaI cdPaI ctPaI), slPaI⟩ := l0PaI
  have coPaI : PySem.W.codeIn K cdPaI "Paper.__init__" = true := c0PaI
  have kPaI : PySem.W.keepIn K (.ref (q_fPaI K)) = true := k0PaI
  obtain ⟨ocPsh, odPsh, kVPsh, dcPsh, pmPsh, anPsh, cdPsh, ctPsh, slPsh, l0Psh, c0Psh, k0Psh⟩ := c.def_ 43 (d := d_Psh) rfl
  have lPsh : K.lookup (q_gPsh K) = some ⟨ocPsh, odPsh, .func (PySem.W.fnOf "shown" "Paper.shown" (defArgs sPpSh) (defBody sPpSh) (defScope sPpSh) .none kVPsh dcPsh pmPsh anPsh cdPsh ctPsh), slPsh⟩ := l0Psh
  have coPsh : PySem.W.codeIn K cdPsh "Paper.shown" = true := c0Psh
  have kPsh : PySem.W.keepIn K (.ref (q_gPsh K)) = true := k0Psh
  obtain ⟨ocPst, odPst, kVPst, dcPst, pmPst, anPst, cdPst, ctPst, slPst, l0Pst, c0Pst, k0Pst⟩ := c.def_ 44 (d := d_Pst) rfl
  have lPst : K.lookup (q_gPst K) = some ⟨ocPst, odPst, .func (PySem.W.fnOf "stampings" "Paper.stampings" (defArgs sPpSt) (defBody sPpSt) (defScope sPpSt) .none kVPst dcPst pmPst anPst cdPst ctPst), slPst⟩ := l0Pst
  have coPst : PySem.W.codeIn K cdPst "Paper.stampings" = true := c0Pst
  have kPst : PySem.W.keepIn K (.ref (q_gPst K)) = true := k0Pst
  obtain ⟨ocPln, odPln, kVPln, dcPln, pmPln, anPln, cdPln, ctPln, slPln, l0Pln, c0Pln, k0Pln⟩ := c.def_ 45 (d := d_Pln) rfl
  have lPln : K.lookup (q_fPln K) = some ⟨ocPln, odPln, .func (PySem.W.fnOf "__len__" "Paper.__len__" (defArgs sPpLn) (defBody sPpLn) (defScope sPpLn) .none kVPln dcPln pmPln anPln cdPln ctPln), slPln⟩ := l0Pln
  have coPln : PySem.W.codeIn K cdPln "Paper.__len__" = true := c0Pln
  have kPln : PySem.W.keepIn K (.ref (q_fPln K)) = true := k0Pln
  obtain ⟨ocPpr, odPpr, kVPpr, dcPpr, pmPpr, anPpr, cdPpr, ctPpr, slPpr, l0Ppr, c0Ppr, k0Ppr⟩ := c.def_ 46 (d := d_Ppr) rfl
  have lPpr : K.lookup (q_fPpr K) = some ⟨ocPpr, odPpr, .func (PySem.W.fnOf "press" "Paper.press" (defArgs sPpPr) (defBody sPpPr) (defScope sPpPr) .none kVPpr dcPpr pmPpr anPpr cdPpr ctPpr), slPpr⟩ := l0Ppr
  have coPpr : PySem.W.codeIn K cdPpr "Paper.press" = true := c0Ppr
  have kPpr : PySem.W.keepIn K (.ref (q_fPpr K)) = true := k0Ppr
  obtain ⟨ocPkp, odPkp, kVPkp, dcPkp, pmPkp, anPkp, cdPkp, ctPkp, slPkp, l0Pkp, c0Pkp, k0Pkp⟩ := c.def_ 47 (d := d_Pkp) rfl
  have lPkp : K.lookup (q_fPkp K) = some ⟨ocPkp, odPkp, .func (PySem.W.fnOf "_keep" "Paper._keep" (defArgs sPpK) (defBody sPpK) (defScope sPpK) .none kVPkp dcPkp pmPkp anPkp cdPkp ctPkp), slPkp⟩ := l0Pkp
  have coPkp : PySem.W.codeIn K cdPkp "Paper._keep" = true := c0Pkp
  have kPkp : PySem.W.keepIn K (.ref (q_fPkp K)) = true := k0Pkp
  obtain ⟨ocPun, odPun, kVPun, dcPun, pmPun, anPun, cdPun, ctPun, slPun, l0Pun, c0Pun, k0Pun⟩ := c.def_ 48 (d := d_Pun) rfl
  have lPun : K.lookup (q_fPun K) = some ⟨ocPun, odPun, .func (PySem.W.fnOf "undo" "Paper.undo" (defArgs sPpU) (defBody sPpU) (defScope sPpU) .none kVPun dcPun pmPun anPun cdPun ctPun), slPun⟩ := l0Pun
  have coPun : PySem.W.codeIn K cdPun "Paper.undo" = true := c0Pun
  have kPun : PySem.W.keepIn K (.ref (q_fPun K)) = true := k0Pun
  obtain ⟨ocPmk, odPmk, kVPmk, dcPmk, pmPmk, anPmk, cdPmk, ctPmk, slPmk, l0Pmk, c0Pmk, k0Pmk⟩ := c.def_ 49 (d := d_Pmk) rfl
  have lPmk : K.lookup (q_fPmk K) = some ⟨ocPmk, odPmk, .func (PySem.W.fnOf "mark" "Paper.mark" (defArgs sPpMk) (defBody sPpMk) (defScope sPpMk) .none kVPmk dcPmk pmPmk anPmk cdPmk ctPmk), slPmk⟩ := l0Pmk
  have coPmk : PySem.W.codeIn K cdPmk "Paper.mark" = true := c0Pmk
  have kPmk : PySem.W.keepIn K (.ref (q_fPmk K)) = true := k0Pmk
  obtain ⟨ocPbk, odPbk, kVPbk, dcPbk, pmPbk, anPbk, cdPbk, ctPbk, slPbk, l0Pbk, c0Pbk, k0Pbk⟩ := c.def_ 50 (d := d_Pbk) rfl
  have lPbk : K.lookup (q_fPbk K) = some ⟨ocPbk, odPbk, .func (PySem.W.fnOf "undo_to" "Paper.undo_to" (defArgs sPpBk) (defBody sPpBk) (defScope sPpBk) .none kVPbk dcPbk pmPbk anPbk cdPbk ctPbk), slPbk⟩ := l0Pbk
  have coPbk : PySem.W.codeIn K cdPbk "Paper.undo_to" = true := c0Pbk
  have kPbk : PySem.W.keepIn K (.ref (q_fPbk K)) = true := k0Pbk
  obtain ⟨ocPtw, odPtw, kVPtw, dcPtw, pmPtw, anPtw, cdPtw, ctPtw, slPtw, l0Ptw, c0Ptw, k0Ptw⟩ := c.def_ 51 (d := d_Ptw) rfl
  have lPtw : K.lookup (q_fPtw K) = some ⟨ocPtw, odPtw, .func (PySem.W.fnOf "twin" "Paper.twin" (defArgs sPpTw) (defBody sPpTw) (defScope sPpTw) .none kVPtw dcPtw pmPtw anPtw cdPtw ctPtw), slPtw⟩ := l0Ptw
  have coPtw : PySem.W.codeIn K cdPtw "Paper.twin" = true := c0Ptw
  have kPtw : PySem.W.keepIn K (.ref (q_fPtw K)) = true := k0Ptw
  obtain ⟨ocIs, odIs, kVIs, dcIs, pmIs, anIs, cdIs, ctIs, slIs, l0Is, c0Is, k0Is⟩ := c.def_ 52 (d := d_Is) rfl
  have lIs : K.lookup (q_fIs K) = some ⟨ocIs, odIs, .func (PySem.W.fnOf "is_stamping" "Band.is_stamping" (defArgs sIsS) (defBody sIsS) (defScope sIsS) .none kVIs dcIs pmIs anIs cdIs ctIs), slIs⟩ := l0Is
  have coIs : PySem.W.codeIn K cdIs "Band.is_stamping" = true := c0Is
  have kIs : PySem.W.keepIn K (.ref (q_fIs K)) = true := k0Is
  obtain ⟨ocPal, odPal, kVPal, dcPal, pmPal, anPal, cdPal, ctPal, slPal, l0Pal, c0Pal, k0Pal⟩ := c.def_ 53 (d := d_Pal) rfl
  have lPal : K.lookup (q_fPal K) = some ⟨ocPal, odPal, .func (PySem.W.fnOf "press_all" "Paper.press_all" (defArgs sPpAll) (defBody sPpAll) (defScope sPpAll) .none kVPal dcPal pmPal anPal cdPal ctPal), slPal⟩ := l0Pal
  have coPal : PySem.W.codeIn K cdPal "Paper.press_all" = true := c0Pal
  have kPal : PySem.W.keepIn K (.ref (q_fPal K)) = true := k0Pal
  have ptb0 : (fun K => (q_cLow K, q_PLow K) : TabP) ∈ tfA := by unfold tfA; simp
  have nLow : K.lookup (q_PLow K) = none := c.out _ ptb0
  have TB0 : PySem.W.CodeHd h (q_cLow K) (q_PLow K) ∧ h.get? (q_PLow K) = some { cls := .none, data := .fields #[] } := ⟨PySem.W.codeHd_of_K X (c.hd _ ptb0), c.empty _ ptb0⟩
  have ptb1 : (fun K => (q_cAre K, q_PAre K) : TabP) ∈ tfA := by unfold tfA; simp
  have nAre : K.lookup (q_PAre K) = none := c.out _ ptb1
  have TB1 : PySem.W.CodeHd h (q_cAre K) (q_PAre K) ∧ h.get? (q_PAre K) = some { cls := .none, data := .fields #[] } := ⟨PySem.W.codeHd_of_K X (c.hd _ ptb1), c.empty _ ptb1⟩
  exact all_mk X G hfa TB0 TB1 aLow lLow coLow kLow nLow aText lText coText kText aAre lAre coAre kAre nAre aStrip lStrip coStrip kStrip aOver lOver coOver kOver aInt lInt coInt kInt aTape lTape coTape kTape aNext lNext coNext kNext aInks lInks coInks kInks aDrawn lDrawn coDrawn kDrawn aScene lScene coScene kScene aStripL lStripL coStripL kStripL aSame lSame coSame kSame aPressed lPressed coPressed kPressed aMade lMade coMade kMade aEmp lEmp coEmp kEmp aUndone lUndone coUndone kUndone aSixty lSixty coSixty kSixty aBegun lBegun coBegun kBegun aRight lRight coRight kRight aLaw lLaw coLaw kLaw aWidest aMostL aCells aC rdS gaS pgS hdS poS saS mkS kcS iInit jInit lInit coInit kInit nW mst oAOf oROf oFOf lOf coOf kOf prWi pGWi ptWi pcWi lWi coWi kWi prWo pGWo ptWo pcWo lWo coWo kWo dLen eLen lLen coLen kLen dCl eCl lCl coCl kCl cI aD xD kkD bD tyD aDN xDN kkDN bDN tyDN aDSp xDSp kkDSp bDSp tyDSp aDSg xDSg kkDSg bDSg tyDSg aDNum xDNum kkDNum bDNum tyDNum aDNo xDNo kkDNo bDNo tyDNo e6 e7 ab0 rdB0 gaB0 pgB0 hdB0 poB0 saB0 mkB0 kcB0 eqB0 neB0 soB0 iB0 nS0 nP0 nm0 cn0 gc0 ce0 cg0 nd0 pr0 kn0 ck0 cs0 hcb0 hmb0 icb0 tyb0 ab1 rdB1 gaB1 pgB1 hdB1 poB1 saB1 mkB1 kcB1 eqB1 neB1 soB1 iB1 nS1 nP1 nm1 cn1 gc1 ce1 cg1 nd1 pr1 kn1 ck1 cs1 hcb1 hmb1 icb1 tyb1 ab2 rdB2 gaB2 pgB2 hdB2 poB2 saB2 mkB2 kcB2 eqB2 neB2 soB2 iB2 nS2 nP2 nm2 cn2 gc2 ce2 cg2 nd2 pr2 kn2 ck2 cs2 hcb2 hmb2 icb2 tyb2 ab3 rdB3 gaB3 pgB3 hdB3 poB3 saB3 mkB3 kcB3 eqB3 neB3 soB3 iB3 nS3 nP3 nm3 cn3 gc3 ce3 cg3 nd3 pr3 kn3 ck3 cs3 hcb3 hmb3 icb3 tyb3 jB lB coB kB jKn kKn jCs kCs jCk kCk nR nF lN coN kN p1 p2 p3 lG coG kG sb00 sb01 sb02 sb03 sb10 sb11 sb12 sb13 sb20 sb21 sb22 sb23 sb30 sb31 sb32 sb33 mF0 jF0 kF0_ mS0 jS0 kS0_ mF1 jF1 kF1_ mS1 jS1 kS1_ mF2 jF2 kF2_ mS2 jS2 kS2_ aCP rdP gaP pgP hdP poP saP mkP kcP iP jP lP coP kP nq1 nq2 nq3 aSp lSp coSp kSp aKi lKi coKi kKi z_enumerate lKn coKn lCk coCk lCs coCs lF0 coF0 kF0 lSt0 coSt0 kSt0 lF1 coF1 kF1 lSt1 coSt1 kSt1 lF2 coF2 kF2 lSt2 coSt2 kSt2 acPa rdPa gaPa pgPa hdPa poPa saPa mkPa kcPa iPaI jPaI lPaI coPaI kPaI nPB nPZ nPP nPS nPM prPsh pGPsh ptPsh pcPsh lPsh coPsh kPsh prPst pGPst ptPst pcPst lPst coPst kPst dPln ePln lPln coPln kPln mPpr jPpr lPpr coPpr kPpr mPkp jPkp lPkp coPkp kPkp mPun jPun lPun coPun kPun mPmk jPmk lPmk coPmk kPmk mPbk jPbk lPbk coPbk kPbk mPtw jPtw lPtw coPtw kPtw eqPa nePa soPa mIs0 mIs1 mIs2 jIs lIs coIs kIs mPal jPal lPal coPal kPal u4DNo snDNo_DNo gfPal tkPal fiPal z_all z_len z_isinstance z_str z_list z_set z_abs z_max z_min z_range z_int z_bool z_repr z_tuple l hl
end Ov

set_option Elab.async false
set_option linter.all false
open PySem PySem.W PySem.Calls PyProof.Rows
set_option maxRecDepth 100000 in
set_option maxHeartbeats 0 in
theorem PySem.Challenge.cw_overstamps_k62_histories_undone_holds : PySem.Challenge.rw_overstamps_k62_histories_undone.Holds := by
  w_on; o_law
  refine HandSHeadRun.head_any (r := OpenLaw.row PySem.Challenge.rw_overstamps_k62_histories_undone) (q := view (OpenLaw.row PySem.Challenge.rw_overstamps_k62_histories_undone).prog [70]) (H := Ov.hkA) (ob := Ov.obA) (M := 20000) (loose := Ov.namesA) (d := HandSHeadRun.topDef (OpenLaw.row PySem.Challenge.rw_overstamps_k62_histories_undone).prog 70) (kwd := []) Ov.obA_eq
    (by kernel_rfl) (fun s => by kernel_rfl) Ov.runA (by kernel_rfl) (by kernel_rfl) (by kernel_rfl) (by rfl) (by first | assumption | decide +kernel) (by decide +kernel) ⟨rfl, rfl, rfl, rfl, rfl, by decide +kernel⟩ ?hw ?hc
  case hw => w_witness2
  case hc =>
    refine Ov.walk_TGP (l := PySem.Challenge.rw_overstamps_k62_histories_undone) (n := 63) (k := 13) (x := "script") rfl (by decide) (by kernel_rfl) ⟨rfl, by decide, by decide⟩ ?F
    intro w mg fa h Y G hmg0
    obtain ⟨K, KX, c⟩ := Y
    have hmg : mg ("law" : PySem.Str) = some (.ref fa) := by
      have e : (HandSHeadRun.topDef (OpenLaw.row PySem.Challenge.rw_overstamps_k62_histories_undone).prog 70).name = ("law" : PySem.Str) := by kernel_rfl
      rw [← e]
      exact hmg0
    exact ⟨K, KX, Ov.factsA KX G hmg c PySem.Challenge.rw_overstamps_k62_histories_undone rfl⟩
